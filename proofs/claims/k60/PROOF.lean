import PyProof.Rows.All
import Wide.All
import OpenK.AllK
import Wide.FinOn
import PyProof.Rows.TupDisplay
import HandS.Flt
import KE.KDictZip
import KE.GoesMore
import KE.GoesEnum
import KE.GoesZip
import PyProof.EqAt
import PyProof.EqKinds
import PyProof.TupleCall
import KE.KLam
import KE.KStateDown
import HandS.ForMost
import HandS.Exc
import HandS.TryOnly
import HandS.ExcOwn
import HandS.WordsExc
import HandS.Codes
import HandS.Lambda
import HandS.EndTab
import HandS.IsInst
import HandS.ExcIs
import HandS.Wide
import HandS.Flow
import HandS.Style
import HandS.Defaults
import HandS.HeadHook4
import HandS.HeadWalk
import HandS.Base
import HandS.Call
import HandS.Ends
import HandS.More
import HandS.Words
import HandS.Head0
import HandS.Head1
import HandS.Head2
import HandS.HeadEnd
import HandS.HeadHook1
import HandS.HeadHook2
import HandS.HeadHook3
import HandS.TupSets
import HandS.ListItems
import HandS.DictComp
import HandS.ExcValue
import PyProof.DictMoreH
import PyProof.AutoSeq1
import PyProof.Rows.ChunkLeaf
import HandS.AnyAll
import HandS.GenList
import HandS.Zip
import HandS.Star
import HandS.Deep
import HandS.DeepEq
import HandS.DictTup
import HandS.Sort
import HandS.SortRule
import HandS.TupLe
import KE.KSortAsk
import KE.SortLaws
import KE.SortData
import KE.LtData
import KE.LtSeq
import KE.SortCalls
import HandS.Conv
import HandS.TupAny
import HandS.TupLen
import KE.BitLaws
import HandS.HotCalls
import HandS.SetFor
import KE.DataCmp
import HandS.Text
import PyProof.TupleOfStr
import HandS.SortKw
import KE.SortKeyHeap
import KE.KDictSum
import KE.DataMinMax
import KE.DataMinKey
import PySem.Challenge.RW_cutstairs_k60_what_pictures_are
import KE.KSortKey
import PyProof.DictStraight
import PyProof.DictTruth
import HandS.TupMul
import HandS.CallLocal
set_option Elab.async false
set_option linter.all false
set_option maxRecDepth 100000
set_option maxHeartbeats 4000000
set_option maxHeartbeats 4000000
/-! ### general words of my own -/
namespace LB
open PySem PySem.Spec PyProof.Rows L2
/-- // by any divisor but 0, below 2 ^ 9000 in size -/
def CDivG (_ j : Int) : Prop := j ≠ 0 ∧ j.natAbs.log2 < 9000
theorem op_fdivG {X : Cx} : OpR X (binaryOp .FloorDiv) (rI CDivG fun i j => .int (i.fdiv j)) := opI fun i j _ _ _ _ _ hc q => floordiv_int hc.1 q (.inl (PyProof.noPylong_of_log2 hc.2))
theorem divG {i j : Int} {b : Nat} (h : j ≠ 0) (hb : j.natAbs < 2 ^ b) (h0 : 0 < b) (h9 : b ≤ 9000) : CDivG i j := ⟨h, Nat.lt_of_lt_of_le (PySem.Flt.log2_lt_of h0 hb) h9⟩
/-! ### defs by name -/
/-- the module's name x is a def that keeps sp -/
structure OwnFn (P : Program) (w : World) (K : PySem.W.Frag) (mg : Str → Option Value) (base : Heap) (k : Nat) (x : Str) (ps : List Str) (sp : Sp) : Prop where
  fn : ∃ (f : Addr) (fd : FuncData), FnOk P w K mg base (L2.CX P w) k f fd ps sp ∧ mg x = some (.ref f) ∧ PySem.W.keepIn K (.ref f) = true ∧ Binds K fd ps [] ∧ ∃ oc od osl, K.lookup f = some ⟨oc, od, .func fd, osl⟩
theorem pe_own {X : Cx} {k j : Nat} {x : Str} {ps : List Str} {sp : Sp} {E : XK} {e : Expr} {es : List Expr} {t : TA} {p pos : Pos} (F : OwnFn X.prog X.w X.K X.mg X.base k x ps sp) (hr : Room j X.A) (hx : Passes (L2.CX X.prog X.w) X E) (ha : PA X (e :: es) t)
    (hk : k ≤ j := by decide) (hg : Gl X x := by rfl) (hdb : (x == ("__debug__" : Str)) = false := by decide) (he : starEach (e :: es) X.env = (false, eval e X.env) :: starEach es X.env := by rfl) (hpl : (backTo pos (starEach es X.env)).any (·.1) = false := by rfl) :
    PE X (.Call (.Name x p) (e :: es) [] pos) (tCall sp [] E t) := by
  obtain ⟨f, fd, G, hm, kp, b, _⟩ := F.fn
  exact pe_call G (hr.mono hk) hg hm kp b .nil hx ha hdb he hpl
/-- a def of the text, behind the top -/
def Df (K : PySem.W.Frag) (mg : Str → Option Value) (x : Str) (st : Stmt) : Prop := ∃ fd, FunD K x x (defArgs st) (defBody st) (defScope st) [] [] (He.ga K x) fd ∧ mg x = some (.ref (He.ga K x))
theorem own_ok {P : Program} {w : World} {K : PySem.W.Frag} {mg : Str → Option Value} {base : Heap} {x : Str} {st : Stmt} {N ps : List Str} {k : Nat} {sp : Sp} (F : Df K mg x st) (S : FnScope N ps (defScope st))
    (hb : ∀ (kV doc pm : Value) (an : Option Addr) (cdv ct : Value) (us : List Value), us.length = ps.length → bindArgs (PySem.W.fnOf x x (defArgs st) (defBody st) (defScope st) .none kV doc pm an cdv ct) ⟨us, []⟩ = pure (ps.zip us))
    (len : ∀ vs H Q E, sp vs H Q E → vs.length = ps.length)
    (hbody : ∀ (cdv : Value) (A : Around) (outer : List Env) (s : Shared) (H : Hp) (vs : List V) (Q : VK) (E : XK), Room k (A.deeper (envOfC x (defScope st) s.heap.objs.size (He.ga K x) cdv)) → sp vs H Q E →
      ∃ t, PSs (cxOf (L2.CX P w) P w K mg base N x (defScope st) (He.ga K x) cdv A outer s H E) (defBody st) t ∧ t { nx := fun _ H' => Q .non H', rt := Q } (start N vs) H) : OwnFn P w K mg base (k + 1) x ps sp := by
  obtain ⟨fd, F, hm⟩ := F
  refine ⟨He.ga K x, fd, F.ok S len hbody, hm, F.kp, F.bindsN hb, ?_⟩
  obtain ⟨oc, od, dV, kV, doc, pm, an, cdv, ct, osl, rfl, lk, _⟩ := F.ex
  exact ⟨oc, od, osl, lk⟩
/-- the promise of the function object that stands at x -/
theorem OwnFn.at {P : Program} {w : World} {K : PySem.W.Frag} {mg : Str → Option Value} {base : Heap} {k : Nat} {x : Str} {ps : List Str} {sp : Sp} {f : Addr} {fd : FuncData} {oc : Value} {od : Option Addr} {osl : Array (Option Value)} (F : OwnFn P w K mg base k x ps sp)
    (hm : mg x = some (.ref f)) (lk : K.lookup f = some ⟨oc, od, .func fd, osl⟩) : FnOk P w K mg base (L2.CX P w) k f fd ps sp := by
  obtain ⟨f', fd', G, hm', _, _, oc', od', osl', lk'⟩ := F.fn
  rw [hm] at hm'
  cases hm'
  rw [lk] at lk'
  cases lk'
  exact G
/-! ### data of any kind -/
def keyD : Key → PyData
  | .inl i => .int i
  | .inr x => .str x
mutual
inductive Rp (K : PySem.W.Frag) (H : Hp) : V → PyData → Prop
  | non : Rp K H .non .none
  | bl (b : Bool) : Rp K H (.bl b) (.bool b)
  | int (i : Int) : Rp K H (.int i) (.int i)
  | str (x : Str) : Rp K H (.str x) (.str x)
  | lst {a : Addr} {xs : List V} {ds : List PyData} : SqL K H a xs → RpAll K H xs ds → Rp K H (.ref a) (.list ds)
  | tup {a : Addr} {xs : List V} {ds : List PyData} : H a = some (.tup xs) → RpAll K H xs ds → Rp K H (.ref a) (.tuple ds)
  | dct {a : Addr} {od : Obj} {kvs : List (Key × V)} {ds : List (PyData × PyData)} : H a = some (.frz od (.dK kvs)) → kvs.map (fun e => keyD e.1) = ds.map (·.1) → RpAll K H (kvs.map (·.2)) (ds.map (·.2)) → Rp K H (.ref a) (.dict ds)
  | dcT {a : Addr} {od : Obj} {kvs : List (List Key × V)} {ds : List (PyData × PyData)} : H a = some (.frz od (.dT kvs)) → kvs.map (fun e => PyData.tuple (e.1.map keyD)) = ds.map (·.1) → RpAll K H (kvs.map (·.2)) (ds.map (·.2)) → Rp K H (.ref a) (.dict ds)
inductive RpAll (K : PySem.W.Frag) (H : Hp) : List V → List PyData → Prop
  | nil : RpAll K H [] []
  | cons {v : V} {vs : List V} {d : PyData} {ds : List PyData} : Rp K H v d → RpAll K H vs ds → RpAll K H (v :: vs) (d :: ds)
end
/-- the name of a datum's class -/
def tyN : PyData → String
  | .none => "NoneType"
  | .bool _ => "bool"
  | .int _ => "int"
  | .str _ => "str"
  | .list _ => "list"
  | .tuple _ => "tuple"
  | .dict _ => "dict"
theorem sqL_ty {K : PySem.W.Frag} {H : Hp} {a : Addr} {xs : List V} (h : SqL K H a xs) : TyX K H (.ref a) (.type "list") := by
  rcases h with (h | ⟨o, h⟩) | ⟨o, its, n, hk, hc, _⟩
  · exact .base (.lst h)
  · exact .base (.frz h)
  · exact .kList hk hc
theorem sqT_ty {K : PySem.W.Frag} {H : Hp} {a : Addr} {xs : List V} (h : SqT K H a xs) : TyX K H (.ref a) (.type "tuple") := by
  rcases h with (h | ⟨o, h⟩) | ⟨o, its, n, hk, hc, _⟩
  · exact .base (.tup h)
  · exact .fTuple h
  · exact .kTuple hk hc
inductive TyY (K : PySem.W.Frag) (H : Hp) : V → Value → Prop where
  | x {v : V} {t : Value} (h : TyX K H v t) : TyY K H v t
  | fDT {a : Addr} {o : Obj} {kvs : List (List Key × V)} (e : H a = some (.frz o (.dT kvs))) : TyY K H (.ref a) (.type "dict")
def rIsiY (K : PySem.W.Frag) : List V → Hp → VK → Prop := fun xs H Q => ∃ (x c : V) (t u : Value) (b : Bool), xs = [x, c] ∧ ClsV c u ∧ TyY K H x t ∧ PySem.W.kitOne K t u = some b ∧ Q (.bl b) H
theorem call_isiY {X : Cx} : CallR X (.builtin "isinstance") (rIsiY X.K) := by
  intro pins s σ H xs us Q I r h
  obtain ⟨x, c, t, u, b, hx, k, ty, e, q⟩ := h
  cases ty with
  | x ty => exact call_isi pins s σ H xs us Q I r ⟨x, c, t, u, b, hx, k, ty, e, q⟩
  | @fDT a ob kvs ea =>
    subst hx
    obtain ⟨u1, u2, rfl, r1, r2⟩ := vals2 r
    have e2 := k.eq r2
    subst e2
    cases (show u1 = Value.ref a from r1)
    obtain ⟨_, _, zs, _, o, es, ep, h1, h2, _⟩ := dt_rd I.hok (.inr ⟨ob, ea⟩)
    exact PySem.W.kia_one PySem.W.kitx_dict I.kIn ⟨o, h1, h2.1⟩ e (fun z => nomatch z) fun tk => ⟨.bl b, H, I.tok tk, rfl, q⟩
theorem Rp.ty {K : PySem.W.Frag} {H : Hp} {v : V} {d : PyData} (h : Rp K H v d) : TyY K H v (.type (tyN d)) := by
  cases h with
  | non => exact .x (.base .non)
  | bl b => exact .x (.base (.bl b))
  | int i => exact .x (.base (.int i))
  | str x => exact .x (.base (.str x))
  | lst h _ => exact .x (sqL_ty h)
  | tup h _ => exact .x (sqT_ty (SqT.of h))
  | dct h _ _ => exact .x (.fDict h)
  | dcT h _ _ => exact .fDT h
/-- H' holds what H held, but tables -/
abbrev Ex (H H' : Hp) : Prop := LamX.ExtN H H'
theorem ex_refl (H : Hp) : Ex H H := LamX.ExtN.refl H
theorem ex_new {H : Hp} {p : Addr} {o : HO} (h : H p = none) : Ex H (upd H p o) := fun b u e _ => by
  rw [upd_ne (ne_of_none e h)]
  exact e
theorem ex_rd {H H' : Hp} {a : Addr} {u : HO} (e : Ex H H') (h : Rd H a u) (hu : ∀ ps, u ≠ .tbl ps) : Rd H' a u := by
  rcases h with h | ⟨o, h⟩
  · exact Or.inl (e a _ h hu)
  · exact Or.inr ⟨o, e a _ h fun _ z => nomatch z⟩
theorem ex_l {K : PySem.W.Frag} {H H' : Hp} {a : Addr} {xs : List V} (e : Ex H H') (h : SqL K H a xs) : SqL K H' a xs := by
  rcases h with h | h
  · exact Or.inl (ex_rd e h fun _ z => nomatch z)
  · exact Or.inr h
theorem ex_t {K : PySem.W.Frag} {H H' : Hp} {a : Addr} {xs : List V} (e : Ex H H') (h : SqT K H a xs) : SqT K H' a xs := by
  rcases h with h | h
  · exact Or.inl (ex_rd e h fun _ z => nomatch z)
  · exact Or.inr h
mutual
theorem Rp.ext {K : PySem.W.Frag} {H H' : Hp} (e : Ex H H') : ∀ {v : V} {d : PyData}, Rp K H v d → Rp K H' v d
  | _, _, .non => .non
  | _, _, .bl b => .bl b
  | _, _, .int i => .int i
  | _, _, .str x => .str x
  | _, _, .lst h r => .lst (ex_l e h) (RpAll.ext e r)
  | _, _, .tup h r => .tup (e _ _ h fun _ z => nomatch z) (RpAll.ext e r)
  | _, _, .dct h k r => .dct (e _ _ h fun _ z => nomatch z) k (RpAll.ext e r)
  | _, _, .dcT h k r => .dcT (e _ _ h fun _ z => nomatch z) k (RpAll.ext e r)
theorem RpAll.ext {K : PySem.W.Frag} {H H' : Hp} (e : Ex H H') : ∀ {vs : List V} {ds : List PyData}, RpAll K H vs ds → RpAll K H' vs ds
  | _, _, .nil => .nil
  | _, _, .cons h r => .cons (Rp.ext e h) (RpAll.ext e r)
end
theorem RpAll.length {K : PySem.W.Frag} {H : Hp} : ∀ {vs : List V} {ds : List PyData}, RpAll K H vs ds → vs.length = ds.length
  | _, _, .nil => rfl
  | _, _, .cons _ r => congrArg Nat.succ (RpAll.length r)
theorem RpAll.get {K : PySem.W.Frag} {H : Hp} : ∀ {vs : List V} {ds : List PyData} {i : Nat} {v : V}, RpAll K H vs ds → vs[i]? = some v → ∃ d, ds[i]? = some d ∧ Rp K H v d
  | _, _, _, _, .nil, e => by simp at e
  | _, _, 0, _, .cons h _, e => by
    have e' := Option.some.inj e
    subst e'
    exact ⟨_, rfl, h⟩
  | _, _, i + 1, v, .cons _ r, e => by
    obtain ⟨d, h1, h2⟩ := RpAll.get (i := i) (v := v) r e
    exact ⟨d, h1, h2⟩
/-! ### a caught error of an own class: isinstance with a tuple of classes -/
def rIsET (K : PySem.W.Frag) (D a : Addr) : List V → Hp → VK → Prop := fun xs H Q => ∃ (tp : Addr) (cs : List V) (us : List Value) (b : Bool), xs = [.ref a, .ref tp] ∧ H tp = some (.tup cs) ∧ Paired ClsV cs us ∧ PySem.W.kitAny K (.ref D) us = some b ∧ Q (.bl b) H
/-- the class facts, checked in the top's run -/
def excCB (K : PySem.W.Frag) (D : Addr) : Bool :=
  He.eqO (PySem.W.findIn K (.ref D) "__getattribute__") (some (some (.builtin "BaseException.__getattribute__"))) && (He.eqO (PySem.W.findIn K (.ref D) "__getattr__") (some none) &&
  (decide (PySem.W.subIn K (.ref D) (.type "BaseException") = some true) && (PySem.W.hasDictIn K D && (He.eqO (PySem.W.findIn K (.ref D) "__class__") (some (some (.builtin "object.__class__"))) &&
  (He.eqO (PySem.W.specialIn K (.builtin "object.__class__") "__get__") (some (some (.builtin "getset_descriptor.__get__"))) && (decide (PySem.W.takesIn K (.builtin "object.__class__") = some true) && decide (PySem.W.mroIn K D (.type "object") = some true)))))))
theorem excCB_ok {K : PySem.W.Frag} {D : Addr} (h : excCB K D = true) : ExcC K D := by
  obtain ⟨h1, h⟩ := He.ba h
  obtain ⟨h2, h⟩ := He.ba h
  obtain ⟨h3, h⟩ := He.ba h
  obtain ⟨h4, h⟩ := He.ba h
  obtain ⟨h5, h⟩ := He.ba h
  obtain ⟨h6, h⟩ := He.ba h
  obtain ⟨h7, h8⟩ := He.ba h
  exact ⟨He.eqO_ok h1, He.eqO_ok h2, of_decide_eq_true h3, h4, He.eqO_ok h5, He.eqO_ok h6, of_decide_eq_true h7, of_decide_eq_true h8⟩
def refs (K : PySem.W.Frag) (l : List Str) : List Value := l.map fun x => .ref (He.ga K x)
theorem refs_cls (K : PySem.W.Frag) : ∀ l : List Str, Paired ClsV (l.map fun x => V.ref (He.ga K x)) (refs K l)
  | [] => .nil
  | _ :: l => .cons (.own _) (refs_cls K l)
end LB
namespace LB
open PySem PySem.Spec PyProof.Rows L2
/-! ### heaps that grow: what is no table stays, the tables T stay told -/
def Gw (T : List (Addr × Str)) (H H' : Hp) : Prop := Ex H H' ∧ (LamX.Tabs T H → LamX.Tabs T H')
theorem Gw.refl (T : List (Addr × Str)) (H : Hp) : Gw T H H := ⟨ex_refl H, id⟩
theorem Gw.trans {T : List (Addr × Str)} {H H1 H2 : Hp} (a : Gw T H H1) (b : Gw T H1 H2) : Gw T H H2 := ⟨a.1.trans b.1, fun t => b.2 (a.2 t)⟩
theorem gw_same {T : List (Addr × Str)} {H H' : Hp} (s : Same H H') : Gw T H H' := ⟨fun b o e _ => s b o e, fun t => t.ext s⟩
theorem same_new {H : Hp} {p : Addr} {o : HO} (h : H p = none) : Same H (upd H p o) := fun b u e => by
  rw [upd_ne (ne_of_none e h)]
  exact e
theorem gw_new {T : List (Addr × Str)} {H : Hp} {p : Addr} {o : HO} (h : H p = none) : Gw T H (upd H p o) := gw_same (same_new h)
theorem Gw.lst {T : List (Addr × Str)} {H H' : Hp} (g : Gw T H H') {p : Addr} {xs : List V} (h : H p = some (.lst xs)) : H' p = some (.lst xs) := g.1 _ _ h fun _ z => nomatch z
theorem Gw.tup {T : List (Addr × Str)} {H H' : Hp} (g : Gw T H H') {p : Addr} {xs : List V} (h : H p = some (.tup xs)) : H' p = some (.tup xs) := g.1 _ _ h fun _ z => nomatch z
theorem Gw.l {T : List (Addr × Str)} {K : PySem.W.Frag} {H H' : Hp} {a : Addr} {xs : List V} (g : Gw T H H') (h : SqL K H a xs) : SqL K H' a xs := ex_l g.1 h
theorem Gw.t {T : List (Addr × Str)} {K : PySem.W.Frag} {H H' : Hp} {a : Addr} {xs : List V} (g : Gw T H H') (h : SqT K H a xs) : SqT K H' a xs := ex_t g.1 h
/-! ### readings that give data -/
section
variable (K : PySem.W.Frag) (T : List (Addr × Str))
def Gv (te : TE) (σ : L2.St) (H : Hp) (d : PyData) : Prop := ∀ H1, Gw T H H1 → ∀ Q : VK, (∀ v H2, Gw T H1 H2 → Rp K H2 v d → Q v H2) → te σ H1 Q
def GvA (ta : TA) (σ : L2.St) (H : Hp) (ds : List PyData) : Prop := ∀ H1, Gw T H H1 → ∀ Q : List V → Hp → Prop, (∀ vs H2, Gw T H1 H2 → RpAll K H2 vs ds → Q vs H2) → ta σ H1 Q
/-- a new list of data -/
def GvL (te : TE) (σ : L2.St) (H : Hp) (ds : List PyData) : Prop := ∀ H1, Gw T H H1 → ∀ Q : VK, (∀ p xs H2, Gw T H1 H2 → H2 p = some (.lst xs) → RpAll K H2 xs ds → Q (.ref p) H2) → te σ H1 Q
end
section
variable {K : PySem.W.Frag} {T : List (Addr × Str)} {σ : L2.St} {H : Hp} {te ta tb : TE} {d : PyData} {ds : List PyData}
theorem rpAll_at {xs : List V} (r : RpAll K H xs ds) {i : Int} (h : atI ds i = some d) : ∃ v, atI xs i = some v ∧ Rp K H v d := by
  have hl := r.length
  unfold atI at h ⊢
  rw [hl]
  cases e : ixN ds.length i with
  | none =>
    rw [e] at h
    cases h
  | some j =>
    rw [e] at h
    have h' : ds[j]? = some d := h
    have hj : j < xs.length := by
      have := (List.getElem?_eq_some_iff.mp h').1
      omega
    obtain ⟨d', e1, e2⟩ := r.get (List.getElem?_eq_getElem hj)
    rw [h'] at e1
    cases e1
    exact ⟨_, List.getElem?_eq_getElem hj, e2⟩
theorem RpAll.append {H : Hp} : ∀ {xs ys : List V} {ds es : List PyData}, RpAll K H xs ds → RpAll K H ys es → RpAll K H (xs ++ ys) (ds ++ es)
  | _, _, _, _, .nil, s => s
  | _, _, _, _, .cons h r, s => .cons h (RpAll.append r s)
theorem GvL.gv (h : GvL K T te σ H ds) : Gv K T te σ H (.list ds) := fun H1 g Q q => h H1 g _ fun p xs H2 g2 hp r => q _ H2 g2 (.lst (SqL.of hp) r)
theorem s_seq {t u : TS} {D : Ends} {σ : L2.St} {H : Hp} (h : t { D with nx := u D } σ H) : tSeq t u D σ H := h
theorem s_asg {D : Ends} {i : Nat} (h : Gv K T te σ H d) (k : ∀ v H2, Gw T H H2 → Rp K H2 v d → D.nx (σ.set i (some v)) H2) : tAsg te (gName i) D σ H := h H (Gw.refl T H) _ k
theorem s_ret {D : Ends} (h : Gv K T te σ H d) (k : ∀ v H2, Gw T H H2 → Rp K H2 v d → D.rt v H2) : tRet te D σ H := h H (Gw.refl T H) _ k
theorem take_more {α : Type} : ∀ {l : List α} {i : Nat} {x : α}, l[i]? = some x → l.take (i + 1) = l.take i ++ [x]
  | [], i, x, h => by simp at h
  | a :: l, 0, x, h => by
    have e : a = x := Option.some.inj h
    subst e
    rfl
  | a :: l, i + 1, x, h => by
    have ih := take_more (l := l) (i := i) (x := x) h
    show a :: l.take (i + 1) = a :: l.take i ++ [x]
    rw [ih]
    rfl
end
/-! ### a def whose code object's table is told; a lambda handed to a def -/
theorem own_okC {P : Program} {w : World} {K : PySem.W.Frag} {mg : Str → Option Value} {base : Heap} {x : Str} {st : Stmt} {N ps : List Str} {k : Nat} {sp : Sp} (F : Df K mg x st) (S : FnScope N ps (defScope st))
    (hb : ∀ (kV doc pm : Value) (an : Option Addr) (cdv ct : Value) (us : List Value), us.length = ps.length → bindArgs (PySem.W.fnOf x x (defArgs st) (defBody st) (defScope st) .none kV doc pm an cdv ct) ⟨us, []⟩ = pure (ps.zip us))
    (len : ∀ vs H Q E, sp vs H Q E → vs.length = ps.length)
    (hbody : ∀ (cdv : Value) (A : Around) (outer : List Env) (s : Shared) (H : Hp) (vs : List V) (Q : VK) (E : XK), cdv = .ref (He.codeOf K (x, none)) → Room k (A.deeper (envOfC x (defScope st) s.heap.objs.size (He.ga K x) cdv)) → sp vs H Q E →
      ∃ t, PSs (cxOf (L2.CX P w) P w K mg base N x (defScope st) (He.ga K x) cdv A outer s H E) (defBody st) t ∧ t { nx := fun _ H' => Q .non H', rt := Q } (start N vs) H) : OwnFn P w K mg base (k + 1) x ps sp := by
  obtain ⟨fd, F, hm⟩ := F
  have kp := F.kp
  have bb := F.bindsN hb
  obtain ⟨oc, od, dV, kV, doc, pm, an, cdv, ct, osl, rfl, lk, hcd, _, _⟩ := F.ex
  refine ⟨He.ga K x, _, ?_, hm, kp, bb, oc, od, osl, lk⟩
  refine fn_of lk hcd S len fun A outer s H vs Q E hr hsp => hbody cdv A outer s H vs Q E ?_ hr hsp
  obtain ⟨c, rfl⟩ := He.codeIn_ref hcd
  have e : He.codeOf K (x, none) = c := He.codeOf_eq (p := (x, none)) lk rfl
  rw [e]
end LB
namespace GX
open PySem PySem.Spec PyProof.Rows L2 GenW
/-- the context of a generator expression's block: woken in A, made at s -/
def gCx (X : Cx) (A : Around) (s : Shared) (H : Hp) (cenv : Env) (fp : List Addr) (pn : List (Addr × Obj)) : Cx where
  prog := X.prog
  w := X.w
  K := X.K
  mg := X.mg
  base := X.base
  A := A.deeper cenv
  N := X.N
  s_0 := s
  H_0 := H
  env := cenv
  outer := X.stack
  stack := cenv :: X.stack
  ex := fp
  fn := fun _ => false
  calm := true
  pn := pn
  xe := fun _ _ => False
/-- its names: no cells; «.0» and the clause's own names; captured ones -/
structure GxS (N : List Str) (sc scope : Scope) (own : List (Str × Nat)) : Prop where
  kind : scope.kind = .function
  co : scope.isCoroutine = false
  cell : ∀ y ∈ scope.names, y.2 ≠ .cell
  dot : scope.names.lookup (".0" : Str) = some NameKind.local
  free : ∀ y ∈ scope.names, y.2 = .free → sc.names.lookup y.1 = some .cell ∨ sc.names.lookup y.1 = some .free
  loc : ∀ y ∈ scope.names, y.2 = .local → y.1 ∈ own.map (·.1) ∨ y.1 ∉ N
  ix : ∀ p ∈ own, N[p.2]? = some p.1
def gxB (N : List Str) (sc scope : Scope) (own : List (Str × Nat)) : Bool :=
  decide (scope.kind = .function) && (!scope.isCoroutine && (decide (scope.names.lookup (".0" : Str) = some NameKind.local) && ((scope.names.all fun y => !decide (y.2 = .cell) && ((!decide (y.2 = .free) || (decide (sc.names.lookup y.1 = some .cell) || decide (sc.names.lookup y.1 = some .free))) &&
    (!decide (y.2 = .local) || (decide (y.1 ∈ own.map (·.1)) || decide (y.1 ∉ N))))) && own.all fun p => decide (N[p.2]? = some p.1))))
theorem gx_by {N : List Str} {sc scope : Scope} {own : List (Str × Nat)} (h : gxB N sc scope own = true) : GxS N sc scope own := by
  unfold gxB at h
  simp only [Bool.and_eq_true, Bool.or_eq_true, Bool.not_eq_true', decide_eq_true_eq, decide_eq_false_iff_not, List.all_eq_true] at h
  obtain ⟨h1, h2, h3, h4, h5⟩ := h
  refine ⟨h1, h2, fun y hy => (h4 y hy).1, h3, fun y hy e => ?_, fun y hy e => ?_, h5⟩
  · rcases (h4 y hy).2.1 with z | z
    · exact absurd e z
    · exact z
  · rcases (h4 y hy).2.2 with z | z
    · exact absurd e z
    · exact z
theorem over_gx {A : Around} {elt : Expr} {gs : List Comprehension} {scope : Scope} {pos : Pos} {it acc : Value} {env : Env} : A.over (.compLoop (.GeneratorExp elt gs scope pos) 0 it acc env) [] = A.deeper env := by
  first
    | rfl
    | (obtain ⟨hd, d, fr, gs, u⟩ := A; simp [Around.over, Around.deeper, marksOver, frameCount, unitsOf, envsOf, guardsOf, pushEnvs, pushGuards, Code.envs, Code.env?, Code.isFrame, Code.guards, Code.isGuard, Code.weight, Code.frames, Code.isCreation, Code.cUnits])
section
variable {X : Cx} {pins : List (Addr × Obj)} {σ : L2.St} {H : Hp} {s s2 : Shared}
/-- the block at its start -/
theorem gen_inv {A : Around} {scope : Scope} {own : List (Str × Nat)} {fp : List Addr} {code : Value} {m : Str → Option Value} {pn : List (Addr × Obj)} (I : Inv X pins σ H s) (ok : GxS X.N X.env.scope scope own) (hN : X.N.Nodup) (hA : A.handled = none) (hfr : A.frames = some X.stack)
    (hfp : ∀ b ∈ fp, FpOk X pins H b ∧ b < s.heap.objs.size) (kp : ∀ b o, s.heap.get? b = some o → s2.heap.get? b = some o) (hns : s2.heap.Ns s.heap.objs.size m) (hos : s2.os = s.os) (hb : AllBare s2.gens)
    (hpn : ∀ p ∈ pn, s2.heap.get? p.1 = some p.2 ∧ H p.1 = none ∧ p.1 ≠ s.heap.objs.size ∧ p.1 ∉ frs X.stack ∧ ∀ v, p.2.data ≠ .cell v) :
    Inv (gCx X A s H (genEnv scope (cloFrom X.env.cells scope.names []) s.heap.objs.size code builtinsNs X.env) fp pn) [] (wipe σ (own.map (·.2))) H s2 := by
  have hfree : ∀ y ∈ scope.names, y.2 = .free → ∃ c, X.env.cells.lookup y.1 = some c := fun y hy e => by
    rcases ok.free y hy e with k | k
    · exact I.ok.has _ (.inl k)
    · exact I.ok.has _ (.inr k)
  have cm : ∀ {y c}, (cloFrom X.env.cells scope.names []).lookup y = some c → X.env.cells.lookup y = some c := fun {y c} e => by
    rcases cloFrom_mem (PySem.mem_of_lookup e) with hm | ⟨h1, h2⟩
    · cases hm
    · obtain ⟨c1, hc⟩ := hfree _ h1 rfl
      have hc : X.env.cells.lookup y = some c1 := hc
      have h2 : c = (X.env.cells.lookup y).getD 0 := h2
      rw [hc] at h2
      rw [hc, h2] <;> rfl
  have look : ∀ {y}, scope.names.lookup y = some .free → ∃ c, (cloFrom X.env.cells scope.names []).lookup y = some c := fun {y} hl => mem_lookup (cloFrom_has (cells := X.env.cells) (acc := []) (PySem.mem_of_lookup hl))
  have noPn : ∀ {b}, b ∈ fp → b ≠ s.heap.objs.size := fun {b} hb => Nat.ne_of_lt (hfp b hb).2
  refine ⟨⟨I.ok.mod, ok.kind, I.ok.glob, rfl, Nat.le_refl _, fun y z c e1 e2 => I.ok.inj y z c (cm e1) (cm e2), fun y hy => ?_, fun y c z _ => ?_, fun _ => hA, Around.frames_deeper hfr, .inr ⟨rfl, rfl⟩, fun b hb => ⟨noPn hb, fun y c e z => (hfp b hb).1.2.2.2.2.1 y c (cm e) z⟩, I.bs, Nat.le_trans I.ok.bsz I.sz, fun b o e hb => ?_, fun b hb z => ?_, I.stack, I.stkFree⟩,
    hos, hb, Un.kept kp, ⟨_, hns, fun i y v e1 e2 e3 => ?_⟩, fun y c e => ?_, I.hok.fresh (Nat.le_refl _), fun y c e => I.freeC y c (cm e), fun p hp => (List.mem_append.mp hp).elim (fun z => hpn p z) (fun z => by cases z), I.hok.kept kp, by rw [wipe_length]; exact I.len⟩
  · have hy : scope.names.lookup y = some .cell ∨ scope.names.lookup y = some .free := hy
    rcases hy with hy | hy
    · exact absurd rfl (ok.cell _ (PySem.mem_of_lookup hy))
    · exact look hy
  · have z : false = true := z
    cases z
  · rcases (hfp b hb).1.2.2.2.1 with z | z
    · exact I.ok.noex b o e z
    · exact absurd (Nat.lt_of_lt_of_le (Heap.lt_size e) (Nat.le_trans I.ok.bsz z)) (Nat.lt_irrefl _)
  · rcases List.mem_cons.mp (I.stkSub b z) with z | z
    · exact (hfp b hb).1.2.1 z
    · exact (hfp b hb).1.2.2.1 z
  · obtain ⟨e2, hne⟩ := wipe_some e2
    have e3 : Vis scope y := e3
    rcases e3 with k | k | k
    · rcases ok.loc _ (PySem.mem_of_lookup k) rfl with e' | e'
      · obtain ⟨p, hp, hpy⟩ := List.mem_map.mp e'
        have e4 := ok.ix p hp
        have hpy : p.1 = y := hpy
        rw [hpy] at e4
        exact absurd (List.mem_map.mpr ⟨p, hp, nodup_ix hN e4 e1⟩) hne
      · exact absurd (List.mem_of_getElem? e1) e'
    · exact absurd rfl (ok.cell _ (PySem.mem_of_lookup k))
    · obtain ⟨m, hn, hl⟩ := I.loc
      have hvis : Vis X.env.scope y := (ok.free _ (PySem.mem_of_lookup k) rfl).elim (fun k => .inr (.inl k)) (fun k => .inr (.inr k))
      obtain ⟨w', r, q⟩ := hl i y v e1 e2 hvis
      obtain ⟨c2, h2⟩ := look k
      refine ⟨w', r, .inr ⟨.inr k, c2, h2, ?_⟩⟩
      have c1 := cm h2
      rcases q with ⟨k', _⟩ | ⟨_, c3, e', z⟩
      · have k' : X.env.scope.names.lookup y = some .local := k'
        rcases ok.free _ (PySem.mem_of_lookup k) rfl with k2 | k2 <;> rw [show X.env.scope.names.lookup y = _ from k2] at k' <;> cases k'
      · rw [c1] at e'
        cases e'
        exact z.keeps kp
  · obtain ⟨w', z⟩ := I.cell y c (cm e)
    exact ⟨w', z.keeps kp⟩
end
end GX
namespace GX
open PySem PySem.Spec PyProof.Rows L2 GenW
theorem seg_bx {M : Model} {A : Around} {R : GenEnd} {Y : Protocol} {n : Nat} {s₀ : Shared} {elt : Expr} {gs : List Comprehension} {scope : Scope} {pos : Pos} {it acc : Value} {env : Env} {s : Shared} {α β : Type} {m : Sem α} {K : α → Sem β} {K' : β → Sem PySem.Fin} {H' : Value → Sem PySem.Fin} {gd lv} {Q : α → Shared → Prop}
    (h : wpAny M (A.deeper env) m Q (fun _ _ => False) s) (hQ : ∀ a s', Q a s' → Seg M A R Y n s₀ (.compLoop (.GeneratorExp elt gs scope pos) 0 it acc env) ((K a).wrap K' H' gd lv) [] s') :
    Seg M A R Y n s₀ (.compLoop (.GeneratorExp elt gs scope pos) 0 it acc env) ((m >>= K).wrap K' H' gd lv) [] s := by
  refine seg_bind_wrap ?_
  rw [over_gx]
  exact wpAny_mono h hQ fun _ _ z => z.elim
theorem seg_wx {M : Model} {A : Around} {R : GenEnd} {Y : Protocol} {n : Nat} {s₀ : Shared} {elt : Expr} {gs : List Comprehension} {scope : Scope} {pos : Pos} {it acc : Value} {env : Env} {s : Shared} {α : Type} {m : Sem α} {K' : α → Sem PySem.Fin} {H' : Value → Sem PySem.Fin} {gd lv} {Q : α → Shared → Prop}
    (h : wpAny M (A.deeper env) m Q (fun _ _ => False) s) (hQ : ∀ a s', Q a s' → Seg M A R Y n s₀ (.compLoop (.GeneratorExp elt gs scope pos) 0 it acc env) (K' a) [] s') :
    Seg M A R Y n s₀ (.compLoop (.GeneratorExp elt gs scope pos) 0 it acc env) (m.wrap K' H' gd lv) [] s := by
  refine seg_wrap ?_
  rw [over_gx]
  exact wpAny_mono h hQ fun _ _ z => z.elim
/-- what a consumer wants of the block's walk -/
structure Eats (Z : Cx) (fp : List Addr) (J : It) (σ : L2.St) (vs : List Nat) (g : TG) (tt : TT) (te : TE) (W : Nat → Nat → List V → Hp → Prop) (K : List (Addr × Obj) → List V → Prop) (JN : Nat → Nat → List V → Prop) (QE : List V → Hp → Prop) (YC : Nat → Nat → List V → V → Hp → Prop) (RE : GenEnd) (YP : Protocol) : Prop where
  apart : ∀ ip ys, K ip ys → ∀ p ∈ ip, p.1 ∉ fp
  fin : ∀ n m s₀ ys ip H' s', JN n m ys → K ip ys → Inv Z ip σ H' s' → QE ys H' → RE n s₀ (.ok .next) s'
  pos : ∀ n m i ys y H', JN n m ys → YC i m ys y H' → ∃ n', n = n' + 1
  less : ∀ n m m' ys, m' < m → JN n m ys → JN n m' ys
  give : ∀ n m i s₀ ys ip σ' H' s' y v kap, JN (n + 1) m ys → K ip ys → Inv Z ip σ' H' s' → RelV y v → YC i m ys y H' →
    (∀ ip2 m' s2, m' < m → W (i + 1) m' (ys ++ [y]) H' → JN n m' (ys ++ [y]) → K ip2 (ys ++ [y]) → Inv Z ip2 σ' H' s2 → (∀ b ∈ fp, ∀ o, s'.heap.get? b = some o → s2.heap.get? b = some o) → kap (.send .none) s2) → YP n s₀ v s' kap
  turn : ∀ i m ys H, W i m ys H → (J.stop i H ∧ QE ys H) ∨ (J.go i H ∧ ∀ x H', J.yld i H x H' → g x σ H' fun σ2 H2 => wipe σ2 vs = σ ∧ tt σ2 H2 fun b H3 => if b = true then te σ2 H3 fun y H4 => YC i m ys y H4 else ∃ m', m' < m ∧ W (i + 1) m' ys H3)
section
variable {X : Cx} {A : Around} {s4 : Shared} {H4 : Hp} {cenv : Env} {fp : List Addr} {pn : List (Addr × Obj)} {J : It} {σ : L2.St} {vs : List Nat} {g : TG} {tt : TT} {te : TE} {W : Nat → Nat → List V → Hp → Prop} {K : List (Addr × Obj) → List V → Prop} {JN : Nat → Nat → List V → Prop} {QE : List V → Hp → Prop} {YC : Nat → Nat → List V → V → Hp → Prop} {RE : GenEnd} {YP : Protocol} {it : Addr} {tn : Nat → Heap → Prop}
  {elt tg iter : Expr} {ifs : List Expr} {scope : Scope} {pos : Pos}
theorem seg_gx (C : Eats (gCx X A s4 H4 cenv fp pn) fp J σ vs g tt te W K JN QE YC RE YP) (T : Turn X.prog X.w X.K tg J fp it tn) (hg : PG (gCx X A s4 H4 cenv fp pn) tg g) (ht : PTs (gCx X A s4 H4 cenv fp pn) ifs tt) (he : PE (gCx X A s4 H4 cenv fp pn) elt te)
    (hco : cenv.scope.isCoroutine = false) (hpn : ∀ p ∈ pn, p.1 ∉ fp) :
    ∀ (m n i : Nat) (ys : List V) (s₀ s : Shared) (H : Hp) (ip : List (Addr × Obj)), JN n m ys → W i m ys H → K ip ys → Inv (gCx X A s4 H4 cenv fp pn) ip σ H s → tn i s.heap → (∀ b ∈ fp, H b = none) →
      Seg (model X.prog X.w) A RE YP n s₀ (.compLoop (.GeneratorExp elt [⟨tg, iter, ifs, 0⟩] scope pos) 0 (.ref it) .none cenv) ((model X.prog X.w).den (.compLoop (.GeneratorExp elt [⟨tg, iter, ifs, 0⟩] scope pos) 0 (.ref it) .none cenv)) [] s := by
  intro m
  induction m using Nat.strongRecOn with
  | ind m ih =>
    intro n i ys s₀ s H ip hJ hW hK I hst hn
    have stat : ∀ {σ' : L2.St} {H' : Hp} {s' : Shared}, Inv (gCx X A s4 H4 cenv fp pn) ip σ' H' s' → (∀ b ∈ fp, H' b = none) → ∀ b ∈ fp, FpOk (gCx X A s4 H4 cenv fp pn) ip H' b := fun {σ' H' s'} I' hn b hb =>
      ⟨hn b hb, (I'.ok.exf b hb).1, I'.ok.exfs b hb, .inl hb, fun x c e => (I'.ok.exf b hb).2 x c e, fun p hp e => (List.mem_append.mp hp).elim (fun z => hpn p z (by rw [e]; exact hb)) (fun z => C.apart ip ys hK p z (by rw [e]; exact hb))⟩
    show Seg _ A _ _ _ s₀ _ ((compTurn (.GeneratorExp elt [⟨tg, iter, ifs, 0⟩] scope pos) 0 (.ref it) .none cenv).onRaise (leaving cenv)) [] s
    rw [compTurn_gen, Sem.onRaise_eq_wrap]
    refine seg_bind_wrap (wpAny_standAt ?_)
    rcases C.turn i m ys H hW with ⟨stop, qq⟩ | ⟨go, step⟩
    · refine seg_bx (T.done (gCx X A s4 H4 cenv fp pn) rfl rfl rfl rfl i ip s σ H (fun _ _ => False) I (stat I hn) hst stop) fun r s1 ⟨hr, I1⟩ => ?_
      subst hr
      exact seg_end (.ok .next) (C.fin n m s₀ ys ip H s1 hJ hK I1 qq)
    · refine seg_bx (T.item (gCx X A s4 H4 cenv fp pn) rfl rfl rfl rfl i ip s σ H (fun _ _ => False) I (stat I hn) hst go) fun r s1 ⟨u, hr, h1⟩ => ?_
      subst hr
      refine seg_bx h1 fun _ s2 ⟨x, H2, I2, r2, y2, st2, n2⟩ => ?_
      have I2' := I2.pinned (stat I2 n2) (T.obj _ _ st2)
      refine seg_bx (hg.run _ s2 _ H2 x u _ I2' r2 (step x H2 y2)) fun _ s3 ⟨σ3, H3, I3, hw3, q3⟩ => ?_
      refine seg_bx (ht.run _ s3 σ3 H3 _ I3 q3) fun b s5 ⟨H5, I5, q5⟩ => ?_
      have pin' : ∀ {s' : Shared} {H' : Hp}, Inv (gCx X A s4 H4 cenv fp pn) (ip ++ pinsAt fp s2.heap) σ3 H' s' → tn (i + 1) s'.heap ∧ (∀ b ∈ fp, H' b = none) := fun {s' H'} I' => by
        have q : ∀ b ∈ fp, ∀ o, s2.heap.get? b = some o → s'.heap.get? b = some o ∧ H' b = none := fun b hb o e =>
          let z := I'.pin (b, o) (List.mem_append_right _ (List.mem_append_right _ (mem_pinsAt hb e)))
          ⟨z.1, z.2.1⟩
        refine ⟨T.keep _ _ _ st2 fun b hb o e => (q b hb o e).1, fun b hb => ?_⟩
        obtain ⟨o, e, _⟩ := T.obj _ _ st2 b hb
        exact (q b hb o e).2
      have wk : ∀ {ip' : List (Addr × Obj)} {s' : Shared} {H' : Hp}, Inv (gCx X A s4 H4 cenv fp pn) ip' σ3 H' s' → Inv (gCx X A s4 H4 cenv fp pn) ip' σ H' s' := fun {ip' s' H'} I' => by
        have hl : σ.length = σ3.length := by rw [← hw3, wipe_length]
        refine I'.weak hl fun j v e => ?_
        rw [← hw3] at e
        exact (wipe_some e).1
      cases b with
      | false =>
        simp only [Bool.false_eq_true, if_false] at q5 ⊢
        obtain ⟨m', hm, w'⟩ := q5
        obtain ⟨p1, p2⟩ := pin' I5
        exact seg_again rfl (ih m' hm n (i + 1) ys s₀ s5 H5 ip (C.less n m m' ys hm hJ) w' hK (wk I5.unpinned) p1 p2)
      | true =>
        simp only [if_true] at q5 ⊢
        have hy : ∀ v, yieldOut cenv v = yieldValue v := fun v => by simp only [yieldOut, hco, Bool.false_eq_true, if_false]
        simp only [hy]
        rw [Sem.bind_eq_wrap', Sem.bind_eq_wrap', Sem.wrap_wrap, Sem.wrap_wrap]
        refine seg_wx (he.run _ s5 σ3 H5 _ I5 q5) fun z s6 ⟨yv, H6, I6, r6, y6⟩ => ?_
        obtain ⟨n', rfl⟩ := C.pos n m i ys yv H6 hJ y6
        obtain ⟨p1, p2⟩ := pin' I6
        refine seg_at (seg_yield rfl rfl rfl (C.give n' m i s₀ ys ip σ3 H6 s6 yv z _ hJ hK I6.unpinned r6 y6 fun ip2 m' s7 hm w' hj hk I7 hkeep => ?_))
        exact seg_again rfl (ih m' hm n' (i + 1) (ys ++ [yv]) s7 s7 H6 ip2 hj w' hk (wk I7) (T.keep _ _ _ p1 hkeep) p2)
theorem seg_gx0 (C : Eats (gCx X A s4 H4 cenv fp pn) fp J σ vs g tt te W K JN QE YC RE YP) (T : Turn X.prog X.w X.K tg J fp it tn) (hg : PG (gCx X A s4 H4 cenv fp pn) tg g) (ht : PTs (gCx X A s4 H4 cenv fp pn) ifs tt) (he : PE (gCx X A s4 H4 cenv fp pn) elt te)
    (hco : cenv.scope.isCoroutine = false) (hpn : ∀ p ∈ pn, p.1 ∉ fp)
    (m n : Nat) (s₀ s : Shared) (H : Hp) (ip : List (Addr × Obj)) (hJ : JN n m []) (hW : W 0 m [] H) (hK : K ip []) (I : Inv (gCx X A s4 H4 cenv fp pn) ip σ H s) (hst : tn 0 s.heap) (hn : ∀ b ∈ fp, H b = none) :
      Seg (model X.prog X.w) A RE YP n s₀ (.compStart (.GeneratorExp elt [⟨tg, iter, ifs, 0⟩] scope pos) 0 (.ref it) .none cenv) ((model X.prog X.w).den (.compStart (.GeneratorExp elt [⟨tg, iter, ifs, 0⟩] scope pos) 0 (.ref it) .none cenv)) [] s := by
  have loop := seg_gx (iter := iter) (scope := scope) (pos := pos) C T hg ht he hco hpn m n 0 [] s₀ s H ip hJ hW hK I hst hn
  show Seg _ A _ _ _ s₀ _ ((compStart (.GeneratorExp elt [⟨tg, iter, ifs, 0⟩] scope pos) 0 (.ref it) .none cenv).onRaise (leaving cenv)) [] s
  unfold compStart
  rw [Sem.onRaise_eq_wrap]
  show Seg _ A _ _ _ s₀ _ ((ask >>= _).wrap _ _ _ _) [] s
  refine seg_bind_wrap (wpAny_askSetting ?_)
  split
  · exact seg_again rfl loop
  · first
      | exact seg_bind_wrap (wpAny_rule (seg_bind_wrap (wpAny_standAt (seg_bind_wrap (T.self _ 0 s _ _ hst (seg_again rfl loop))))))
      | (refine seg_bind_wrap (wpAny_rule ?_); show Seg _ A _ _ _ s₀ _ ((standAt iter.pos >>= _).wrap _ _ _ _) [] s; exact seg_bind_wrap (wpAny_standAt (seg_bind_wrap (T.self _ 0 s _ _ hst (seg_again rfl loop)))))
end
end GX
namespace GX
open PySem PySem.Spec PyProof.Rows L2 GenW
section
variable {X : Cx} {pins : List (Addr × Obj)} {σ : L2.St} {H : Hp} {s : Shared}
/-- the block's code object stands in the def's table: found there, or new -/
theorem gen_code {T : List (Addr × Str)} {c P : Addr} {q : Str} {scope : Scope} {pos : Pos} {A : Around} {E : Value → Shared → Prop} {Q : Value → Shared → Prop} (I : Inv X pins σ H s) (TB : LamX.TabB X.base X.mg c P) (hcode : X.env.code = .ref c)
    (hm : (P, q) ∈ T) (hu : ∀ p ∈ T, p.1 = P → p.2 = q) (hT : LamX.Tabs T H)
    (h : ∀ (code : Value) (H1 : Hp) (s' : Shared), Inv X pins σ H1 s' → LamX.ExtN H H1 → LamX.Tabs T H1 → (∀ b o, H b = none → s.heap.get? b = some o → s'.heap.get? b = some o ∧ H1 b = none) → s.heap.objs.size ≤ s'.heap.objs.size → Q code s') :
    wpAny (model X.prog X.w) A (genexprCode X.env pos q scope) Q E s := by
  obtain ⟨ps, hP, ht, ha⟩ := hT _ hm
  have hP' : s.heap.get? P = some { cls := .none, data := .fields ps } := I.hok P _ hP
  have cd : PySem.W.CodeHd s.heap c P := TB.code.keeps I.bk
  cases hf : codeAmong pos ps.toList with
  | none =>
    refine wpAny_genexprCodeX hcode (cd.code hP' ht) (cd.tab hP') hf fun c' h' tk hx hge hlt hco' hrec htab' _ => ?_
    obtain ⟨c2, oc, vs, t, e2, hoc, hd, hv⟩ := hrec
    cases e2
    have nC : H c' = none := I.hok.fresh hge
    have I1 := LamX.inv_table (t' := tk) (q := q) (more := #[rawInt pos.line, rawInt pos.col, .ref c']) (h' := h') I hP (fun b o hb e => hx b o hb e) htab'.2 hge ⟨oc, vs, t, hoc, hd, hv⟩
    have hE : LamX.ExtN H (upd (upd H P (.tbl (ps ++ #[rawInt pos.line, rawInt pos.col, .ref c']))) c' (LamX.CodeO c' q)) := fun b o e n => by
      rw [upd_ne (ne_of_none e nC), upd_ne (fun z => n ps (Option.some.inj (e.symm.trans (by rw [z]; exact hP))))]
      exact e
    have eL : (ps ++ #[rawInt pos.line, rawInt pos.col, .ref c']).toList = ps.toList ++ [rawInt pos.line, rawInt pos.col, .ref c'] := by simp
    refine h (.ref c') _ _ I1 hE (fun p hp => ?_) (fun b o n e => ?_) (Nat.le_trans hge (Nat.le_of_lt hlt))
    · by_cases hb : p.1 = P
      · rw [hu p hp hb, hb]
        refine ⟨_, by rw [upd_ne (ne_of_none hP nC), upd_same], by rw [eL]; exact PySem.TriplesOk_snoc _ _ _ _ ht, fun p' cv hcv => ?_⟩
        rw [eL] at hcv
        rcases LamX.among_app _ ht hcv with z | z
        · obtain ⟨c0, e1, e2⟩ := ha p' cv z
          exact ⟨c0, e1, hE _ _ e2 LamX.codeO_ne⟩
        · exact ⟨c', z, upd_same⟩
      · obtain ⟨ps', a1, a2, a3⟩ := hT p hp
        refine ⟨ps', by rw [upd_ne (ne_of_none a1 nC), upd_ne hb]; exact a1, a2, fun p' cv hcv => ?_⟩
        obtain ⟨c0, e1, e2⟩ := a3 p' cv hcv
        exact ⟨c0, e1, hE _ _ e2 LamX.codeO_ne⟩
    · have n1 : b ≠ P := fun z => by rw [z, hP] at n; cases n
      have n2 : b ≠ c' := Nat.ne_of_lt (Nat.lt_of_lt_of_le (Heap.lt_size e) hge)
      exact ⟨hx b o n1 e, by rw [upd_ne n2, upd_ne n1]; exact n⟩
  | some cv =>
    refine wpAny_genexprCode_hit hcode (cd.code hP' ht) hf ?_
    exact h cv H s I (LamX.ExtN.refl H) hT (fun b o n e => ⟨e, n⟩) (Nat.le_refl _)
/-- the generator object -/
def genObj (g : Nat) (q : Str) (t1 t2 : Tok) : Obj := { cls := .type "generator", data := .fields #[.int g 0, .str "<genexpr>" t1, .str q t2] }
theorem genObj_at {g : Nat} {q : Str} {t1 t2 : Tok} {h : Heap} {a : Addr} (e : h.get? a = some (genObj g q t1 t2)) : h.IsGen a g := ⟨_, _, _, e, rfl, rfl, rfl⟩
/-- a generator has been made: it has not begun -/
structure Made (X : Cx) (pins : List (Addr × Obj)) (σ : L2.St) (elt tg iter : Expr) (ifs : List Expr) (scope : Scope) (pos : Pos) (s4 : Shared) (H4 : Hp) (code : Value) (J : It) (fp : List Addr) (it : Addr) (tn : Nat → Heap → Prop) (a : Addr) (t1 t2 : Tok) (s5 : Shared) : Prop where
  inv : Inv X pins σ H4 s4
  turn : Turn X.prog X.w X.K tg J fp it tn
  st : tn 0 s4.heap
  fp : ∀ b ∈ fp, FpOk X pins H4 b ∧ b < s4.heap.objs.size
  ns : ∃ m, s5.heap.Ns s4.heap.objs.size m
  keep : ∀ b o, s4.heap.get? b = some o → s5.heap.get? b = some o
  lt : s4.heap.objs.size < a
  lt' : a < s5.heap.objs.size
  obj : s5.heap.get? a = some (genObj s4.gens.size (X.env.qual ++ "<genexpr>") t1 t2)
  gens : s5.gens = s4.gens.push (.fresh (.compStart (.GeneratorExp elt [⟨tg, iter, ifs, 0⟩] scope pos) 0 (.ref it) .none (genEnv scope (cloFrom X.env.cells scope.names []) s4.heap.objs.size code builtinsNs X.env)))
  os : s5.os = s4.os
theorem gen_make {T : List (Addr × Str)} {c P : Addr} {elt tg iter : Expr} {ifs : List Expr} {scope : Scope} {pos : Pos} {own : List (Str × Nat)} {wi : TI} {RR : It → Hp → Prop} {Q : Value → Shared → Prop} (hd : X.A.depth < recursionLimit) (TB : LamX.TabB X.base X.mg c P) (hcode : X.env.code = .ref c)
    (hm : (P, X.env.qual ++ "<genexpr>") ∈ T) (hu : ∀ p ∈ T, p.1 = P → p.2 = X.env.qual ++ "<genexpr>") (ok : GxS X.N X.env.scope scope own) (hi : PI X tg iter wi) (hs : ∀ v, genFold iter X.env v = pure v) (I : Inv X pins σ H s)
    (h : wi σ H fun J H1 => LamX.Tabs T H1 ∧ ∀ H2, LamX.ExtN H1 H2 → LamX.Tabs T H2 → RR J H2)
    (hQ : ∀ s4 H4 code J fp it tn a t1 t2 s5, Made X pins σ elt tg iter ifs scope pos s4 H4 code J fp it tn a t1 t2 s5 → RR J H4 → Q (.ref a) s5) :
    wpAny (model X.prog X.w) X.A (eval (.GeneratorExp elt [⟨tg, iter, ifs, 0⟩] scope pos) X.env) Q X.xe s := by
  have hfree : ∀ y ∈ scope.names, y.2 = .free → ∃ c, X.env.cells.lookup y.1 = some c := fun y hy e => by
    rcases ok.free y hy e with k | k
    · exact I.ok.has _ (.inl k)
    · exact I.ok.has _ (.inr k)
  refine wpAny_GeneratorExp_make ok.co (closure_ok hfree) ok.cell ok.dot ok.kind hd (thn (hi.run pins s σ H _ I h) fun xv s1 hx => thn hx fun itv s2 h2 => ?_) hs
  obtain ⟨it, fp, tn, J, H2, e, I2, T2, st2, f2, hT, hR⟩ := h2
  subst e
  refine ⟨I2.nolimit, gen_code I2 TB hcode hm hu hT fun code H3 s3 I3 hE hT3 hk hsz => ?_⟩
  obtain ⟨bm, ob, e1, e2, e3, e4, e5, e6, e7, e8⟩ := TB.bm
  refine wpAny_builtinsFor (m := X.mg) (by rw [I3.ok.glob]; exact I3.mod.glob.keeps I3.bk) e1 e2 (I3.bk _ _ e5) e6 e7 e8 ?_
  intro h' hn' hs'
  have hsz' : h'.objs.size = s3.heap.objs.size + 1 := by rw [hs'.1, Heap.size_push]
  have keep' : ∀ b o, s3.heap.get? b = some o → h'.get? b = some o := fun b o e => hs'.extBut b o (Nat.ne_of_lt (Heap.lt_size e)) (Heap.get?_push_of_some _ e)
  refine hQ s3 H3 code J fp it tn h'.objs.size (s3.toks + 1) (s3.toks + 1 + 1) _ ⟨I3, T2, ?_, fun b hb => ?_, ⟨_, hn'.push _⟩, fun b o e => Heap.get?_push_of_some _ (keep' b o e), by omega, by show _ < (h'.push _).objs.size; rw [Heap.size_push]; omega, Heap.get?_push_size _ rfl, rfl, rfl⟩ (hR H3 hE hT3)
  · exact T2.keep _ _ _ st2 fun b hb o e => (hk b o (f2 b hb).1 e).1
  · obtain ⟨o, e, _⟩ := T2.obj _ _ st2 b hb
    exact ⟨⟨(hk b o (f2 b hb).1 e).2, (f2 b hb).2⟩, Nat.lt_of_lt_of_le (Heap.lt_size e) hsz⟩
/-- woken in A, at a heap that keeps all that stood when it was made -/
theorem Made.inv' {elt tg iter : Expr} {ifs : List Expr} {scope : Scope} {pos : Pos} {own : List (Str × Nat)} {s4 : Shared} {H4 : Hp} {code : Value} {J : It} {fp : List Addr} {it : Addr} {tn : Nat → Heap → Prop} {a : Addr} {t1 t2 : Tok} {s5 s6 : Shared} {A : Around}
    (M : Made X pins σ elt tg iter ifs scope pos s4 H4 code J fp it tn a t1 t2 s5) (ok : GxS X.N X.env.scope scope own) (hN : X.N.Nodup) (hA : A.handled = none) (hfr : A.frames = some X.stack) (kp : ∀ b o, s5.heap.get? b = some o → s6.heap.get? b = some o) (hos : s6.os = s5.os) (hb : AllBare s6.gens) :
    Inv (gCx X A s4 H4 (genEnv scope (cloFrom X.env.cells scope.names []) s4.heap.objs.size code builtinsNs X.env) fp [(a, genObj s4.gens.size (X.env.qual ++ "<genexpr>") t1 t2)]) [] (wipe σ (own.map (·.2))) H4 s6 := by
  obtain ⟨m, hns⟩ := M.ns
  refine gen_inv M.inv ok hN hA hfr M.fp (fun b o e => kp b o (M.keep b o e)) (hns.keeps kp) (hos.trans M.os) hb fun p hp => ?_
  rw [List.mem_singleton.mp hp]
  have hge : s4.heap.objs.size ≤ a := Nat.le_of_lt M.lt
  refine ⟨kp a _ M.obj, M.inv.hok.fresh hge, Nat.ne_of_gt M.lt, fun z => ?_, fun v q => by cases q⟩
  rcases List.mem_cons.mp (M.inv.stkSub _ z) with e | e
  · have h1 := M.inv.lt
    rw [← e] at h1
    exact Nat.lt_irrefl _ (Nat.lt_of_lt_of_le h1 hge)
  · exact M.inv.nofs hge e
end
end GX
namespace GX
open PySem PySem.Spec PyProof.Rows L2 GenW
section
variable {X : Cx} {pins : List (Addr × Obj)} {σ : L2.St} {H : Hp} {s : Shared}
/-- the heap at a place where the block sleeps or has ended -/
def Off (X : Cx) (fp : List Addr) (s4 : Shared) (H4 : Hp) (Q : Hp → Prop) (s' : Shared) : Prop := ∃ H', s'.os = s4.os ∧ AllBare s'.gens ∧ Un (frs X.stack) fp H4 H' s4.heap s'.heap ∧ HOk X.prog X.w H' s'.heap ∧ Q H'
theorem Off.back {elt tg iter : Expr} {ifs : List Expr} {scope : Scope} {pos : Pos} {s4 : Shared} {H4 : Hp} {code : Value} {J : It} {fp : List Addr} {it : Addr} {tn : Nat → Heap → Prop} {a : Addr} {t1 t2 : Tok} {s5 s' : Shared} {Q : Hp → Prop}
    (M : Made X pins σ elt tg iter ifs scope pos s4 H4 code J fp it tn a t1 t2 s5) (o : Off X fp s4 H4 Q s') : ∃ H', Inv X pins σ H' s' ∧ Q H' := by
  obtain ⟨H', h1, h2, h3, h4, h5⟩ := o
  exact ⟨H', M.inv.call' (ch := fp) h1 h3 h4 h2 fun b hb => let f := (M.fp b hb).1; ⟨f.2.2.2.1, f.2.1, f.2.2.2.2.1, f.2.2.2.2.2⟩, h5⟩
theorem Off.keeps {fp : List Addr} {s4 : Shared} {H4 : Hp} {Q : Hp → Prop} {s' s'' : Shared} (o : Off X fp s4 H4 Q s') (ho : s''.os = s'.os) (hb : AllBare s''.gens) (hk : ∀ b o, s'.heap.get? b = some o → s''.heap.get? b = some o) : Off X fp s4 H4 Q s'' := by
  obtain ⟨H', h1, h2, h3, h4, h5⟩ := o
  exact ⟨H', ho.trans h1, hb, h3.trans (Un.kept hk), h4.kept hk, h5⟩
def allE (X : Cx) (fp : List Addr) (s4 : Shared) (H4 : Hp) (QT : Hp → Prop) : GenEnd := fun n s₀ r s1 => ((r = .ok (.ret .none) ∨ r = .ok .next) ∧ Off X fp s4 H4 QT s1) ∨ ∃ e, r = .error e ∧ False
/-- an item is handed out: c says whether the consumer goes on -/
def allY (X : Cx) (fp : List Addr) (s4 : Shared) (H4 : Hp) (st : Bool) (a : Addr) (g : Nat) (QF : Hp → Prop) : Protocol := fun n s₀ v s1 kap =>
  s1.heap.IsGen a g ∧ s1.heap.NoLimit ∧ AllBare s1.gens ∧ ∃ c, v = .bool c ∧ (c = !st → ∀ s', s'.os = s1.os → AllBare s'.gens → (∀ b o, s1.heap.get? b = some o → s'.heap.get? b = some o) → kap (.send .none) s') ∧ (c = st → Off X fp s4 H4 QF s1)
/-- the loop of all -/
theorem all_loop {fp : List Addr} {s4 : Shared} {H4 : Hp} {QT QF : Hp → Prop} {a : Addr} {g : Nat} {A : Around} {R : Result → Shared → Prop} (hh : A.handled = none) (hd : A.depth < recursionLimit)
    (hT : ∀ s', Off X fp s4 H4 QT s' → R (.ok (.ret (.bool true))) s') (hF : ∀ s', Off X fp s4 H4 QF s' → R (.ok (.ret (.bool false))) s') :
    ∀ (n : Nat) (s : Shared), s.heap.IsGen a g → s.heap.NoLimit → AllBare s.gens → (∃ gs, s.gens[g]? = some gs ∧ gs.Goes (model X.prog X.w) A.in1.in1 (allE X fp s4 H4 QT) (allY X fp s4 H4 false a g QF) n (.send .none) (s.setGen g .running)) →
      codeAny (model X.prog X.w) A (.builtin "all.loop" ⟨[.ref a], []⟩) R s := by
  intro n
  induction n with
  | zero =>
    intro s hg hl hb ⟨gs, hgs, hgo⟩
    have hgl : g < s.gens.size := (Array.getElem?_eq_some_iff.mp hgs).1
    refine codeAny_builtin F.entry_all_loop ?_
    rw [Around.under_plainId F.plain_all_loop _]
    show wpAny _ A.in1 (pyNext (.ref a) >>= _) _ _ s
    refine wpAny_bind (wpAny_gsz (n := g + 1) hgl (next_genG (Er := fun _ _ => False) (F := fun _ _ s1 => Off X fp s4 H4 QT s1) (Y := allY X fp s4 H4 false a g QF) (A := A.in1) hh hl hd hg hgs hgo (fun v s₁ gs' hbare hv => ?_) (fun s₁ hp h' hk => ?_) fun e s₁ he => he.elim))
    · intro hsz
      obtain ⟨hg1, hl1, hb1, c, rfl, hc1, hc2⟩ := hv
      cases c with
      | true => exact (hc1 rfl s₁ rfl hb1 fun _ _ e => e).elim
      | false =>
        refine wpAny_bind (wpAny_holding (wpAny_truthy_bool ?_))
        refine wpAny_bind (wpAny_letGo ?_)
        simp only [Bool.false_eq_true, if_false]
        refine wpAny_bind (wpAny_rule (wpAny_pure ?_))
        exact hF _ ((hc2 rfl).keeps rfl (allBare_setGen hb1 hbare) fun _ _ e => e)
    · intro hsz
      refine wpAny_bind (wpAny_rule (wpAny_pure ?_))
      obtain ⟨H', z1, z2, z3⟩ := id hp
      exact hT _ (hp.keeps rfl (allBare_setGen z2 rfl) hk)
  | succ n ih =>
    intro s hg hl hb ⟨gs, hgs, hgo⟩
    have hgl : g < s.gens.size := (Array.getElem?_eq_some_iff.mp hgs).1
    refine codeAny_builtin F.entry_all_loop ?_
    rw [Around.under_plainId F.plain_all_loop _]
    show wpAny _ A.in1 (pyNext (.ref a) >>= _) _ _ s
    refine wpAny_bind (wpAny_gsz (n := g + 1) hgl (next_genG (Er := fun _ _ => False) (F := fun _ _ s1 => Off X fp s4 H4 QT s1) (Y := allY X fp s4 H4 false a g QF) (A := A.in1) hh hl hd hg hgs hgo (fun v s₁ gs' hbare hv => ?_) (fun s₁ hp h' hk => ?_) fun e s₁ he => he.elim))
    · intro hsz
      obtain ⟨hg1, hl1, hb1, c, rfl, hc1, hc2⟩ := hv
      have hsz1 : g < s₁.gens.size := by
        have q : (s₁.setGen g gs').gens.size = s₁.gens.size := setGen_size _ _ _
        have hsz' : g + 1 ≤ (s₁.setGen g gs').gens.size := hsz
        omega
      refine wpAny_bind (wpAny_holding (wpAny_truthy_bool ?_))
      refine wpAny_bind (wpAny_letGo ?_)
      cases c with
      | true =>
        simp only [if_true]
        refine wpAny_pure ⟨plainId_quiet F.plain_all_loop _, ih (s₁.setGen g gs') hg1 hl1 (allBare_setGen hb1 hbare) ⟨gs', setGen_at hsz1, ?_⟩⟩
        exact hc1 rfl _ rfl (allBare_setGen (s := s₁.setGen g gs') (allBare_setGen hb1 hbare) rfl) fun _ _ e => e
      | false =>
        simp only [Bool.false_eq_true, if_false]
        refine wpAny_bind (wpAny_rule (wpAny_pure ?_))
        exact hF _ ((hc2 rfl).keeps rfl (allBare_setGen hb1 hbare) fun _ _ e => e)
    · intro hsz
      refine wpAny_bind (wpAny_rule (wpAny_pure ?_))
      obtain ⟨H', z1, z2, z3⟩ := id hp
      exact hT _ (hp.keeps rfl (allBare_setGen z2 rfl) hk)
/-- all(elt for tg in iter if ..): W by the turn and a measure, Nx what a turn is to reach -/
def tAllG (T : List (Addr × Str)) (wi : TI) (g : TG) (tt : TT) (te : TE) (vs : List Nat) : TE := fun σ H Q => wi σ H fun J H1 => LamX.Tabs T H1 ∧ ∀ H2, LamX.ExtN H1 H2 → LamX.Tabs T H2 → ∃ W : Nat → Nat → Hp → Prop, (∃ m, W 0 m H2) ∧ ∀ i m H, W i m H →
  (J.stop i H ∧ Q (.bl true) H) ∨ (J.go i H ∧ ∀ x H', J.yld i H x H' → g x (wipe σ vs) H' fun σ2 H2 => wipe σ2 vs = wipe σ vs ∧ tt σ2 H2 fun b H3 =>
    if b = true then te σ2 H3 fun y H4 => ∃ c, y = .bl c ∧ (c = true → ∃ m', m' < m ∧ W (i + 1) m' H4) ∧ (c = false → Q (.bl false) H4) else ∃ m', m' < m ∧ W (i + 1) m' H3)
theorem pe_allG {k : Nat} {T : List (Addr × Str)} {c P : Addr} {elt tg iter : Expr} {ifs : List Expr} {scope : Scope} {gpos pos p : Pos} {own : List (Str × Nat)} {wi : TI} {g : TG} {tt : TT} {te : TE} (hr : Room (k + 2) X.A) (hgl : Gl X "all") (hmg : X.mg "all" = none) (TB : LamX.TabB X.base X.mg c P) (hcode : X.env.code = .ref c)
    (hm : (P, X.env.qual ++ "<genexpr>") ∈ T) (hu : ∀ p ∈ T, p.1 = P → p.2 = X.env.qual ++ "<genexpr>") (ok : GxS X.N X.env.scope scope own) (hN : X.N.Nodup) (hi : PI X tg iter wi) (hs : ∀ v, genFold iter X.env v = pure v)
    (hg : ∀ (A : Around) (s : Shared) (H : Hp) (C : Addr) (cl : List (Str × Addr)) (code : Value) (fp : List Addr) (pn : List (Addr × Obj)), PG (gCx X A s H (genEnv scope cl C code builtinsNs X.env) fp pn) tg g)
    (ht : ∀ (A : Around) (s : Shared) (H : Hp) (C : Addr) (cl : List (Str × Addr)) (code : Value) (fp : List Addr) (pn : List (Addr × Obj)), Room k (A.deeper (genEnv scope cl C code builtinsNs X.env)) → PTs (gCx X A s H (genEnv scope cl C code builtinsNs X.env) fp pn) ifs tt)
    (he : ∀ (A : Around) (s : Shared) (H : Hp) (C : Addr) (cl : List (Str × Addr)) (code : Value) (fp : List Addr) (pn : List (Addr × Obj)), Room k (A.deeper (genEnv scope cl C code builtinsNs X.env)) → PE (gCx X A s H (genEnv scope cl C code builtinsNs X.env) fp pn) elt te)
    (hb : bootBuiltins "all" = some (.builtin "all") := by rfl)
    (hst : starEach [.GeneratorExp elt [⟨tg, iter, ifs, 0⟩] scope gpos] X.env = (false, eval (.GeneratorExp elt [⟨tg, iter, ifs, 0⟩] scope gpos) X.env) :: starEach [] X.env := by rfl) :
    PE X (.Call (.Name "all" p) [.GeneratorExp elt [⟨tg, iter, ifs, 0⟩] scope gpos] [] pos) (tAllG T wi g tt te (own.map (·.2))) := by
  refine ⟨fun pins s σ H Q I h => ?_⟩
  refine wpAny_Call_Name_kw (ld_blt I hgl hmg hb ?_)
  refine PyProof.Rows.callWith_builtin1 ?_ hst (by rfl)
  rw [hst]
  show wpAny _ _ (spliced ((false, eval (.GeneratorExp elt [⟨tg, iter, ifs, 0⟩] scope gpos) X.env) :: backTo pos (starEach [] X.env))) _ _ s
  refine Calls.spliced_cons (gen_make (by have := hr.dp; omega) TB hcode hm hu ok hi hs I h fun s4 H4 code J fp it tn a t1 t2 s5 M ⟨W, ⟨m0, w0⟩, turn⟩ => ?_)
  refine Calls.spliced_nil ?_
  refine call_function_tree F.kind_all F.plain_all F.entry_all (F.args_all1 _) ?_
  unfold Builtin.«all»
  refine wpAny_bind (m := oneArg "all" _) (wpAny_pure ?_)
  have hgen : s5.heap.IsGen a s4.gens.size := genObj_at M.obj
  have hb5 : AllBare s5.gens := by rw [M.gens]; exact M.inv.bare.push rfl
  have hl5 : s5.heap.NoLimit := M.inv.nolimit.keeps M.keep
  refine wpAny_bind (wpAny_pyIter_gen hgen ?_)
  have hra : Room (k + 1) X.A.in1.in1 := ⟨hr.hd, by have := hr.dp; show X.A.depth + 3 * (k + 1) + 5 < _; omega, by have := hr.un; show X.A.units + 1 + 1 + 16 * (k + 1) + 200 < _; omega⟩
  generalize hce : genEnv scope (cloFrom X.env.cells scope.names []) s4.heap.objs.size code builtinsNs X.env = ce
  have cs : ce.scope = scope := by rw [← hce]; rfl
  have E : Eats (gCx X X.A.in1.in1 s4 H4 ce fp [(a, genObj s4.gens.size (X.env.qual ++ "<genexpr>") t1 t2)]) fp J (wipe σ (own.map (·.2))) (own.map (·.2)) g tt te (fun i m _ H => W i m H) (fun ip _ => ip = []) (fun n m _ => m < n) (fun _ H => Q (.bl true) H)
      (fun i m _ y H => ∃ c, y = .bl c ∧ (c = true → ∃ m', m' < m ∧ W (i + 1) m' H) ∧ (c = false → Q (.bl false) H)) (allE X fp s4 H4 fun H => Q (.bl true) H) (allY X fp s4 H4 false a s4.gens.size fun H => Q (.bl false) H) := by
    have off : ∀ {ip : List (Addr × Obj)} {σ' : L2.St} {H' : Hp} {s' : Shared} {R : Hp → Prop}, Inv (gCx X X.A.in1.in1 s4 H4 ce fp [(a, genObj s4.gens.size (X.env.qual ++ "<genexpr>") t1 t2)]) ip σ' H' s' → R H' → Off X fp s4 H4 R s' := fun I' r => ⟨_, I'.os, I'.bare, I'.base, I'.hok, r⟩
    refine ⟨fun ip ys h p hp => ?_, fun n m s₀ ys ip H' s' _ _ I' q => .inl ⟨.inr rfl, off I' q⟩, fun n m i ys y H' hj _ => ⟨n - 1, by omega⟩, fun n m m' ys h1 h2 => by omega, fun n m i s₀ ys ip σ' H' s' y v kap hj hk I' rv yc w => ?_, fun i m ys H hw => turn i m H hw⟩
    · rw [h] at hp
      cases hp
    · obtain ⟨c, rfl, c1, c2⟩ := yc
      obtain rfl : v = .bool c := rv
      subst hk
      refine ⟨genObj_at (I'.pin (a, _) (List.mem_append_left _ (List.mem_singleton.mpr rfl))).1, I'.nolimit, I'.bare, c, rfl, fun hc s2 ho hb2 hk2 => ?_, fun hc => off I' (c2 hc)⟩
      obtain ⟨m', hm', w'⟩ := c1 hc
      exact w [] m' s2 hm' w' (by omega) rfl (I'.call' (ch := []) ho (Un.kept hk2) (I'.hok.kept hk2) hb2 fun b z => by simp at z) fun b _ o e => hk2 b o e
  have hgs : s5.gens[s4.gens.size]? = some (.fresh (.compStart (.GeneratorExp elt [⟨tg, iter, ifs, 0⟩] scope gpos) 0 (.ref it) .none ce)) := by rw [M.gens, ← hce]; exact Array.getElem?_push_size ..
  have pg := hg X.A.in1.in1 s4 H4 s4.heap.objs.size (cloFrom X.env.cells scope.names []) code fp [(a, genObj s4.gens.size (X.env.qual ++ "<genexpr>") t1 t2)]
  have pt := ht X.A.in1.in1 s4 H4 s4.heap.objs.size (cloFrom X.env.cells scope.names []) code fp [(a, genObj s4.gens.size (X.env.qual ++ "<genexpr>") t1 t2)] (hra.deeper _)
  have pe := he X.A.in1.in1 s4 H4 s4.heap.objs.size (cloFrom X.env.cells scope.names []) code fp [(a, genObj s4.gens.size (X.env.qual ++ "<genexpr>") t1 t2)] (hra.deeper _)
  have I6 := M.inv' (s6 := s5.setGen s4.gens.size .running) (A := X.A.in1.in1) ok hN hr.hd M.inv.ok.frames (fun _ _ e => e) rfl (allBare_setGen hb5 rfl)
  rw [hce] at pg pt pe I6
  refine wpAny_pure ⟨plainId_quiet F.plain_all_loop _, all_loop (X := X) (QT := fun H => Q (.bl true) H) (QF := fun H => Q (.bl false) H) (fp := fp) (s4 := s4) (H4 := H4) hr.hd (by have := hr.dp; show X.A.depth < _; omega) (fun s' o => ?_) (fun s' o => ?_) (m0 + 1) s5 hgen hl5 hb5 ⟨_, hgs, rfl, ?_⟩⟩
  · obtain ⟨H', I', q⟩ := o.back M
    exact ⟨.bl true, H', I', rfl, q⟩
  · obtain ⟨H', I', q⟩ := o.back M
    exact ⟨.bl false, H', I', rfl, q⟩
  · exact seg_gx0 E M.turn pg pt pe (by rw [cs]; exact ok.co) (fun p hp z => by
      rw [List.mem_singleton.mp hp] at z
      exact absurd (M.fp _ z).2 (Nat.not_lt.mpr (Nat.le_of_lt M.lt))) m0 (m0 + 1) _ _ H4 [] (Nat.lt_succ_self _) w0 rfl I6 (M.turn.keep _ _ _ M.st fun b _ o e => M.keep b o e) fun b hb => (M.fp b hb).1.1
end
end GX
namespace GX
open PySem PySem.Spec PyProof.Rows L2 GenW
section
variable {X : Cx} {pins : List (Addr × Obj)} {σ : L2.St} {H : Hp} {s : Shared}
/-- (elt for tg in iter if ..), all of which will be taken: W by the turn, a measure and what is out -/
def tGx (T : List (Addr × Str)) (wi : TI) (g : TG) (tt : TT) (te : TE) (vs : List Nat) : TGen := fun σ H cont => wi σ H fun J H1 => LamX.Tabs T H1 ∧ ∀ H2, LamX.ExtN H1 H2 → LamX.Tabs T H2 → ∃ W : Nat → Nat → List V → Hp → Prop, (∃ m, W 0 m [] H2) ∧ ∀ i m ys H, W i m ys H →
  (J.stop i H ∧ cont ys H) ∨ (J.go i H ∧ ∀ x H', J.yld i H x H' → g x (wipe σ vs) H' fun σ2 H2 => wipe σ2 vs = wipe σ vs ∧ tt σ2 H2 fun b H3 =>
    if b = true then te σ2 H3 fun y H4 => ys.length < sizeLine ∧ ∃ m', m' < m ∧ W (i + 1) m' (ys ++ [y]) H4 else ∃ m', m' < m ∧ W (i + 1) m' ys H3)
theorem pgen_gx {k : Nat} {T : List (Addr × Str)} {c P : Addr} {elt tg iter : Expr} {ifs : List Expr} {scope : Scope} {gpos : Pos} {own : List (Str × Nat)} {wi : TI} {g : TG} {tt : TT} {te : TE} {E : XK} (hr : Room (k + 1) X.A) (TB : LamX.TabB X.base X.mg c P) (hcode : X.env.code = .ref c)
    (hm : (P, X.env.qual ++ "<genexpr>") ∈ T) (hu : ∀ p ∈ T, p.1 = P → p.2 = X.env.qual ++ "<genexpr>") (ok : GxS X.N X.env.scope scope own) (hN : X.N.Nodup) (hi : PI X tg iter wi) (hs : ∀ v, genFold iter X.env v = pure v)
    (hg : ∀ (A : Around) (s : Shared) (H : Hp) (C : Addr) (cl : List (Str × Addr)) (code : Value) (fp : List Addr) (pn : List (Addr × Obj)), PG (gCx X A s H (genEnv scope cl C code builtinsNs X.env) fp pn) tg g)
    (ht : ∀ (A : Around) (s : Shared) (H : Hp) (C : Addr) (cl : List (Str × Addr)) (code : Value) (fp : List Addr) (pn : List (Addr × Obj)), Room k (A.deeper (genEnv scope cl C code builtinsNs X.env)) → PTs (gCx X A s H (genEnv scope cl C code builtinsNs X.env) fp pn) ifs tt)
    (he : ∀ (A : Around) (s : Shared) (H : Hp) (C : Addr) (cl : List (Str × Addr)) (code : Value) (fp : List Addr) (pn : List (Addr × Obj)), Room k (A.deeper (genEnv scope cl C code builtinsNs X.env)) → PE (gCx X A s H (genEnv scope cl C code builtinsNs X.env) fp pn) elt te) :
    PGen X (k + 1) (.GeneratorExp elt [⟨tg, iter, ifs, 0⟩] scope gpos) (tGx T wi g tt te (own.map (·.2))) E := by
  refine ⟨fun pins s σ H cont I h => ?_⟩
  refine gen_make (by have := hr.dp; omega) TB hcode hm hu ok hi hs I h fun s4 H4 code J fp it tn a t1 t2 s5 M ⟨W, ⟨m0, w0⟩, turn⟩ => ?_
  have hgen : s5.heap.IsGen a s4.gens.size := genObj_at M.obj
  have hb5 : AllBare s5.gens := by rw [M.gens]; exact M.inv.bare.push rfl
  have hl5 : s5.heap.NoLimit := M.inv.nolimit.keeps M.keep
  refine ⟨H4, s4, fp, M.inv, fun b hb => let f := (M.fp b hb).1; ⟨f.2.2.2.1, f.2.1, f.2.2.2.2.1, f.2.2.2.2.2⟩, a, s4.gens.size, .compStart (.GeneratorExp elt [⟨tg, iter, ifs, 0⟩] scope gpos) 0 (.ref it) .none (genEnv scope (cloFrom X.env.cells scope.names []) s4.heap.objs.size code builtinsNs X.env), rfl, Nat.le_of_lt M.lt, M.lt', hgen, by rw [M.gens]; exact Array.getElem?_push_size .., M.os, hb5, hl5, M.keep, fun A S s2 hrA hfr hS hk2 hSo hos hb2 => ?_⟩
  obtain ⟨cS, hSe⟩ := hSo
  have pg := hg A s4 H4 s4.heap.objs.size (cloFrom X.env.cells scope.names []) code fp [(a, genObj s4.gens.size (X.env.qual ++ "<genexpr>") t1 t2)]
  have pt := ht A s4 H4 s4.heap.objs.size (cloFrom X.env.cells scope.names []) code fp [(a, genObj s4.gens.size (X.env.qual ++ "<genexpr>") t1 t2)] (hrA.deeper _)
  have pe := he A s4 H4 s4.heap.objs.size (cloFrom X.env.cells scope.names []) code fp [(a, genObj s4.gens.size (X.env.qual ++ "<genexpr>") t1 t2)] (hrA.deeper _)
  have I6 := M.inv' (s6 := s2) (A := A) ok hN hrA.hd hfr hk2 (hos.trans M.os.symm) hb2
  generalize hce : genEnv scope (cloFrom X.env.cells scope.names []) s4.heap.objs.size code builtinsNs X.env = ce at pg pt pe I6 ⊢
  have cs : ce.scope = scope := by rw [← hce]; rfl
  have cl : ce.locals = s4.heap.objs.size := by rw [← hce]; rfl
  have hSa : a < S := Nat.lt_of_lt_of_le M.lt' hS
  have hS4 : s4.heap.objs.size < S := Nat.lt_trans M.lt hSa
  have hSn : ∀ {ip : List (Addr × Obj)} {σ' : L2.St} {H' : Hp} {s' : Shared}, Inv (gCx X A s4 H4 ce fp [(a, genObj s4.gens.size (X.env.qual ++ "<genexpr>") t1 t2)]) ip σ' H' s' → True := fun _ => trivial
  have hSst : S ∉ frs X.stack := fun z => by
    rcases List.mem_cons.mp (M.inv.stkSub _ z) with e | e
    · have h1 := M.inv.lt
      rw [← e] at h1
      exact Nat.lt_irrefl _ (Nat.lt_trans h1 hS4)
    · exact M.inv.nofs (Nat.le_of_lt hS4) e
  have I7 : Inv (gCx X A s4 H4 ce fp [(a, genObj s4.gens.size (X.env.qual ++ "<genexpr>") t1 t2)]) [(S, lstObj #[] cS)] (wipe σ (own.map (·.2))) H4 s2 := I6.pins_of fun p hp => by
    rw [List.mem_singleton.mp hp]
    exact ⟨hSe, M.inv.hok.fresh (Nat.le_of_lt hS4), by show S ≠ ce.locals; rw [cl]; exact Nat.ne_of_gt hS4, hSst, fun v q => by cases q⟩
  have hcells : ∀ x c, ce.cells.lookup x = some c → c ≠ S := fun x c e z => by
    obtain ⟨v, q⟩ := I6.cell x c e
    have I6b := I6.freeC x c e
    have e2 : (cloFrom X.env.cells scope.names []).lookup x = some c := by rw [← hce] at e; exact e
    rcases cloFrom_mem (PySem.mem_of_lookup e2) with hm | ⟨h1, h2⟩
    · cases hm
    · have h3 : ∃ c1, X.env.cells.lookup x = some c1 := by
        rcases ok.free _ h1 rfl with k | k
        · exact M.inv.ok.has _ (.inl k)
        · exact M.inv.ok.has _ (.inr k)
      obtain ⟨c1, hc1⟩ := h3
      rw [hc1] at h2
      have h4 : c = c1 := h2
      obtain ⟨v1, q1⟩ := M.inv.cell x c1 hc1
      have := q1.lt
      rw [← h4, z] at this
      exact Nat.lt_irrefl _ (Nat.lt_trans this hS4)
  have hAp : Apart (gCx X A s4 H4 ce fp [(a, genObj s4.gens.size (X.env.qual ++ "<genexpr>") t1 t2)]) S := ⟨Nat.le_of_lt hS4, by show S ≠ ce.locals; rw [cl]; exact Nat.ne_of_gt hS4, hcells⟩
  have hSfp : S ∉ fp := fun z => Nat.lt_irrefl _ (Nat.lt_trans (M.fp S z).2 hS4)
  have E : Eats (gCx X A s4 H4 ce fp [(a, genObj s4.gens.size (X.env.qual ++ "<genexpr>") t1 t2)]) fp J (wipe σ (own.map (·.2))) (own.map (·.2)) g tt te W (fun ip ys => ∃ acc c, Vals ys acc.toList ∧ ip = [(S, lstObj acc c)]) (fun n _ ys => n + ys.length = sizeLine) cont
      (fun i m ys y H => ys.length < sizeLine ∧ ∃ m', m' < m ∧ W (i + 1) m' (ys ++ [y]) H) (REnd X.prog X.w X.stack H4 s4 fp S a s4.gens.size cont E) (YItem s4 S a s4.gens.size) := by
    refine ⟨fun ip ys h p hp => ?_, fun n m s₀ ys ip H' s' hj hk I' q => ?_, fun n m i ys y H' hj hy => ⟨n - 1, ?_⟩, fun n m m' ys h1 h2 => h2, fun n m i s₀ ys ip σ' H' s' y v kap hj hk I' rv yc w => ?_, fun i m ys H hw => turn i m ys H hw⟩
    · obtain ⟨acc, c, _, rfl⟩ := h
      rw [List.mem_singleton.mp hp]
      exact hSfp
    · obtain ⟨acc, c, hv, rfl⟩ := hk
      obtain ⟨p1, p2, _⟩ := I'.pin (S, lstObj acc c) (List.mem_append_right _ (List.mem_singleton.mpr rfl))
      exact .inl ⟨.inr rfl, H', ys, acc, c, I'.os, I'.bare, I'.base, I'.hok, p2, p1, hv, by omega, q⟩
    · have := hy.1
      have hj : n + ys.length = sizeLine := hj
      omega
    · obtain ⟨acc, c, hv, rfl⟩ := hk
      obtain ⟨p1, p2, _⟩ := I'.pin (S, lstObj acc c) (List.mem_append_right _ (List.mem_singleton.mpr rfl))
      obtain ⟨_, m', hm', w'⟩ := yc
      have hj : n + 1 + ys.length = sizeLine := hj
      have hsz : acc.size = ys.length := by
        have e1 := hv.length
        have e2 : acc.toList.length = acc.size := by simp
        omega
      refine ⟨I'.os, I'.bare, I'.nolimit, genObj_at (I'.pin (a, _) (List.mem_append_left _ (List.mem_singleton.mpr rfl))).1, ⟨acc, c, p1, by rw [hsz]; exact hj⟩, fun s3 sl => ?_⟩
      obtain ⟨acc', c', hv', I3⟩ := GI.woken (ip := []) (fun p hp => by rw [List.mem_singleton.mp hp]; exact Nat.ne_of_lt hSa) (fun p hp => by cases hp) hAp (⟨acc, c, hv, I'⟩ : GI _ S [] ys σ' H' s') rv sl
      exact w [(S, lstObj acc' c')] m' s3 hm' w' (by show n + (ys ++ [y]).length = sizeLine; rw [List.length_append]; simp; omega) ⟨acc', c', hv', rfl⟩ I3 fun b hb o e => sl.keep b o (fun z => hSfp (by rw [← z]; exact hb)) e
  exact seg_gx0 E M.turn pg pt pe (by rw [cs]; exact ok.co) (fun p hp z => by
      rw [List.mem_singleton.mp hp] at z
      exact absurd (M.fp _ z).2 (Nat.not_lt.mpr (Nat.le_of_lt M.lt))) m0 sizeLine _ _ H4 _ (by show sizeLine + 0 = sizeLine; omega) w0 ⟨#[], cS, .nil, rfl⟩ I7 (M.turn.keep _ _ _ M.st fun b _ o e => hk2 b o (M.keep b o e)) fun b hb => (M.fp b hb).1.1
end
end GX
namespace GX
open PySem PySem.Spec PyProof.Rows L2 GenW
section
variable {P : Program} {w : World} {outer : List Env} {H : Hp} {sc s : Shared} {ex : List Addr} {Q : List V → Hp → Prop} {EX : XK} {A : Around} {k : Nat} {u : Value} {E : Value → Shared → Prop}
theorem noCX (hx : ∀ cls d H, ¬ EX cls d H) {e : Value} {s' : Shared} (c : CX P w outer H sc EX e s') : False := by
  obtain ⟨a, B, H', cls, d, _, _, _, _, _, _, _, hW⟩ := c
  exact hx cls d H' hW
/-- all that the generator gives, in a list of the consumer's own -/
theorem collectG {Q' : List Value → Shared → Prop} (hx : ∀ cls d H, ¬ EX cls d H) (hr : Room (k + 2) A) (hfr : A.frames = some outer) (h : GMade P w k outer H sc ex Q EX u s)
    (hQ : ∀ (s' : Shared) (acc : Array Value) (H' : Hp) (ys : List V), Vals ys acc.toList → ys.length ≤ sizeLine → s'.os = sc.os → AllBare s'.gens → Un (frs outer) ex H H' sc.heap s'.heap → HOk P w H' s'.heap → Q ys H' → Q' acc.toList s') :
    wpAny (model P w) A (collect u) Q' E s := by
  obtain ⟨a, g, c, rfl, ha1, ha2, hg, hgs, hos, hb, hl, hkp, wake⟩ := h
  have hSa : s.heap.objs.size ≠ a := Nat.ne_of_gt ha2
  have hcl : cStatics < s.heap.objs.size := let ⟨_, hn, _⟩ := hl; hn.lt
  have hSc : s.heap.objs.size ≠ cStatics := Nat.ne_of_gt hcl
  unfold collect
  refine wpAny_bind (wpAny_runValue (codeAny_builtin F.entry_proto_collect ?_))
  rw [Around.under_plainId F.plain_proto_collect _]
  show wpAny _ A.in1 (newList [] >>= fun l => again (.builtin "list.__iadd__" ⟨[l, .ref a], []⟩)) _ _ s
  refine wpAny_bind (wpAny_newObj_type ?_)
  refine wpAny_pure ⟨plainId_quiet F.plain_list_iadd _, codeAny_builtin F.entry_list_iadd ?_⟩
  rw [Around.under_plainId F.plain_list_iadd _]
  have up : ∀ (h : Heap) (f : Obj → Obj), (∀ b o, s.heap.get? b = some o → h.get? b = some o) → ∀ b o, s.heap.get? b = some o → (h.update s.heap.objs.size f).get? b = some o := fun h f q b o e =>
    (Heap.get?_update_other _ _ (Ne.symm (Nat.ne_of_lt (Heap.lt_size e)))).trans (q b o e)
  have k1 : ∀ b o, s.heap.get? b = some o → (s.heap.push { cls := .type "list", data := .seq ([] : List Value).toArray }).get? b = some o := fun b o e => Heap.get?_push_of_some _ e
  have gty : ∀ {h : Heap}, (∀ b o, s.heap.get? b = some o → h.get? b = some o) → h.IsGen a g := fun {h} q => hg.keeps q
  show wpAny _ A.in1 (Builtin.List.listExtendWith (.ref s.heap.objs.size) (.ref a) (.ref s.heap.objs.size)) _ _ _
  unfold Builtin.List.listExtendWith
  refine wpAny_bind (wpAny_typeOf (Heap.IsGen.typeIs (s := { s with heap := _ }) (gty k1)) ?_)
  have h1 : Builtin.List.listSameRef (.ref s.heap.objs.size) (.ref a) = false := by simp [Builtin.List.listSameRef, hSa]
  have h2 : (Value.type "generator" == Value.type "list") = false := by decide
  have h3 : (Value.type "generator" == Value.type "tuple") = false := by decide
  simp only [h1, h2, h3, Bool.or_false, Bool.false_eq_true, if_false]
  refine wpAny_bind (wpAny_pyIter_gen (s := { s with heap := _ }) (gty k1) ?_)
  refine wpAny_bind (wpAny_holding ?_)
  unfold Builtin.List.listLengthHint
  refine wpAny_bind (wpAny_specialOf (Heap.IsGen.typeIs (s := { s with heap := _ }) (gty k1)) F.gen_no_len ?_)
  show wpAny _ A.in1 (specialOf (Value.ref a) (Str.ofString "__length_hint__") >>= _) _ _ _
  refine wpAny_bind (wpAny_specialOf (Heap.IsGen.typeIs (s := { s with heap := _ }) (gty k1)) F.gen_no_hint ?_)
  refine wpAny_pure ?_
  show wpAny _ A.in1 (rule "list.extend.makes-room" >>= fun _ => Builtin.List.listTouch (.ref s.heap.objs.size) >>= fun _ =>
    again (.builtin "list.extend.loop" ⟨[.ref s.heap.objs.size, .ref a, .ref s.heap.objs.size], []⟩)) _ _ _
  refine wpAny_bind (wpAny_rule ?_)
  have hS1 : (s.heap.push { cls := .type "list", data := .seq ([] : List Value).toArray }).get? s.heap.objs.size = some { cls := .type "list", data := .seq ([] : List Value).toArray } := Heap.get?_push_size _ rfl
  refine wpAny_bind ?_
  show wpAny _ A.in1 (updateSeq s.heap.objs.size (·.push .none) >>= fun _ => updateSeq s.heap.objs.size (·.pop)) _ _ _
  refine wpAny_bind (wpAny_updateSeq hS1 rfl ?_)
  have hS2 := Heap.get?_update_self (Obj.mapSeq (·.push Value.none)) hS1 rfl
  refine wpAny_updateSeq (hz := by seq_fits) hS2 rfl ?_
  have hS3 := Heap.get?_update_self (Obj.mapSeq (·.pop)) hS2 rfl
  have k4 := up _ (Obj.mapSeq (·.pop)) (up _ (Obj.mapSeq (·.push Value.none)) k1)
  refine wpAny_pure ⟨plainId_quiet F.plain_extend_loop _, ?_⟩
  refine drain (P := P) (w := w) (outer := outer) (H := H) (sc := sc) (ex := ex) (Q := Q) (EX := EX) (A := A) (g := g) hr.hd (by have := hr.dp; show A.depth < _; omega) hSa hSc
    (fun s' acc c H' ys q1 q2 q3 q4 q5 q6 q7 q8 q9 => ?_) (fun e s' hc => (noCX hx hc).elim)
    sizeLine _ (gty k4) (hl.keeps k4) ⟨_, hgs, rfl, ?_⟩
  · show wpAny _ A (load s.heap.objs.size >>= _) _ _ s'
    refine wpAny_bind (wpAny_load q1 ?_)
    exact wpAny_pure (hQ s' acc H' ys q2 q3 q4 q5 q6 q7 q9)
  · refine wake _ _ _ ⟨hr.hd, ?_, ?_⟩ hfr (Nat.le_refl _) k4 ⟨_, hS3⟩ hos (allBare_setGen (s := { s with heap := _ }) hb rfl)
    · have := hr.dp
      show A.depth + 3 * k + 5 < _
      omega
    · have := hr.un
      show A.units + 1 + 1 + 16 * k + 200 < _
      omega
theorem tuple_newG {Q1 : Value → Shared → Prop} (hx : ∀ cls d H, ¬ EX cls d H) (hr : Room (k + 3) A) (hfr : A.frames = some outer) (h : GMade P w k outer H sc ex Q EX u s)
    (hQ : ∀ (s' : Shared) (acc : Array Value) (H' : Hp) (ys : List V), Vals ys acc.toList → ys.length ≤ sizeLine → s'.os = sc.os → AllBare s'.gens → Un (frs outer) ex H H' sc.heap s'.heap → HOk P w H' s'.heap → Q ys H' → Q1 (.ref s'.heap.objs.size) { s' with heap := s'.heap.push { cls := .type "tuple", data := .seq acc } }) :
    codeAny (model P w) A (.call (.builtin "tuple.__new__") ⟨[.type "tuple", u], []⟩) (wants Q1 E) s := by
  have hh := h
  obtain ⟨a, g, c, rfl, ha1, ha2, hg, hgs, hos, hb, hl, hkp, wake⟩ := h
  refine codeAny_of_tree ?_
  show wpAny _ A.in1 (do checkBuiltinCall "tuple.__new__" ⟨[.type "tuple", .ref a], []⟩; again (.builtin "tuple.__new__" ⟨[.type "tuple", .ref a], []⟩)) _ _ s
  refine wpAny_bind (wpAny_of_eq (F.newCall_tuple_1 _) (wpAny_pure ⟨plainId_quiet F.plain_tuple_new _, codeAny_builtin F.entry_tuple_new ?_⟩))
  rw [Around.under_plainId F.plain_tuple_new _]
  have hsub := sub_tuple_self
  have hinit := init_tuple_lookup
  have hmh := madeHere_tuple
  have hTI : s.TypeIs (.ref a) "generator" := Heap.IsGen.typeIs hg
  have hr1 : Room (k + 2) A.in1 := ⟨hr.hd, by have := hr.dp; show A.depth + 3 * (k + 2) + 5 < _; omega, by have := hr.un; show A.units + 1 + 16 * (k + 2) + 200 < _; omega⟩
  wp_walk using wpAny_typeOf hTI, collectG (A := A.in1) hx hr1 hfr hh
  intro s' acc H' ys q1 q2 q3 q4 q5 q6 q7
  show wpAny _ _ (Builtin.Tuple.tupleExact acc.toList.toArray >>= fun v => ret v) _ _ _
  unfold Builtin.Tuple.tupleExact
  have hsz : acc.size ≤ sizeLine := by
    have e1 := q1.length
    have e2 : acc.toList.length = acc.size := by simp
    omega
  refine wpAny_bind (wpAny_newObj_type ?_ (by show acc.toList.toArray.size ≤ sizeLine; simp only [Array.toArray_toList]; exact hsz))
  refine wpAny_pure ?_
  have e : acc.toList.toArray = acc := by simp
  rw [e]
  exact hQ s' acc H' ys q1 q2 q3 q4 q5 q6 q7
theorem call_tupleG {Q' : Value → Shared → Prop} (hx : ∀ cls d H, ¬ EX cls d H) (hr : Room (k + 4) A) (hfr : A.frames = some outer) (h : GMade P w k outer H sc ex Q EX u s)
    (hQ : ∀ (s' : Shared) (acc : Array Value) (H' : Hp) (ys : List V), Vals ys acc.toList → ys.length ≤ sizeLine → s'.os = sc.os → AllBare s'.gens → Un (frs outer) ex H H' sc.heap s'.heap → HOk P w H' s'.heap → Q ys H' → Q' (.ref s'.heap.objs.size) { s' with heap := s'.heap.push { cls := .type "tuple", data := .seq acc } }) :
    wpAny (model P w) A (call (.type "tuple") [u]) Q' E s := by
  have hr1 : Room (k + 3) A.in1 := ⟨hr.hd, by have := hr.dp; show A.depth + 3 * (k + 3) + 5 < _; omega, by have := hr.un; show A.units + 1 + 16 * (k + 3) + 200 < _; omega⟩
  have hu : ∃ a, u = .ref a := by
    obtain ⟨a, g, c, rfl, _⟩ := h
    exact ⟨a, rfl⟩
  obtain ⟨a, rfl⟩ := hu
  refine callType_codes (Q₁ := fun obj s₁ => s₁.TypeIs obj "tuple" ∧ Q' obj s₁) F.called_tuple (F.typeCall_tuple_1 _) F.entry_object_init
    (tuple_newG (A := A.in1) hx hr1 hfr h fun s' acc H' ys q1 q2 q3 q4 q5 q6 q7 => ⟨⟨_, Heap.get?_push_size _ rfl, rfl⟩, hQ s' acc H' ys q1 q2 q3 q4 q5 q6 q7⟩) fun obj s₁ h₁ => ?_
  exact ⟨h₁.1, F.args_object_init_2 obj _, object_init_meets F.called_tuple.init.lookup F.called_tuple.made (by decide) P w A.in1 _ s₁ ⟨h₁.1, rfl, h₁.2⟩⟩
end
section
variable {X : Cx}
def tTupG (tg : TGen) : TE := fun σ H Q => tg σ H fun out H2 => ∀ p, H2 p = none → Q (.ref p) (upd H2 p (.tup out))
/-- tuple(g) -/
theorem pe_tupG {k : Nat} {e : Expr} {tg : TGen} {p pos : Pos} (h : PGen X k e tg (fun _ _ _ => False)) (hr : Room (k + 4) X.A) (hg : Gl X "tuple") (hm : X.mg "tuple" = none) (na : starEach [e] X.env = (false, eval e X.env) :: starEach [] X.env := by rfl) :
    PE X (.Call (.Name "tuple" p) [e] [] pos) (tTupG tg) := by
  refine ⟨fun pins s σ H Q I hq => ?_⟩
  refine Call_ (ld_blt I hg hm boot_tuple (PyProof.Rows.callWith_type1 ?_ na))
  refine args_cons (thn (h.run pins s σ H _ I hq) fun u s1 ⟨H1, sc, ex, I1, hex, hG⟩ => args_nil ?_) na
  refine call_tupleG (fun _ _ _ z => z) hr I1.ok.frames hG fun s' acc H' ys q1 q2 q3 q4 q5 q6 q7 => ?_
  have I2 : Inv X pins σ H' s' := I1.call' (ch := ex) q3 q5 q6 q4 hex
  have I3 : Inv X pins σ (upd H' s'.heap.objs.size (.tup ys)) { s' with heap := s'.heap.push { cls := .type "tuple", data := .seq acc } } :=
    I2.laid (t' := s'.toks) (fun b o e => Heap.get?_push_of_some _ e) (Nat.le_refl _) (show ObjOk X.prog X.w _ _ _ (.tup ys) from ⟨q2, acc.toList, q1, by have := IsTup.new s'.heap acc.toList.toArray; simpa using this⟩)
  exact ⟨.ref s'.heap.objs.size, _, I3, rfl, q7 _ (I2.hok.fresh (Nat.le_refl _))⟩
end
end GX
namespace GX
open PySem PySem.Spec PyProof.Rows L2 GenW
end GX
namespace GX
open PySem PySem.Spec PyProof.Rows L2 GenW
/-- what a consumer wants of the walk of a block with two clauses -/
structure Eats2 (Z : Cx) (fp SA : List Addr) (J : It) (σ : L2.St) (vs vs1 : List Nat) (g : TG) (tt : TT) (wi1 : TI) (g1 : TG) (tt1 : TT) (te : TE) (W : Nat → Nat → List V → Hp → Prop) (K : List (Addr × Obj) → List V → Prop) (JN : Nat → List V → Prop) (QE : List V → Hp → Prop) (YC : List V → V → Hp → Prop → Prop) (RE : GenEnd) (YP : Protocol) : Prop where
  addr : ∀ ip ys, K ip ys → ∀ p ∈ ip, p.1 ∈ SA
  has : ∀ ip ys, K ip ys → ∀ a ∈ SA, ∃ o, (a, o) ∈ ip
  sa : ∀ b ∈ fp, b ∉ SA
  fin : ∀ n s₀ ys ip H' s', JN n ys → K ip ys → Inv Z ip σ H' s' → QE ys H' → RE n s₀ (.ok .next) s'
  pos : ∀ n ys y H' N, JN n ys → YC ys y H' N → ∃ n', n = n' + 1
  give : ∀ n s₀ ys ip σ' H' s' y v kap N, JN (n + 1) ys → K ip ys → Inv Z ip σ' H' s' → RelV y v → YC ys y H' N →
    (N → ∀ ip2 s2, JN n (ys ++ [y]) → K ip2 (ys ++ [y]) → Inv Z ip2 σ' H' s2 → (∀ b, b ∉ SA → ∀ o, s'.heap.get? b = some o → s2.heap.get? b = some o) → kap (.send .none) s2) → YP n s₀ v s' kap
  turn : ∀ i m ys H, W i m ys H → (J.stop i H ∧ QE ys H) ∨ (J.go i H ∧ ∀ x H', J.yld i H x H' → g x σ H' fun σ2 H2 => wipe σ2 vs = σ ∧ tt σ2 H2 fun b H3 =>
    if b = true then wi1 σ2 H3 fun J1 H4 => ∃ W1 : Nat → Nat → List V → Hp → Prop, (∃ k, W1 0 k ys H4) ∧ ∀ j k ys H, W1 j k ys H →
      (J1.stop j H ∧ ∃ m', m' < m ∧ W (i + 1) m' ys H) ∨ (J1.go j H ∧ ∀ x H', J1.yld j H x H' → g1 x (wipe σ2 vs1) H' fun σ3 H5 => wipe σ3 vs1 = wipe σ2 vs1 ∧ tt1 σ3 H5 fun b H6 =>
        if b = true then te σ3 H6 fun y H7 => YC ys y H7 (∃ k', k' < k ∧ W1 (j + 1) k' (ys ++ [y]) H7) else ∃ k', k' < k ∧ W1 (j + 1) k' ys H6)
    else ∃ m', m' < m ∧ W (i + 1) m' ys H3)
section
variable {X : Cx} {A : Around} {s4 : Shared} {H4 : Hp} {cenv : Env} {fp SA : List Addr} {pn : List (Addr × Obj)} {J : It} {σ : L2.St} {vs vs1 : List Nat} {g : TG} {tt : TT} {wi1 : TI} {g1 : TG} {tt1 : TT} {te : TE} {W : Nat → Nat → List V → Hp → Prop} {K : List (Addr × Obj) → List V → Prop} {JN : Nat → List V → Prop} {QE : List V → Hp → Prop} {YC : List V → V → Hp → Prop → Prop} {RE : GenEnd} {YP : Protocol} {it : Addr} {tn : Nat → Heap → Prop}
  {elt tg iter tg1 iter1 : Expr} {ifs ifs1 : List Expr} {scope : Scope} {pos : Pos}
end
end GX
namespace GX
open PySem PySem.Spec PyProof.Rows L2 GenW
section
variable {X : Cx} {pins : List (Addr × Obj)} {σ : L2.St} {H : Hp} {s : Shared}
/-- a generator has been made: it has not begun -/
structure Made2 (X : Cx) (pins : List (Addr × Obj)) (σ : L2.St) (elt tg iter tg1 iter1 : Expr) (ifs ifs1 : List Expr) (scope : Scope) (pos : Pos) (s4 : Shared) (H4 : Hp) (code : Value) (J : It) (fp : List Addr) (it : Addr) (tn : Nat → Heap → Prop) (a : Addr) (t1 t2 : Tok) (s5 : Shared) : Prop where
  inv : Inv X pins σ H4 s4
  turn : Turn X.prog X.w X.K tg J fp it tn
  st : tn 0 s4.heap
  fp : ∀ b ∈ fp, FpOk X pins H4 b ∧ b < s4.heap.objs.size
  ns : ∃ m, s5.heap.Ns s4.heap.objs.size m
  keep : ∀ b o, s4.heap.get? b = some o → s5.heap.get? b = some o
  lt : s4.heap.objs.size < a
  lt' : a < s5.heap.objs.size
  obj : s5.heap.get? a = some (genObj s4.gens.size (X.env.qual ++ "<genexpr>") t1 t2)
  gens : s5.gens = s4.gens.push (.fresh (.compStart (.GeneratorExp elt [⟨tg, iter, ifs, 0⟩, ⟨tg1, iter1, ifs1, 0⟩] scope pos) 0 (.ref it) .none (genEnv scope (cloFrom X.env.cells scope.names []) s4.heap.objs.size code builtinsNs X.env)))
  os : s5.os = s4.os
/-- woken in A, at a heap that keeps all that stood when it was made -/
theorem Made2.inv' {elt tg iter tg1 iter1 : Expr} {ifs ifs1 : List Expr} {scope : Scope} {pos : Pos} {own : List (Str × Nat)} {s4 : Shared} {H4 : Hp} {code : Value} {J : It} {fp : List Addr} {it : Addr} {tn : Nat → Heap → Prop} {a : Addr} {t1 t2 : Tok} {s5 s6 : Shared} {A : Around}
    (M : Made2 X pins σ elt tg iter tg1 iter1 ifs ifs1 scope pos s4 H4 code J fp it tn a t1 t2 s5) (ok : GxS X.N X.env.scope scope own) (hN : X.N.Nodup) (hA : A.handled = none) (hfr : A.frames = some X.stack) (kp : ∀ b o, s5.heap.get? b = some o → s6.heap.get? b = some o) (hos : s6.os = s5.os) (hb : AllBare s6.gens) :
    Inv (gCx X A s4 H4 (genEnv scope (cloFrom X.env.cells scope.names []) s4.heap.objs.size code builtinsNs X.env) fp [(a, genObj s4.gens.size (X.env.qual ++ "<genexpr>") t1 t2)]) [] (wipe σ (own.map (·.2))) H4 s6 := by
  obtain ⟨m, hns⟩ := M.ns
  refine gen_inv M.inv ok hN hA hfr M.fp (fun b o e => kp b o (M.keep b o e)) (hns.keeps kp) (hos.trans M.os) hb fun p hp => ?_
  rw [List.mem_singleton.mp hp]
  have hge : s4.heap.objs.size ≤ a := Nat.le_of_lt M.lt
  refine ⟨kp a _ M.obj, M.inv.hok.fresh hge, Nat.ne_of_gt M.lt, fun z => ?_, fun v q => by cases q⟩
  rcases List.mem_cons.mp (M.inv.stkSub _ z) with e | e
  · have h1 := M.inv.lt
    rw [← e] at h1
    exact Nat.lt_irrefl _ (Nat.lt_of_lt_of_le h1 hge)
  · exact M.inv.nofs hge e
end
end GX
namespace GX
open PySem PySem.Spec PyProof.Rows L2 GenW
section
variable {X : Cx} {A : Around} {s4 : Shared} {H4 : Hp} {cenv : Env} {fp SA : List Addr} {pn : List (Addr × Obj)} {J : It} {σ : L2.St} {vs vs1 : List Nat} {g : TG} {tt : TT} {wi1 : TI} {g1 : TG} {tt1 : TT} {te : TE} {W : Nat → Nat → List V → Hp → Prop} {K : List (Addr × Obj) → List V → Prop} {JN : Nat → List V → Prop} {QE : List V → Hp → Prop} {YC : List V → V → Hp → Prop → Prop} {RE : GenEnd} {YP : Protocol} {it : Addr} {tn : Nat → Heap → Prop}
  {elt tg iter tg1 iter1 : Expr} {ifs ifs1 : List Expr} {scope : Scope} {pos : Pos}
end
section
variable {X : Cx} {pins : List (Addr × Obj)} {σ : L2.St} {H : Hp} {s : Shared}
end
end GX
namespace LB
open PySem PySem.Spec PyProof.Rows L2
/-! ### text * n -/
def repS (x : Str) (n : Nat) : Str := ⟨((List.replicate n x.cps.toList).flatten).toArray⟩
theorem fold_app : ∀ (l : List (Array Nat)) (a : Array Nat), (l.foldl (· ++ ·) a).toList = a.toList ++ (l.map (·.toList)).flatten
  | [], a => by simp
  | b :: l, a => by
    rw [List.foldl_cons, fold_app l (a ++ b)]
    simp
theorem fold_rep (x : Str) (n : Nat) : (⟨(List.replicate n x.cps).foldl (· ++ ·) #[]⟩ : Str) = repS x n := by
  unfold repS
  congr 1
  apply Array.toList_inj.mp
  rw [fold_app]
  simp [List.map_replicate]
def rRepS : R2 := fun x y H Q => ∃ (z : Str) (n : Nat), x = .str z ∧ y = .int (n : Int) ∧ n ≤ 1000 ∧ z.length ≤ 1000 ∧ Q (.str (repS z n)) H
theorem repS_one (x : Str) : repS x 1 = x := by
  cases x
  simp [repS]
theorem repS_nil (x : Str) : repS x 0 = Str.empty := by
  simp [repS]
  rfl
theorem repS_length (x : Str) (n : Nat) : (repS x n).length = n * x.length := by
  show ((List.replicate n x.cps.toList).flatten).toArray.size = n * x.cps.size
  rw [List.size_toArray, List.length_flatten, List.map_replicate, List.sum_replicate_nat, Array.length_toList]
theorem repS_len (x : Str) (n : Nat) (h : x.length * n ≤ 1000000) : (repS x n).length ≤ sizeLine := by
  rw [repS_length, sizeLine_eq, Nat.mul_comm]
  omega
theorem op_repS {X : Cx} : OpR X (binaryOp .Mult) rRepS := by
  intro pins s σ H x y v u Q I rx ry h
  obtain ⟨z, n, rfl, rfl, hn, hz, q⟩ := h
  obtain ⟨t, rfl⟩ := rx
  obtain ⟨t', rfl⟩ := ry
  have hlen : z.length * n ≤ 1000000 := Nat.mul_le_mul hz hn
  refine P.mul_str ?_ (fun h1 h2 h3 => ?_) (fun h1 h2 => ?_) ?_
  · rw [decide_eq_false (by omega), decide_eq_false (by omega)] <;> rfl
  · have h4 : (z.length : Int) ≤ 1000 := by omega
    have h5 : (n : Int) ≤ 1000 := by omega
    have h6 : (1000 : Int) * n ≤ 2 ^ 63 - 1 := by omega
    have h7 : (1000 : Int) ≤ (2 ^ 63 - 1) / (n : Int) := by
      rw [Int.le_ediv_iff_mul_le (by omega)]
      exact h6
    omega
  · have e : ((n : Int)).toNat = n := by omega
    rw [e]
    show decide (z.length * n > sizeLine) = false
    exact decide_eq_false (by rw [sizeLine_eq]; omega)
  · by_cases h1 : (n : Int) < 1
    · rw [if_pos h1]
      have e : n = 0 := by omega
      subst e
      rw [repS_nil] at q
      exact ⟨by decide, ⟨.str Str.empty, H, I.tok _, ⟨_, rfl⟩, q⟩⟩
    · rw [if_neg h1]
      by_cases h2 : ((n : Int) == 1 || z.length == 0) = true
      · rw [if_pos h2]
        have e : repS z n = z := by
          rcases Bool.or_eq_true _ _ ▸ h2 with k | k
          · have e : n = 1 := by
              have := eq_of_beq k
              omega
            rw [e, repS_one]
          · have e : z.length = 0 := eq_of_beq k
            have e2 : z.cps = #[] := Array.eq_empty_of_size_eq_zero e
            cases z
            simp at e2
            subst e2
            simp [repS]
        rw [e] at q
        exact ⟨.str z, H, I, ⟨_, rfl⟩, q⟩
      · rw [if_neg h2]
        have e : ((n : Int)).toNat = n := by omega
        rw [e, fold_rep]
        exact ⟨repS_len z n hlen, ⟨.str (repS z n), H, I.tok _, ⟨_, rfl⟩, q⟩⟩
/-! ### t[::-1] -/
section
variable {prog : Program} {w : World} {A : Around} {E : Value → Shared → Prop} {s : Shared}
end
end LB
namespace LB
open PySem PySem.Spec PyProof.Rows L2
/-! ### small facts -/
theorem fm (a : Int) {b : Int} (h : 0 < b) : 0 ≤ a.fmod b ∧ a.fmod b < b := ⟨Int.fmod_nonneg_of_pos a h, Int.fmod_lt_of_pos a h⟩
theorem sz {n : Nat} (h : n ≤ 100000) : n ≤ sizeLine := Nat.le_trans h (by decide)
theorem szl {n : Nat} (h : n < 100000) : n < sizeLine := Nat.lt_of_lt_of_le h (by decide)
theorem at0 {α : Type} {x : α} {l : List α} : atI (x :: l) 0 = some x := atI_nat (j := 0) rfl
theorem at1 {α : Type} {x y : α} {l : List α} : atI (x :: y :: l) 1 = some y := atI_nat (j := 1) rfl
theorem at2 {α : Type} {x y z : α} {l : List α} : atI (x :: y :: z :: l) 2 = some z := atI_nat (j := 2) rfl
theorem at3 {α : Type} {x y z u : α} {l : List α} : atI (x :: y :: z :: u :: l) 3 = some u := atI_nat (j := 3) rfl
/-! ### kinds -/
def isB : PyData → Bool
  | .bool _ => true
  | _ => false
def isU : PyData → Bool
  | .tuple _ => true
  | _ => false
def isS : PyData → Bool
  | .str _ => true
  | _ => false
theorem kit_bool : ∀ d : PyData, kitB (tyN d) "bool" = some (isB d)
  | .none => (by decide +kernel : kitB "NoneType" "bool" = some false)
  | .bool _ => (by decide +kernel : kitB "bool" "bool" = some true)
  | .int _ => (by decide +kernel : kitB "int" "bool" = some false)
  | .str _ => (by decide +kernel : kitB "str" "bool" = some false)
  | .list _ => (by decide +kernel : kitB "list" "bool" = some false)
  | .tuple _ => (by decide +kernel : kitB "tuple" "bool" = some false)
  | .dict _ => (by decide +kernel : kitB "dict" "bool" = some false)
theorem kit_tuple : ∀ d : PyData, kitB (tyN d) "tuple" = some (isU d)
  | .none => (by decide +kernel : kitB "NoneType" "tuple" = some false)
  | .bool _ => (by decide +kernel : kitB "bool" "tuple" = some false)
  | .int _ => (by decide +kernel : kitB "int" "tuple" = some false)
  | .str _ => (by decide +kernel : kitB "str" "tuple" = some false)
  | .list _ => (by decide +kernel : kitB "list" "tuple" = some false)
  | .tuple _ => (by decide +kernel : kitB "tuple" "tuple" = some true)
  | .dict _ => (by decide +kernel : kitB "dict" "tuple" = some false)
theorem kit_str : ∀ d : PyData, kitB (tyN d) "str" = some (isS d)
  | .none => (by decide +kernel : kitB "NoneType" "str" = some false)
  | .bool _ => (by decide +kernel : kitB "bool" "str" = some false)
  | .int _ => (by decide +kernel : kitB "int" "str" = some false)
  | .str _ => (by decide +kernel : kitB "str" "str" = some true)
  | .list _ => (by decide +kernel : kitB "list" "str" = some false)
  | .tuple _ => (by decide +kernel : kitB "tuple" "str" = some false)
  | .dict _ => (by decide +kernel : kitB "dict" "str" = some false)
/-! ### more readings -/
section
variable {K : PySem.W.Frag} {T : List (Addr × Str)} {σ : L2.St} {H : Hp} {te ta tb : TE} {d : PyData} {ds : List PyData}
theorem rp_ints {H : Hp} : ∀ ns : List Int, RpAll K H (ns.map V.int) (ns.map PyData.int)
  | [] => .nil
  | n :: ns => .cons (.int n) (rp_ints ns)
def rAddS : R2 := fun x y H Q => ∃ i j, x = .str i ∧ y = .str j ∧ i.length + j.length ≤ sizeLine ∧ Q (.str (i ++ j)) H
theorem op_addS {X : Cx} : OpR X (binaryOp .Add) rAddS := op_add_str
theorem Gv.to {d' : PyData} (h : Gv K T te σ H d) (e : d = d') : Gv K T te σ H d' := e ▸ h
end
end LB
namespace LB
open PySem PySem.Spec PyProof.Rows L2
/-! ### data without lists stay when an own list is changed -/
mutual
def tupD : PyData → Bool
  | .none => true
  | .bool _ => true
  | .int _ => true
  | .str _ => true
  | .tuple ds => tupDs ds
  | .list _ => false
  | .dict _ => false
def tupDs : List PyData → Bool
  | [] => true
  | d :: ds => tupD d && tupDs ds
end
/-- no tuple stands at p -/
def NoTup (H : Hp) (p : Addr) : Prop := ∀ xs, ¬ Rd H p (.tup xs)
theorem tp_mut {H : Hp} {p a : Addr} {o : HO} {xs : List V} (hp : NoTup H p) (h : H a = some (.tup xs)) : upd H p o a = some (.tup xs) := by
  rw [upd_ne fun z => hp xs (by rw [← z]; exact .inl h)]
  exact h
mutual
theorem rp_mut {K : PySem.W.Frag} {H : Hp} {p : Addr} {o : HO} (hp : NoTup H p) : ∀ {v : V} {d : PyData}, tupD d = true → Rp K H v d → Rp K (upd H p o) v d
  | _, _, _, .non => .non
  | _, _, _, .bl b => .bl b
  | _, _, _, .int i => .int i
  | _, _, _, .str x => .str x
  | _, _, h, .lst _ _ => absurd h (by simp [tupD])
  | _, _, h, .tup hs ha => .tup (tp_mut hp hs) (rps_mut hp (by simpa [tupD] using h) ha)
  | _, _, h, .dct _ _ _ => absurd h (by simp [tupD])
  | _, _, h, .dcT _ _ _ => absurd h (by simp [tupD])
theorem rps_mut {K : PySem.W.Frag} {H : Hp} {p : Addr} {o : HO} (hp : NoTup H p) : ∀ {vs : List V} {ds : List PyData}, tupDs ds = true → RpAll K H vs ds → RpAll K (upd H p o) vs ds
  | _, _, _, .nil => .nil
  | _, _, h, .cons h1 h2 => by
    unfold tupDs at h
    rw [Bool.and_eq_true] at h
    exact .cons (rp_mut hp h.1 h1) (rps_mut hp h.2 h2)
end
/-! ### readings that give some datum; tests -/
section
variable (K : PySem.W.Frag) (T : List (Addr × Str))
def Gn (te : TE) (σ : L2.St) (H : Hp) (Pd : PyData → Prop) : Prop := ∀ H1, Gw T H H1 → ∀ Q : VK, (∀ v d H2, Pd d → Gw T H1 H2 → Rp K H2 v d → Q v H2) → te σ H1 Q
def Gt (t : TT) (σ : L2.St) (H : Hp) (b : Bool) : Prop := ∀ H1, Gw T H H1 → ∀ Q : Bool → Hp → Prop, (∀ H2, Gw T H1 H2 → Q b H2) → t σ H1 Q
end
section
variable {K : PySem.W.Frag} {T : List (Addr × Str)} {σ : L2.St} {H : Hp} {te ta tb : TE} {d : PyData} {ds : List PyData} {b c : Bool} {tt tu : TT}
theorem Gv.n (h : Gv K T te σ H d) : Gn K T te σ H (· = d) := fun H1 g Q q => h H1 g Q fun v H2 g2 r => q v d H2 rfl g2 r
theorem Gv.up {H' : Hp} (h : Gv K T te σ H d) (g : Gw T H H') : Gv K T te σ H' d := fun H1 g1 Q q => h H1 (g.trans g1) Q q
/-! own calls -/
/-! statements -/
theorem s_if {t u : TS} {D : Ends} (h : Gt T tt σ H b) (h1 : b = true → ∀ H2, Gw T H H2 → t D σ H2) (h2 : b = false → ∀ H2, Gw T H H2 → u D σ H2) : tIfS tt t u D σ H := h H (Gw.refl T H) _ fun H2 g => by
  cases b with
  | false => exact iteF (h2 rfl H2 g)
  | true => exact iteT (h1 rfl H2 g)
end
end LB
namespace LB
open PySem PySem.Spec PyProof.Rows L2 PySem.W PySem.SeqAt
section
variable {A : Around} {s : Shared}
/-- the call of tuple's own __lt__, as sorting makes it -/
theorem call_tuple_lt {prog : Program} {w : World} {E : Value → Shared → Prop} {Q : Value → Shared → Prop} {l b : Addr} {items items2 : Array Value} {e r : Nat → Bool} (hl : s.heap.IsTuple l items) (hb : s.heap.IsTuple b items2)
    (he : ∀ j (h1 : j < items.size) (h2 : j < items2.size), EqAt A.in1 s items[j] items2[j] (e j)) (hr : ∀ j (h1 : j < items.size) (h2 : j < items2.size), e j = false → RcLt A.in1 s items[j] items2[j] (r j))
    (h : Q (.bool (firstLt e r (decide (items.size < items2.size)) (List.range (min items.size items2.size)))) s) : wpAny (model prog w) A (call (.builtin "tuple.__lt__") [.ref l, .ref b]) Q E s := by
  obtain ⟨⟨cls, dd, data, sl⟩, ho, hc, n, hd⟩ := id hl
  obtain ⟨⟨cls2, dd2, data2, sl2⟩, ho2, hc2, n2, hd2⟩ := id hb
  simp only at hc hd hc2 hd2
  subst hc hd hc2 hd2
  exact call_meets F.slot_tuple_lt ⟨_, ho, rfl⟩ F.entry_tuple_lt (F.args_tuple_lt_2 _ _) (tuple_ltAt l b items items2 n n2 dd dd2 sl sl2 e r) ⟨ho, ho2, he, hr, h⟩
theorem oneLt_tuple {prog : Program} {w : World} {E : Value → Shared → Prop} {xs ys : List PyData} {a b : Value} {as bs : List Addr} {Q : Bool → Shared → Prop} (ra : Reads s.heap a (.tuple xs) as) (rb : Reads s.heap b (.tuple ys) bs) (h : alike (.tuple xs) (.tuple ys) = true)
    (hu : A.units + min (PyData.tuple xs).depth (PyData.tuple ys).depth < cLine) (hq : Q (dataLt (.tuple xs) (.tuple ys)) s) : wpAny (model prog w) A (oneLt' true a b) Q E s := by
  have hal : alikeAll xs ys = true := by simpa [alike] using h
  cases ra with
  | @tuple l o vs n _ as₁ h1 h2 h3 h4 =>
    cases rb with
    | @tuple l' o' vs' n' _ bs₁ k1 k2 k3 k4 =>
      have n1 : vs.size = xs.length := by simpa using ReadsAll.length _ _ _ h4
      have n2 : vs'.size = ys.length := by simpa using ReadsAll.length _ _ _ k4
      rw [dataLt_tuple, ← firstLt_toks xs ys hal, ← n1, ← n2] at hq
      rw [oneLt'_eq]
      simp only [if_true]
      refine wpAny_bind (wpAny_cRoomFor (room_here hu) ?_)
      refine wpAny_bind (wpAny_callSpecialIfBound?_slot (T := "tuple") ⟨_, h1, h2⟩ F.slot_tuple_lt (call_tuple_lt (e := pairEq xs ys) (r := fun j => dataLt (xs.getD j .none) (ys.getD j .none)) ⟨_, h1, h2, _, h3⟩ ⟨_, k1, k2, _, k3⟩ (fun j j1 j2 => ?_) (fun j j1 j2 hj => ?_) ?_))
      · have := eqAt_alikeAll xs ys A.in1 s vs.toList vs'.toList _ _ h4 k4 hal (room_in hu) j (by simpa using j1) (by simpa using j2)
        simpa using this
      · have := rcLt_alikeAll xs ys A.in1 s vs.toList vs'.toList _ _ h4 k4 hal (room_in hu) j (by simpa using j1) (by simpa using j2) hj
        simpa using this
      · exact wpAny_truthy_bool hq
/-- tuples, the first of them empty -/
def Led (ds : List PyData) : Prop := ∃ r, ds = .tuple [] :: r ∧ ∀ d ∈ ds, ∃ xs, d = .tuple xs
theorem first_tup {M : Model} {E : Value → Shared → Prop} {v : Value} {xs : List PyData} {as : List Addr} {Q : Option Value → Shared → Prop} (r : Reads s.heap v (.tuple xs) as) (hq : ∀ o : Option Value, (xs = [] → o = none) → Q o s) : wpAny M A (firstOfTuple' v) Q E s := by
  rw [kas_first_eq]
  cases r with
  | @tuple l o vs n _ as₁ h1 h2 h3 h4 =>
    refine wpAny_bind (wpAny_typeOf_ref h1 ?_)
    rw [h2, if_neg (by decide)]
    refine wpAny_bind ?_
    unfold Builtin.List.listItems
    refine wpAny_bind (wpAny_seqItems h1 h3 (wpAny_pure (wpAny_pure (hq _ fun e => ?_))))
    subst e
    have h5 : vs.toList = [] := by
      cases q : vs.toList with
      | nil => rfl
      | cons a l =>
        rw [q] at h4
        cases h4
    have h6 : vs = #[] := by
      cases vs
      simp at h5
      rw [h5]
    rw [h6]
    rfl
theorem mapM_firsts {M : Model} {E : Value → Shared → Prop} : ∀ {vs : List Value} {ds : List PyData} {Q : List (Option Value) → Shared → Prop}, EachIs (fun v d => ∃ as, Reads s.heap v d as) vs ds → (∀ d ∈ ds, ∃ xs, d = .tuple xs) →
    (∀ os : List (Option Value), os.length = vs.length → (∀ r, ds = .tuple [] :: r → ∃ t, os = none :: t) → Q os s) → wpAny M A (vs.mapM firstOfTuple') Q E s
  | _, _, Q, .nil, _, h => by
    rw [List.mapM_nil]
    exact wpAny_pure (h [] rfl fun r e => nomatch e)
  | v :: vs, d :: ds, Q, .cons ⟨as, r⟩ t, ht, h => by
    rw [List.mapM_cons]
    obtain ⟨xs, rfl⟩ := ht d List.mem_cons_self
    refine wpAny_bind (first_tup r fun o ho => wpAny_bind (mapM_firsts t (fun d hd => ht d (List.mem_cons_of_mem _ hd)) fun os hl _ => wpAny_pure (h (o :: os) (by simp [hl]) fun r e => ?_)))
    have e1 : xs = [] := by
      injection e with e1 e2
      injection e1
    exact ⟨os, by rw [ho e1]⟩
theorem kind_led {M : Model} {E : Value → Shared → Prop} {vs : List Value} {ds : List PyData} {Q : SortKind → Shared → Prop} (e : EachIs (fun v d => ∃ as, Reads s.heap v d as) vs ds) (hl : Led ds) (h : Q oneType' s) : wpAny M A (keyKind' vs.toArray) Q E s := by
  obtain ⟨r, e1, ht⟩ := hl
  rw [keyKind'_eq, List.mapM_toArray, map_eq_pure_bind]
  refine wpAny_bind (wpAny_bind (mapM_firsts e ht fun os hlen h0 => wpAny_pure ?_))
  obtain ⟨t, rfl⟩ := h0 r e1
  rw [if_neg (by simp), if_neg (by simp)]
  rw [oneTypeOnly'_eq, List.mapM_toArray, map_eq_pure_bind]
  have hT : ∀ v ∈ vs, Looks M s.heap (typeOf v) (.type "tuple") := fun v hv => by
    obtain ⟨d, hd, as, q⟩ := e.left v hv
    obtain ⟨xs, rfl⟩ := ht d hd
    exact looks_reads q
  refine wpAny_bind (wpAny_bind (wpAny_bind (kas_mapM (r := Value.type "tuple") _ (fun v hv Q' hq => (hT v hv).here hq) (wpAny_pure ?_))))
  subst e1
  cases e with
  | cons q1 q2 =>
    rename_i v1 vs1
    have hall : ((List.map (fun _ => Value.type "tuple") (v1 :: vs1)).toArray.all fun x => x == Value.type "tuple") = true := by
      simp only [List.all_toArray, List.all_map, List.all_eq_true]
      intro _ _
      exact beq_self_eq_true _
    have h0 : (List.map (fun _ => Value.type "tuple") (v1 :: vs1)).toArray[0]? = some (Value.type "tuple") := by simp
    rw [h0]
    simp only [hall, if_true]
    exact wpAny_pure (wpAny_pure h)
theorem sorts_led {prog : Program} {w : World} {vs : List Value} {ds : List PyData} (e : EachIs (fun v d => ∃ as, Reads s.heap v d as) vs ds) (hal : AllAlike ds) (hk : Led ds) (hu : ∀ d, d ∈ ds → A.units + d.depth < cLine) : SortsAt prog w A s (dataKind s.heap ds) vs := by
  have room : ∀ {d d' : PyData}, d ∈ ds → A.units + min d.depth d'.depth < cLine := fun {d d'} hd => Nat.lt_of_le_of_lt (Nat.add_le_add_left (Nat.min_le_left _ _) _) (hu d hd)
  refine ⟨fun v hv => ?_, oneType', ?_, fun h2 E Q hq => kind_led e hk hq⟩
  · obtain ⟨d, hd, as, r⟩ := e.left v hv
    exact ⟨_, dataKind_some hal hd r⟩
  · intro E x y a b Q ha hb hq
    obtain ⟨d, as, hd, ra, rfl⟩ := dataKind_inv ha
    obtain ⟨d', as', hd', rb, rfl⟩ := dataKind_inv hb
    have al := hal d hd d' hd'
    have rm := room (d' := d') hd
    rw [keyLt'_oneType]
    obtain ⟨_, _, ht⟩ := hk
    obtain ⟨xs, rfl⟩ := ht d hd
    obtain ⟨ys, rfl⟩ := ht d' hd'
    exact oneLt_tuple ra rb al rm hq
theorem sorted_led {prog : Program} {w : World} {E : Value → Shared → Prop} {vs : List Value} {bs : List PyData} {R : Value → PyData → Prop} {l : Addr} {Q : Value → Shared → Prop} (hl : s.heap.IsList l vs.toArray) (e : EachIs R vs bs) (er : EachIs (fun v b => ∃ as, Reads s.heap v b as) vs bs) (hal : AllAlike bs) (hk : Led bs) (hL : bs.length ≤ sizeLine)
    (hu : ∀ b, b ∈ bs → A.units + 2 + b.depth < cLine) (h : ∀ out, out.length = bs.length → EachIs R out (bs.mergeSort (dataLe false id)) → Q (.ref (s.heap.objs.size + 1)) { s with heap := sortedAll s.heap vs (List.toArray out) }) :
    wpAny (model prog w) A (call (.builtin "sorted") [.ref l]) Q E s := by
  have er' : EachIs (fun v b => ∃ as, Reads (sortingHeap (copyHeap s.heap vs) (s.heap.objs.size + 1) vs) v b as) vs bs := er.mono fun _ _ ⟨as, r⟩ => ⟨as, PyProof.Rows.Reads.keeps (fun _ _ => sorting_copy_old) r⟩
  have hal' : AllAlike (bs.map id) := by rw [List.map_id]; exact hal
  have hf := sortVals_data (enc := id) (R := R) false e (er' : EachIs (fun v b => ∃ as, Reads (sortingHeap (copyHeap s.heap vs) (s.heap.objs.size + 1) vs) v (id b) as) vs bs) hal'
  rw [List.map_id] at hf
  exact sorted_vals hl (sorts_led (s := { s with heap := sortingHeap (copyHeap s.heap vs) (s.heap.objs.size + 1) vs }) er' hal hk hu) (by rw [e.length]; exact hL) (h _ (by rw [sortVals_length false rfl]; exact e.length) hf)
end
end LB
namespace LB
open PySem PySem.Spec PyProof.Rows L2 PySem.W PySem.SeqAt
/-- the sorted list of data -/
def sortD (ds : List PyData) : List PyData := ds.mergeSort (dataLe false id)
theorem sortD_perm (ds : List PyData) : (sortD ds).Perm ds := List.mergeSort_perm ds _
section
variable {X : Cx} {pins : List (Addr × Obj)} {σ : L2.St} {H : Hp} {s : Shared}
mutual
theorem reads_of (I : Inv X pins σ H s) : ∀ (d : PyData) (v : V) (u : Value), alike d d = true → Rp X.K H v d → RelV v u → ∃ as, Reads s.heap u d as
  | .none, _, _, _, .non, r => by
    cases (show _ = Value.none from r)
    exact ⟨_, .none⟩
  | .bool _, _, _, _, .bl b, r => by
    cases (show _ = Value.bool b from r)
    exact ⟨_, .bool b⟩
  | .int _, _, _, _, .int i, r => by
    obtain ⟨t, rfl⟩ := r
    exact ⟨_, .int i t⟩
  | .str _, _, _, _, .str x, r => by
    obtain ⟨t, rfl⟩ := r
    exact ⟨_, .str x t⟩
  | .list ds, _, _, h, .lst hs ha, r => by
    cases (show _ = Value.ref _ from r)
    obtain ⟨its, rv, pl, hz⟩ := I.list hs
    obtain ⟨as, q⟩ := readsAll_of I ds _ its (by simpa [alike] using h) ha rv
    obtain ⟨o, h1, h2, n, h3⟩ := pl.isList
    exact ⟨_, .list h1 h2 h3 (by simpa using q)⟩
  | .tuple ds, _, _, h, .tup hs0 ha, r => by
    have hs := SqT.of (K := X.K) hs0
    cases (show _ = Value.ref _ from r)
    obtain ⟨its, rv, pl, hz⟩ := I.tuple hs
    obtain ⟨as, q⟩ := readsAll_of I ds _ its (by simpa [alike] using h) ha rv
    obtain ⟨o, h1, h2, n, h3⟩ := pl
    exact ⟨_, .tuple h1 h2 h3 (by simpa using q)⟩
  | .dict _, _, _, h, _, _ => absurd h (by simp [alike])
theorem readsAll_of (I : Inv X pins σ H s) : ∀ (ds : List PyData) (vs : List V) (us : List Value), alikeAll ds ds = true → RpAll X.K H vs ds → Vals vs us → ∃ as, ReadsAll s.heap us ds as
  | [], _, _, _, .nil, .nil => ⟨_, .nil⟩
  | d :: ds, _, _, h, .cons h1 h2, .cons r1 r2 => by
    obtain ⟨a1, a2⟩ := alike_all_cons h
    obtain ⟨as, q1⟩ := reads_of I d _ _ a1 h1 r1
    obtain ⟨bs, q2⟩ := readsAll_of I ds _ _ a2 h2 r2
    exact ⟨_, .cons q1 q2⟩
end
theorem each_of (I : Inv X pins σ H s) : ∀ {ds : List PyData} {vs : List V} {us : List Value}, (∀ d ∈ ds, alike d d = true) → RpAll X.K H vs ds → Vals vs us →
    EachIs (fun u d => ∃ v, Rp X.K H v d ∧ RelV v u) us ds ∧ EachIs (fun u d => ∃ as, Reads s.heap u d as) us ds
  | [], _, _, _, .nil, .nil => ⟨.nil, .nil⟩
  | d :: ds, _, _, h, .cons h1 h2, .cons r1 r2 => by
    obtain ⟨q1, q2⟩ := each_of I (fun d hd => h d (List.mem_cons_of_mem _ hd)) h2 r2
    exact ⟨.cons ⟨_, h1, r1⟩ q1, .cons (reads_of I d _ _ (h d List.mem_cons_self) h1 r1) q2⟩
/-- data that sorted takes -/
structure Srt (ds : List PyData) : Prop where
  al : AllAlike ds
  ok : Sortable ds ∨ Led ds
  dp : ∀ d ∈ ds, d.depth ≤ 40
  len : ds.length ≤ 100000
end
end LB
namespace LB
open PySem PySem.Spec PyProof.Rows L2 PySem.W PySem.SeqAt
def keysD (kvs : List (List Key × V)) : List PyData := kvs.map fun p => .tuple (p.1.map keyD)
/-- b is a tracked tuple of these keys -/
def TupK (H : Hp) (b : Addr) (d : PyData) : Prop := ∃ ks : List Key, d = .tuple (ks.map keyD) ∧ H b = some (.tup (ks.map kV))
theorem rp_keys {K : PySem.W.Frag} {H : Hp} : ∀ ks : List Key, RpAll K H (ks.map kV) (ks.map keyD)
  | [] => .nil
  | .inl i :: ks => .cons (.int i) (rp_keys ks)
  | .inr x :: ks => .cons (.str x) (rp_keys ks)
section
variable {X : Cx} {pins : List (Addr × Obj)} {σ : L2.St} {H : Hp} {s : Shared}
end
end LB
namespace LB
open PySem PySem.Spec PyProof.Rows L2
theorem room_u {k : Nat} {A : Around} (r : Room k A) : A.units + 1 < cLine := by have := r.un; omega
theorem room_u64 {k : Nat} {A : Around} (r : Room k A) : A.units + 64 < cLine := by have := r.un; omega
theorem szl' {n m : Nat} (h : n < m) (hm : m ≤ 100000) : n < sizeLine := Nat.lt_of_lt_of_le h (Nat.le_trans hm (by decide))
/-! ### list comprehensions over data, the target one name -/
section
variable {K : PySem.W.Frag} {T : List (Addr × Str)} {σ : L2.St} {H : Hp} {te ta tb tel : TE} {tt : TT} {d : PyData} {ds : List PyData} {wi : TI}
/-- what a walk gives, whatever grows meanwhile -/
structure WalksR (R : Hp → V → PyData → Prop) (T : List (Addr × Str)) (J : It) (H1 : Hp) (ds : List PyData) : Prop where
  stop : ∀ H', Gw T H1 H' → J.stop ds.length H'
  go : ∀ i H', i < ds.length → Gw T H1 H' → J.go i H'
  yld : ∀ i H' x H'', i < ds.length → Gw T H1 H' → J.yld i H' x H'' → H'' = H' ∧ ∃ d, ds[i]? = some d ∧ R H' x d
abbrev Walks (K : PySem.W.Frag) (T : List (Addr × Str)) (J : It) (H1 : Hp) (ds : List PyData) : Prop := WalksR (fun H v d => Rp K H v d) T J H1 ds
/-- the numbers below m -/
def rngD (m : Nat) : List PyData := (List.range m).map fun i => PyData.int ((i : Nat) : Int)
theorem rngD_length (m : Nat) : (rngD m).length = m := by simp [rngD]
end
end LB
namespace LB
open PySem PySem.Spec PyProof.Rows L2
section
variable {K : PySem.W.Frag} {T : List (Addr × Str)} {σ : L2.St} {H : Hp} {te ta tb : TE} {d : PyData} {ds es : List PyData} {tl th : TO} {lo hi : Option Int}
/-- a cut of data -/
def cutD {α : Type} (xs : List α) (lo hi : Option Int) : List α := (xs.drop (HT.sIx xs.length 0 lo)).take (HT.sIx xs.length xs.length hi - HT.sIx xs.length 0 lo)
theorem RpAll.drop {H : Hp} : ∀ {xs : List V} {ds : List PyData} (n : Nat), RpAll K H xs ds → RpAll K H (xs.drop n) (ds.drop n)
  | _, _, 0, r => r
  | _, _, n + 1, .nil => .nil
  | _, _, n + 1, .cons _ r => RpAll.drop n r
theorem RpAll.take {H : Hp} : ∀ {xs : List V} {ds : List PyData} (n : Nat), RpAll K H xs ds → RpAll K H (xs.take n) (ds.take n)
  | _, _, 0, _ => .nil
  | _, _, n + 1, .nil => .nil
  | _, _, n + 1, .cons h r => .cons h (RpAll.take n r)
theorem RpAll.cut {H : Hp} {xs : List V} {ds : List PyData} (r : RpAll K H xs ds) (lo hi : Option Int) : RpAll K H (cutV xs lo hi) (cutD ds lo hi) := by
  unfold cutV cutD
  rw [r.length]
  exact (r.drop _).take _
theorem RpAll.reverse {H : Hp} : ∀ {xs : List V} {ds : List PyData}, RpAll K H xs ds → RpAll K H xs.reverse ds.reverse
  | _, _, .nil => .nil
  | _, _, .cons h r => by
    rw [List.reverse_cons, List.reverse_cons]
    exact RpAll.append (RpAll.reverse r) (.cons h .nil)
end
end LB
namespace LB
open PySem PySem.Spec PyProof.Rows L2
/-! ### the names of a drawn web -/
def ch (c : Nat) : Str := ⟨#[c]⟩
/-- a name: one to eight letters -/
def NameOk (x : Str) : Prop := 1 ≤ x.length ∧ x.length ≤ 8 ∧ ∀ c ∈ x.cps.toList, 97 ≤ c ∧ c ≤ 122
/-- names that rise -/
def Rise (ns : List Str) : Prop := ns.Pairwise fun a b => a.cps.toList < b.cps.toList
structure NamesOk (m : Nat) (ns : List Str) : Prop where
  len : ns.length = m
  rise : Rise ns
  each : ∀ x ∈ ns, NameOk x
end LB
namespace LB
open PySem PySem.Spec PyProof.Rows L2
/-! ### promises of the defs by which a web is drawn -/
/-- drawn numbers -/
def NumsOk (m : Nat) (xs : List Int) : Prop := xs.length = m ∧ ∀ x ∈ xs, 0 ≤ x ∧ x < 2000000000
section
variable {K : PySem.W.Frag} {T : List (Addr × Str)} {σ : L2.St} {H : Hp} {te ta tb : TE} {d : PyData} {ds : List PyData}
end
end LB
namespace LB
open PySem PySem.Spec PyProof.Rows L2 PySem.W
/-! ### places, ties, webs among data -/
def PlaceOk (top : Int) (x : Str) (d : PyData) : Prop := ∃ a b c e : Int, d = .tuple [.str x, .int a, .int b, .int c, .int e] ∧ (0 ≤ a ∧ a < 100) ∧ (0 ≤ b ∧ b < 100) ∧ (0 ≤ e ∧ e < 100) ∧ e * top ≤ c ∧ c ≤ 999
def TieOk (ns : List Str) (d : PyData) : Prop := ∃ (a b : Str) (s : Int), d = .tuple [.str a, .str b, .int s] ∧ a ∈ ns ∧ b ∈ ns ∧ a ≠ b ∧ 1 ≤ s ∧ s ≤ 999
structure WebOk (top : Int) (ns : List Str) (ps ts : List PyData) : Prop where
  t1 : 1 ≤ top
  t9 : top ≤ 9
  n1 : 1 ≤ ns.length
  n8 : ns.length ≤ 8
  rise : Rise ns
  each : ∀ x ∈ ns, NameOk x
  pl : EachIs (PlaceOk top) ns ps
  tl : ts.length ≤ 16
  ti : ∀ t ∈ ts, TieOk ns t
def webD (top : Int) (ps ts : List PyData) : PyData := .tuple [.int top, .tuple ps, .tuple ts]
section
variable {K : PySem.W.Frag} {T : List (Addr × Str)} {σ : L2.St} {H : Hp} {te ta tb : TE} {d : PyData} {ds : List PyData}
theorem s_par {D : Ends} {i j : Nat} {ta : TA} {d1 d2 : PyData} (ha : GvA K T ta σ H [d1, d2]) (k : ∀ v1 v2 H2, Gw T H H2 → Rp K H2 v1 d1 → Rp K H2 v2 d2 → D.nx ((σ.set i (some v1)).set j (some v2)) H2) : tPar i j ta D σ H := ha H (Gw.refl T H) _ fun vs H2 g r => by
  cases r with
  | cons r1 r =>
    cases r with
    | cons r2 r =>
      cases r
      exact ⟨_, _, rfl, k _ _ H2 g r1 r2⟩
end
end LB
namespace LB
open PySem PySem.Spec PyProof.Rows L2 PySem.W
/-! ### the dict of ties -/
def TK (ns : List Str) (kvs : List (List Key × V)) : Prop := ∀ e ∈ kvs, ∃ (a b : Str) (s : Int), e = ([.inr a, .inr b], .int s) ∧ a ∈ ns ∧ b ∈ ns ∧ a ≠ b ∧ 1 ≤ s ∧ s ≤ 999
theorem TK.put {ns : List Str} {kvs : List (List Key × V)} (h : TK ns kvs) {a b : Str} {s : Int} (ha : a ∈ ns) (hb : b ∈ ns) (hn : a ≠ b) (h1 : 1 ≤ s) (h9 : s ≤ 999) : TK ns (putK kvs [.inr a, .inr b] (.int s)) := by
  intro e he
  unfold putK at he
  split at he
  · obtain ⟨kv, hk, rfl⟩ := List.mem_map.mp he
    by_cases z : kv.1 = [.inr a, .inr b]
    · rw [if_pos z, z]
      exact ⟨a, b, s, rfl, ha, hb, hn, h1, h9⟩
    · rw [if_neg z]
      exact h kv hk
  · rcases List.mem_append.mp he with h' | h'
    · exact h e h'
    · rw [List.mem_singleton.mp h']
      exact ⟨a, b, s, rfl, ha, hb, hn, h1, h9⟩
theorem TK.key {ns : List Str} {kvs : List (List Key × V)} (h : TK ns kvs) : ∀ d ∈ keysD kvs, ∃ a b : Str, d = .tuple [.str a, .str b] := by
  intro d hd
  obtain ⟨p, hp, rfl⟩ := List.mem_map.mp hd
  obtain ⟨a, b, s, rfl, _⟩ := h p hp
  exact ⟨a, b, rfl⟩
/-- what a key leads to -/
theorem TK.val {ns : List Str} {kvs : List (List Key × V)} (h : TK ns kvs) {d : PyData} (hd : d ∈ keysD kvs) : ∃ (a b : Str) (s : Int), d = .tuple [.str a, .str b] ∧ valV kvs [.inr a, .inr b] = some (.int s) ∧ a ∈ ns ∧ b ∈ ns ∧ a ≠ b ∧ 1 ≤ s ∧ s ≤ 999 := by
  obtain ⟨p, hp, rfl⟩ := List.mem_map.mp hd
  obtain ⟨a, b, s, rfl, _⟩ := h p hp
  cases hf : kvs.find? (fun kv => decide (kv.1 = [.inr a, .inr b])) with
  | none =>
    have := List.find?_eq_none.mp hf _ hp
    simp at this
  | some q =>
    have hq := List.mem_of_find?_eq_some hf
    have hk : q.1 = [.inr a, .inr b] := by simpa using List.find?_some hf
    obtain ⟨a', b', s', e, h1, h2, h3, h4, h5⟩ := h q hq
    rw [e] at hk
    cases hk
    refine ⟨a, b, s', rfl, ?_, h1, h2, h3, h4, h5⟩
    unfold valV
    rw [hf, e] <;> rfl
section
variable {K : PySem.W.Frag} {T : List (Addr × Str)} {σ : L2.St} {H : Hp} {te ta tb : TE} {d : PyData} {ds : List PyData}
theorem TupK.up {H H' : Hp} {b : Addr} (h : TupK H b d) (g : Gw T H H') : TupK H' b d := by
  obtain ⟨ks, rfl, e⟩ := h
  exact ⟨ks, rfl, g.tup e⟩
end
end LB
namespace LB
open PySem PySem.Spec PyProof.Rows L2
/-! ### rules that name the written part: for the blocks of comprehensions -/
section
variable (K : PySem.W.Frag) {X : Cx}
theorem op_inK (h : X.K = K := by rfl) : OpR X (compareOp .In) (rIn K false) := by
  subst h
  exact op_in_seq
theorem op_notInK (h : X.K = K := by rfl) : OpR X (compareOp .NotIn) (rIn K true) := by
  subst h
  exact op_notIn_seq
theorem call_lenK (h : X.K = K := by rfl) : CallR X (.builtin "len") (fun xs H Q => ∃ x n, xs = [x] ∧ LenV K x H n ∧ Q (.int n) H) := by
  subst h
  exact call_len
theorem call_isK (h : X.K = K := by rfl) : CallR X (.builtin "isinstance") (rIsiY K) := by
  subst h
  exact call_isiY
theorem call_tupK (h : X.K = K := by rfl) : CallR X (.type "tuple") (fun xs H Q => ∃ p ys, xs = [.ref p] ∧ ((SqL K H p ys ∧ ∀ l, H l = none → Q (.ref l) (upd H l (.tup ys))) ∨ (SqT K H p ys ∧ Q (.ref p) H))) := by
  subst h
  exact call_tuple_of
theorem pa_starK {e : Expr} {es : List Expr} {te : TE} {t : TA} {p : Pos} (he : PE X e te) (hr : PA X es t) (h : X.K = K := by rfl) (hs : starEach (.Starred e p :: es) X.env = (true, eval e X.env) :: starEach es X.env := by rfl) : PA X (.Starred e p :: es) (StX.tStar K te t) := by
  subst h
  exact StX.pa_star he hr hs
end
end LB
namespace LB
open PySem PySem.Spec PyProof.Rows L2
mutual
def ndD : PyData → Bool
  | .none => true
  | .bool _ => true
  | .int _ => true
  | .str _ => true
  | .tuple ds => ndDs ds
  | .list ds => ndDs ds
  | .dict _ => false
def ndDs : List PyData → Bool
  | [] => true
  | d :: ds => ndD d && ndDs ds
end
def NoSeq (H : Hp) (p : Addr) : Prop := ∀ xs, ¬ Rd H p (.tup xs) ∧ ¬ Rd H p (.lst xs)
theorem sqL_mutD {K : PySem.W.Frag} {H : Hp} {p a : Addr} {o : HO} {xs : List V} (hp : NoSeq H p) (h : SqL K H a xs) : SqL K (upd H p o) a xs := by
  rcases h with h | h
  · have n : a ≠ p := fun z => (hp xs).2 (by rw [← z]; exact h)
    refine .inl ?_
    rcases h with h | ⟨u, h⟩
    · exact .inl (by rw [upd_ne n]; exact h)
    · exact .inr ⟨u, by rw [upd_ne n]; exact h⟩
  · exact .inr h
mutual
theorem rp_mutD {K : PySem.W.Frag} {H : Hp} {p : Addr} {o : HO} (hp : NoSeq H p) : ∀ {v : V} {d : PyData}, ndD d = true → Rp K H v d → Rp K (upd H p o) v d
  | _, _, _, .non => .non
  | _, _, _, .bl b => .bl b
  | _, _, _, .int i => .int i
  | _, _, _, .str x => .str x
  | _, _, h, .lst hs ha => .lst (sqL_mutD hp hs) (rps_mutD hp (by simpa [ndD] using h) ha)
  | _, _, h, .tup hs ha => .tup (tp_mut (fun ys => (hp ys).1) hs) (rps_mutD hp (by simpa [ndD] using h) ha)
  | _, _, h, .dct _ _ _ => absurd h (by simp [ndD])
  | _, _, h, .dcT _ _ _ => absurd h (by simp [ndD])
theorem rps_mutD {K : PySem.W.Frag} {H : Hp} {p : Addr} {o : HO} (hp : NoSeq H p) : ∀ {vs : List V} {ds : List PyData}, ndDs ds = true → RpAll K H vs ds → RpAll K (upd H p o) vs ds
  | _, _, _, .nil => .nil
  | _, _, h, .cons h1 h2 => by
    unfold ndDs at h
    rw [Bool.and_eq_true] at h
    exact .cons (rp_mutD hp h.1 h1) (rps_mutD hp h.2 h2)
end
section
variable {K : PySem.W.Frag} {T : List (Addr × Str)} {σ : L2.St} {H : Hp}
end
end LB
namespace PM
open PySem PySem.Spec PyProof.Rows L2 LB
/-! ### two heaps: M what data may stand on, H all -/
abbrev Tb := List (Addr × Str)
structure Pr (T : Tb) where
  M : Hp
  H : Hp
  sub : Ex M H
  tab : LamX.Tabs T H
  nt : ∀ a ps, M a ≠ some (.tbl ps)
def Loose (H : Hp) (a : Addr) : Prop := ∀ o, H a = some o → ∃ ps, o = HO.tbl ps
/-- free to be stood on: new, or a tuple -/
def Opn (H : Hp) (a : Addr) : Prop := Loose H a ∨ ∃ vs, H a = some (.tup vs)
structure Le {T : Tb} (P P' : Pr T) : Prop where
  m : Ex P.M P'.M
  h : Ex P.H P'.H
  f : ∀ a, P.M a = none → P'.M a ≠ none → Opn P.H a
variable {T : Tb} {K : PySem.W.Frag}
theorem Le.refl (P : Pr T) : Le P P := ⟨ex_refl _, ex_refl _, fun a h n => absurd h n⟩
theorem loose_back {H H' : Hp} (e : Ex H H') {a : Addr} (h : Loose H' a) : Loose H a := fun o ho => by
  by_cases t : ∃ ps, o = HO.tbl ps
  · exact t
  · exact h o (e a o ho fun ps z => t ⟨ps, z⟩)
theorem opn_back {H H' : Hp} (e : Ex H H') {a : Addr} (h : Opn H' a) : Opn H a := by
  rcases h with h | ⟨vs, h⟩
  · exact .inl (loose_back e h)
  · cases z : H a with
    | none => exact .inl fun o ho => by rw [z] at ho; cases ho
    | some o =>
      by_cases t : ∃ ps, o = HO.tbl ps
      · exact .inl fun o' ho => by
          rw [z] at ho
          cases ho
          exact t
      · have := e a o z fun ps w => t ⟨ps, w⟩
        rw [h] at this
        cases this
        exact .inr ⟨vs, z⟩
theorem Le.trans {P P' P'' : Pr T} (a : Le P P') (b : Le P' P'') : Le P P'' := ⟨a.m.trans b.m, a.h.trans b.h, fun p h n => by
  by_cases z : P'.M p = none
  · exact opn_back a.h (b.f p z n)
  · exact a.f p h z⟩
theorem loose_none {H : Hp} {a : Addr} (h : H a = none) : Loose H a := fun o e => by rw [h] at e; cases e
theorem Loose.lst {H : Hp} {a : Addr} {xs : List V} (h : Loose H a) (e : H a = some (.lst xs)) : False := by
  obtain ⟨ps, z⟩ := h _ e
  cases z
theorem Loose.dT {H : Hp} {a : Addr} {xs : List (List Key × V)} (h : Loose H a) (e : H a = some (.dT xs)) : False := by
  obtain ⟨ps, z⟩ := h _ e
  cases z
theorem Loose.dK {H : Hp} {a : Addr} {xs : List (Key × V)} (h : Loose H a) (e : H a = some (.dK xs)) : False := by
  obtain ⟨ps, z⟩ := h _ e
  cases z
/-- o is no table -/
def Plain (o : HO) : Prop := ∀ ps, o ≠ .tbl ps
theorem Pr.none (P : Pr T) {p : Addr} (h : P.H p = Option.none) : P.M p = Option.none := by
  cases e : P.M p with
  | none => rfl
  | some o =>
    have := P.sub p o e fun ps z => P.nt p ps (by rw [e, z])
    rw [h] at this
    cases this
theorem ex_upd {M H : Hp} (s : Ex M H) {p : Addr} {o : HO} (h : H p = none) : Ex M (upd H p o) := fun b u e n => by
  have := s b u e n
  rw [upd_ne (ne_of_none this h)]
  exact this
theorem ex_upd2 {M H : Hp} (s : Ex M H) {p : Addr} {o : HO} : Ex (upd M p o) (upd H p o) := fun b u e n => by
  by_cases z : b = p
  · subst z
    rw [upd_same] at e ⊢
    exact e
  · rw [upd_ne z] at e ⊢
    exact s b u e n
theorem ex_updM {M H : Hp} (s : Ex M H) {p : Addr} {o : HO} (h : H p = none) : Ex M (upd M p o) := fun b u e n => by
  have := s b u e n
  rw [upd_ne (ne_of_none this h)]
  exact e
theorem nt_upd {M : Hp} {p : Addr} {o : HO} (h : ∀ a ps, M a ≠ some (.tbl ps)) (n : Plain o) : ∀ a ps, upd M p o a ≠ some (.tbl ps) := fun a ps z => by
  by_cases e : a = p
  · subst e
    rw [upd_same] at z
    exact n ps (Option.some.inj z)
  · rw [upd_ne e] at z
    exact h a ps z
/-- a new object that data may stand on -/
def Pr.put (P : Pr T) (p : Addr) (o : HO) (h : P.H p = Option.none) (n : Plain o := by exact fun _ z => nomatch z) : Pr T := ⟨upd P.M p o, upd P.H p o, ex_upd2 P.sub, (gw_new (T := T) h).2 P.tab, nt_upd P.nt n⟩
/-- a new object of its own -/
def Pr.hid (P : Pr T) (p : Addr) (o : HO) (h : P.H p = Option.none) : Pr T := ⟨P.M, upd P.H p o, ex_upd P.sub h, (gw_new (T := T) h).2 P.tab, P.nt⟩
theorem le_put (P : Pr T) {p : Addr} {o : HO} (h : P.H p = none) (n : Plain o := by exact fun _ z => nomatch z) : Le P (P.put p o h n) := ⟨ex_updM P.sub h, ex_new h, fun a z n => by
  by_cases e : a = p
  · subst e
    exact .inl (loose_none h)
  · exact absurd z (by
      have : (upd P.M p o) a ≠ none := n
      rw [upd_ne e] at this
      exact this)⟩
theorem le_hid (P : Pr T) {p : Addr} {o : HO} (h : P.H p = none) : Le P (P.hid p o h) := ⟨ex_refl _, ex_new h, fun a z n => absurd z n⟩
/-! ### what stands in a slot -/
inductive Sl where
  | no | val (d : PyData) | own (d : PyData) | exn (a : Addr) | ods (ds : List (Str × PyData)) | lck (ds : List (PyData × PyData))
abbrev Ev := List Sl
def DT (K : PySem.W.Frag) (M : Hp) (e : List Key × V) (f : PyData × PyData) : Prop := f.1 = .tuple (e.1.map keyD) ∧ Rp K M e.2 f.2
def DS (K : PySem.W.Frag) (M : Hp) (e : Key × V) (f : Str × PyData) : Prop := e.1 = .inr f.1 ∧ Rp K M e.2 f.2
inductive OwnAt (K : PySem.W.Frag) (P : Pr T) (p : Addr) : PyData → Prop
  | lst {xs : List V} {ds : List PyData} : P.M p = none → P.H p = some (.lst xs) → RpAll K P.M xs ds → OwnAt K P p (.list ds)
  | dT {kvs : List (List Key × V)} {ds : List (PyData × PyData)} : P.M p = none → P.H p = some (.dT kvs) → PySem.W.EachIs (DT K P.M) kvs ds → OwnAt K P p (.dict ds)
theorem own_none {P P' : Pr T} (l : Le P P') {p : Addr} {o : HO} (h : P.M p = none) (e : P.H p = some o) (n : Plain o) (n2 : ∀ vs, o ≠ .tup vs) : P'.M p = none := by
  cases z : P'.M p with
  | none => rfl
  | some u =>
    rcases l.f p h (by rw [z]; exact fun q => nomatch q) with w | ⟨vs, w⟩
    · obtain ⟨ps, w⟩ := w o e
      exact absurd w (n ps)
    · rw [e] at w
      exact absurd (Option.some.inj w) (n2 vs)
theorem OwnAt.up {P P' : Pr T} (l : Le P P') {p : Addr} {d : PyData} (h : OwnAt K P p d) : OwnAt K P' p d := by
  cases h with
  | lst h1 h2 h3 => exact .lst (own_none l h1 h2 (fun _ z => nomatch z) fun _ z => nomatch z) (l.h _ _ h2 fun _ z => nomatch z) (h3.ext l.m)
  | dT h1 h2 h3 => exact .dT (own_none l h1 h2 (fun _ z => nomatch z) fun _ z => nomatch z) (l.h _ _ h2 fun _ z => nomatch z) (h3.mono fun _ _ r => ⟨r.1, r.2.ext l.m⟩)
/-- the object of an own thing -/
theorem OwnAt.obj {P : Pr T} {p : Addr} {d : PyData} (h : OwnAt K P p d) : P.M p = none ∧ ∃ o, P.H p = some o ∧ Plain o := by
  cases h with
  | lst h1 h2 h3 => exact ⟨h1, _, h2, fun _ z => nomatch z⟩
  | dT h1 h2 h3 => exact ⟨h1, _, h2, fun _ z => nomatch z⟩
theorem OwnAt.tight {P : Pr T} {p : Addr} {d : PyData} (h : OwnAt K P p d) (l : Loose P.H p) : False := by
  obtain ⟨_, o, h1, h2⟩ := h.obj
  obtain ⟨ps, z⟩ := l o h1
  exact h2 ps z
inductive SlOk (K : PySem.W.Frag) (P : Pr T) : Option V → Sl → Prop
  | no {o : Option V} : SlOk K P o .no
  | val {v : V} {d : PyData} : Rp K P.M v d → SlOk K P (some v) (.val d)
  | own {p : Addr} {d : PyData} : OwnAt K P p d → SlOk K P (some (.ref p)) (.own d)
  | exn {a : Addr} : SlOk K P (some (.ref a)) (.exn a)
  | ods {p : Addr} {kvs : List (Key × V)} {ds : List (Str × PyData)} : P.M p = none → P.H p = some (.dK kvs) → PySem.W.EachIs (DS K P.M) kvs ds → SlOk K P (some (.ref p)) (.ods ds)
  | lck {p : Addr} {od : Obj} {kvs : List (List Key × V)} {ds : List (PyData × PyData)} : P.M p = none → P.H p = some (.frz od (.dT kvs)) → PySem.W.EachIs (DT K P.M) kvs ds → SlOk K P (some (.ref p)) (.lck ds)
theorem SlOk.up {P P' : Pr T} (l : Le P P') {o : Option V} {s : Sl} (h : SlOk K P o s) : SlOk K P' o s := by
  cases h with
  | no => exact .no
  | val h => exact .val (h.ext l.m)
  | own h => exact .own (h.up l)
  | exn => exact .exn
  | ods h1 h2 h3 => exact .ods (own_none l h1 h2 (fun _ z => nomatch z) fun _ z => nomatch z) (l.h _ _ h2 fun _ z => nomatch z) (h3.mono fun _ _ r => ⟨r.1, r.2.ext l.m⟩)
  | lck h1 h2 h3 => exact .lck (own_none l h1 h2 (fun _ z => nomatch z) fun _ z => nomatch z) (l.h _ _ h2 fun _ z => nomatch z) (h3.mono fun _ _ r => ⟨r.1, r.2.ext l.m⟩)
/-- dicts of one's own that are rows of names -/
def Ods (P0 : Pr T) (σ : L2.St) (ρ : Ev) : Prop := (∀ (i j : Nat) p ks ls, i ≠ j → ρ[i]? = some (.ods ks) → ρ[j]? = some (.ods ls) → σ[i]? = some (some (.ref p)) → σ[j]? = some (some (.ref p)) → False) ∧ ∀ (i : Nat) ks p, ρ[i]? = some (.ods ks) → σ[i]? = some (some (.ref p)) → Loose P0.H p
structure St (K : PySem.W.Frag) (P0 P : Pr T) (σ : L2.St) (ρ : Ev) : Prop where
  le : Le P0 P
  len : σ.length = ρ.length
  ok : ∀ (i : Nat) s, ρ[i]? = some s → ∃ o, σ[i]? = some o ∧ SlOk K P o s
  dis : ∀ (i j : Nat) p d e, i ≠ j → ρ[i]? = some (.own d) → ρ[j]? = some (.own e) → σ[i]? = some (some (.ref p)) → σ[j]? = some (some (.ref p)) → False
  fr : ∀ (i : Nat) d p, ρ[i]? = some (.own d) → σ[i]? = some (some (.ref p)) → Loose P0.H p
  od : Ods P0 σ ρ
variable {P0 P P' : Pr T} {σ : L2.St} {ρ : Ev}
theorem St.up (s : St K P0 P σ ρ) (l : Le P P') : St K P0 P' σ ρ := ⟨s.le.trans l, s.len, fun i x h => let ⟨o, h1, h2⟩ := s.ok i x h; ⟨o, h1, h2.up l⟩, s.dis, s.fr, s.od⟩
theorem getset {α : Type} {l : List α} {i j : Nat} {x y : α} (h : (l.set i x)[j]? = some y) : (i = j ∧ y = x ∧ j < l.length) ∨ (i ≠ j ∧ l[j]? = some y) := by
  by_cases e : i = j
  · subst e
    have hl : i < l.length := by
      have := (List.getElem?_eq_some_iff.mp h).1
      simpa using this
    rw [List.getElem?_set_self hl] at h
    exact .inl ⟨rfl, (Option.some.inj h).symm, hl⟩
  · rw [List.getElem?_set_ne e] at h
    exact .inr ⟨e, h⟩
theorem Ods.put {P0 : Pr T} {σ : L2.St} {ρ : Ev} (h : Ods P0 σ ρ) (i : Nat) (o : Option V) (s : Sl) (hs : ∀ ks, s ≠ .ods ks) : Ods P0 (σ.set i o) (ρ.set i s) := by
  refine ⟨fun j k p ks ls ne h1 h2 h3 h4 => ?_, fun j ks p h1 h2 => ?_⟩
  · rcases getset h1 with ⟨_, z, _⟩ | ⟨n1, h1⟩
    · exact hs ks z.symm
    rcases getset h2 with ⟨_, z, _⟩ | ⟨n2, h2⟩
    · exact hs ls z.symm
    rw [List.getElem?_set_ne n1] at h3
    rw [List.getElem?_set_ne n2] at h4
    exact h.1 j k p ks ls ne h1 h2 h3 h4
  · rcases getset h1 with ⟨_, z, _⟩ | ⟨n1, h1⟩
    · exact absurd z.symm (hs ks)
    rw [List.getElem?_set_ne n1] at h2
    exact h.2 j ks p h1 h2
theorem Ods.same {P0 : Pr T} {σ : L2.St} {ρ : Ev} (h : Ods P0 σ ρ) (i : Nat) (s : Sl) (hs : ∀ ks, s ≠ .ods ks) : Ods P0 σ (ρ.set i s) := by
  refine ⟨fun j k p ks ls ne h1 h2 h3 h4 => ?_, fun j ks p h1 h2 => ?_⟩
  · rcases getset h1 with ⟨_, z, _⟩ | ⟨n1, h1⟩
    · exact hs ks z.symm
    rcases getset h2 with ⟨_, z, _⟩ | ⟨n2, h2⟩
    · exact hs ls z.symm
    exact h.1 j k p ks ls ne h1 h2 h3 h4
  · rcases getset h1 with ⟨_, z, _⟩ | ⟨n1, h1⟩
    · exact absurd z.symm (hs ks)
    exact h.2 j ks p h1 h2
theorem St.set (s : St K P0 P σ ρ) {v : V} {d : PyData} (r : Rp K P.M v d) (i : Nat) : St K P0 P (σ.set i (some v)) (ρ.set i (.val d)) := by
  refine ⟨s.le, by rw [List.length_set, List.length_set]; exact s.len, fun j x h => ?_, fun j k p d1 e ne h1 h2 h3 h4 => ?_, fun j e p h1 h2 => ?_, s.od.put i _ _ fun _ z => nomatch z⟩
  · rcases getset h with ⟨rfl, rfl, hl⟩ | ⟨ne, h⟩
    · exact ⟨_, List.getElem?_set_self (by rw [s.len]; exact hl), .val r⟩
    · rw [List.getElem?_set_ne ne]
      exact s.ok j x h
  · rcases getset h1 with ⟨_, z, _⟩ | ⟨ne1, h1⟩
    · cases z
    rcases getset h2 with ⟨_, z, _⟩ | ⟨ne2, h2⟩
    · cases z
    rw [List.getElem?_set_ne ne1] at h3
    rw [List.getElem?_set_ne ne2] at h4
    exact s.dis j k p d1 e ne h1 h2 h3 h4
  · rcases getset h1 with ⟨_, z, _⟩ | ⟨ne1, h1⟩
    · cases z
    rw [List.getElem?_set_ne ne1] at h2
    exact s.fr j e p h1 h2
/-- a slot is forgotten -/
theorem St.wipe (s : St K P0 P σ ρ) (i : Nat) (o : Option V) : St K P0 P (σ.set i o) (ρ.set i .no) := by
  refine ⟨s.le, by rw [List.length_set, List.length_set]; exact s.len, fun j x h => ?_, fun j k p d1 e ne h1 h2 h3 h4 => ?_, fun j e p h1 h2 => ?_, s.od.put i _ _ fun _ z => nomatch z⟩
  · rcases getset h with ⟨rfl, rfl, hl⟩ | ⟨ne, h⟩
    · exact ⟨_, List.getElem?_set_self (by rw [s.len]; exact hl), .no⟩
    · rw [List.getElem?_set_ne ne]
      exact s.ok j x h
  · rcases getset h1 with ⟨_, z, _⟩ | ⟨ne1, h1⟩
    · cases z
    rcases getset h2 with ⟨_, z, _⟩ | ⟨ne2, h2⟩
    · cases z
    rw [List.getElem?_set_ne ne1] at h3
    rw [List.getElem?_set_ne ne2] at h4
    exact s.dis j k p d1 e ne h1 h2 h3 h4
  · rcases getset h1 with ⟨_, z, _⟩ | ⟨ne1, h1⟩
    · cases z
    rw [List.getElem?_set_ne ne1] at h2
    exact s.fr j e p h1 h2
theorem St.setO (s : St K P0 P σ ρ) {p : Addr} {d : PyData} (r : OwnAt K P p d) (l : Loose P0.H p) (i : Nat) (ap : ∀ (j : Nat) e q, ρ[j]? = some (.own e) → σ[j]? = some (some (.ref q)) → q ≠ p) : St K P0 P (σ.set i (some (.ref p))) (ρ.set i (.own d)) := by
  refine ⟨s.le, by rw [List.length_set, List.length_set]; exact s.len, fun j x h => ?_, fun j k q d1 e ne h1 h2 h3 h4 => ?_, fun j e q h1 h2 => ?_, s.od.put i _ _ fun _ z => nomatch z⟩
  · rcases getset h with ⟨rfl, rfl, hl⟩ | ⟨ne, h⟩
    · exact ⟨_, List.getElem?_set_self (by rw [s.len]; exact hl), .own r⟩
    · rw [List.getElem?_set_ne ne]
      exact s.ok j x h
  · rcases getset h1 with ⟨rfl, z, hl⟩ | ⟨ne1, h1⟩
    · rcases getset h2 with ⟨z2, _, _⟩ | ⟨ne2, h2⟩
      · exact ne z2
      · rw [List.getElem?_set_self (by rw [s.len]; exact hl)] at h3
        cases h3
        rw [List.getElem?_set_ne ne2] at h4
        exact ap k e _ h2 h4 rfl
    · rcases getset h2 with ⟨rfl, z, hl⟩ | ⟨ne2, h2⟩
      · rw [List.getElem?_set_self (by rw [s.len]; exact hl)] at h4
        cases h4
        rw [List.getElem?_set_ne ne1] at h3
        exact ap j d1 _ h1 h3 rfl
      · rw [List.getElem?_set_ne ne1] at h3
        rw [List.getElem?_set_ne ne2] at h4
        exact s.dis j k q d1 e ne h1 h2 h3 h4
  · rcases getset h1 with ⟨rfl, z, hl⟩ | ⟨ne1, h1⟩
    · rw [List.getElem?_set_self (by rw [s.len]; exact hl)] at h2
      cases h2
      exact l
    · rw [List.getElem?_set_ne ne1] at h2
      exact s.fr j e q h1 h2
theorem tabs_mut {H : Hp} {p : Addr} {o o' : HO} (t : LamX.Tabs T H) (hp : H p = some o) (n : Plain o) (nc : ∀ c q, o ≠ LamX.CodeO c q) : LamX.Tabs T (upd H p o') := fun q hq => by
  obtain ⟨ps, h1, h2, h3⟩ := t q hq
  have ne1 : q.1 ≠ p := fun z => by
    rw [z, hp] at h1
    exact n ps (Option.some.inj h1)
  refine ⟨ps, by rw [upd_ne ne1]; exact h1, h2, fun pos cv hc => ?_⟩
  obtain ⟨c, e1, e2⟩ := h3 pos cv hc
  have ne2 : c ≠ p := fun z => by
    rw [z, hp] at e2
    exact nc _ _ (Option.some.inj e2)
  exact ⟨c, e1, by rw [upd_ne ne2]; exact e2⟩
/-- an own thing is changed -/
theorem St.mut (s : St K P0 P σ ρ) {i : Nat} {p : Addr} {d d' : PyData} {o o' : HO} (hρ : ρ[i]? = some (.own d)) (hσ : σ[i]? = some (some (.ref p))) (hM : P.M p = none) (hp : P.H p = some o) (n : Plain o) (nc : ∀ c q, o ≠ LamX.CodeO c q)
    (hd : ∀ Q : Pr T, Q.M = P.M → Q.H = upd P.H p o' → OwnAt K Q p d') : ∃ Q : Pr T, Q.M = P.M ∧ Q.H = upd P.H p o' ∧ St K P0 Q σ (ρ.set i (.own d')) := by
  have hl : i < ρ.length := (List.getElem?_eq_some_iff.mp hρ).1
  have lo := s.fr i d p hρ hσ
  refine ⟨⟨P.M, upd P.H p o', fun b u e q => ?_, tabs_mut P.tab hp n nc, P.nt⟩, rfl, rfl, ⟨⟨s.le.m, fun b u e q => ?_, s.le.f⟩, by rw [List.length_set]; exact s.len, fun j x h => ?_, fun j k q d1 e ne h1 h2 h3 h4 => ?_, fun j e q h1 h2 => ?_, s.od.same i _ fun _ z => nomatch z⟩⟩
  · have ne : b ≠ p := fun z => by rw [z, hM] at e; cases e
    rw [upd_ne ne]
    exact P.sub b u e q
  · have ne : b ≠ p := fun z => by
      rw [z] at e
      obtain ⟨ps, w⟩ := lo u e
      exact q ps w
    show upd P.H p o' b = some u
    rw [upd_ne ne]
    exact s.le.h b u e q
  · rcases getset h with ⟨rfl, rfl, _⟩ | ⟨ne, h⟩
    · exact ⟨_, hσ, .own (hd _ rfl rfl)⟩
    · obtain ⟨u, h1, h2⟩ := s.ok j x h
      refine ⟨u, h1, ?_⟩
      cases h2 with
      | no => exact .no
      | val r => exact .val r
      | exn => exact .exn
      | @ods q kvs ks b1 b2 b3 =>
        have nq : q ≠ p := fun z => by
          obtain ⟨u', k1, k2⟩ := s.ok i _ hρ
          rw [hσ] at k1
          cases k1
          rw [z] at b2
          cases k2 with
          | own r =>
            cases r with
            | lst a1 a2 a3 =>
              rw [b2] at a2
              cases a2
            | dT a1 a2 a3 =>
              rw [b2] at a2
              cases a2
        exact .ods b1 (by show upd P.H p o' q = _; rw [upd_ne nq]; exact b2) b3
      | @lck q od kvs ds b1 b2 b3 =>
        have nq : q ≠ p := fun z => by
          obtain ⟨u', k1, k2⟩ := s.ok i _ hρ
          rw [hσ] at k1
          cases k1
          rw [z] at b2
          cases k2 with
          | own r =>
            cases r with
            | lst a1 a2 a3 =>
              rw [b2] at a2
              cases a2
            | dT a1 a2 a3 =>
              rw [b2] at a2
              cases a2
        exact .lck b1 (by show upd P.H p o' q = _; rw [upd_ne nq]; exact b2) b3
      | @own q e r =>
        have nq : q ≠ p := fun z => s.dis i j p d e ne hρ h hσ (by rw [h1, z])
        refine .own ?_
        cases r with
        | lst a1 a2 a3 => exact .lst a1 (by show upd P.H p o' q = _; rw [upd_ne nq]; exact a2) a3
        | dT a1 a2 a3 => exact .dT a1 (by show upd P.H p o' q = _; rw [upd_ne nq]; exact a2) a3
  · have g1 : ∃ d1', ρ[j]? = some (.own d1') := by
      rcases getset h1 with ⟨rfl, _, _⟩ | ⟨_, h⟩
      · exact ⟨d, hρ⟩
      · exact ⟨d1, h⟩
    have g2 : ∃ d1', ρ[k]? = some (.own d1') := by
      rcases getset h2 with ⟨rfl, _, _⟩ | ⟨_, h⟩
      · exact ⟨d, hρ⟩
      · exact ⟨e, h⟩
    obtain ⟨u1, g1⟩ := g1
    obtain ⟨u2, g2⟩ := g2
    exact s.dis j k q u1 u2 ne g1 g2 h3 h4
  · rcases getset h1 with ⟨rfl, _, _⟩ | ⟨_, h⟩
    · exact s.fr i d q hρ h2
    · exact s.fr j e q h h2
/-- an own list is one's own no more: data may stand on it -/
theorem St.rel (s : St K P0 P σ ρ) {i : Nat} {ds : List PyData} (hρ : ρ[i]? = some (.own (.list ds))) : ∃ Q : Pr T, Q.H = P.H ∧ St K P0 Q σ (ρ.set i (.val (.list ds))) := by
  have hl : i < ρ.length := (List.getElem?_eq_some_iff.mp hρ).1
  obtain ⟨o, hσ, k⟩ := s.ok i _ hρ
  cases k with
  | @own p _ r =>
    cases r with
    | @lst xs _ a1 a2 a3 =>
      have lo := s.fr i _ p hρ hσ
      have eM : Ex P.M (upd P.M p (.lst xs)) := fun b u e q => by
        have ne : b ≠ p := fun z => by rw [z, a1] at e; cases e
        rw [upd_ne ne]
        exact e
      refine ⟨⟨upd P.M p (.lst xs), P.H, fun b u e q => ?_, P.tab, nt_upd P.nt fun _ z => nomatch z⟩, rfl, ⟨⟨s.le.m.trans eM, s.le.h, fun a h1 h2 => ?_⟩, by rw [List.length_set]; exact s.len, fun j x h => ?_, fun j k q d1 e ne h1 h2 h3 h4 => ?_, fun j e q h1 h2 => ?_, s.od.same i _ fun _ z => nomatch z⟩⟩
      · by_cases z : b = p
        · subst z
          rw [upd_same] at e
          cases e
          exact a2
        · rw [upd_ne z] at e
          exact P.sub b u e q
      · by_cases z : a = p
        · subst z
          exact .inl lo
        · refine s.le.f a h1 ?_
          have h2 : upd P.M p (.lst xs) a ≠ none := h2
          rw [upd_ne z] at h2
          exact h2
      · rcases getset h with ⟨rfl, rfl, _⟩ | ⟨ne, h⟩
        · exact ⟨_, hσ, .val (.lst (SqL.of upd_same) (a3.ext eM))⟩
        · obtain ⟨u, h1, h2⟩ := s.ok j x h
          refine ⟨u, h1, ?_⟩
          cases h2 with
          | no => exact .no
          | val r => exact .val (r.ext eM)
          | exn => exact .exn
          | @ods q kvs ks b1 b2 b3 =>
            have nq : q ≠ p := fun z => by
              rw [z, a2] at b2
              cases b2
            exact .ods (by show upd P.M p _ q = _; rw [upd_ne nq]; exact b1) b2 (b3.mono fun _ _ r => ⟨r.1, r.2.ext eM⟩)
          | @lck q od kvs ds b1 b2 b3 =>
            have nq : q ≠ p := fun z => by
              rw [z, a2] at b2
              cases b2
            exact .lck (by show upd P.M p _ q = _; rw [upd_ne nq]; exact b1) b2 (b3.mono fun _ _ r => ⟨r.1, r.2.ext eM⟩)
          | @own q e r =>
            have nq : q ≠ p := fun z => s.dis i j p _ e ne hρ h hσ (by rw [h1, z])
            refine .own ?_
            cases r with
            | lst b1 b2 b3 => exact .lst (by show upd P.M p _ q = _; rw [upd_ne nq]; exact b1) b2 (b3.ext eM)
            | dT b1 b2 b3 => exact .dT (by show upd P.M p _ q = _; rw [upd_ne nq]; exact b1) b2 (b3.mono fun _ _ r => ⟨r.1, r.2.ext eM⟩)
      · rcases getset h1 with ⟨_, z, _⟩ | ⟨_, h1⟩
        · cases z
        rcases getset h2 with ⟨_, z, _⟩ | ⟨_, h2⟩
        · cases z
        exact s.dis j k q d1 e ne h1 h2 h3 h4
      · rcases getset h1 with ⟨_, z, _⟩ | ⟨_, h1⟩
        · cases z
        exact s.fr j e q h1 h2
/-! ### shallow readings -/
def Rw (K : PySem.W.Frag) (P : Pr T) (v : V) (d : PyData) : Prop := Rp K P.M v d ∨ ∃ p, v = .ref p ∧ OwnAt K P p d
theorem Rw.up {v : V} {d : PyData} (h : Rw K P v d) (l : Le P P') : Rw K P' v d := h.elim (fun r => .inl (r.ext l.m)) fun ⟨p, e, r⟩ => .inr ⟨p, e, r.up l⟩
theorem Rw.int {v : V} {i : Int} (h : Rw K P v (.int i)) : v = .int i := by
  rcases h with h | ⟨p, _, h⟩
  · cases h
    rfl
  · cases h
theorem Rw.str {v : V} {i : Str} (h : Rw K P v (.str i)) : v = .str i := by
  rcases h with h | ⟨p, _, h⟩
  · cases h
    rfl
  · cases h
theorem Rw.bool {v : V} {i : Bool} (h : Rw K P v (.bool i)) : v = .bl i := by
  rcases h with h | ⟨p, _, h⟩
  · cases h
    rfl
  · cases h
theorem Rw.tuple {v : V} {ds : List PyData} (h : Rw K P v (.tuple ds)) : ∃ a xs, v = .ref a ∧ P.M a = some (.tup xs) ∧ SqT K P.H a xs ∧ RpAll K P.M xs ds := by
  rcases h with h | ⟨p, _, h⟩
  · cases h with
    | tup hs ra => exact ⟨_, _, rfl, hs, ex_t P.sub (SqT.of hs), ra⟩
  · cases h
theorem Rw.list {v : V} {ds : List PyData} (h : Rw K P v (.list ds)) : ∃ a xs, v = .ref a ∧ SqL K P.H a xs ∧ RpAll K P.M xs ds := by
  rcases h with h | ⟨p, rfl, h⟩
  · cases h with
    | lst hs ra => exact ⟨_, _, rfl, ex_l P.sub hs, ra⟩
  · cases h with
    | lst h1 h2 h3 => exact ⟨_, _, rfl, SqL.of h2, h3⟩
theorem Rp.up {v : V} {d : PyData} (h : Rp K P.M v d) (l : Le P P') : Rp K P'.M v d := h.ext l.m
end PM
namespace PM
open PySem PySem.Spec PyProof.Rows L2 LB
theorem bind_eq {α β : Type} {o : Option α} {f : α → Option β} {b : β} (h : o.bind f = some b) : ∃ a, o = some a ∧ f a = some b := by
  cases o with
  | none => cases h
  | some a => exact ⟨a, rfl, h⟩
theorem map_eq {α β : Type} {o : Option α} {f : α → β} {b : β} (h : o.map f = some b) : ∃ a, o = some a ∧ f a = b := by
  cases o with
  | none => cases h
  | some a => exact ⟨a, rfl, Option.some.inj h⟩
abbrev ME := Ev → Option PyData
abbrev MT := Ev → Option Bool
abbrev MA := Ev → Option (List PyData)
section
variable (K : PySem.W.Frag) (T : Tb)
def tD (m : ME) : TE := fun σ H Q => ∃ (P0 P : Pr T) (ρ : Ev) (d : PyData), P.H = H ∧ St K P0 P σ ρ ∧ m ρ = some d ∧ ∀ v (P' : Pr T), Le P P' → Rp K P'.M v d → Q v P'.H
def tW (m : ME) : TE := fun σ H Q => ∃ (P0 P : Pr T) (ρ : Ev) (d : PyData), P.H = H ∧ St K P0 P σ ρ ∧ m ρ = some d ∧ ∀ v (P' : Pr T), Le P P' → Rw K P' v d → Q v P'.H
def tF (m : ME) : TE := fun σ H Q => ∃ (P0 P : Pr T) (ρ : Ev) (d : PyData), P.H = H ∧ St K P0 P σ ρ ∧ m ρ = some d ∧ ∀ p (P' : Pr T), Le P P' → OwnAt K P' p d → Loose P.H p → Q (.ref p) P'.H
def tQ (m : MT) : TT := fun σ H Q => ∃ (P0 P : Pr T) (ρ : Ev) (b : Bool), P.H = H ∧ St K P0 P σ ρ ∧ m ρ = some b ∧ ∀ (P' : Pr T), Le P P' → Q b P'.H
def tA (m : MA) : TA := fun σ H Q => ∃ (P0 P : Pr T) (ρ : Ev) (ds : List PyData), P.H = H ∧ St K P0 P σ ρ ∧ m ρ = some ds ∧ ∀ vs (P' : Pr T), Le P P' → RpAll K P'.M vs ds → Q vs P'.H
inductive RwAll (P : Pr T) : List V → List PyData → Prop
  | nil : RwAll P [] []
  | cons {v : V} {vs : List V} {d : PyData} {ds : List PyData} : Rw K P v d → RwAll P vs ds → RwAll P (v :: vs) (d :: ds)
def tAw (m : MA) : TA := fun σ H Q => ∃ (P0 P : Pr T) (ρ : Ev) (ds : List PyData), P.H = H ∧ St K P0 P σ ρ ∧ m ρ = some ds ∧ ∀ vs (P' : Pr T), Le P P' → RwAll K T P' vs ds → Q vs P'.H
def tP (m : Ev → Option (Option Int)) : TO := fun σ H Q => ∃ (P0 P : Pr T) (ρ : Ev) (o : Option Int), P.H = H ∧ St K P0 P σ ρ ∧ m ρ = some o ∧ ∀ (P' : Pr T), Le P P' → Q o P'.H
end
variable {T : Tb} {K : PySem.W.Frag} {X : Cx} {e : Expr}
theorem RwAll.up {P P' : Pr T} (l : Le P P') : ∀ {vs : List V} {ds : List PyData}, RwAll K T P vs ds → RwAll K T P' vs ds
  | _, _, .nil => .nil
  | _, _, .cons h r => .cons (h.up l) (RwAll.up l r)
theorem pe_to {t t' : TE} (h : PE X e t) (i : ∀ σ H Q, t' σ H Q → t σ H Q) : PE X e t' := ⟨fun pins s σ H Q I q => h.run pins s σ H Q I (i σ H Q q)⟩
theorem pt_to {t t' : TT} (h : PT X e t) (i : ∀ σ H Q, t' σ H Q → t σ H Q) : PT X e t' := ⟨fun pins s σ H Q I q => h.run pins s σ H Q I (i σ H Q q)⟩
theorem pw_to {t t' : TT} (h : PW X e t) (i : ∀ σ H Q, t' σ H Q → t σ H Q) : PW X e t' := ⟨fun w pins s σ H Q I q => h.run w pins s σ H Q I (i σ H Q q)⟩
theorem pa_to {es : List Expr} {t t' : TA} (h : PA X es t) (i : ∀ σ H Q, t' σ H Q → t σ H Q) : PA X es t' := ⟨fun p pins s σ H Q I q => h.run p pins s σ H Q I (i σ H Q q)⟩
theorem po_to {o : Option Expr} {t t' : TO} (h : PO X o t) (i : ∀ σ H Q, t' σ H Q → t σ H Q) : PO X o t' := ⟨fun pins s σ H Q I q => h.run pins s σ H Q I (i σ H Q q)⟩
theorem pi_to {tg : Expr} {t t' : TI} (h : PI X tg e t) (i : ∀ σ H Q, t' σ H Q → t σ H Q) : PI X tg e t' := ⟨fun pins s σ H Q I q => h.run pins s σ H Q I (i σ H Q q)⟩
theorem pg_to {t t' : TG} (h : PG X e t) (i : ∀ v σ H Q, t' v σ H Q → t v σ H Q) : PG X e t' := ⟨fun pins s σ H v u Q I r q => h.run pins s σ H v u Q I r (i v σ H Q q)⟩
theorem ps_to {st : Stmt} {t t' : TS} (h : PS X st t) (i : ∀ D σ H, t' D σ H → t D σ H) : PS X st t' := ⟨fun pins s σ H D I q => h.run pins s σ H D I (i D σ H q)⟩
theorem pss_to {st : List Stmt} {t t' : TS} (h : PSs X st t) (i : ∀ D σ H, t' D σ H → t D σ H) : PSs X st t' := ⟨fun pins s σ H D I q => h.run pins s σ H D I (i D σ H q)⟩
theorem pts_to {st : List Expr} {t t' : TT} (h : PTs X st t) (i : ∀ D σ H, t' D σ H → t D σ H) : PTs X st t' := ⟨fun pins s σ H D I q => h.run pins s σ H D I (i σ H D q)⟩
/-- what is deep is shallow -/
theorem c_w {m : ME} (h : PE X e (tD K T m)) : PE X e (tW K T m) := pe_to h fun σ H Q ⟨P0, P, ρ, d, h1, s, h2, q⟩ => ⟨P0, P, ρ, d, h1, s, h2, fun v P' l r => q v P' l (.inl r)⟩
theorem c_fw {m : ME} (h : PE X e (tF K T m)) : PE X e (tW K T m) := pe_to h fun σ H Q ⟨P0, P, ρ, d, h1, s, h2, q⟩ => ⟨P0, P, ρ, d, h1, s, h2, fun p P' l r lo => q _ P' l (.inr ⟨p, rfl, r⟩)⟩
/-- an own new list becomes one that data may stand on -/
theorem own_put {P P' : Pr T} {p : Addr} {ds : List PyData} (l : Le P P') (r : OwnAt K P' p (.list ds)) (lo : Loose P.H p) : ∃ P'' : Pr T, P''.H = P'.H ∧ Le P P'' ∧ Rp K P''.M (.ref p) (.list ds) := by
  cases r with
  | @lst xs _ a1 a2 a3 =>
    have eM : Ex P'.M (upd P'.M p (.lst xs)) := fun b u e q => by
      have ne : b ≠ p := fun z => by rw [z, a1] at e; cases e
      rw [upd_ne ne]
      exact e
    refine ⟨⟨upd P'.M p (.lst xs), P'.H, fun b u e q => ?_, P'.tab, nt_upd P'.nt fun _ z => nomatch z⟩, rfl, ⟨l.m.trans eM, l.h, fun a h1 h2 => ?_⟩, .lst (SqL.of upd_same) (a3.ext eM)⟩
    · by_cases z : b = p
      · subst z
        rw [upd_same] at e
        cases e
        exact a2
      · rw [upd_ne z] at e
        exact P'.sub b u e q
    · by_cases z : a = p
      · subst z
        exact .inl lo
      · refine l.f a h1 ?_
        have h2 : upd P'.M p (.lst xs) a ≠ none := h2
        rw [upd_ne z] at h2
        exact h2
def isLst : PyData → Bool
  | .list _ => true
  | _ => false
theorem fd_in {m : ME} (hl : ∀ ρ d, m ρ = some d → isLst d = true) {σ : L2.St} {H : Hp} {Q : VK} (h : tD K T m σ H Q) : tF K T m σ H Q := by
  obtain ⟨P0, P, ρ, d, h1, s, h2, q⟩ := h
  refine ⟨P0, P, ρ, d, h1, s, h2, fun p P' l r lo => ?_⟩
  have hi := hl ρ d h2
  match d, hi with
  | .list ds, _ =>
    obtain ⟨P'', e, l'', r''⟩ := own_put l r lo
    rw [← e]
    exact q _ P'' l'' r''
theorem c_f {m : ME} (h : PE X e (tF K T m)) (hl : ∀ ρ d, m ρ = some d → isLst d = true) : PE X e (tD K T m) := pe_to h fun σ H Q z => fd_in hl z
/-! ### names, constants -/
def mC (d : PyData) : ME := fun _ => some d
def mV (i : Nat) : ME := fun ρ => match ρ[i]? with
  | some (.val d) => some d
  | _ => none
def mW (i : Nat) : ME := fun ρ => match ρ[i]? with
  | some (.val d) => some d
  | some (.own d) => some d
  | _ => none
theorem c_c {v : V} {d : PyData} (h : PE X e (tC v)) (r : ∀ M, Rp K M v d) : PE X e (tD K T (mC d)) := pe_to h fun σ H Q ⟨P0, P, ρ, d', h1, s, h2, q⟩ => by
  cases h2
  subst h1
  exact q v P (Le.refl P) (r _)
theorem c_v {i : Nat} (h : PE X e (tVar i)) : PE X e (tD K T (mV i)) := pe_to h fun σ H Q ⟨P0, P, ρ, d', h1, s, h2, q⟩ => by
  subst h1
  unfold mV at h2
  split at h2
  · rename_i d hd
    cases h2
    obtain ⟨o, g1, g2⟩ := s.ok i _ hd
    cases g2 with
    | val r => exact ⟨_, g1, q _ P (Le.refl P) r⟩
  · cases h2
theorem c_vw {i : Nat} (h : PE X e (tVar i)) : PE X e (tW K T (mW i)) := pe_to h fun σ H Q ⟨P0, P, ρ, d', h1, s, h2, q⟩ => by
  subst h1
  unfold mW at h2
  split at h2
  · rename_i d hd
    cases h2
    obtain ⟨o, g1, g2⟩ := s.ok i _ hd
    cases g2 with
    | val r => exact ⟨_, g1, q _ P (Le.refl P) (.inl r)⟩
  · rename_i d hd
    cases h2
    obtain ⟨o, g1, g2⟩ := s.ok i _ hd
    cases g2 with
    | own r => exact ⟨_, g1, q _ P (Le.refl P) (.inr ⟨_, rfl, r⟩)⟩
  · cases h2
/-! ### two-place operations -/
def OpD (K : PySem.W.Frag) (T : Tb) (r : R2) (f : PyData → PyData → Option PyData) : Prop := ∀ (P : Pr T) x y a b d, Rw K P x a → Rw K P y b → f a b = some d → ∀ Q : VK, (∀ v (P' : Pr T), Le P P' → Rp K P'.M v d → Q v P'.H) → r x y P.H Q
def mOp (f : PyData → PyData → Option PyData) (a b : ME) : ME := fun ρ => (a ρ).bind fun x => (b ρ).bind fun y => f x y
theorem c_op {r : R2} {f : PyData → PyData → Option PyData} {a b : ME} (hD : OpD K T r f) (h : PE X e (tOp r (tW K T a) (tW K T b))) : PE X e (tD K T (mOp f a b)) := pe_to h fun σ H Q ⟨P0, P, ρ, d, h1, s, h2, q⟩ => by
  subst h1
  obtain ⟨x, ex, h2⟩ := bind_eq h2
  obtain ⟨y, ey, h2⟩ := bind_eq h2
  exact ⟨P0, P, ρ, x, rfl, s, ex, fun v P1 l1 r1 => ⟨P0, P1, ρ, y, rfl, s.up l1, ey, fun u P2 l2 r2 => hD P2 v u x y d (r1.up l2) r2 h2 Q fun w P3 l3 r3 => q w P3 ((l1.trans l2).trans l3) r3⟩⟩
/-- the test of a comparison -/
def asB : PyData → Option Bool
  | .bool b => some b
  | _ => none
def qV (a : ME) : MT := fun ρ => (a ρ).bind asB
theorem asB_eq {d : PyData} {b : Bool} (h : asB d = some b) : d = .bool b := by
  unfold asB at h
  split at h
  · cases h
    rfl
  · cases h
theorem c_opT {r : R2} {f : PyData → PyData → Option PyData} {a b : ME} (hD : OpD K T r f) (h : PT X e (tTest (tOp r (tW K T a) (tW K T b)))) : PT X e (tQ K T (qV (mOp f a b))) := pt_to h fun σ H Q ⟨P0, P, ρ, c, h1, s, h2, q⟩ => by
  subst h1
  obtain ⟨z, h2, ez⟩ := bind_eq h2
  rw [asB_eq ez] at h2
  obtain ⟨x, ex, h2⟩ := bind_eq h2
  obtain ⟨y, ey, h2⟩ := bind_eq h2
  refine ⟨P0, P, ρ, x, rfl, s, ex, fun v P1 l1 r1 => ⟨P0, P1, ρ, y, rfl, s.up l1, ey, fun u P2 l2 r2 => hD P2 v u x y _ (r1.up l2) r2 h2 _ fun w P3 l3 r3 => ?_⟩⟩
  cases r3
  exact ⟨c, rfl, q P3 ((l1.trans l2).trans l3)⟩
theorem c_tv {a : ME} (h : PT X e (tB (tD K T a))) : PT X e (tQ K T (qV a)) := pt_to h fun σ H Q ⟨P0, P, ρ, c, h1, s, h2, q⟩ => by
  subst h1
  obtain ⟨z, h2, ez⟩ := bind_eq h2
  rw [asB_eq ez] at h2
  refine ⟨P0, P, ρ, _, rfl, s, h2, fun v P1 l1 r1 => ?_⟩
  cases r1
  exact ⟨c, rfl, q P1 l1⟩
def qNot (a : MT) : MT := fun ρ => (a ρ).map fun b => !b
def qAnd (a b : MT) : MT := fun ρ => (a ρ).bind fun c => if c = true then b ρ else some false
def qOr (a b : MT) : MT := fun ρ => (a ρ).bind fun c => if c = true then some true else b ρ
theorem c_not {a : MT} (h : PT X e (tNot (tQ K T a))) : PT X e (tQ K T (qNot a)) := pt_to h fun σ H Q ⟨P0, P, ρ, c, h1, s, h2, q⟩ => by
  obtain ⟨b, h3, rfl⟩ := map_eq h2
  exact ⟨P0, P, ρ, b, h1, s, h3, q⟩
theorem c_and {a b : MT} (h : PW X e (tAnd (tQ K T a) (tQ K T b))) : PW X e (tQ K T (qAnd a b)) := pw_to h fun σ H Q ⟨P0, P, ρ, c, h1, s, h2, q⟩ => by
  subst h1
  obtain ⟨x, ex, h2⟩ := bind_eq h2
  refine ⟨P0, P, ρ, x, rfl, s, ex, fun P1 l1 => ?_⟩
  cases x with
  | true => exact iteT ⟨P0, P1, ρ, c, rfl, s.up l1, by simpa using h2, fun P2 l2 => q P2 (l1.trans l2)⟩
  | false =>
    have : c = false := by simpa using h2.symm
    subst this
    exact iteF (q P1 l1)
theorem c_or {a b : MT} (h : PW X e (tOr (tQ K T a) (tQ K T b))) : PW X e (tQ K T (qOr a b)) := pw_to h fun σ H Q ⟨P0, P, ρ, c, h1, s, h2, q⟩ => by
  subst h1
  obtain ⟨x, ex, h2⟩ := bind_eq h2
  refine ⟨P0, P, ρ, x, rfl, s, ex, fun P1 l1 => ?_⟩
  cases x with
  | false => exact iteF ⟨P0, P1, ρ, c, rfl, s.up l1, by simpa using h2, fun P2 l2 => q P2 (l1.trans l2)⟩
  | true =>
    have : c = true := by simpa using h2.symm
    subst this
    exact iteT (q P1 l1)
/-! ### and, or, not as values; chains -/
def mAnd (a b : ME) : ME := fun ρ => (a ρ).bind fun x => (asB x).bind fun c => if c = true then b ρ else some (.bool false)
def mOr (a b : ME) : ME := fun ρ => (a ρ).bind fun x => (asB x).bind fun c => if c = true then some (.bool true) else b ρ
def mNot (a : ME) : ME := fun ρ => (a ρ).bind fun x => (asB x).map fun c => .bool (!c)
def mIf (t : MT) (a b : ME) : ME := fun ρ => (t ρ).bind fun c => if c = true then a ρ else b ρ
theorem c_andV {a b : ME} (h : PE X e (tAndV (tD K T a) (tD K T b))) : PE X e (tD K T (mAnd a b)) := pe_to h fun σ H Q ⟨P0, P, ρ, d, h1, s, h2, q⟩ => by
  subst h1
  obtain ⟨x, ex, h2⟩ := bind_eq h2
  obtain ⟨c, ec, h3⟩ := bind_eq h2
  have := asB_eq ec
  subst this
  refine ⟨P0, P, ρ, _, rfl, s, ex, fun v P1 l1 r1 => ?_⟩
  cases r1
  refine ⟨c, rfl, ?_⟩
  cases c with
  | true => exact iteT ⟨P0, P1, ρ, d, rfl, s.up l1, by simpa using h3, fun v P2 l2 r2 => q v P2 (l1.trans l2) r2⟩
  | false =>
    have : d = .bool false := by simpa using h3.symm
    subst this
    exact iteF (q _ P1 l1 (.bl _))
theorem c_orV {a b : ME} (h : PE X e (tOrV (tD K T a) (tD K T b))) : PE X e (tD K T (mOr a b)) := pe_to h fun σ H Q ⟨P0, P, ρ, d, h1, s, h2, q⟩ => by
  subst h1
  obtain ⟨x, ex, h2⟩ := bind_eq h2
  obtain ⟨c, ec, h3⟩ := bind_eq h2
  have := asB_eq ec
  subst this
  refine ⟨P0, P, ρ, _, rfl, s, ex, fun v P1 l1 r1 => ?_⟩
  cases r1
  refine ⟨c, rfl, ?_⟩
  cases c with
  | false => exact iteF ⟨P0, P1, ρ, d, rfl, s.up l1, by simpa using h3, fun v P2 l2 r2 => q v P2 (l1.trans l2) r2⟩
  | true =>
    have : d = .bool true := by simpa using h3.symm
    subst this
    exact iteT (q _ P1 l1 (.bl _))
theorem c_notV {a : ME} (h : PE X e (tNotV (tD K T a))) : PE X e (tD K T (mNot a)) := pe_to h fun σ H Q ⟨P0, P, ρ, d, h1, s, h2, q⟩ => by
  subst h1
  obtain ⟨x, ex, h2⟩ := bind_eq h2
  obtain ⟨c, ec, rfl⟩ := map_eq h2
  have := asB_eq ec
  subst this
  refine ⟨P0, P, ρ, _, rfl, s, ex, fun v P1 l1 r1 => ?_⟩
  cases r1
  exact ⟨c, rfl, q _ P1 l1 (.bl _)⟩
theorem c_if {t : MT} {a b : ME} (h : PE X e (tIf (tQ K T t) (tD K T a) (tD K T b))) : PE X e (tD K T (mIf t a b)) := pe_to h fun σ H Q ⟨P0, P, ρ, d, h1, s, h2, q⟩ => by
  subst h1
  obtain ⟨c, ec, h2⟩ := bind_eq h2
  refine ⟨P0, P, ρ, c, rfl, s, ec, fun P1 l1 => ?_⟩
  cases c with
  | true => exact iteT ⟨P0, P1, ρ, d, rfl, s.up l1, by simpa using h2, fun v P2 l2 r2 => q v P2 (l1.trans l2) r2⟩
  | false => exact iteF ⟨P0, P1, ρ, d, rfl, s.up l1, by simpa using h2, fun v P2 l2 r2 => q v P2 (l1.trans l2) r2⟩
def mCh (f g : PyData → PyData → Option PyData) (a b c : ME) : ME := fun ρ => (a ρ).bind fun x => (b ρ).bind fun y => (f x y).bind fun z => (asB z).bind fun k => if k = true then (c ρ).bind fun w => g y w else some (.bool false)
theorem ch_in {r r' : R2} {f g : PyData → PyData → Option PyData} {a b c : ME} (hD : OpD K T r f) (hD' : OpD K T r' g) {σ : L2.St} {H : Hp} {Q : VK} (h : tD K T (mCh f g a b c) σ H Q) : tChain r r' (tW K T a) (tW K T b) (tW K T c) σ H Q := by
  obtain ⟨P0, P, ρ, d, h1, s, h2, q⟩ := h
  subst h1
  obtain ⟨x, ex, h2⟩ := bind_eq h2
  obtain ⟨y, ey, h2⟩ := bind_eq h2
  obtain ⟨z, ez, h2⟩ := bind_eq h2
  obtain ⟨k, ek, h3⟩ := bind_eq h2
  have := asB_eq ek
  subst this
  refine ⟨P0, P, ρ, x, rfl, s, ex, fun v P1 l1 r1 => ⟨P0, P1, ρ, y, rfl, s.up l1, ey, fun u P2 l2 r2 => hD P2 v u x y _ (r1.up l2) r2 ez _ fun w P3 l3 r3 => ?_⟩⟩
  cases r3
  refine ⟨k, rfl, ?_⟩
  cases k with
  | false =>
    have : d = .bool false := by simpa using h3.symm
    subst this
    exact iteF (q _ P3 ((l1.trans l2).trans l3) (.bl _))
  | true =>
    obtain ⟨w, ew, h2⟩ := bind_eq (show ((c ρ).bind fun w => g y w) = some d by simpa using h3)
    exact iteT ⟨P0, P3, ρ, w, rfl, s.up ((l1.trans l2).trans l3), ew, fun v' P4 l4 r4 => hD' P4 u v' y w d ((r2.up l3).up l4) r4 h2 Q fun w' P5 l5 r5 => q w' P5 (((l1.trans l2).trans l3).trans (l4.trans l5)) r5⟩
theorem c_ch {r r' : R2} {f g : PyData → PyData → Option PyData} {a b c : ME} (hD : OpD K T r f) (hD' : OpD K T r' g) (h : PE X e (tChain r r' (tW K T a) (tW K T b) (tW K T c))) : PE X e (tD K T (mCh f g a b c)) := pe_to h fun σ H Q z => ch_in hD hD' z
theorem c_chT {r r' : R2} {f g : PyData → PyData → Option PyData} {a b c : ME} (hD : OpD K T r f) (hD' : OpD K T r' g) (h : PT X e (tTest (tChain r r' (tW K T a) (tW K T b) (tW K T c)))) : PT X e (tQ K T (qV (mCh f g a b c))) := pt_to h fun σ H Q ⟨P0, P, ρ, k, h1, s, h2, q⟩ => by
  obtain ⟨z, h2, ez⟩ := bind_eq h2
  rw [asB_eq ez] at h2
  refine ch_in hD hD' ⟨P0, P, ρ, _, h1, s, h2, fun v P' l r => ?_⟩
  cases r
  exact ⟨k, rfl, q P' l⟩
/-! ### one place -/
def mUn (f : PyData → Option PyData) (a : ME) : ME := fun ρ => (a ρ).bind f
def oNeg : PyData → Option PyData
  | .int i => some (.int (-i))
  | _ => none
theorem c_neg {a : ME} (h : PE X e (tUn (rU fun i => .int (-i)) (tD K T a))) : PE X e (tD K T (mUn oNeg a)) := pe_to h fun σ H Q ⟨P0, P, ρ, d, h1, s, h2, q⟩ => by
  subst h1
  obtain ⟨x, ex, h2⟩ := bind_eq h2
  unfold oNeg at h2
  split at h2
  · cases h2
    refine ⟨P0, P, ρ, _, rfl, s, ex, fun v P1 l1 r1 => ?_⟩
    cases r1
    exact ⟨_, rfl, q _ P1 l1 (.int _)⟩
  · cases h2
/-! ### rows of expressions -/
def aNil : MA := fun _ => some []
def aCons (a : ME) (b : MA) : MA := fun ρ => (a ρ).bind fun x => (b ρ).map fun xs => x :: xs
theorem a_nil {es : List Expr} (h : PA X es tNil) : PA X es (tA K T aNil) := pa_to h fun σ H Q ⟨P0, P, ρ, d, h1, s, h2, q⟩ => by
  cases h2
  subst h1
  exact q [] P (Le.refl P) .nil
theorem a_cons {es : List Expr} {a : ME} {b : MA} (h : PA X es (tCons (tD K T a) (tA K T b))) : PA X es (tA K T (aCons a b)) := pa_to h fun σ H Q ⟨P0, P, ρ, d, h1, s, h2, q⟩ => by
  subst h1
  obtain ⟨x, ex, h2⟩ := bind_eq h2
  obtain ⟨xs, es', rfl⟩ := map_eq h2
  exact ⟨P0, P, ρ, x, rfl, s, ex, fun v P1 l1 r1 => ⟨P0, P1, ρ, xs, rfl, s.up l1, es', fun vs P2 l2 r2 => q _ P2 (l1.trans l2) (.cons (r1.ext l2.m) r2)⟩⟩
theorem a_nilw {es : List Expr} (h : PA X es tNil) : PA X es (tAw K T aNil) := pa_to h fun σ H Q ⟨P0, P, ρ, d, h1, s, h2, q⟩ => by
  cases h2
  subst h1
  exact q [] P (Le.refl P) .nil
theorem a_consw {es : List Expr} {a : ME} {b : MA} (h : PA X es (tCons (tW K T a) (tAw K T b))) : PA X es (tAw K T (aCons a b)) := pa_to h fun σ H Q ⟨P0, P, ρ, d, h1, s, h2, q⟩ => by
  subst h1
  obtain ⟨x, ex, h2⟩ := bind_eq h2
  obtain ⟨xs, es', rfl⟩ := map_eq h2
  exact ⟨P0, P, ρ, x, rfl, s, ex, fun v P1 l1 r1 => ⟨P0, P1, ρ, xs, rfl, s.up l1, es', fun vs P2 l2 r2 => q _ P2 (l1.trans l2) (.cons (r1.up l2) r2)⟩⟩
/-- *x -/
def oStar : PyData → Option (List PyData)
  | .tuple xs => some xs
  | .list xs => some xs
  | _ => none
def aStar (a : ME) (b : MA) : MA := fun ρ => (a ρ).bind fun x => (oStar x).bind fun ys => (b ρ).map fun xs => ys ++ xs
theorem a_star {es : List Expr} {a : ME} {b : MA} (h : PA X es (StX.tStar K (tW K T a) (tA K T b))) : PA X es (tA K T (aStar a b)) := pa_to h fun σ H Q ⟨P0, P, ρ, d, h1, s, h2, q⟩ => by
  subst h1
  obtain ⟨x, ex, h2⟩ := bind_eq h2
  obtain ⟨ys, ey, h2⟩ := bind_eq h2
  obtain ⟨xs, es', rfl⟩ := map_eq h2
  refine ⟨P0, P, ρ, x, rfl, s, ex, fun v P1 l1 r1 => ?_⟩
  unfold oStar at ey
  split at ey
  · cases ey
    obtain ⟨p, zs, rfl, _, hs, ra⟩ := r1.tuple
    exact ⟨p, zs, rfl, .inl hs, P0, P1, ρ, xs, rfl, s.up l1, es', fun vs P2 l2 r2 => q _ P2 (l1.trans l2) (RpAll.append (ra.ext l2.m) r2)⟩
  · cases ey
    obtain ⟨p, zs, rfl, hs, ra⟩ := r1.list
    exact ⟨p, zs, rfl, .inr hs, P0, P1, ρ, xs, rfl, s.up l1, es', fun vs P2 l2 r2 => q _ P2 (l1.trans l2) (RpAll.append (ra.ext l2.m) r2)⟩
  · cases ey
def oFew (ds : List PyData) : Option (List PyData) := if ds.length ≤ 100000 then some ds else none
theorem oFew_eq {ds es : List PyData} (h : oFew ds = some es) : es = ds ∧ ds.length ≤ 100000 := by
  unfold oFew at h
  split at h
  · cases h
    exact ⟨rfl, by assumption⟩
  · cases h
def mTup (a : MA) : ME := fun ρ => (a ρ).bind fun xs => (oFew xs).map fun ys => .tuple ys
def mLst (a : MA) : ME := fun ρ => (a ρ).bind fun xs => (oFew xs).map fun ys => .list ys
theorem c_tup {a : MA} (h : PE X e (tTup (tA K T a))) : PE X e (tD K T (mTup a)) := pe_to h fun σ H Q ⟨P0, P, ρ, d, h1, s, h2, q⟩ => by
  subst h1
  obtain ⟨xs, ex, h2⟩ := bind_eq h2
  obtain ⟨ys, ey, rfl⟩ := map_eq h2
  obtain ⟨rfl, hl⟩ := oFew_eq ey
  exact ⟨P0, P, ρ, _, rfl, s, ex, fun vs P1 l1 r1 => ⟨Nat.le_trans (by rw [r1.length]; exact hl) (by decide), fun p hp => q _ (P1.put p (.tup vs) hp) (l1.trans (le_put P1 hp)) (.tup upd_same (r1.ext (le_put P1 hp).m))⟩⟩
theorem c_lst {a : MA} (h : PE X e (tLst (tA K T a))) : PE X e (tF K T (mLst a)) := pe_to h fun σ H Q ⟨P0, P, ρ, d, h1, s, h2, q⟩ => by
  subst h1
  obtain ⟨xs, ex, h2⟩ := bind_eq h2
  obtain ⟨ys, ey, rfl⟩ := map_eq h2
  obtain ⟨rfl, hl⟩ := oFew_eq ey
  refine ⟨P0, P, ρ, _, rfl, s, ex, fun vs P1 l1 r1 => ⟨Nat.le_trans (by rw [r1.length]; exact hl) (by decide), fun p hp => q _ (P1.hid p (.lst vs) hp) (l1.trans (le_hid P1 hp)) (.lst (P1.none hp) upd_same r1) (loose_back l1.h (loose_none hp))⟩⟩
theorem mLst_is {a : MA} (ρ : Ev) (d : PyData) (h : mLst a ρ = some d) : isLst d = true := by
  obtain ⟨xs, ex, h2⟩ := bind_eq h
  obtain ⟨ys, ey, rfl⟩ := map_eq h2
  rfl
end PM
namespace PM
open PySem PySem.Spec PyProof.Rows L2 LB
variable {T : Tb} {K : PySem.W.Frag} {X : Cx} {e : Expr}
theorem opR_or {g : Value → Value → Sem Value} {r r' : R2} (h1 : OpR X g r) (h2 : OpR X g r') : OpR X g (fun x y H Q => r x y H Q ∨ r' x y H Q) := fun pins s σ H x y v u Q I rx ry h => h.elim (h1 pins s σ H x y v u Q I rx ry) (h2 pins s σ H x y v u Q I rx ry)
/-! ### ints -/
def oI (c : Int → Int → Bool) (g : Int → Int → PyData) : PyData → PyData → Option PyData
  | .int i, .int j => if c i j = true then some (g i j) else none
  | _, _ => none
theorem od_I {C : Int → Int → Prop} {gv : Int → Int → V} {c : Int → Int → Bool} {g : Int → Int → PyData} (hc : ∀ i j, c i j = true → C i j) (hr : ∀ M i j, Rp K M (gv i j) (g i j)) : OpD K T (rI C gv) (oI c g) := by
  intro P x y a b d ra rb h Q q
  unfold oI at h
  split at h
  · split at h
    · cases h
      rename_i i j hh
      exact ⟨i, j, ra.int, rb.int, hc i j hh, q _ P (Le.refl P) (hr _ _ _)⟩
    · cases h
  · cases h
theorem od_I0 {gv : Int → Int → V} {g : Int → Int → PyData} (hr : ∀ M i j, Rp K M (gv i j) (g i j)) : OpD K T (rI0 gv) (oI (fun _ _ => true) g) := by
  intro P x y a b d ra rb h Q q
  unfold oI at h
  split at h
  · rename_i i j
    rw [if_pos rfl] at h
    cases h
    exact ⟨i, j, ra.int, rb.int, q _ P (Le.refl P) (hr _ _ _)⟩
  · cases h
def oSub := oI (fun _ _ => true) fun i j => .int (i - j)
theorem od_sub : OpD K T (rI0 fun i j => .int (i - j)) oSub := od_I0 fun _ _ _ => .int _
def oMod := oI (fun _ j => decide (j ≠ 0)) fun i j => .int (i.fmod j)
theorem od_mod : OpD K T (rI (fun _ j => j ≠ 0) fun i j => .int (i.fmod j)) oMod := od_I (fun _ _ h => of_decide_eq_true h) fun _ _ _ => .int _
def oFdv := oI (fun _ j => decide (j ≠ 0 ∧ j.natAbs < 2 ^ 250)) fun i j => .int (i.fdiv j)
theorem od_fdv : OpD K T (rI CDivG fun i j => .int (i.fdiv j)) oFdv := od_I (fun _ _ h => let ⟨h1, h2⟩ := of_decide_eq_true h; divG (b := 250) h1 h2 (by decide) (by decide)) fun _ _ _ => .int _
def oPow := oI (fun i j => decide (0 ≤ j ∧ j ≤ 1000 ∧ i.natAbs < 1000)) fun i j => .int (i ^ j.toNat)
theorem od_pow : OpD K T (rI CPow fun i j => .int (i ^ j.toNat)) oPow := od_I (fun i j h => by
  obtain ⟨h1, h2, h3⟩ := of_decide_eq_true h
  exact ⟨h1, by omega, by omega⟩) fun _ _ _ => .int _
def oLe := oI (fun _ _ => true) fun i j => .bool (decide (i ≤ j))
theorem od_le : OpD K T (rI0 fun i j => .bl (decide (i ≤ j))) oLe := od_I0 fun _ _ _ => .bl _
def oGt := oI (fun _ _ => true) fun i j => .bool (decide (j < i))
theorem od_gt : OpD K T (rI0 fun i j => .bl (decide (j < i))) oGt := od_I0 fun _ _ _ => .bl _
def oGe := oI (fun _ _ => true) fun i j => .bool (decide (j ≤ i))
theorem od_ge : OpD K T (rI0 fun i j => .bl (decide (j ≤ i))) oGe := od_I0 fun _ _ _ => .bl _
/-! ### ints or texts -/
def oLt : PyData → PyData → Option PyData
  | .int i, .int j => some (.bool (decide (i < j)))
  | .str i, .str j => some (.bool (decide (i.cps.toList < j.cps.toList)))
  | _, _ => none
def uLt : R2 := fun x y H Q => rI0 (fun i j => .bl (decide (i < j))) x y H Q ∨ (∃ i j, x = .str i ∧ y = .str j ∧ Q (.bl (decide (i.cps.toList < j.cps.toList))) H)
theorem op_uLt : OpR X (compareOp .Lt) uLt := opR_or op_lt op_lt_str
theorem od_lt : OpD K T uLt oLt := by
  intro P x y a b d ra rb h Q q
  unfold oLt at h
  split at h
  · cases h
    exact .inl ⟨_, _, ra.int, rb.int, q _ P (Le.refl P) (.bl _)⟩
  · cases h
    exact .inr ⟨_, _, ra.str, rb.str, q _ P (Le.refl P) (.bl _)⟩
  · cases h
def oMul : PyData → PyData → Option PyData
  | .int i, .int j => if i.natAbs < 2 ^ 200 ∧ j.natAbs < 2 ^ 200 then some (.int (i * j)) else none
  | .str z, .int n => if 0 ≤ n ∧ n ≤ 1000 ∧ z.length ≤ 1000 then some (.str (repS z n.toNat)) else none
  | _, _ => none
def uMul : R2 := fun x y H Q => rI CMulW (fun i j => .int (i * j)) x y H Q ∨ rRepS x y H Q
theorem op_uMul : OpR X (binaryOp .Mult) uMul := opR_or op_mulW op_repS
theorem od_mul : OpD K T uMul oMul := by
  intro P x y a b d ra rb h Q q
  unfold oMul at h
  split at h
  · split at h
    · cases h
      rename_i hh
      exact .inl ⟨_, _, ra.int, rb.int, wide_mul (a := 200) (b := 200) hh.1 hh.2 (by decide) (by decide) (by decide), q _ P (Le.refl P) (.int _)⟩
    · cases h
  · split at h
    · cases h
      rename_i z n hh
      refine .inr ⟨z, n.toNat, ra.str, ?_, by omega, hh.2.2, q _ P (Le.refl P) (.str _)⟩
      rw [rb.int]
      congr 1
      omega
    · cases h
  · cases h
/-! ### + -/
def rCatL (K : PySem.W.Frag) : R2 := fun x y H Q => ∃ l b xs zs, x = .ref l ∧ y = .ref b ∧ SqL K H l xs ∧ SqL K H b zs ∧ xs.length + zs.length ≤ sizeLine ∧ ∀ p, H p = none → Q (.ref p) (upd H p (.lst (xs ++ zs)))
theorem op_catLL (hK : X.K = K := by rfl) : OpR X (binaryOp .Add) (rCatL K) := by
  subst hK
  intro pins s σ H x y v u Q I rx ry h
  obtain ⟨l, b, xs, zs, rfl, rfl, hH, hB, hz, q⟩ := h
  cases rx
  cases ry
  obtain ⟨its, r, pl, _⟩ := I.list hH
  obtain ⟨its2, r2, pl2, _⟩ := I.list hB
  obtain ⟨⟨cls, dd, data, sl⟩, ho, hc, n, hd⟩ := pl.isList
  obtain ⟨⟨cls2, dd2, data2, sl2⟩, ho2, hc2, n2, hd2⟩ := pl2.isList
  simp only at hc hd hc2 hd2
  subst hc hd hc2 hd2
  have l1 := r.length
  have l2 := r2.length
  have ea : its.toArray ++ its2.toArray = (its ++ its2).toArray := by simp
  refine concat_meets ⟨_, ho, rfl⟩ ⟨_, ho2, rfl⟩ noFill_list_add seq_list_add PySem.F.slot_list_add PySem.F.entry_list_add (PySem.F.args_list_add_2 _ _) (list_addW l b its.toArray its2.toArray n n2 dd dd2 sl sl2 (by rw [List.size_toArray, List.size_toArray]; omega)) ⟨ho, ho2, ?_⟩
  rw [ea]
  show EP X pins σ Q (.ref s.heap.objs.size) _
  exact ⟨.ref _, _, I.lnew (t' := s.toks) (r.append r2) (by rw [List.length_append]; omega), rfl, q _ I.fresh⟩
def oAdd : PyData → PyData → Option PyData
  | .int i, .int j => some (.int (i + j))
  | .str x, .str y => if x.length + y.length ≤ 10000 then some (.str (x ++ y)) else none
  | .list x, .list y => if x.length + y.length ≤ 100000 then some (.list (x ++ y)) else none
  | .tuple x, .tuple y => if x.length + y.length ≤ 100000 then some (.tuple (x ++ y)) else none
  | _, _ => none
def uAdd (K : PySem.W.Frag) : R2 := fun x y H Q => rI0 (fun i j => .int (i + j)) x y H Q ∨ (rAddS x y H Q ∨ (rCatL K x y H Q ∨ rCatA K x y H Q))
theorem op_uAdd (hK : X.K = K := by rfl) : OpR X (binaryOp .Add) (uAdd K) := by
  subst hK
  exact opR_or op_add (opR_or op_addS (opR_or op_catLL op_catA))
theorem od_add : OpD K T (uAdd K) oAdd := by
  intro P x y a b d ra rb h Q q
  unfold oAdd at h
  split at h
  · cases h
    exact .inl ⟨_, _, ra.int, rb.int, q _ P (Le.refl P) (.int _)⟩
  · split at h
    · cases h
      rename_i hh
      exact .inr (.inl ⟨_, _, ra.str, rb.str, Nat.le_trans hh (by decide), q _ P (Le.refl P) (.str _)⟩)
    · cases h
  · split at h
    · cases h
      rename_i hh
      obtain ⟨l, xs, rfl, hs, r1⟩ := ra.list
      obtain ⟨l2, ys, rfl, hs2, r2⟩ := rb.list
      refine .inr (.inr (.inl ⟨l, l2, xs, ys, rfl, rfl, hs, hs2, Nat.le_trans (by rw [r1.length, r2.length]; exact hh) (by decide), fun p hp => q _ (P.put p (.lst (xs ++ ys)) hp) (le_put P hp) (.lst (SqL.of upd_same) ((RpAll.append r1 r2).ext (le_put P hp).m))⟩))
    · cases h
  · split at h
    · cases h
      rename_i hh
      obtain ⟨l, xs, rfl, hm, hs, r1⟩ := ra.tuple
      obtain ⟨l2, ys, rfl, hm2, hs2, r2⟩ := rb.tuple
      refine .inr (.inr (.inr ⟨l, l2, xs, ys, rfl, rfl, hs, hs2, Nat.le_trans (by rw [r1.length, r2.length]; exact hh) (by decide), fun z => q _ P (Le.refl P) ?_, fun _ z => q _ P (Le.refl P) ?_, fun _ _ p hp => q _ (P.put p (.tup (xs ++ ys)) hp) (le_put P hp) (.tup upd_same ((RpAll.append r1 r2).ext (le_put P hp).m))⟩))
      · subst z
        cases r1
        exact .tup hm2 r2
      · subst z
        cases r2
        rw [List.append_nil]
        exact .tup hm r1
    · cases h
  · cases h
/-! ### ==, != -/
mutual
theorem rp_dp {M : Hp} : ∀ {v : V} {d : PyData}, d.canLay0 = true → Rp K M v d → Dp K M v d
  | _, _, _, .non => .non
  | _, _, _, .bl b => .bl b
  | _, _, _, .int i => .int i
  | _, _, _, .str x => .str x
  | _, _, h, .lst hs r => .lst hs (rps_dp (by simpa [PyData.canLay0] using h) r)
  | _, _, h, .tup hs r => .tup (SqT.of hs) (rps_dp (by simpa [PyData.canLay0] using h) r)
  | _, _, h, .dct _ _ _ => absurd h (by simp [PyData.canLay0])
  | _, _, h, .dcT _ _ _ => absurd h (by simp [PyData.canLay0])
theorem rps_dp {M : Hp} : ∀ {v : List V} {d : List PyData}, PyData.canLayAll0 d = true → RpAll K M v d → DpAll K M v d
  | _, _, _, .nil => .nil
  | _, _, h, .cons h1 r => by
    unfold PyData.canLayAll0 at h
    rw [Bool.and_eq_true] at h
    exact .cons (rp_dp h.1 h1) (rps_dp h.2 r)
end
theorem Rw.dp {P : Pr T} {v : V} {d : PyData} (h : Rw K P v d) (hc : d.canLay0 = true) : Dp K P.H v d := by
  refine rp_dp hc ?_
  rcases h with h | ⟨p, rfl, h⟩
  · exact h.ext P.sub
  · cases h with
    | lst h1 h2 h3 => exact .lst (SqL.of h2) (h3.ext P.sub)
    | dT h1 h2 h3 => simp [PyData.canLay0] at hc
def oEq (a b : PyData) : Option PyData := if SeqAt.shaped a = true ∧ SeqAt.shaped b = true then some (.bool (PyData.eqv a b)) else none
def oNe (a b : PyData) : Option PyData := if SeqAt.shaped a = true ∧ SeqAt.shaped b = true then some (.bool (!PyData.eqv a b)) else none
theorem op_eqK (hu : X.A.units + 64 < cLine) (hK : X.K = K := by rfl) : OpR X (compareOp .Eq) (rEqD K) := by
  subst hK
  exact op_eqD hu
theorem op_neK (hu : X.A.units + 64 < cLine) (hK : X.K = K := by rfl) : OpR X (compareOp .NotEq) (rNeD K) := by
  subst hK
  exact op_neD hu
theorem od_eq : OpD K T (rEqD K) oEq := by
  intro P x y a b d ra rb h Q q
  unfold oEq at h
  split at h
  · cases h
    rename_i hh
    exact ⟨a, b, ra.dp (SeqAt.canLay_of_shaped hh.1), rb.dp (SeqAt.canLay_of_shaped hh.2), hh.1, hh.2, q _ P (Le.refl P) (.bl _)⟩
  · cases h
theorem od_ne : OpD K T (rNeD K) oNe := by
  intro P x y a b d ra rb h Q q
  unfold oNe at h
  split at h
  · cases h
    rename_i hh
    exact ⟨a, b, ra.dp (SeqAt.canLay_of_shaped hh.1), rb.dp (SeqAt.canLay_of_shaped hh.2), hh.1, hh.2, q _ P (Le.refl P) (.bl _)⟩
  · cases h
/-! ### in, not in -/
def flD : PyData → Bool
  | .none => true
  | .bool _ => true
  | .int _ => true
  | .str _ => true
  | _ => false
theorem fl_v {M : Hp} {v : V} {d : PyData} (r : Rp K M v d) (h : flD d = true) : flatV v = true := by
  cases r <;> first | rfl | (simp [flD] at h)
theorem fl_vs {M : Hp} : ∀ {vs : List V} {ds : List PyData}, RpAll K M vs ds → ds.all flD = true → vs.all flatV = true
  | _, _, .nil, _ => rfl
  | _, _, .cons h r, q => by
    rw [List.all_cons, Bool.and_eq_true] at q
    rw [List.all_cons, Bool.and_eq_true]
    exact ⟨fl_v h q.1, fl_vs r q.2⟩
theorem fl_eq {M : Hp} {v u : V} {d e : PyData} (r : Rp K M v d) (h : flD d = true) (r' : Rp K M u e) (h' : flD e = true) : eqV v u = PyData.eqv d e := by
  cases r <;> cases r' <;> first | rfl | (simp [flD] at h) | (simp [flD] at h')
theorem fl_in {M : Hp} {v : V} {d : PyData} (r : Rp K M v d) (h : flD d = true) : ∀ {vs : List V} {ds : List PyData}, RpAll K M vs ds → ds.all flD = true → inV v vs = ds.any fun z => PyData.eqv z d
  | _, _, .nil, _ => rfl
  | _, _, .cons h1 r1, q => by
    rw [List.all_cons, Bool.and_eq_true] at q
    have ih := fl_in r h r1 q.2
    unfold inV at ih ⊢
    rw [List.any_cons, List.any_cons, ih, fl_eq h1 q.1 r h]
def itemsD : PyData → Option (List PyData)
  | .list xs => some xs
  | .tuple xs => some xs
  | _ => none
def oIn (x y : PyData) : Option PyData := (itemsD y).bind fun ds => if flD x = true ∧ ds.all flD = true then some (.bool (ds.any fun z => PyData.eqv z x)) else none
def oNin (x y : PyData) : Option PyData := (itemsD y).bind fun ds => if flD x = true ∧ ds.all flD = true then some (.bool (!ds.any fun z => PyData.eqv z x)) else none
theorem Rw.fl {P : Pr T} {v : V} {d : PyData} (h : Rw K P v d) (f : flD d = true) : Rp K P.M v d := by
  rcases h with h | ⟨p, rfl, h⟩
  · exact h
  · cases h <;> simp [flD] at f
theorem items_of {P : Pr T} {v : V} {d : PyData} {ds : List PyData} (h : Rw K P v d) (e : itemsD d = some ds) : ∃ p xs, v = .ref p ∧ (SqL K P.H p xs ∨ SqT K P.H p xs) ∧ RpAll K P.M xs ds := by
  unfold itemsD at e
  split at e
  · cases e
    obtain ⟨a, xs, rfl, hs, r⟩ := h.list
    exact ⟨a, xs, rfl, .inl hs, r⟩
  · cases e
    obtain ⟨a, xs, rfl, _, hs, r⟩ := h.tuple
    exact ⟨a, xs, rfl, .inr hs, r⟩
  · cases e
theorem od_in : OpD K T (rIn K false) oIn := by
  intro P x y a b d ra rb h Q q
  obtain ⟨ds, ed, h⟩ := bind_eq h
  split at h
  · cases h
    rename_i hh
    obtain ⟨p, xs, rfl, hs, r⟩ := items_of rb ed
    have r1 := ra.fl hh.1
    refine ⟨p, xs, rfl, hs, fl_v r1 hh.1, fl_vs r hh.2, ?_⟩
    have e1 := fl_in r1 hh.1 r hh.2
    show Q (.bl (inV x xs)) P.H
    rw [e1]
    exact q _ P (Le.refl P) (.bl _)
  · cases h
theorem od_nin : OpD K T (rIn K true) oNin := by
  intro P x y a b d ra rb h Q q
  obtain ⟨ds, ed, h⟩ := bind_eq h
  split at h
  · cases h
    rename_i hh
    obtain ⟨p, xs, rfl, hs, r⟩ := items_of rb ed
    have r1 := ra.fl hh.1
    refine ⟨p, xs, rfl, hs, fl_v r1 hh.1, fl_vs r hh.2, ?_⟩
    have e1 := fl_in r1 hh.1 r hh.2
    show Q (.bl (!inV x xs)) P.H
    rw [e1]
    exact q _ P (Le.refl P) (.bl _)
  · cases h
/-! ### a[i] -/
def oIx : PyData → PyData → Option PyData
  | .list xs, .int i => atI xs i
  | .tuple xs, .int i => atI xs i
  | .str z, .int i => if z.length ≤ 1000 then (atI z.cps.toList i).map fun c => .str ⟨#[c]⟩ else none
  | _, _ => none
def uIx (K : PySem.W.Frag) : R2 := fun x y H Q => rIxL K x y H Q ∨ (rIxT K x y H Q ∨ rIxS x y H Q)
theorem ix_u (hK : X.K = K := by rfl) : IxR X (uIx K) := by
  subst hK
  exact IxR.or ix_list (IxR.or ix_tup ix_str)
theorem od_ix : OpD K T (uIx K) oIx := by
  intro P x y a b d ra rb h Q q
  unfold oIx at h
  split at h
  · obtain ⟨p, xs, rfl, hs, r⟩ := ra.list
    obtain ⟨v, hv, rv⟩ := rpAll_at r h
    exact .inl ⟨p, xs, _, v, rfl, rb.int, hs, hv, q _ P (Le.refl P) rv⟩
  · obtain ⟨p, xs, rfl, _, hs, r⟩ := ra.tuple
    obtain ⟨v, hv, rv⟩ := rpAll_at r h
    exact .inr (.inl ⟨p, xs, _, v, rfl, rb.int, hs, hv, q _ P (Le.refl P) rv⟩)
  · split at h
    · rename_i hh
      obtain ⟨c, hc, rfl⟩ := map_eq h
      exact .inr (.inr ⟨_, _, c, ra.str, rb.int, Nat.le_trans hh (by decide), hc, q _ P (Le.refl P) (.str _)⟩)
    · cases h
  · cases h
/-! ### a[lo:hi] -/
def pNo : Ev → Option (Option Int) := fun _ => some none
def asI : PyData → Option Int
  | .int i => some i
  | _ => none
theorem asI_eq {d : PyData} {b : Int} (h : asI d = some b) : d = .int b := by
  unfold asI at h
  split at h
  · cases h
    rfl
  · cases h
def pSo (a : ME) : Ev → Option (Option Int) := fun ρ => (a ρ).bind fun x => (asI x).map some
theorem c_pno {o : Option Expr} (h : PO X o tNoPart) : PO X o (tP K T pNo) := po_to h fun σ H Q ⟨P0, P, ρ, d, h1, s, h2, q⟩ => by
  cases h2
  subst h1
  exact q P (Le.refl P)
theorem c_pso {o : Option Expr} {a : ME} (h : PO X o (tPart (tD K T a))) : PO X o (tP K T (pSo a)) := po_to h fun σ H Q ⟨P0, P, ρ, d, h1, s, h2, q⟩ => by
  subst h1
  obtain ⟨x, ex, h2⟩ := bind_eq h2
  obtain ⟨i, ei, rfl⟩ := map_eq h2
  rw [asI_eq ei] at ex
  refine ⟨P0, P, ρ, _, rfl, s, ex, fun v P1 l r => ?_⟩
  cases r
  exact ⟨i, rfl, q P1 l⟩
def oSl (x : PyData) (lo hi : Option Int) : Option PyData := match x with
  | .list xs => some (.list (LB.cutD xs lo hi))
  | .tuple xs => some (.tuple (LB.cutD xs lo hi))
  | .str z => if z.length ≤ 10000 then some (.str (cutS z lo hi)) else none
  | _ => none
def uSl (K : PySem.W.Frag) : V → Option Int → Option Int → Hp → VK → Prop := fun x lo hi H Q => rSlL K x lo hi H Q ∨ (rSlA K x lo hi H Q ∨ rSlS x lo hi H Q)
theorem sl_u (hK : X.K = K := by rfl) : SlR X (uSl K) := by
  subst hK
  exact SlR.or sl_list (SlR.or sl_tupA sl_str)
def mSl (a : ME) (lo hi : Ev → Option (Option Int)) : ME := fun ρ => (a ρ).bind fun x => (lo ρ).bind fun l => (hi ρ).bind fun u => oSl x l u
theorem c_sl {a : ME} {lo hi : Ev → Option (Option Int)} (h : PE X e (tSl (uSl K) (tW K T a) (tP K T lo) (tP K T hi))) : PE X e (tD K T (mSl a lo hi)) := pe_to h fun σ H Q ⟨P0, P, ρ, d, h1, s, h2, q⟩ => by
  subst h1
  obtain ⟨x, ex, h3⟩ := bind_eq h2
  obtain ⟨l, el, h4⟩ := bind_eq h3
  obtain ⟨u, eu, h5⟩ := bind_eq h4
  clear h2 h3 h4
  refine ⟨P0, P, ρ, x, rfl, s, ex, fun v P1 l1 r1 => ⟨P0, P1, ρ, l, rfl, s.up l1, el, fun P2 l2 => ⟨P0, P2, ρ, u, rfl, s.up (l1.trans l2), eu, fun P3 l3 => ?_⟩⟩⟩
  have r3 := r1.up (l2.trans l3)
  have q3 : ∀ v (P' : Pr T), Le P3 P' → Rp K P'.M v d → Q v P'.H := fun v P' l' r' => q v P' ((l1.trans (l2.trans l3)).trans l') r'
  unfold oSl at h5
  split at h5
  · cases h5
    obtain ⟨p, xs, rfl, hs, r⟩ := r3.list
    exact .inl ⟨p, xs, rfl, hs, fun p' hp => q3 _ (P3.put p' (.lst (cutV xs l u)) hp) (le_put P3 hp) (.lst (SqL.of upd_same) ((RpAll.cut r l u).ext (le_put P3 hp).m))⟩
  · cases h5
    obtain ⟨p, xs, rfl, hm, hs, r⟩ := r3.tuple
    refine .inr (.inl ⟨p, xs, rfl, hs, fun hw => q3 _ P3 (Le.refl P3) ?_, fun _ p' hp => q3 _ (P3.put p' (.tup (cutV xs l u)) hp) (le_put P3 hp) (.tup upd_same ((RpAll.cut r l u).ext (le_put P3 hp).m))⟩)
    rename_i ds
    have e : LB.cutD ds l u = ds := by
      unfold LB.cutD
      rw [r.length] at hw
      rw [hw.1, hw.2]
      simp
    rw [e]
    exact .tup hm r
  · split at h5
    · cases h5
      rename_i hh
      exact .inr (.inr ⟨_, r3.str, Nat.le_trans hh (by decide), q3 _ P3 (Le.refl P3) (.str _)⟩)
    · cases h5
  · cases h5
/-! ### calls of builtins -/
def CbD (K : PySem.W.Frag) (T : Tb) (r : List V → Hp → VK → Prop) (f : List PyData → Option PyData) : Prop := ∀ (P : Pr T) vs ds d, RwAll K T P vs ds → f ds = some d → ∀ Q : VK, (∀ v (P' : Pr T), Le P P' → Rp K P'.M v d → Q v P'.H) → r vs P.H Q
def CbF (K : PySem.W.Frag) (T : Tb) (r : List V → Hp → VK → Prop) (f : List PyData → Option PyData) : Prop := ∀ (P : Pr T) vs ds d, RwAll K T P vs ds → f ds = some d → ∀ Q : VK, (∀ p (P' : Pr T), Le P P' → OwnAt K P' p d → Loose P.H p → Q (.ref p) P'.H) → r vs P.H Q
def mCb (f : List PyData → Option PyData) (a : MA) : ME := fun ρ => (a ρ).bind f
theorem c_cb {r : List V → Hp → VK → Prop} {f : List PyData → Option PyData} {a : MA} (hD : CbD K T r f) (h : PE X e (tCB r (tAw K T a))) : PE X e (tD K T (mCb f a)) := pe_to h fun σ H Q ⟨P0, P, ρ, d, h1, s, h2, q⟩ => by
  subst h1
  obtain ⟨x, ex, h2⟩ := bind_eq h2
  exact ⟨P0, P, ρ, x, rfl, s, ex, fun vs P1 l1 r1 => hD P1 vs x d r1 h2 Q fun v P2 l2 r2 => q v P2 (l1.trans l2) r2⟩
theorem c_cbF {r : List V → Hp → VK → Prop} {f : List PyData → Option PyData} {a : MA} (hD : CbF K T r f) (h : PE X e (tCB r (tAw K T a))) : PE X e (tF K T (mCb f a)) := pe_to h fun σ H Q ⟨P0, P, ρ, d, h1, s, h2, q⟩ => by
  subst h1
  obtain ⟨x, ex, h2⟩ := bind_eq h2
  exact ⟨P0, P, ρ, x, rfl, s, ex, fun vs P1 l1 r1 => hD P1 vs x d r1 h2 Q fun v P2 l2 r2 lo => q v P2 (l1.trans l2) r2 (loose_back l1.h lo)⟩
def oLen : List PyData → Option PyData
  | [.list xs] => some (.int (xs.length : Int))
  | [.tuple xs] => some (.int (xs.length : Int))
  | [.str z] => if z.length ≤ 10000 then some (.int (z.length : Int)) else none
  | _ => none
theorem cb_len : CbD K T (fun xs H Q => ∃ x n, xs = [x] ∧ LenV K x H n ∧ Q (.int n) H) oLen := by
  intro P vs ds d ra h Q q
  unfold oLen at h
  split at h
  · cases h
    cases ra with
    | cons r1 r2 =>
      cases r2
      obtain ⟨p, xs, rfl, hs, r⟩ := r1.list
      exact ⟨_, _, rfl, .inl ⟨xs, hs, r.length.symm⟩, q _ P (Le.refl P) (.int _)⟩
  · cases h
    cases ra with
    | cons r1 r2 =>
      cases r2
      obtain ⟨p, xs, rfl, _, hs, r⟩ := r1.tuple
      exact ⟨_, _, rfl, .inr ⟨xs, hs, r.length.symm⟩, q _ P (Le.refl P) (.int _)⟩
  · split at h
    · cases h
      rename_i hh
      cases ra with
      | cons r1 r2 =>
        cases r2
        rw [r1.str]
        exact ⟨_, _, rfl, ⟨Nat.le_trans hh (by decide), rfl⟩, q _ P (Le.refl P) (.int _)⟩
    · cases h
  · cases h
def oAbs : List PyData → Option PyData
  | [.int i] => some (.int (if i < 0 then -i else i))
  | _ => none
theorem cb_abs : CbD K T (fun xs H Q => ∃ i, xs = [.int i] ∧ Q (.int (if i < 0 then -i else i)) H) oAbs := by
  intro P vs ds d ra h Q q
  unfold oAbs at h
  split at h
  · cases h
    cases ra with
    | cons r1 r2 =>
      cases r2
      rw [r1.int]
      exact ⟨_, rfl, q _ P (Le.refl P) (.int _)⟩
  · cases h
def oInt : List PyData → Option PyData
  | [.int i] => some (.int i)
  | [.bool k] => some (.int (if k = true then 1 else 0))
  | _ => none
theorem cb_int : CbD K T (fun xs H Q => (∃ i, xs = [.int i] ∧ Q (.int i) H) ∨ ∃ k, xs = [.bl k] ∧ Q (.int (if k = true then 1 else 0)) H) oInt := by
  intro P vs ds d ra h Q q
  unfold oInt at h
  split at h
  · cases h
    cases ra with
    | cons r1 r2 =>
      cases r2
      rw [r1.int]
      exact .inl ⟨_, rfl, q _ P (Le.refl P) (.int _)⟩
  · cases h
    cases ra with
    | cons r1 r2 =>
      cases r2
      rw [r1.bool]
      exact .inr ⟨_, rfl, q _ P (Le.refl P) (.int _)⟩
  · cases h
def oMax : List PyData → Option PyData
  | [.int i, .int j] => some (.int (if j > i then j else i))
  | _ => none
theorem cb_max : CbD K T (fun xs H Q => ∃ i j, xs = [.int i, .int j] ∧ Q (.int (if j > i then j else i)) H) oMax := by
  intro P vs ds d ra h Q q
  unfold oMax at h
  split at h
  · cases h
    cases ra with
    | cons r1 r2 =>
      cases r2 with
      | cons r2 r3 =>
        cases r3
        rw [r1.int, r2.int]
        exact ⟨_, _, rfl, q _ P (Le.refl P) (.int _)⟩
  · cases h
def oMin : List PyData → Option PyData
  | [.int i, .int j] => some (.int (if j < i then j else i))
  | _ => none
theorem cb_min : CbD K T (fun xs H Q => ∃ i j, xs = [.int i, .int j] ∧ Q (.int (if j < i then j else i)) H) oMin := by
  intro P vs ds d ra h Q q
  unfold oMin at h
  split at h
  · cases h
    cases ra with
    | cons r1 r2 =>
      cases r2 with
      | cons r2 r3 =>
        cases r3
        rw [r1.int, r2.int]
        exact ⟨_, _, rfl, q _ P (Le.refl P) (.int _)⟩
  · cases h
def bls : List PyData → Option (List Bool)
  | [] => some []
  | .bool b :: r => (bls r).map fun l => b :: l
  | _ :: _ => none
theorem bls_rp {M : Hp} : ∀ {vs : List V} {ds : List PyData} {bs : List Bool}, RpAll K M vs ds → bls ds = some bs → vs = bs.map V.bl
  | _, _, _, .nil, h => by
    cases h
    rfl
  | _, _, _, .cons h1 r, h => by
    unfold bls at h
    split at h
    · rename_i e
      cases e
    · rename_i e
      cases e
      obtain ⟨l, hl, rfl⟩ := map_eq h
      cases h1
      rw [bls_rp r hl]
      rfl
    · cases h
def oAll : List PyData → Option PyData
  | [.list xs] => (bls xs).map fun l => .bool (l.all id)
  | _ => none
theorem cb_all : CbD K T (rAll K) oAll := by
  intro P vs ds d ra h Q q
  unfold oAll at h
  split at h
  · obtain ⟨l, hl, rfl⟩ := map_eq h
    cases ra with
    | cons r1 r2 =>
      cases r2
      obtain ⟨p, xs, rfl, hs, r⟩ := r1.list
      rw [bls_rp r hl] at hs
      exact ⟨p, l, rfl, hs, q _ P (Le.refl P) (.bl _)⟩
  · cases h
theorem cr_allK (hc : X.calm = true) (hK : X.K = K := by rfl) : CallR X (.builtin "all") (rAll K) := by
  subst hK
  exact cr_all hc
def rListOf (K : PySem.W.Frag) : List V → Hp → VK → Prop := fun xs H Q => ∃ p ys, xs = [.ref p] ∧ (SqL K H p ys ∨ SqT K H p ys) ∧ ∀ l, H l = none → Q (.ref l) (upd H l (.lst ys))
theorem call_listK (hK : X.K = K := by rfl) : CallR X (.type "list") (rListOf K) := by
  subst hK
  exact call_list_of
def oList : List PyData → Option PyData
  | [x] => (itemsD x).map .list
  | _ => none
theorem cb_list : CbF K T (rListOf K) oList := by
  intro P vs ds d ra h Q q
  unfold oList at h
  split at h
  · obtain ⟨l, hl, rfl⟩ := map_eq h
    cases ra with
    | cons r1 r2 =>
      cases r2
      obtain ⟨p, xs, rfl, hs, r⟩ := items_of r1 hl
      exact ⟨p, xs, rfl, hs, fun l hl => q _ (P.hid l (.lst xs) hl) (le_hid P hl) (.lst (P.none hl) upd_same r) (loose_none hl)⟩
  · cases h
def oTuple : List PyData → Option PyData
  | [x] => (itemsD x).map .tuple
  | _ => none
theorem cb_tuple : CbD K T (fun xs H Q => ∃ p ys, xs = [.ref p] ∧ ((SqL K H p ys ∧ ∀ l, H l = none → Q (.ref l) (upd H l (.tup ys))) ∨ (SqT K H p ys ∧ Q (.ref p) H))) oTuple := by
  intro P vs ds d ra h Q q
  unfold oTuple at h
  split at h
  · obtain ⟨l, hl, rfl⟩ := map_eq h
    cases ra with
    | cons r1 r2 =>
      cases r2
      unfold itemsD at hl
      split at hl
      · cases hl
        obtain ⟨p, xs, rfl, hs, r⟩ := r1.list
        exact ⟨p, xs, rfl, .inl ⟨hs, fun l hl => q _ (P.put l (.tup xs) hl) (le_put P hl) (.tup upd_same (r.ext (le_put P hl).m))⟩⟩
      · cases hl
        obtain ⟨p, xs, rfl, hm, hs, r⟩ := r1.tuple
        exact ⟨p, xs, rfl, .inr ⟨hs, q _ P (Le.refl P) (.tup hm r)⟩⟩
      · cases hl
  · cases h
/-! sorted -/
open PySem.W PySem.SeqAt in
theorem each_m {M : Hp} : ∀ {ds : List PyData} {vs : List V} {us : List Value}, RpAll K M vs ds → Vals vs us → EachIs (fun u d => ∃ v, Rp K M v d ∧ RelV v u) us ds
  | [], _, _, .nil, .nil => .nil
  | d :: ds, _, _, .cons h1 h2, .cons r1 r2 => .cons ⟨_, h1, r1⟩ (each_m h2 r2)
open PySem.W PySem.SeqAt in
theorem m_each {M : Hp} : ∀ {us : List Value} {ds : List PyData}, EachIs (fun u d => ∃ v, Rp K M v d ∧ RelV v u) us ds → ∃ vs, RpAll K M vs ds ∧ Vals vs us
  | _, _, .nil => ⟨[], .nil, .nil⟩
  | _, _, .cons ⟨v, h1, h2⟩ t => by
    obtain ⟨vs, q1, q2⟩ := m_each t
    exact ⟨v :: vs, .cons h1 q1, .cons h2 q2⟩
def rSortM (K : PySem.W.Frag) : List V → Hp → VK → Prop := fun vs H Q => ∃ (M : Hp) (a : Addr) (xs : List V) (ds : List PyData), Ex M H ∧ vs = [.ref a] ∧ SqL K H a xs ∧ RpAll K M xs ds ∧ Srt ds ∧ ∀ (p : Addr) (ys : List V), H p = none → RpAll K M ys (sortD ds) → Q (.ref p) (upd H p (.lst ys))
open PySem.W PySem.SeqAt in
theorem cr_sortM (hu : X.A.units + 64 < cLine) (hK : X.K = K := by rfl) : CallR X (.builtin "sorted") (rSortM K) := by
  subst hK
  intro pins s σ H xs us Q I r h
  obtain ⟨M, a, xs, ds, hM, rfl, hs, ra, S, q⟩ := h
  obtain rfl := Vals.ref1 r
  obtain ⟨its, rv, pl, hz⟩ := I.list hs
  obtain ⟨_, e2⟩ := each_of I (fun d hd => S.al d hd d hd) (ra.ext hM) rv
  have e1 := each_m ra rv
  have hL : ds.length ≤ sizeLine := Nat.le_trans S.len (by decide)
  have hd : ∀ b, b ∈ ds → X.A.units + 2 + (id b : PyData).depth < cLine := fun b hb => by
    have := S.dp b hb
    show X.A.units + 2 + b.depth < cLine
    omega
  have fin : ∀ out : List Value, out.length = ds.length → EachIs (fun u d => ∃ v, Rp X.K M v d ∧ RelV v u) out (ds.mergeSort (dataLe false id)) → EP X pins σ Q (.ref (s.heap.objs.size + 1)) { s with heap := sortedAll s.heap its (List.toArray out) } := fun out hl e => by
    obtain ⟨ys, q1, q2⟩ := m_each e
    obtain ⟨c, hc⟩ := sortedAll_at s.heap its out.toArray
    have hn : H (s.heap.objs.size + 1) = none := I.hok.fresh (Nat.le_succ _)
    refine ⟨.ref (s.heap.objs.size + 1), upd H (s.heap.objs.size + 1) (.lst ys), I.laid (t' := s.toks) (fun b o e => sortedAll_old e) (Nat.le_succ _) (show ObjOk X.prog X.w _ _ _ (.lst ys) from ⟨?_, out, c, q2, hc⟩), rfl, q _ ys hn q1⟩
    rw [q2.length, hl]
    exact hL
  rcases S.ok with ok | ok
  · exact sorted_data (enc := id) (R := fun u d => ∃ v, Rp X.K M v d ∧ RelV v u) pl.isList e1 e2 (by rw [List.map_id]; exact S.al) (by rw [List.map_id]; exact ok) hL hd fin
  · exact sorted_led (R := fun u d => ∃ v, Rp X.K M v d ∧ RelV v u) pl.isList e1 e2 S.al ok hL hd fin
open Classical in
noncomputable def oSorted : List PyData → Option PyData
  | [.list xs] => if LB.Srt xs then some (.list (LB.sortD xs)) else none
  | _ => none
theorem cb_sorted : CbF K T (rSortM K) oSorted := by
  intro P vs ds d ra h Q q
  unfold oSorted at h
  split at h
  · split at h
    · cases h
      rename_i hh
      cases ra with
      | cons r1 r2 =>
        cases r2
        obtain ⟨p, xs, rfl, hs, r⟩ := r1.list
        exact ⟨P.M, p, xs, _, P.sub, rfl, hs, r, hh, fun p' ys hp ry => q _ (P.hid p' (.lst ys) hp) (le_hid P hp) (.lst (P.none hp) upd_same ry) (loose_none hp)⟩
    · cases h
  · cases h
theorem mSorted_is {a : MA} (ρ : Ev) (d : PyData) (h : mCb oSorted a ρ = some d) : isLst d = true := by
  obtain ⟨x, _, h⟩ := bind_eq h
  unfold oSorted at h
  split at h
  · split at h
    · cases h
      rfl
    · cases h
  · cases h
theorem mList_is {a : MA} (ρ : Ev) (d : PyData) (h : mCb oList a ρ = some d) : isLst d = true := by
  obtain ⟨x, _, h⟩ := bind_eq h
  unfold oList at h
  split at h
  · obtain ⟨l, _, rfl⟩ := map_eq h
    rfl
  · cases h
/-! isinstance -/
def mIs (n : String) (a : ME) : ME := fun ρ => (a ρ).bind fun d => (kitB (tyN d) n).map .bool
theorem Rw.ty {P : Pr T} {v : V} {d : PyData} (h : Rw K P v d) : TyY K P.H v (.type (tyN d)) := by
  rcases h with h | ⟨p, rfl, h⟩
  · exact (h.ext P.sub).ty
  · cases h with
    | lst h1 h2 h3 => exact .x (.base (.lst h2))
    | dT h1 h2 h3 => exact .x (.base (.dT h2))
theorem c_is {n : String} {a : ME} (h : PE X e (tCB (rIsiY K) (tCons (tW K T a) (tCons (tC (.ty n)) tNil)))) : PE X e (tD K T (mIs n a)) := pe_to h fun σ H Q ⟨P0, P, ρ, d, h1, s, h2, q⟩ => by
  subst h1
  obtain ⟨x, ex, h2⟩ := bind_eq h2
  obtain ⟨b, hb, rfl⟩ := map_eq h2
  exact ⟨P0, P, ρ, x, rfl, s, ex, fun v P1 l1 r1 => ⟨_, _, _, _, b, rfl, .ty n, r1.ty, kit_ty hb, q _ P1 l1 (.bl b)⟩⟩
end PM
namespace PM
open PySem PySem.Spec PyProof.Rows L2 LB
variable {T : Tb} {K : PySem.W.Frag} {X : Cx} {e : Expr}
/-! ### iterators -/
structure WkM (K : PySem.W.Frag) (P1 : Pr T) (J : It) (ds : List PyData) : Prop where
  stop : ∀ P' : Pr T, Ex P1.M P'.M → J.stop ds.length P'.H
  go : ∀ i (P' : Pr T), i < ds.length → Ex P1.M P'.M → J.go i P'.H
  yld : ∀ i (P' : Pr T) x H'', i < ds.length → Ex P1.M P'.M → J.yld i P'.H x H'' → ∃ P'' : Pr T, P''.H = H'' ∧ Le P' P'' ∧ ∃ d, ds[i]? = some d ∧ Rp K P''.M x d
structure WkH (K : PySem.W.Frag) (P1 : Pr T) (J : It) (ds : List PyData) : Prop where
  stop : ∀ P' : Pr T, Le P1 P' → J.stop ds.length P'.H
  go : ∀ i (P' : Pr T), i < ds.length → Le P1 P' → J.go i P'.H
  yld : ∀ i (P' : Pr T) x H'', i < ds.length → Le P1 P' → J.yld i P'.H x H'' → ∃ P'' : Pr T, P''.H = H'' ∧ Le P' P'' ∧ ∃ d, ds[i]? = some d ∧ Rp K P''.M x d
theorem WkM.h {P1 : Pr T} {J : It} {ds : List PyData} (w : WkM K P1 J ds) : WkH K P1 J ds := ⟨fun P' l => w.stop P' l.m, fun i P' h l => w.go i P' h l.m, fun i P' x H'' h l y => w.yld i P' x H'' h l.m y⟩
def tI (K : PySem.W.Frag) (T : Tb) (m : MA) : TI := fun σ H R => ∃ (P0 P : Pr T) (ρ : Ev) (ds : List PyData), P.H = H ∧ St K P0 P σ ρ ∧ m ρ = some ds ∧ ∀ J (P' : Pr T), Le P P' → WkM K P' J ds → R J P'.H
def tIh (K : PySem.W.Frag) (T : Tb) (m : MA) : TI := fun σ H R => ∃ (P0 P : Pr T) (ρ : Ev) (ds : List PyData), P.H = H ∧ St K P0 P σ ρ ∧ m ρ = some ds ∧ ∀ J (P' : Pr T), Le P P' → WkH K P' J ds → R J P'.H
theorem c_ih {tg : Expr} {m : MA} (h : PI X tg e (tI K T m)) : PI X tg e (tIh K T m) := pi_to h fun σ H Q ⟨P0, P, ρ, d, h1, s, h2, q⟩ => ⟨P0, P, ρ, d, h1, s, h2, fun J P' l w => q J P' l w.h⟩
/-- a list, a tuple or a text -/
def iSeq (K : PySem.W.Frag) (tl : TE) : TI := fun σ H R => tl σ H fun x H1 => (∃ a, x = .ref a ∧ (∃ xs, SqL K H1 a xs) ∧ R (Itl K a) H1) ∨ (∃ a, x = .ref a ∧ (∃ xs, SqT K H1 a xs) ∧ R (Itt K a) H1) ∨ ∃ z, x = .str z ∧ R (Its z) H1
theorem pi_seq {tg l : Expr} {tl : TE} (hl : PE X l tl) (hK : X.K = K := by rfl) : PI X tg l (iSeq K tl) := by
  subst hK
  refine ⟨fun pins s σ H R I h => thn (hl.run pins s σ H _ I h) fun v s1 ⟨x, H1, I1, r1, q1⟩ => ?_⟩
  rcases q1 with ⟨a, rfl, ⟨xs, hq⟩, q⟩ | ⟨a, rfl, ⟨xs, hq⟩, q⟩ | ⟨z, rfl, q⟩
  · cases r1
    obtain ⟨its, _, p, _⟩ := I1.list hq
    exact wpAny_pyIter_list p.isList (pi_one (tk := s1.toks) I1 _ (turn_list a _) ⟨_, Heap.get?_push_size _ rfl, rfl, rfl⟩ q)
  · cases r1
    obtain ⟨its, _, p, _⟩ := I1.tuple hq
    exact wpAny_pyIter_tuple (show s1.heap.IsTuple a its.toArray from p) (pi_one (tk := s1.toks) I1 _ (turn_tuple a _) ⟨_, Heap.get?_push_size _ rfl, rfl, rfl⟩ q)
  · obtain ⟨t, rfl⟩ := r1
    cases ha : z.cps.all (· < 128)
    · exact wpAny_pyIter_wide ha (pi_one (tk := s1.toks) I1 _ (turn_str _ z t "str_iterator" (Or.inr rfl)) ⟨_, Heap.get?_push_size _ rfl, rfl, rfl⟩ q)
    · exact wpAny_pyIter_ascii ha (pi_one (tk := s1.toks) I1 _ (turn_str _ z t "str_ascii_iterator" (Or.inl rfl)) ⟨_, Heap.get?_push_size _ rfl, rfl, rfl⟩ q)
theorem wk_l {P1 : Pr T} {a : Addr} {xs : List V} {ds : List PyData} (hs : SqL K P1.M a xs) (ra : RpAll K P1.M xs ds) : WkM K P1 (Itl K a) ds := by
  have g : ∀ {P' : Pr T}, Ex P1.M P'.M → SqL K P'.H a xs := fun {P'} x => ex_l P'.sub (ex_l x hs)
  refine ⟨fun P' x => ⟨xs, g x, by rw [ra.length]; exact Nat.le_refl _⟩, fun i P' hi x => ?_, fun i P' v H'' hi x y => ⟨P', y.1.symm, Le.refl P', ?_⟩⟩
  · exact ⟨xs, xs[i]'(by rw [ra.length]; exact hi), g x, List.getElem?_eq_getElem _⟩
  · obtain ⟨d, h1, h2⟩ := ra.get (y.2 xs (g x))
    exact ⟨d, h1, h2.ext x⟩
theorem wk_t {P1 : Pr T} {a : Addr} {xs : List V} {ds : List PyData} (hs : SqT K P1.M a xs) (ra : RpAll K P1.M xs ds) : WkM K P1 (Itt K a) ds := by
  have g : ∀ {P' : Pr T}, Ex P1.M P'.M → SqT K P'.H a xs := fun {P'} x => ex_t P'.sub (ex_t x hs)
  refine ⟨fun P' x => ⟨xs, g x, by rw [ra.length]; exact Nat.le_refl _⟩, fun i P' hi x => ?_, fun i P' v H'' hi x y => ⟨P', y.1.symm, Le.refl P', ?_⟩⟩
  · exact ⟨xs, xs[i]'(by rw [ra.length]; exact hi), g x, List.getElem?_eq_getElem _⟩
  · obtain ⟨d, h1, h2⟩ := ra.get (y.2 xs (g x))
    exact ⟨d, h1, h2.ext x⟩
def signsD (z : Str) : List PyData := z.cps.toList.map fun c => .str ⟨#[c]⟩
theorem wk_s {P1 : Pr T} {z : Str} : WkM K P1 (Its z) (signsD z) := by
  have l : (signsD z).length = z.cps.size := by simp [signsD]
  refine ⟨fun P' x => by show z.cps.size ≤ _; omega, fun i P' hi x => by show i < z.cps.size; omega, fun i P' v H'' hi x y => ⟨P', y.1.symm, Le.refl P', ?_⟩⟩
  obtain ⟨c, hc, rfl⟩ := y.2
  refine ⟨.str ⟨#[c]⟩, ?_, .str _⟩
  unfold signsD
  rw [List.getElem?_map, Array.getElem?_toList, hc] <;> rfl
theorem wk_r {P1 : Pr T} {m : Nat} : WkM K P1 (Itr 0 m) (rngD m) := by
  have l := rngD_length m
  refine ⟨fun P' x => by show m ≤ _; omega, fun i P' hi x => by show i < m; omega, fun i P' v H'' hi x y => ⟨P', y.1.symm, Le.refl P', .int (i : Int), ?_, ?_⟩⟩
  · unfold rngD
    rw [List.getElem?_map, List.getElem?_range (by omega)] <;> rfl
  · rw [y.2, show (0 : Int) + (i : Int) = (i : Int) by omega]
    exact .int _
def seqD : PyData → Option (List PyData)
  | .list xs => some xs
  | .tuple xs => some xs
  | .str z => some (signsD z)
  | _ => none
def iS (a : ME) : MA := fun ρ => (a ρ).bind seqD
theorem c_iseq {tg : Expr} {a : ME} (h : PI X tg e (iSeq K (tD K T a))) : PI X tg e (tI K T (iS a)) := pi_to h fun σ H Q ⟨P0, P, ρ, ds, h1, s, h2, q⟩ => by
  subst h1
  obtain ⟨x, ex, h3⟩ := bind_eq h2
  refine ⟨P0, P, ρ, x, rfl, s, ex, fun v P1 l1 r1 => ?_⟩
  unfold seqD at h3
  split at h3
  · cases h3
    cases r1 with
    | lst hs ra => exact .inl ⟨_, rfl, ⟨_, ex_l P1.sub hs⟩, q _ P1 l1 (wk_l hs ra)⟩
  · cases h3
    cases r1 with
    | tup hs ra => have hs := SqT.of (K := K) hs; exact .inr (.inl ⟨_, rfl, ⟨_, ex_t P1.sub hs⟩, q _ P1 l1 (wk_t hs ra)⟩)
  · cases h3
    cases r1
    exact .inr (.inr ⟨_, rfl, q _ P1 l1 wk_s⟩)
  · cases h3
/-- an own list, for a comprehension -/
theorem wh_l {P1 : Pr T} {a : Addr} {xs : List V} {ds : List PyData} (hs : SqL K P1.H a xs) (ra : RpAll K P1.M xs ds) : WkH K P1 (Itl K a) ds := by
  have g : ∀ {P' : Pr T}, Le P1 P' → SqL K P'.H a xs := fun {P'} x => ex_l x.h hs
  refine ⟨fun P' x => ⟨xs, g x, by rw [ra.length]; exact Nat.le_refl _⟩, fun i P' hi x => ?_, fun i P' v H'' hi x y => ⟨P', y.1.symm, Le.refl P', ?_⟩⟩
  · exact ⟨xs, xs[i]'(by rw [ra.length]; exact hi), g x, List.getElem?_eq_getElem _⟩
  · obtain ⟨d, h1, h2⟩ := ra.get (y.2 xs (g x))
    exact ⟨d, h1, h2.ext x.m⟩
theorem c_iseqw {tg : Expr} {a : ME} (h : PI X tg e (iSeq K (tW K T a))) : PI X tg e (tIh K T (iS a)) := pi_to h fun σ H Q ⟨P0, P, ρ, ds, h1, s, h2, q⟩ => by
  subst h1
  obtain ⟨x, ex, h3⟩ := bind_eq h2
  refine ⟨P0, P, ρ, x, rfl, s, ex, fun v P1 l1 r1 => ?_⟩
  unfold seqD at h3
  split at h3
  · cases h3
    obtain ⟨p, xs, rfl, hs, ra⟩ := r1.list
    exact .inl ⟨_, rfl, ⟨_, hs⟩, q _ P1 l1 (wh_l hs ra)⟩
  · cases h3
    obtain ⟨p, xs, rfl, hm, hs, ra⟩ := r1.tuple
    exact .inr (.inl ⟨_, rfl, ⟨_, hs⟩, q _ P1 l1 (wk_t (SqT.of hm) ra).h⟩)
  · cases h3
    have := r1.str
    subst this
    exact .inr (.inr ⟨_, rfl, q _ P1 l1 wk_s.h⟩)
  · cases h3
/-- range(n) -/
def oRng : List PyData → Option (List PyData)
  | [.int j] => if -100000 ≤ j ∧ j < 100000 then some (rngD j.toNat) else none
  | _ => none
def iR (a : MA) : MA := fun ρ => (a ρ).bind oRng
theorem c_irng {tg : Expr} {a : MA} (h : PI X tg e (iRng1 (tA K T a))) : PI X tg e (tI K T (iR a)) := pi_to h fun σ H Q ⟨P0, P, ρ, ds, h1, s, h2, q⟩ => by
  subst h1
  obtain ⟨x, ex, h3⟩ := bind_eq h2
  unfold oRng at h3
  split at h3
  · split at h3
    · cases h3
      rename_i j hh
      refine ⟨P0, P, ρ, _, rfl, s, ex, fun vs P1 l1 r1 => ?_⟩
      cases r1 with
      | cons r1 r2 =>
        cases r2
        cases r1
        exact ⟨j, rfl, by omega, by omega, q _ P1 l1 wk_r⟩
    · cases h3
  · cases h3
end PM
namespace PM
open PySem PySem.Spec PyProof.Rows L2 LB
variable {T : Tb} {K : PySem.W.Frag} {X : Cx} {e : Expr}
/-! ### zip -/
def zipD (xs ys : List PyData) : List PyData := (xs.zip ys).map fun p => .tuple [p.1, p.2]
theorem zipD_at {xs ys : List PyData} {i : Nat} {a b : PyData} (h1 : xs[i]? = some a) (h2 : ys[i]? = some b) : (zipD xs ys)[i]? = some (.tuple [a, b]) := by
  unfold zipD
  rw [List.getElem?_map, List.getElem?_zip_eq_some (z := (a, b)).mpr ⟨h1, h2⟩] <;> rfl
theorem zipD_len (xs ys : List PyData) : (zipD xs ys).length = min xs.length ys.length := by simp [zipD]
def oZip : List PyData → Option (List PyData)
  | [.list xs, .list ys] => some (zipD xs ys)
  | [.tuple xs, .tuple ys] => some (zipD xs ys)
  | _ => none
def iZ (a : MA) : MA := fun ρ => (a ρ).bind oZip
theorem wk_zl {P1 : Pr T} {a b : Addr} {xs ys : List V} {ds es : List PyData} (hs : SqL K P1.M a xs) (ra : RpAll K P1.M xs ds) (hs2 : SqL K P1.M b ys) (rb : RpAll K P1.M ys es) : WkM K P1 (Itz K a b) (zipD ds es) := by
  have g : ∀ {P' : Pr T}, Ex P1.M P'.M → SqL K P'.H a xs := fun {P'} x => ex_l P'.sub (ex_l x hs)
  have g2 : ∀ {P' : Pr T}, Ex P1.M P'.M → SqL K P'.H b ys := fun {P'} x => ex_l P'.sub (ex_l x hs2)
  have l := zipD_len ds es
  have l1 := ra.length
  have l2 := rb.length
  refine ⟨fun P' x => ⟨xs, ys, g x, g2 x, by omega⟩, fun i P' hi x => ?_, fun i P' v H'' hi x y => ?_⟩
  · exact ⟨xs, ys, xs[i]'(by omega), ys[i]'(by omega), g x, g2 x, List.getElem?_eq_getElem _, List.getElem?_eq_getElem _⟩
  · obtain ⟨t, v1, v2, rfl, hn, rfl, h1, h2⟩ := y
    obtain ⟨d1, e1, r1⟩ := ra.get (h1 xs (g x))
    obtain ⟨d2, e2, r2⟩ := rb.get (h2 ys (g2 x))
    have lp := (le_put P' (o := .tup [v1, v2]) hn).m
    exact ⟨P'.put t (.tup [v1, v2]) hn, rfl, le_put P' hn, _, zipD_at e1 e2, .tup upd_same (.cons ((r1.ext x).ext lp) (.cons ((r2.ext x).ext lp) .nil))⟩
theorem wk_zt {P1 : Pr T} {a b : Addr} {xs ys : List V} {ds es : List PyData} (hs : SqT K P1.M a xs) (ra : RpAll K P1.M xs ds) (hs2 : SqT K P1.M b ys) (rb : RpAll K P1.M ys es) : WkM K P1 (RZ.ItzT K a b) (zipD ds es) := by
  have g : ∀ {P' : Pr T}, Ex P1.M P'.M → SqT K P'.H a xs := fun {P'} x => ex_t P'.sub (ex_t x hs)
  have g2 : ∀ {P' : Pr T}, Ex P1.M P'.M → SqT K P'.H b ys := fun {P'} x => ex_t P'.sub (ex_t x hs2)
  have l := zipD_len ds es
  have l1 := ra.length
  have l2 := rb.length
  refine ⟨fun P' x => ⟨xs, ys, g x, g2 x, by omega⟩, fun i P' hi x => ?_, fun i P' v H'' hi x y => ?_⟩
  · exact ⟨xs, ys, xs[i]'(by omega), ys[i]'(by omega), g x, g2 x, List.getElem?_eq_getElem _, List.getElem?_eq_getElem _⟩
  · obtain ⟨t, v1, v2, rfl, hn, rfl, h1, h2⟩ := y
    obtain ⟨d1, e1, r1⟩ := ra.get (h1 xs (g x))
    obtain ⟨d2, e2, r2⟩ := rb.get (h2 ys (g2 x))
    have lp := (le_put P' (o := .tup [v1, v2]) hn).m
    exact ⟨P'.put t (.tup [v1, v2]) hn, rfl, le_put P' hn, _, zipD_at e1 e2, .tup upd_same (.cons ((r1.ext x).ext lp) (.cons ((r2.ext x).ext lp) .nil))⟩
theorem c_izip {tg : Expr} {a : MA} (h : PI X tg e (RZ.iZipA K (tA K T a))) : PI X tg e (tI K T (iZ a)) := pi_to h fun σ H Q ⟨P0, P, ρ, ds, h1, s, h2, q⟩ => by
  subst h1
  obtain ⟨x, ex, h3⟩ := bind_eq h2
  refine ⟨P0, P, ρ, x, rfl, s, ex, fun vs P1 l1 r1 => ?_⟩
  unfold oZip at h3
  split at h3
  · cases h3
    cases r1 with
    | cons r1 r2 =>
      cases r2 with
      | cons r2 r3 =>
        cases r3
        cases r1 with
        | lst hs ra =>
          cases r2 with
          | lst hs2 rb => exact ⟨_, _, _, _, rfl, .inl ⟨ex_l P1.sub hs, ex_l P1.sub hs2, q _ P1 l1 (wk_zl hs ra hs2 rb)⟩⟩
  · cases h3
    cases r1 with
    | cons r1 r2 =>
      cases r2 with
      | cons r2 r3 =>
        cases r3
        cases r1 with
        | tup hs0 ra =>
          have hs := SqT.of (K := K) hs0
          cases r2 with
          | tup hs2 rb => have hs2 := SqT.of (K := K) hs2; exact ⟨_, _, _, _, rfl, .inr ⟨ex_t P1.sub hs, ex_t P1.sub hs2, q _ P1 l1 (wk_zt hs ra hs2 rb)⟩⟩
  · cases h3
theorem pi_zipK {e1 e2 : Expr} {ta : TA} {p pos tpos : Pos} {elts : List Expr} {kk : Nat} (hg : Gl X "zip") (hm : X.mg "zip" = none) (ha : PA X [e1, e2] ta) (hK : X.K = K := by rfl)
    (hs : starEach [e1, e2] X.env = (false, eval e1 X.env) :: starEach [e2] X.env := by rfl) (hpl : (backTo pos (starEach [e2] X.env)).any (·.1) = false := by rfl) : PI X (.Tuple elts kk tpos) (.Call (.Name "zip" p) [e1, e2] [] pos) (RZ.iZipA K ta) := by
  subst hK
  exact RZ.pi_zipA hg hm ha hs hpl
/-! ### targets -/
abbrev MG := PyData → Ev → Option Ev
def tG (K : PySem.W.Frag) (T : Tb) (vs : List Nat) (gm : MG) : TG := fun v σ H Q => ∃ (P0 P : Pr T) (ρ : Ev) (d : PyData) (ρ' : Ev), P.H = H ∧ St K P0 P σ ρ ∧ Rp K P.M v d ∧ gm d ρ = some ρ' ∧ ∀ σ', St K P0 P σ' ρ' → σ'.length = σ.length → (∀ k, k ∉ vs → σ'[k]? = σ[k]?) → Q σ' H
def gN (i : Nat) : MG := fun d ρ => some (ρ.set i (.val d))
theorem c_gn {i : Nat} (h : PG X e (gName i)) : PG X e (tG K T [i] (gN i)) := pg_to h fun v σ H Q ⟨P0, P, ρ, d, ρ', h1, s, r, h2, q⟩ => by
  subst h1
  cases h2
  exact q _ (s.set r i) (by simp) fun k hk => List.getElem?_set_ne fun z => hk (by simp [z])
def gNs : List Nat → TGs
  | [] => gNil
  | i :: is => gCons (gName i) (gNs is)
def setAll : List Nat → List PyData → Ev → Ev
  | i :: is, d :: ds, ρ => setAll is ds (ρ.set i (.val d))
  | _, _, ρ => ρ
def gT (is : List Nat) : MG := fun d ρ => match d with
  | .tuple ds => if ds.length = is.length then some (setAll is ds ρ) else none
  | _ => none
theorem gns_ok {P0 P : Pr T} {H : Hp} {Q : L2.St → Hp → Prop} : ∀ (is : List Nat) (xs : List V) (ds : List PyData) (σ : L2.St) (ρ : Ev), ds.length = is.length → RpAll K P.M xs ds → St K P0 P σ ρ → (∀ σ', St K P0 P σ' (setAll is ds ρ) → σ'.length = σ.length → (∀ k, k ∉ is → σ'[k]? = σ[k]?) → Q σ' H) → gNs is xs σ H Q
  | [], _, _, σ, ρ, hl, .nil, s, q => ⟨rfl, q σ s rfl fun _ _ => rfl⟩
  | [], _, _, σ, ρ, hl, .cons _ _, s, q => by simp at hl
  | i :: is, _, _, σ, ρ, hl, .nil, s, q => by simp at hl
  | i :: is, _, _, σ, ρ, hl, .cons r rr, s, q => ⟨_, _, rfl, gns_ok is _ _ _ _ (by simpa using hl) rr (s.set r i) fun σ' s' l' f' => q σ' s' (by rw [l']; simp) fun k hk => by
      rw [f' k fun z => hk (List.mem_cons_of_mem _ z), List.getElem?_set_ne fun z => hk (by simp [z])]⟩
theorem c_gt {n : Nat} (is : List Nat) (h : PG X e (gTup K n (gNs is))) (hn : is.length = n := by rfl) : PG X e (tG K T is (gT is)) := pg_to h fun v σ H Q ⟨P0, P, ρ, d, ρ', h1, s, r, h2, q⟩ => by
  subst h1
  unfold gT at h2
  split at h2
  · split at h2
    · cases h2
      rename_i hl
      cases r with
      | tup hs ra => have hs := SqT.of (K := K) hs; exact ⟨_, _, rfl, ex_t P.sub hs, by rw [ra.length, hl, hn], gns_ok is _ _ σ ρ hl ra s q⟩
    · cases h2
  · cases h2
theorem pg_tupK {es : List Expr} {k : Nat} {t : TGs} {n : Nat} {pos : Pos} (hc : X.calm = true) (h : PGs X es t) (hK : X.K = K := by rfl)
    (hn : (assignEach es X.env).length = n := by rfl) (hst : (assignEach es X.env).findIdx? (·.1) = none := by rfl) : PG X (.Tuple es k pos) (gTup K n t) := by
  subst hK
  exact pg_tup hc h hn hst
/-! ### blocks -/
def wipeM (ρ : Ev) : List Nat → Ev
  | [] => ρ
  | v :: vs => (wipeM ρ vs).set v .no
theorem st_wipe {P0 P : Pr T} {σ : L2.St} {ρ : Ev} (s : St K P0 P σ ρ) : ∀ vs, St K P0 P (wipe σ vs) (wipeM ρ vs)
  | [] => s
  | v :: vs => by
    unfold wipe wipeM
    exact (st_wipe s vs).wipe v none
theorem wipe_in {σ : L2.St} {i : Nat} : ∀ {vs : List Nat}, i ∈ vs → i < σ.length → (wipe σ vs)[i]? = some none
  | v :: vs, h, hl => by
    unfold wipe
    by_cases z : v = i
    · subst z
      exact List.getElem?_set_self (by rw [wipe_length]; exact hl)
    · rw [List.getElem?_set_ne z]
      rcases List.mem_cons.mp h with h | h
      · exact absurd h.symm z
      · exact wipe_in h hl
theorem wipe_frame {σ σ2 : L2.St} {vs : List Nat} (hl : σ2.length = (wipe σ vs).length) (hf : ∀ k, k ∉ vs → σ2[k]? = (wipe σ vs)[k]?) : wipe σ2 vs = wipe σ vs := by
  rw [wipe_length] at hl
  refine List.ext_getElem? fun k => ?_
  by_cases h : k ∈ vs
  · by_cases hk : k < σ.length
    · rw [wipe_in h hk, wipe_in h (by omega)]
    · rw [List.getElem?_eq_none (by rw [wipe_length]; omega), List.getElem?_eq_none (by rw [wipe_length]; omega)]
  · rw [wipe_out h, hf k h]
def lcGo (gm : MG) (mt : MT) (me : ME) (ρ : Ev) : List PyData → Option (List PyData)
  | [] => some []
  | d :: ds => (gm d ρ).bind fun ρ1 => (mt ρ1).bind fun b => if b = true then (me ρ1).bind fun x => (lcGo gm mt me ρ ds).map fun l => x :: l else lcGo gm mt me ρ ds
def mLc (mi : MA) (vs : List Nat) (gm : MG) (mt : MT) (me : ME) : ME := fun ρ => (mi ρ).bind fun ds0 => (oFew ds0).bind fun ds => (lcGo gm mt me (wipeM ρ vs) ds).map .list
theorem mLc_is {mi : MA} {vs : List Nat} {gm : MG} {mt : MT} {me : ME} (ρ : Ev) (d : PyData) (h : mLc mi vs gm mt me ρ = some d) : isLst d = true := by
  obtain ⟨_, _, h⟩ := bind_eq h
  obtain ⟨_, _, h⟩ := bind_eq h
  obtain ⟨_, _, rfl⟩ := map_eq h
  rfl
theorem drop_some {α : Type} {l : List α} {i : Nat} {x : α} (h : l[i]? = some x) : l.drop i = x :: l.drop (i + 1) := by
  obtain ⟨hi, e⟩ := List.getElem?_eq_some_iff.mp h
  rw [List.drop_eq_getElem_cons hi, e]
/-- an own list grows -/
theorem own_grow {P1 P5 : Pr T} {D : Addr} {acc : List V} {out : List PyData} {y : V} {d : PyData} (l : Le P1 P5) (hD : Loose P1.H D) (hM : P5.M D = none) (hp : P5.H D = some (.lst acc)) (ra : RpAll K P5.M acc out) (r : Rp K P5.M y d) :
    ∃ Pn : Pr T, Pn.H = upd P5.H D (.lst (acc ++ [y])) ∧ Le P1 Pn ∧ OwnAt K Pn D (.list (out ++ [d])) := by
  refine ⟨⟨P5.M, upd P5.H D (.lst (acc ++ [y])), fun b u e q => ?_, tabs_mut P5.tab hp (fun _ z => nomatch z) (fun _ _ z => by unfold LamX.CodeO at z; cases z), P5.nt⟩, rfl, ⟨l.m, fun b u e q => ?_, l.f⟩, .lst hM upd_same (RpAll.append ra (.cons r .nil))⟩
  · have ne : b ≠ D := fun z => by rw [z, hM] at e; cases e
    rw [upd_ne ne]
    exact P5.sub b u e q
  · have ne : b ≠ D := fun z => by
      rw [z] at e
      obtain ⟨ps, w⟩ := hD u e
      exact q ps w
    show upd P5.H D _ b = some u
    rw [upd_ne ne]
    exact l.h b u e q
theorem lc_in {mi : MA} {vs : List Nat} {gm : MG} {mt : MT} {me : ME} {σ : L2.St} {H : Hp} {Q : VK} (h : tF K T (mLc mi vs gm mt me) σ H Q) : tLc (tIh K T mi) (tG K T vs gm) (tQ K T mt) (tD K T me) vs σ H Q := by
  obtain ⟨P0, P, ρ, d, h1, s, h2, q⟩ := h
  subst h1
  obtain ⟨ds0, e0, h3⟩ := bind_eq h2
  obtain ⟨ds, e1, h4⟩ := bind_eq h3
  obtain ⟨tot, et, rfl⟩ := map_eq h4
  obtain ⟨rfl, hl⟩ := oFew_eq e1
  refine ⟨P0, P, ρ, ds, rfl, s, e0, fun J P1 l1 wk D hD => ?_⟩
  have lo : Loose P1.H D := loose_none hD
  refine ⟨fun i m H' => m = ds.length - i ∧ i ≤ ds.length ∧ ∃ (Pc : Pr T) (out rest : List PyData), Pc.H = H' ∧ Le P1 Pc ∧ OwnAt K Pc D (.list out) ∧ lcGo gm mt me (wipeM ρ vs) (ds.drop i) = some rest ∧ out ++ rest = tot ∧ out.length ≤ i, ⟨ds.length, by simp, Nat.zero_le _, P1.hid D (.lst []) hD, [], tot, rfl, le_hid P1 hD, .lst (P1.none hD) upd_same .nil, et, rfl, Nat.le_refl _⟩, ?_⟩
  rintro i m H' ⟨rfl, hi, Pc, out, rest, rfl, lc, ow, eg, eo, el⟩
  by_cases hlt : i < ds.length
  · refine .inr ⟨wk.go i Pc hlt lc, fun H'' => ∃ m', m' < ds.length - i ∧ (m' = ds.length - (i + 1) ∧ i + 1 ≤ ds.length ∧ ∃ (Pc : Pr T) (out rest : List PyData), Pc.H = H'' ∧ Le P1 Pc ∧ OwnAt K Pc D (.list out) ∧ lcGo gm mt me (wipeM ρ vs) (ds.drop (i + 1)) = some rest ∧ out ++ rest = tot ∧ out.length ≤ i + 1), fun H'' hh => hh, fun x H'' y => ?_⟩
    obtain ⟨P3, rfl, l3, dd, hdd, rx⟩ := wk.yld i Pc x H'' hlt lc y
    rw [drop_some hdd] at eg
    obtain ⟨ρ1, eρ, eg⟩ := bind_eq eg
    obtain ⟨b, eb, eg⟩ := bind_eq eg
    refine ⟨P0, P3, wipeM ρ vs, dd, ρ1, rfl, (st_wipe s vs).up (l1.trans (lc.trans l3)), rx, eρ, fun σ2 s2 hl2 hf2 => ⟨wipe_frame hl2 hf2, P0, P3, ρ1, b, rfl, s2, eb, fun P4 l4 => ?_⟩⟩
    cases b with
    | false =>
      refine iteF ⟨_, by omega, rfl, hlt, P4, out, rest, rfl, lc.trans (l3.trans l4), ow.up (l3.trans l4), by simpa using eg, eo, by omega⟩
    | true =>
      rw [if_pos rfl] at eg
      obtain ⟨z, ez, eg⟩ := bind_eq eg
      obtain ⟨rest', er, rfl⟩ := map_eq eg
      refine iteT ⟨P0, P4, ρ1, z, rfl, s2.up l4, ez, fun yv P5 l5 r5 => ?_⟩
      have ow5 := ow.up (l3.trans (l4.trans l5))
      cases ow5 with
      | @lst acc _ a1 a2 a3 =>
        obtain ⟨Pn, en, ln, on⟩ := own_grow (lc.trans (l3.trans (l4.trans l5))) lo a1 a2 a3 r5
        have : acc.length = out.length := a3.length
        exact ⟨acc, a2, szl' (by omega) hl, _, by omega, rfl, hlt, Pn, out ++ [z], rest', en, ln, on, er, by rw [← eo]; simp, by rw [List.length_append]; show _ + 1 ≤ _; omega⟩
  · have ei : i = ds.length := by omega
    subst ei
    rw [List.drop_length] at eg
    cases eg
    rw [List.append_nil] at eo
    subst eo
    exact .inl ⟨wk.stop Pc lc, q _ Pc (l1.trans lc) ow (loose_back l1.h lo)⟩
theorem c_lc {mi : MA} {vs : List Nat} {gm : MG} {mt : MT} {me : ME} (h : PE X e (tLc (tIh K T mi) (tG K T vs gm) (tQ K T mt) (tD K T me) vs)) : PE X e (tF K T (mLc mi vs gm mt me)) := pe_to h fun σ H Q z => lc_in z
theorem s_lc {st : Stmt} {i : Nat} {mi : MA} {vs : List Nat} {gm : MG} {mt : MT} {me : ME} (h : PS X st (tAsg (tLc (tIh K T mi) (tG K T vs gm) (tQ K T mt) (tD K T me) vs) (gName i))) : PS X st (tAsg (tF K T (mLc mi vs gm mt me)) (gName i)) := ps_to h fun D σ H z => lc_in z
theorem s_fd {st : Stmt} {g : TG} {m : ME} (h : PS X st (tAsg (tF K T m) g)) (hl : ∀ ρ d, m ρ = some d → isLst d = true) : PS X st (tAsg (tD K T m) g) := ps_to h fun D σ H z => fd_in hl z
def qT : MT := fun _ => some true
theorem q_nil {ifs : List Expr} (h : PTs X ifs tYes) : PTs X ifs (tQ K T qT) := pts_to h fun σ H Q ⟨P0, P, ρ, b, h1, s, h2, q⟩ => by
  subst h1
  cases h2
  exact q P (Le.refl P)
/-! ### generator expressions -/
def agGo (gm : MG) (mt : MT) (me : ME) (ρ : Ev) : List PyData → Option Bool
  | [] => some true
  | d :: ds => (gm d ρ).bind fun ρ1 => (mt ρ1).bind fun b => if b = true then (me ρ1).bind fun x => (asB x).bind fun c => if c = true then agGo gm mt me ρ ds else some false else agGo gm mt me ρ ds
def mAg (mi : MA) (vs : List Nat) (gm : MG) (mt : MT) (me : ME) : ME := fun ρ => (mi ρ).bind fun ds => (agGo gm mt me (wipeM ρ vs) ds).map .bool
theorem ext_pr (P1 : Pr T) {H2 : Hp} (h : LamX.ExtN P1.H H2) (t : LamX.Tabs T H2) : ∃ P2 : Pr T, P2.H = H2 ∧ Le P1 P2 := ⟨⟨P1.M, H2, P1.sub.trans h, t, P1.nt⟩, rfl, ex_refl _, h, fun _ a b => absurd a b⟩
theorem c_ag {mi : MA} {vs : List Nat} {gm : MG} {mt : MT} {me : ME} (h : PE X e (GX.tAllG T (tIh K T mi) (tG K T vs gm) (tQ K T mt) (tD K T me) vs)) : PE X e (tD K T (mAg mi vs gm mt me)) := pe_to h fun σ H Q ⟨P0, P, ρ, d, h1, s, h2, q⟩ => by
  subst h1
  obtain ⟨ds, e0, h3⟩ := bind_eq h2
  obtain ⟨tot, et, rfl⟩ := map_eq h3
  refine ⟨P0, P, ρ, ds, rfl, s, e0, fun J P1 l1 wk => ⟨P1.tab, fun H2 hx ht => ?_⟩⟩
  obtain ⟨P2, rfl, l2⟩ := ext_pr P1 hx ht
  refine ⟨fun i m H' => m = ds.length - i ∧ i ≤ ds.length ∧ ∃ (Pc : Pr T), Pc.H = H' ∧ Le P2 Pc ∧ agGo gm mt me (wipeM ρ vs) (ds.drop i) = some tot, ⟨ds.length, by simp, Nat.zero_le _, P2, rfl, Le.refl P2, et⟩, ?_⟩
  rintro i m H' ⟨rfl, hi, Pc, rfl, lc, eg⟩
  have l12 := l2.trans lc
  by_cases hlt : i < ds.length
  · refine .inr ⟨wk.go i Pc hlt l12, fun x H'' y => ?_⟩
    obtain ⟨P3, rfl, l3, dd, hdd, rx⟩ := wk.yld i Pc x H'' hlt l12 y
    rw [drop_some hdd] at eg
    obtain ⟨ρ1, eρ, eg⟩ := bind_eq eg
    obtain ⟨b, eb, eg⟩ := bind_eq eg
    refine ⟨P0, P3, wipeM ρ vs, dd, ρ1, rfl, (st_wipe s vs).up (l1.trans (l12.trans l3)), rx, eρ, fun σ2 s2 hl2 hf2 => ⟨wipe_frame hl2 hf2, P0, P3, ρ1, b, rfl, s2, eb, fun P4 l4 => ?_⟩⟩
    cases b with
    | false => exact iteF ⟨_, by omega, rfl, hlt, P4, rfl, lc.trans (l3.trans l4), by simpa using eg⟩
    | true =>
      rw [if_pos rfl] at eg
      obtain ⟨z, ez, eg⟩ := bind_eq eg
      obtain ⟨c, ec, eg2⟩ := bind_eq eg
      rw [asB_eq ec] at ez
      refine iteT ⟨P0, P4, ρ1, _, rfl, s2.up l4, ez, fun yv P5 l5 r5 => ?_⟩
      cases r5
      refine ⟨c, rfl, fun hc => ⟨_, Nat.sub_lt_sub_left hlt (Nat.lt_succ_self i), rfl, hlt, P5, rfl, lc.trans (l3.trans (l4.trans l5)), ?_⟩, fun hc => ?_⟩
      · rw [if_pos hc] at eg2
        exact eg2
      · rw [if_neg (by rw [hc]; decide)] at eg2
        cases eg2
        exact q _ P5 (l1.trans (l12.trans (l3.trans (l4.trans l5)))) (.bl _)
  · have ei : i = ds.length := by omega
    subst ei
    rw [List.drop_length] at eg
    cases eg
    exact .inl ⟨wk.stop Pc l12, q _ Pc (l1.trans l12) (.bl _)⟩
def mTg (mi : MA) (vs : List Nat) (gm : MG) (mt : MT) (me : ME) : ME := fun ρ => (mi ρ).bind fun ds0 => (oFew ds0).bind fun ds => (lcGo gm mt me (wipeM ρ vs) ds).map .tuple
theorem c_tg {mi : MA} {vs : List Nat} {gm : MG} {mt : MT} {me : ME} (h : PE X e (GX.tTupG (GX.tGx T (tIh K T mi) (tG K T vs gm) (tQ K T mt) (tD K T me) vs))) : PE X e (tD K T (mTg mi vs gm mt me)) := pe_to h fun σ H Q ⟨P0, P, ρ, d, h1, s, h2, q⟩ => by
  subst h1
  obtain ⟨ds0, e0, h3⟩ := bind_eq h2
  obtain ⟨ds, e1, h4⟩ := bind_eq h3
  obtain ⟨tot, et, rfl⟩ := map_eq h4
  obtain ⟨rfl, hl⟩ := oFew_eq e1
  refine ⟨P0, P, ρ, ds, rfl, s, e0, fun J P1 l1 wk => ⟨P1.tab, fun H2 hx ht => ?_⟩⟩
  obtain ⟨P2, rfl, l2⟩ := ext_pr P1 hx ht
  refine ⟨fun i m ys H' => m = ds.length - i ∧ i ≤ ds.length ∧ ∃ (Pc : Pr T) (out rest : List PyData), Pc.H = H' ∧ Le P2 Pc ∧ RpAll K Pc.M ys out ∧ lcGo gm mt me (wipeM ρ vs) (ds.drop i) = some rest ∧ out ++ rest = tot ∧ out.length ≤ i, ⟨ds.length, by simp, Nat.zero_le _, P2, [], tot, rfl, Le.refl P2, .nil, et, rfl, Nat.le_refl _⟩, ?_⟩
  rintro i m ys H' ⟨rfl, hi, Pc, out, rest, rfl, lc, ra, eg, eo, el⟩
  have l12 := l2.trans lc
  by_cases hlt : i < ds.length
  · refine .inr ⟨wk.go i Pc hlt l12, fun x H'' y => ?_⟩
    obtain ⟨P3, rfl, l3, dd, hdd, rx⟩ := wk.yld i Pc x H'' hlt l12 y
    rw [drop_some hdd] at eg
    obtain ⟨ρ1, eρ, eg⟩ := bind_eq eg
    obtain ⟨b, eb, eg⟩ := bind_eq eg
    refine ⟨P0, P3, wipeM ρ vs, dd, ρ1, rfl, (st_wipe s vs).up (l1.trans (l12.trans l3)), rx, eρ, fun σ2 s2 hl2 hf2 => ⟨wipe_frame hl2 hf2, P0, P3, ρ1, b, rfl, s2, eb, fun P4 l4 => ?_⟩⟩
    cases b with
    | false => exact iteF ⟨_, by omega, rfl, hlt, P4, out, rest, rfl, lc.trans (l3.trans l4), ra.ext (l3.trans l4).m, by simpa using eg, eo, by omega⟩
    | true =>
      rw [if_pos rfl] at eg
      obtain ⟨z, ez, eg⟩ := bind_eq eg
      obtain ⟨rest', er, rfl⟩ := map_eq eg
      refine iteT ⟨P0, P4, ρ1, z, rfl, s2.up l4, ez, fun yv P5 l5 r5 => ?_⟩
      have := ra.length
      exact ⟨szl' (by omega) hl, _, Nat.sub_lt_sub_left hlt (Nat.lt_succ_self i), rfl, hlt, P5, out ++ [z], rest', rfl, lc.trans (l3.trans (l4.trans l5)), RpAll.append (ra.ext (l3.trans (l4.trans l5)).m) (.cons r5 .nil), er, by rw [← eo]; simp, by rw [List.length_append]; show _ + 1 ≤ _; omega⟩
  · have ei : i = ds.length := by omega
    subst ei
    rw [List.drop_length] at eg
    cases eg
    rw [List.append_nil] at eo
    subst eo
    refine .inl ⟨wk.stop Pc l12, fun p hp => q _ (Pc.put p (.tup ys) hp) ((l1.trans l12).trans (le_put Pc hp)) (.tup upd_same (ra.ext (le_put Pc hp).m))⟩
/-! ### calls of defs -/
def spM (K : PySem.W.Frag) (T : Tb) (f : List PyData → Option PyData) : Sp := fun vs H Q _ => ∃ (P : Pr T) (ds : List PyData) (d : PyData), P.H = H ∧ RpAll K P.M vs ds ∧ f ds = some d ∧ ∀ v (P' : Pr T), Le P P' → Rp K P'.M v d → Q v P'.H
theorem c_call {E : XK} {f : List PyData → Option PyData} {a : MA} (h : PE X e (tCall (spM K T f) [] E (tA K T a))) : PE X e (tD K T (mCb f a)) := pe_to h fun σ H Q ⟨P0, P, ρ, d, h1, s, h2, q⟩ => by
  subst h1
  obtain ⟨x, ex, h3⟩ := bind_eq h2
  refine ⟨P0, P, ρ, x, rfl, s, ex, fun vs P1 l1 r1 => ?_⟩
  show spM K T f (vs ++ []) P1.H Q E
  rw [List.append_nil]
  exact ⟨P1, x, d, rfl, r1, h3, fun v P2 l2 r2 => q v P2 (l1.trans l2) r2⟩
end PM
namespace PM
open PySem PySem.Spec PyProof.Rows L2 LB
variable {T : Tb} {K : PySem.W.Frag} {X : Cx} {e : Expr} {st : Stmt} {sts : List Stmt}
inductive Out where
  | nx (ρ : Ev) | rt (d : PyData) | rf (d : PyData) | bk (ρ : Ev) | ct (ρ : Ev) | er (c : Str) (ρ : Ev)
/-- what is wanted where a class is raised -/
abbrev ER := Str → L2.St → Hp → Prop
abbrev MS := Ev → Option Out
def Endk (K : PySem.W.Frag) (R : ER) (P0 : Pr T) (D : Ends) : Out → Prop
  | .nx ρ => ∀ (P : Pr T) σ, St K P0 P σ ρ → D.nx σ P.H
  | .rt d => ∀ v (P : Pr T), Le P0 P → Rp K P.M v d → D.rt v P.H
  | .rf d => ∀ p (P : Pr T), Le P0 P → OwnAt K P p d → Loose P0.H p → D.rt (.ref p) P.H
  | .bk ρ => ∀ (P : Pr T) σ, St K P0 P σ ρ → D.bk σ P.H
  | .ct ρ => ∀ (P : Pr T) σ, St K P0 P σ ρ → D.ct σ P.H
  | .er c ρ => ∀ (P : Pr T) σ, St K P0 P σ ρ → R c σ P.H
def tSR (K : PySem.W.Frag) (T : Tb) (R : ER) (m : MS) : TS := fun D σ H => ∃ (P0 P : Pr T) (ρ : Ev) (o : Out), P.H = H ∧ St K P0 P σ ρ ∧ m ρ = some o ∧ Endk K R P0 D o
abbrev noR : ER := fun _ _ _ => False
abbrev tS (K : PySem.W.Frag) (T : Tb) (m : MS) : TS := tSR K T noR m
variable {R : ER}
def mNx : MS := fun ρ => some (.nx ρ)
theorem s_nil (h : PSs X sts tNext) : PSs X sts (tSR K T R mNx) := pss_to h fun D σ H ⟨P0, P, ρ, o, h1, s, h2, q⟩ => by
  subst h1
  cases h2
  exact q P σ s
def mSeq (a b : MS) : MS := fun ρ => (a ρ).bind fun o => match o with
  | .nx ρ' => b ρ'
  | o => some o
theorem s_seq {a b : MS} (h : PSs X sts (tSeq (tSR K T R a) (tSR K T R b))) : PSs X sts (tSR K T R (mSeq a b)) := pss_to h fun D σ H ⟨P0, P, ρ, o, h1, s, h2, q⟩ => by
  subst h1
  obtain ⟨o1, e1, h3⟩ := bind_eq h2
  refine ⟨P0, P, ρ, o1, rfl, s, e1, ?_⟩
  cases o1 with
  | nx ρ' => exact fun P' σ' s' => ⟨P0, P', ρ', o, rfl, s', h3, q⟩
  | rt d =>
    cases h3
    exact q
  | rf d =>
    cases h3
    exact q
  | bk d =>
    cases h3
    exact q
  | ct d =>
    cases h3
    exact q
  | er d ρ2 =>
    cases h3
    exact q
def mRet (a : ME) : MS := fun ρ => (a ρ).map .rt
theorem s_ret {a : ME} (h : PS X st (tRet (tD K T a))) : PS X st (tSR K T R (mRet a)) := ps_to h fun D σ H ⟨P0, P, ρ, o, h1, s, h2, q⟩ => by
  obtain ⟨d, e1, rfl⟩ := map_eq h2
  exact ⟨P0, P, ρ, d, h1, s, e1, fun v P' l r => q v P' (s.le.trans l) r⟩
/-- return x, x an own list -/
def mRetO (i : Nat) : MS := fun ρ => match ρ[i]? with
  | some (.own d) => some (.rf d)
  | _ => none
theorem s_retO {i : Nat} (h : PS X st (tRet (tVar i))) : PS X st (tSR K T R (mRetO i)) := ps_to h fun D σ H ⟨P0, P, ρ, o, h1, s, h2, q⟩ => by
  subst h1
  unfold mRetO at h2
  split at h2
  · rename_i d hd
    cases h2
    obtain ⟨u, g1, g2⟩ := s.ok i _ hd
    cases g2 with
    | own r => exact ⟨_, g1, q _ P s.le r (s.fr i _ _ hd g1)⟩
  · cases h2
def mSet (i : Nat) (a : ME) : MS := fun ρ => (a ρ).map fun d => .nx (ρ.set i (.val d))
theorem s_set {i : Nat} {a : ME} (h : PS X st (tAsg (tD K T a) (gName i))) : PS X st (tSR K T R (mSet i a)) := ps_to h fun D σ H ⟨P0, P, ρ, o, h1, s, h2, q⟩ => by
  obtain ⟨d, e1, rfl⟩ := map_eq h2
  exact ⟨P0, P, ρ, d, h1, s, e1, fun v P' l r => q P' _ ((s.up l).set r i)⟩
def mSetO (i : Nat) (a : ME) : MS := fun ρ => (a ρ).map fun d => .nx (ρ.set i (.own d))
theorem s_setO {i : Nat} {a : ME} (h : PS X st (tAsg (tF K T a) (gName i))) : PS X st (tSR K T R (mSetO i a)) := ps_to h fun D σ H ⟨P0, P, ρ, o, h1, s, h2, q⟩ => by
  subst h1
  obtain ⟨d, e1, rfl⟩ := map_eq h2
  refine ⟨P0, P, ρ, d, rfl, s, e1, fun p P' l r lo => q P' _ ((s.up l).setO r (loose_back s.le.h lo) i fun j e' q' h1 h2 z => ?_)⟩
  obtain ⟨u, g1, g2⟩ := s.ok j _ h1
  rw [h2] at g1
  cases g1
  cases g2 with
  | own r' =>
    subst z
    exact r'.tight lo
def mAsg (a : ME) (gm : MG) : MS := fun ρ => (a ρ).bind fun d => (gm d ρ).map .nx
theorem s_asg {vs : List Nat} {a : ME} {gm : MG} (h : PS X st (tAsg (tD K T a) (tG K T vs gm))) : PS X st (tSR K T R (mAsg a gm)) := ps_to h fun D σ H ⟨P0, P, ρ, o, h1, s, h2, q⟩ => by
  subst h1
  obtain ⟨d, e1, h3⟩ := bind_eq h2
  obtain ⟨ρ', e2, rfl⟩ := map_eq h3
  exact ⟨P0, P, ρ, d, rfl, s, e1, fun v P' l r => ⟨P0, P', ρ, d, ρ', rfl, s.up l, r, e2, fun σ' s' _ _ => q P' σ' s'⟩⟩
def mPar (i j : Nat) (a : MA) : MS := fun ρ => (a ρ).bind fun ds => match ds with
  | [x, y] => some (.nx ((ρ.set i (.val x)).set j (.val y)))
  | _ => none
theorem s_par {i j : Nat} {a : MA} (h : PS X st (tPar i j (tA K T a))) : PS X st (tSR K T R (mPar i j a)) := ps_to h fun D σ H ⟨P0, P, ρ, o, h1, s, h2, q⟩ => by
  obtain ⟨ds, e1, h3⟩ := bind_eq h2
  refine ⟨P0, P, ρ, ds, h1, s, e1, fun vs P' l r => ?_⟩
  split at h3
  · cases h3
    cases r with
    | cons r1 r =>
      cases r with
      | cons r2 r =>
        cases r
        exact ⟨_, _, rfl, q P' _ (((s.up l).set r1 i).set r2 j)⟩
  · cases h3
def mIfS (t : MT) (a b : MS) : MS := fun ρ => (t ρ).bind fun c => if c = true then a ρ else b ρ
theorem s_if {t : MT} {a b : MS} (h : PS X st (tIfS (tQ K T t) (tSR K T R a) (tSR K T R b))) : PS X st (tSR K T R (mIfS t a b)) := ps_to h fun D σ H ⟨P0, P, ρ, o, h1, s, h2, q⟩ => by
  subst h1
  obtain ⟨c, e1, h3⟩ := bind_eq h2
  refine ⟨P0, P, ρ, c, rfl, s, e1, fun P' l => ?_⟩
  cases c with
  | true => exact iteT ⟨P0, P', ρ, o, rfl, s.up l, by simpa using h3, q⟩
  | false => exact iteF ⟨P0, P', ρ, o, rfl, s.up l, by simpa using h3, q⟩
/-! own lists change -/
def mApp (i : Nat) (a : ME) : MS := fun ρ => (a ρ).bind fun d => match ρ[i]? with
  | some (.own (.list ds)) => if ds.length < 100000 then some (.nx (ρ.set i (.own (.list (ds ++ [d]))))) else none
  | _ => none
theorem s_app {i : Nat} {a : ME} (h : PS X st (tDrop (tBM K "list" rAppend (tVar i) (tCons (tD K T a) tNil)))) : PS X st (tSR K T R (mApp i a)) := ps_to h fun D σ H ⟨P0, P, ρ, o, h1, s, h2, q⟩ => by
  subst h1
  obtain ⟨d, e1, h3⟩ := bind_eq h2
  split at h3
  · rename_i ds hd
    split at h3
    · rename_i hlt
      cases h3
      obtain ⟨u, g1, g2⟩ := s.ok i _ hd
      cases g2 with
      | @own p _ r =>
        refine ⟨_, g1, .inl ⟨rfl, ?_⟩, P0, P, ρ, d, rfl, s, e1, fun v P' l rv => ?_⟩
        · cases r with
          | lst a1 a2 a3 => exact ⟨_, SqL.of a2⟩
        · have r' := r.up l
          cases r' with
          | @lst xs _ a1 a2 a3 =>
            obtain ⟨Q', hQ, hQ', s'⟩ := (s.up l).mut (o' := .lst (xs ++ [v])) (d' := .list (ds ++ [d])) hd g1 a1 a2 (fun _ z => nomatch z) (fun _ _ z => by unfold LamX.CodeO at z; cases z) fun R hM hH => .lst (by rw [hM]; exact a1) (by rw [hH]; exact upd_same) (by rw [hM]; exact RpAll.append a3 (.cons rv .nil))
            refine ⟨p, xs, v, rfl, rfl, a2, szl (by rw [a3.length]; exact hlt), ?_⟩
            rw [← hQ']
            exact q Q' σ s'
    · cases h3
  · cases h3
/-- from here on an own list is one's own no more -/
def mRel (i : Nat) (m : MS) : MS := fun ρ => match ρ[i]? with
  | some (.own (.list ds)) => m (ρ.set i (.val (.list ds)))
  | _ => m ρ
theorem rel_in {i : Nat} {m : MS} {D : Ends} {σ : L2.St} {H : Hp} (h : tSR K T R (mRel i m) D σ H) : tSR K T R m D σ H := by
  obtain ⟨P0, P, ρ, o, h1, s, h2, q⟩ := h
  subst h1
  unfold mRel at h2
  split at h2
  · rename_i ds hd
    obtain ⟨R, hR, s'⟩ := s.rel hd
    exact ⟨P0, R, _, o, hR, s', h2, q⟩
  · exact ⟨P0, P, ρ, o, rfl, s, h2, q⟩
theorem s_rel (i : Nat) {m : MS} (h : PS X st (tSR K T R m)) : PS X st (tSR K T R (mRel i m)) := ps_to h fun D σ H z => rel_in z
/-! loops -/
theorem St.base {P0 Pb P : Pr T} {σ : L2.St} {ρ : Ev} (l : Le P0 Pb) (s : St K Pb P σ ρ) : St K P0 P σ ρ := ⟨l.trans s.le, s.len, s.ok, s.dis, fun i d p h1 h2 => loose_back l.h (s.fr i d p h1 h2), s.od.1, fun i ks p h1 h2 => loose_back l.h (s.od.2 i ks p h1 h2)⟩
open Classical in
/-- the same from a later entry, on which all data stands that stands now -/
theorem St.rebase {P0 P : Pr T} {σ : L2.St} {ρ : Ev} (s : St K P0 P σ ρ) : ∃ Pb : Pr T, Pb.M = P.M ∧ Le P0 Pb ∧ St K Pb P σ ρ := by
  have agree : ∀ {b : Addr} {u o : HO}, P.M b = some u → P0.H b = some o → Plain o → u = o := fun {b u o} h1 h2 n => by
    have e1 := P.sub b u h1 fun ps z => P.nt b ps (by rw [h1, z])
    have e2 := s.le.h b o h2 n
    rw [e1] at e2
    exact Option.some.inj e2
  refine ⟨⟨P.M, fun a => if P.M a = none then P0.H a else P.M a, fun b u h n => ?_, fun q hq => ?_, P.nt⟩, rfl, ⟨s.le.m, fun b o h n => ?_, s.le.f⟩, ⟨⟨ex_refl _, fun b o h n => ?_, fun a h1 h2 => absurd h1 h2⟩, s.len, s.ok, s.dis, fun i d p h1 h2 => ?_, s.od.1, fun i ks p h1 h2 => ?_⟩⟩
  · show (if P.M b = none then P0.H b else P.M b) = some u
    rw [if_neg (by rw [h]; exact fun z => nomatch z)]
    exact h
  · obtain ⟨ps, h1, h2, h3⟩ := P0.tab q hq
    have e : ∀ {a : Addr} {o : HO}, P0.H a = some o → (∀ u, P.M a = some u → u = o) → (if P.M a = none then P0.H a else P.M a) = some o := fun {a o} h hu => by
      cases z : P.M a with
      | none =>
        rw [if_pos rfl]
        exact h
      | some u =>
        rw [if_neg (fun z => nomatch z), hu u z]
    refine ⟨ps, e h1 fun u hu => ?_, h2, fun pos cv hc => ?_⟩
    · obtain ⟨ps', h1', _⟩ := P.tab q hq
      have := P.sub _ u hu fun ps z => P.nt _ ps (by rw [hu, z])
      rw [h1'] at this
      exact absurd hu (by rw [← Option.some.inj this]; exact P.nt _ _)
    · obtain ⟨c, e1, e2⟩ := h3 pos cv hc
      exact ⟨c, e1, e e2 fun u hu => agree hu e2 LamX.codeO_ne⟩
  · show (if P.M b = none then P0.H b else P.M b) = some o
    cases z : P.M b with
    | none =>
      rw [if_pos rfl]
      exact h
    | some u => rw [if_neg (fun z => nomatch z), agree z h n]
  · have h : (if P.M b = none then P0.H b else P.M b) = some o := h
    cases z : P.M b with
    | none =>
      rw [z, if_pos rfl] at h
      exact s.le.h b o h n
    | some u =>
      rw [z, if_neg (fun z => nomatch z)] at h
      cases h
      exact P.sub b o z n
  · intro o h
    have h : (if P.M p = none then P0.H p else P.M p) = some o := h
    obtain ⟨u, g1, g2⟩ := s.ok i _ h1
    rw [h2] at g1
    cases g1
    cases g2 with
    | own r =>
      rw [if_pos r.obj.1] at h
      exact s.fr i d p h1 h2 o h
  · intro o h
    have h : (if P.M p = none then P0.H p else P.M p) = some o := h
    obtain ⟨u, g1, g2⟩ := s.ok i _ h1
    rw [h2] at g1
    cases g1
    cases g2 with
    | ods b1 b2 b3 =>
      rw [if_pos b1] at h
      exact s.od.2 i ks p h1 h2 o h
theorem Endk.base {P0 Pb : Pr T} {D : Ends} {o : Out} (l : Le P0 Pb) (h : Endk K R P0 D o) : Endk K R Pb D o := by
  cases o with
  | nx ρ => exact fun P σ s => h P σ (s.base l)
  | rt d => exact fun v P l' r => h v P (l.trans l') r
  | rf d => exact fun p P l' r lo => h p P (l.trans l') r (loose_back l.h lo)
  | bk ρ => exact fun P σ s => h P σ (s.base l)
  | ct ρ => exact fun P σ s => h P σ (s.base l)
  | er c ρ => exact fun P σ s => h P σ (s.base l)
def forGo (gm : MG) (mb : MS) : List PyData → Ev → Option Out
  | [], ρ => some (.nx ρ)
  | d :: ds, ρ => (gm d ρ).bind fun ρ1 => (mb ρ1).bind fun o => match o with
    | .nx ρ2 => forGo gm mb ds ρ2
    | .ct ρ2 => forGo gm mb ds ρ2
    | .bk ρ2 => some (.nx ρ2)
    | .rt d => some (.rt d)
    | .rf d => some (.rf d)
    | .er c ρ2 => some (.er c ρ2)
def mFor (mi : MA) (gm : MG) (mb : MS) : MS := fun ρ => (mi ρ).bind fun ds => forGo gm mb ds ρ
theorem s_for {vs : List Nat} {mi : MA} {gm : MG} {mb : MS} (h : PS X st (tFor (tI K T mi) (tG K T vs gm) (tSR K T R mb))) : PS X st (tSR K T R (mFor mi gm mb)) := ps_to h fun D σ H ⟨P0, P, ρ, o, h1, s, h2, q⟩ => by
  subst h1
  obtain ⟨ds, e0, h3⟩ := bind_eq h2
  refine ⟨P0, P, ρ, ds, rfl, s, e0, fun J P1 l1 wk => ?_⟩
  refine ⟨fun i m σ' H' => m = ds.length - i ∧ i ≤ ds.length ∧ ∃ (Pc : Pr T) (ρ' : Ev), Pc.H = H' ∧ Ex P1.M Pc.M ∧ St K P0 Pc σ' ρ' ∧ forGo gm mb (ds.drop i) ρ' = some o, ⟨ds.length, by simp, Nat.zero_le _, P1, ρ, rfl, ex_refl _, s.up l1, h3⟩, ?_⟩
  rintro i m σ' H' ⟨rfl, hi, Pc, ρ', rfl, lc, sc, eg⟩
  by_cases hlt : i < ds.length
  · refine .inr ⟨wk.go i Pc hlt lc, fun σ2 H2 => ∃ m', m' < ds.length - i ∧ (m' = ds.length - (i + 1) ∧ i + 1 ≤ ds.length ∧ ∃ (Pc : Pr T) (ρ' : Ev), Pc.H = H2 ∧ Ex P1.M Pc.M ∧ St K P0 Pc σ2 ρ' ∧ forGo gm mb (ds.drop (i + 1)) ρ' = some o), fun σ2 H2 hh => hh, fun x H'' y => ?_⟩
    obtain ⟨P3, rfl, l3, dd, hdd, rx⟩ := wk.yld i Pc x H'' hlt lc y
    rw [drop_some hdd] at eg
    obtain ⟨ρ1, eρ, eg⟩ := bind_eq eg
    obtain ⟨o1, eo, eg⟩ := bind_eq eg
    refine ⟨P0, P3, ρ', dd, ρ1, rfl, sc.up l3, rx, eρ, fun σ2 s2 _ _ => ?_⟩
    have lm : Ex P1.M P3.M := lc.trans l3.m
    obtain ⟨Pb, hb, lb, s2'⟩ := s2.rebase
    have q' := Endk.base lb q
    refine ⟨Pb, P3, ρ1, o1, rfl, s2', eo, ?_⟩
    have nxt : ∀ (P' : Pr T) σ3 ρ2, forGo gm mb (ds.drop (i + 1)) ρ2 = some o → St K Pb P' σ3 ρ2 → ∃ m', m' < ds.length - i ∧ (m' = ds.length - (i + 1) ∧ i + 1 ≤ ds.length ∧ ∃ (Pc : Pr T) (ρ' : Ev), Pc.H = P'.H ∧ Ex P1.M Pc.M ∧ St K P0 Pc σ3 ρ' ∧ forGo gm mb (ds.drop (i + 1)) ρ' = some o) := fun P' σ3 ρ2 hg s3 => ⟨_, Nat.sub_lt_sub_left hlt (Nat.lt_succ_self i), rfl, hlt, P', ρ2, rfl, lm.trans (by rw [← hb]; exact s3.le.m), s3.base lb, hg⟩
    cases o1 with
    | nx ρ2 => exact fun P' σ3 s3 => nxt P' σ3 ρ2 eg s3
    | ct ρ2 => exact fun P' σ3 s3 => nxt P' σ3 ρ2 eg s3
    | bk ρ2 =>
      cases eg
      exact q'
    | rt d =>
      cases eg
      exact q'
    | rf d =>
      cases eg
      exact q'
    | er c ρ2 =>
      cases eg
      exact q'
  · have ei : i = ds.length := by omega
    subst ei
    rw [List.drop_length] at eg
    cases eg
    exact .inl ⟨wk.stop Pc lc, q Pc σ' sc⟩
/-! ### defs -/
def outR : Out → Option PyData
  | .rt d => some d
  | .rf (.list ds) => some (.list ds)
  | .nx _ => some .none
  | _ => none
def evOf (n N : Nat) (ds : List PyData) : Ev := ds.map .val ++ List.replicate (N - n) .no
def fnM (n N : Nat) (m : MS) : List PyData → Option PyData := fun ds => if ds.length = n then (m (evOf n N ds)).bind outR else none
theorem start_st {N : List Str} {P : Pr T} {vs : List V} {ds : List PyData} {n : Nat} (r : RpAll K P.M vs ds) (hn : ds.length = n) : St K P P (L2.start N vs) (evOf n N.length ds) := by
  have hl := r.length
  refine ⟨Le.refl P, ?_, fun i x h => ?_, fun i j p d e ne h1 h2 h3 h4 => ?_, fun i d p h1 h2 => ?_, fun i j p ks ls ne h1 h2 h3 h4 => ?_, fun i ks p h1 h2 => ?_⟩
  · unfold L2.start evOf
    simp [hl, hn]
  · unfold evOf at h
    unfold L2.start
    by_cases hi : i < ds.length
    · rw [List.getElem?_append_left (by simpa using hi), List.getElem?_map, List.getElem?_eq_getElem hi] at h
      cases h
      rw [List.getElem?_append_left (by simp; omega), List.getElem?_map]
      have hv : i < vs.length := by omega
      obtain ⟨d, h1, h2⟩ := r.get (List.getElem?_eq_getElem hv)
      rw [List.getElem?_eq_getElem hi] at h1
      cases h1
      exact ⟨_, by rw [List.getElem?_eq_getElem hv]; rfl, .val h2⟩
    · rw [List.getElem?_append_right (by simpa using hi)] at h
      have : x = .no := by
        have := List.getElem?_eq_some_iff.mp h
        obtain ⟨h1, h2⟩ := this
        rw [← h2, List.getElem_replicate]
      subst this
      have hr := (List.getElem?_eq_some_iff.mp h).1
      simp at hr
      rw [List.getElem?_append_right (by simp; omega)]
      exact ⟨none, by rw [List.getElem?_eq_getElem (by simp; omega), List.getElem_replicate], .no⟩
  · unfold evOf at h1
    have hm := List.mem_of_getElem? h1
    rcases List.mem_append.mp hm with z | z
    · obtain ⟨_, _, z⟩ := List.mem_map.mp z
      cases z
    · cases List.eq_of_mem_replicate z
  · unfold evOf at h1
    have hm := List.mem_of_getElem? h1
    rcases List.mem_append.mp hm with z | z
    · obtain ⟨_, _, z⟩ := List.mem_map.mp z
      cases z
    · cases List.eq_of_mem_replicate z
  · unfold evOf at h1
    have hm := List.mem_of_getElem? h1
    rcases List.mem_append.mp hm with z | z
    · obtain ⟨_, _, z⟩ := List.mem_map.mp z
      cases z
    · cases List.eq_of_mem_replicate z
  · unfold evOf at h1
    have hm := List.mem_of_getElem? h1
    rcases List.mem_append.mp hm with z | z
    · obtain ⟨_, _, z⟩ := List.mem_map.mp z
      cases z
    · cases List.eq_of_mem_replicate z
theorem spM_len {n N : Nat} {m : MS} {vs : List V} {H : Hp} {Q : VK} {E : XK} (h : spM K T (fnM n N m) vs H Q E) : vs.length = n := by
  obtain ⟨P, ds, d, _, r, h, _⟩ := h
  unfold fnM at h
  split at h
  · rw [r.length]
    assumption
  · cases h
theorem spM_in {R : ER} {N : List Str} {n : Nat} {m : MS} {vs : List V} {H : Hp} {Q : VK} {E : XK} (h : spM K T (fnM n N.length m) vs H Q E) : tSR K T R m { nx := fun _ H' => Q .non H', rt := Q } (L2.start N vs) H := by
  obtain ⟨P, ds, d, rfl, r, h, q⟩ := h
  unfold fnM at h
  split at h
  · rename_i hn
    obtain ⟨o, eo, h⟩ := bind_eq h
    refine ⟨P, P, _, o, rfl, start_st r hn, eo, ?_⟩
    unfold outR at h
    split at h
    · cases h
      exact fun v P' l r' => q v P' l r'
    · cases h
      intro p P' l r' lo
      obtain ⟨P'', e, l'', r''⟩ := own_put l r' lo
      show Q (.ref p) P'.H
      rw [← e]
      exact q _ P'' l'' r''
    · cases h
      exact fun P' σ s => q .non P' s.le .non
    · cases h
  · cases h
end PM
namespace PM
open PySem PySem.Spec PyProof.Rows L2 LB
variable {T : Tb} {K : PySem.W.Frag} {X : Cx} {e : Expr} {st : Stmt} {sts : List Stmt} {R : ER}
/-! ### own dicts with tuples of ints and texts as keys -/
def keyK : PyData → Option Key
  | .int i => some (.inl i)
  | .str x => some (.inr x)
  | _ => none
def keysK : List PyData → Option (List Key)
  | [] => some []
  | d :: ds => (keyK d).bind fun k => (keysK ds).map fun l => k :: l
def keyL : PyData → Option (List Key)
  | .tuple ds => keysK ds
  | _ => none
theorem keyK_eq {d : PyData} {k : Key} (h : keyK d = some k) : d = keyD k := by
  unfold keyK at h
  split at h
  · cases h
    rfl
  · cases h
    rfl
  · cases h
theorem keysK_eq : ∀ {ds : List PyData} {ks : List Key}, keysK ds = some ks → ds = ks.map keyD
  | [], _, h => by
    cases h
    rfl
  | d :: ds, _, h => by
    obtain ⟨k, hk, h⟩ := bind_eq h
    obtain ⟨l, hl, rfl⟩ := map_eq h
    rw [keyK_eq hk, keysK_eq hl]
    rfl
theorem keyK_of (k : Key) : keyK (keyD k) = some k := by cases k <;> rfl
theorem keysK_of : ∀ ks : List Key, keysK (ks.map keyD) = some ks
  | [] => rfl
  | k :: ks => by
    show (keyK (keyD k)).bind (fun k' => (keysK (ks.map keyD)).map fun l => k' :: l) = _
    rw [keyK_of, keysK_of ks]
    rfl
def getD (kvs : List (PyData × PyData)) (k : List Key) : Option PyData := (kvs.find? fun e => decide (keyL e.1 = some k)).map (·.2)
theorem each_app {α β : Type} {R : α → β → Prop} : ∀ {as cs : List α} {bs ds : List β}, PySem.W.EachIs R as bs → PySem.W.EachIs R cs ds → PySem.W.EachIs R (as ++ cs) (bs ++ ds)
  | _, _, _, _, .nil, t => t
  | _, _, _, _, .cons h r, t => .cons h (each_app r t)
theorem c_dnew (h : PE X e tDNewT) : PE X e (tF K T (mC (.dict []))) := pe_to h fun σ H Q ⟨P0, P, ρ, d, h1, s, h2, q⟩ => by
  subst h1
  cases h2
  exact fun p hp => q p (P.hid p (.dT []) hp) (le_hid P hp) (.dT (P.none hp) upd_same .nil) (loose_none hp)
theorem rpk_inv {M : Hp} : ∀ {ks : List Key} {xs : List V}, RpAll K M xs (ks.map keyD) → xs = ks.map kV
  | [], _, .nil => rfl
  | .inl n :: ks, _, .cons (.int _) t => by rw [List.map_cons, ← rpk_inv t]; rfl
  | .inr n :: ks, _, .cons (.str _) t => by rw [List.map_cons, ← rpk_inv t]; rfl
/-! ### l.index(x) -/
end PM
namespace PM
open PySem PySem.Spec PyProof.Rows L2 LB
/-! ### tables of the defs that make generators -/
def qOf (x : Str) : Str := x ++ ".<locals>." ++ "<genexpr>"
def tabsOf (K : PySem.W.Frag) (fs : List Str) : Tb := fs.map fun x => ((He.cT K (x, none)).2, qOf x)
theorem tab_mem {K : PySem.W.Frag} {fs : List Str} {x : Str} (h : x ∈ fs) : ((He.cT K (x, none)).2, qOf x) ∈ tabsOf K fs := List.mem_map.mpr ⟨x, h, rfl⟩
theorem nodup_map {α β : Type} {f : α → β} : ∀ {l : List α}, (l.map f).Nodup → ∀ {x y : α}, x ∈ l → y ∈ l → f x = f y → x = y
  | [], _, _, _, h, _, _ => (List.not_mem_nil h).elim
  | a :: l, nd, x, y, hx, hy, e => by
    rw [List.map_cons, List.nodup_cons] at nd
    rcases List.mem_cons.mp hx with h1 | h1
    · rcases List.mem_cons.mp hy with h2 | h2
      · rw [h1, h2]
      · exact absurd (List.mem_map.mpr ⟨y, h2, by rw [← e, h1]⟩) nd.1
    · rcases List.mem_cons.mp hy with h2 | h2
      · exact absurd (List.mem_map.mpr ⟨x, h1, by rw [e, h2]⟩) nd.1
      · exact nodup_map nd.2 h1 h2 e
theorem tab_uniq {K : PySem.W.Frag} {fs : List Str} {x : Str} (nd : (fs.map fun x => (He.cT K (x, none)).2).Nodup) (h : x ∈ fs) : ∀ p ∈ tabsOf K fs, p.1 = (He.cT K (x, none)).2 → p.2 = qOf x := fun p hp e => by
  obtain ⟨y, hy, rfl⟩ := List.mem_map.mp hp
  have := nodup_map nd hy h e
  subst this
  rfl
end PM
namespace PM
open PySem PySem.Spec PyProof.Rows L2 LB
/-- a dict is known from now on: it is read, never written -/
def tFrE (te : TE) : TE := fun σ H Q => te σ H fun v H1 => ∃ d u, v = .ref d ∧ H1 d = some u ∧ Mut (some u) ∧ ∀ od, Q v (upd H1 d (.frz od u))
theorem pe_frz {X : Cx} {e : Expr} {te : TE} (h : PE X e te) : PE X e (tFrE te) := by
  refine ⟨fun pins s σ H Q I hw => ?_⟩
  refine thn (h.run pins s σ H _ I hw) fun v s1 q => ?_
  obtain ⟨x, H1, I1, rx, d, u, rfl, hd, mu, q⟩ := q
  obtain ⟨od, I2⟩ := I1.lock hd mu
  exact ⟨_, _, I2, rx, q od⟩
theorem upd_upd {H : Hp} {p : Addr} {o o' : HO} : upd (upd H p o) p o' = upd H p o' := by
  funext b
  by_cases z : b = p
  · subst z
    rw [upd_same, upd_same]
  · rw [upd_ne z, upd_ne z, upd_ne z]
theorem c_dct {T : Tb} {K : PySem.W.Frag} {X : Cx} {e : Expr} (h : PE X e (tFrE tDNewK)) : PE X e (tD K T (mC (.dict []))) := pe_to h fun σ H Q ⟨P0, P, ρ, d, h1, s, h2, q⟩ => by
  subst h1
  cases h2
  refine fun p hp => ⟨p, .dK [], rfl, upd_same, trivial, fun od => ?_⟩
  rw [upd_upd]
  exact q _ (P.put p (.frz od (.dK [])) hp) (le_put P hp) (.dct upd_same rfl .nil)
end PM
namespace PM
open PySem PySem.Spec PyProof.Rows L2 LB
/-! ### reckoning with models -/
section
variable {a b : MS} {ρ ρ' : Ev} {o : Option Out} {d x y : PyData} {i : Nat} {e f : ME} {t : MT}
theorem x_seq (h : a ρ = some (.nx ρ')) (h2 : b ρ' = o) : mSeq a b ρ = o := by
  unfold mSeq
  rw [h]
  exact h2
theorem x_ret (h : a ρ = some (.rt d)) : mSeq a b ρ = some (.rt d) := by
  unfold mSeq
  rw [h]
  rfl
theorem x_set (h : e ρ = some d) : mSet i e ρ = some (.nx (ρ.set i (.val d))) := by
  unfold mSet
  rw [h]
  rfl
theorem x_setO (h : e ρ = some d) : mSetO i e ρ = some (.nx (ρ.set i (.own d))) := by
  unfold mSetO
  rw [h]
  rfl
theorem x_rt (h : e ρ = some d) : mRet e ρ = some (.rt d) := by
  unfold mRet
  rw [h]
  rfl
theorem x_ifT (h : t ρ = some true) (h2 : a ρ = o) : mIfS t a b ρ = o := by
  unfold mIfS
  rw [h]
  exact h2
theorem x_ifF (h : t ρ = some false) (h2 : b ρ = o) : mIfS t a b ρ = o := by
  unfold mIfS
  rw [h]
  exact h2
theorem x_op {g : PyData → PyData → Option PyData} (h1 : e ρ = some x) (h2 : f ρ = some y) (h : g x y = some d) : mOp g e f ρ = some d := by
  unfold mOp
  rw [h1, h2]
  exact h
theorem x_app {ds : List PyData} (h : e ρ = some d) (ho : ρ[i]? = some (.own (.list ds))) (hl : ds.length < 100000) : mApp i e ρ = some (.nx (ρ.set i (.own (.list (ds ++ [d]))))) := by
  unfold mApp
  rw [h, ho]
  show (if ds.length < 100000 then _ else none) = _
  rw [if_pos hl]
theorem x_cb {g : List PyData → Option PyData} {as : MA} {ds : List PyData} (h : as ρ = some ds) (h2 : g ds = some d) : mCb g as ρ = some d := by
  unfold mCb
  rw [h]
  exact h2
theorem x_cons {as : MA} {ds : List PyData} (h : e ρ = some d) (h2 : as ρ = some ds) : aCons e as ρ = some (d :: ds) := by
  unfold aCons
  rw [h, h2]
  rfl
theorem x_tup {as : MA} {ds : List PyData} (h : as ρ = some ds) (hl : ds.length ≤ 100000) : mTup as ρ = some (.tuple ds) := by
  unfold mTup oFew
  rw [h]
  show (if ds.length ≤ 100000 then some ds else none).map _ = _
  rw [if_pos hl]
  rfl
theorem x_lst {as : MA} {ds : List PyData} (h : as ρ = some ds) (hl : ds.length ≤ 100000) : mLst as ρ = some (.list ds) := by
  unfold mLst oFew
  rw [h]
  show (if ds.length ≤ 100000 then some ds else none).map _ = _
  rw [if_pos hl]
  rfl
theorem x_qv {c : Bool} (h : e ρ = some (.bool c)) : qV e ρ = some c := by
  unfold qV
  rw [h]
  rfl
theorem x_not {c : Bool} (h : t ρ = some c) : qNot t ρ = some (!c) := by
  unfold qNot
  rw [h]
  rfl
theorem x_andT {u : MT} {c : Bool} (h : t ρ = some true) (h2 : u ρ = some c) : qAnd t u ρ = some c := by
  unfold qAnd
  rw [h]
  exact h2
theorem x_andF {u : MT} (h : t ρ = some false) : qAnd t u ρ = some false := by
  unfold qAnd
  rw [h]
  rfl
theorem x_orT {u : MT} (h : t ρ = some true) : qOr t u ρ = some true := by
  unfold qOr
  rw [h]
  rfl
theorem x_orF {u : MT} {c : Bool} (h : t ρ = some false) (h2 : u ρ = some c) : qOr t u ρ = some c := by
  unfold qOr
  rw [h]
  exact h2
theorem x_mandT (h : e ρ = some (.bool true)) (h2 : f ρ = some d) : mAnd e f ρ = some d := by
  unfold mAnd
  rw [h]
  exact h2
theorem x_mandF (h : e ρ = some (.bool false)) : mAnd e f ρ = some (.bool false) := by
  unfold mAnd
  rw [h]
  rfl
theorem x_fn {n N : Nat} {m : MS} {ds : List PyData} {q : Out} (hl : ds.length = n) (h : m (evOf n N ds) = some q) (h2 : outR q = some d) : fnM n N m ds = some d := by
  unfold fnM
  rw [if_pos hl, h]
  exact h2
end
theorem mul_ii {i j : Int} (h1 : i.natAbs < 2 ^ 200) (h2 : j.natAbs < 2 ^ 200) : oMul (.int i) (.int j) = some (.int (i * j)) := by
  show (if i.natAbs < 2 ^ 200 ∧ j.natAbs < 2 ^ 200 then some (PyData.int (i * j)) else none) = _
  rw [if_pos ⟨h1, h2⟩]
theorem add_ss {x y : Str} (h : x.length + y.length ≤ 10000) : oAdd (.str x) (.str y) = some (.str (x ++ y)) := by
  show (if x.length + y.length ≤ 10000 then some (PyData.str (x ++ y)) else none) = _
  rw [if_pos h]
theorem add_ll {x y : List PyData} (h : x.length + y.length ≤ 100000) : oAdd (.list x) (.list y) = some (.list (x ++ y)) := by
  show (if x.length + y.length ≤ 100000 then some (PyData.list (x ++ y)) else none) = _
  rw [if_pos h]
theorem add_tt {x y : List PyData} (h : x.length + y.length ≤ 100000) : oAdd (.tuple x) (.tuple y) = some (.tuple (x ++ y)) := by
  show (if x.length + y.length ≤ 100000 then some (PyData.tuple (x ++ y)) else none) = _
  rw [if_pos h]
theorem mod_ii {i j : Int} (h : j ≠ 0) : oMod (.int i) (.int j) = some (.int (i.fmod j)) := by
  show (if decide (j ≠ 0) = true then some (PyData.int (i.fmod j)) else none) = _
  rw [if_pos (decide_eq_true h)]
theorem ix_l {l : List PyData} {i : Int} {d : PyData} (h : atI l i = some d) : oIx (.list l) (.int i) = some d := h
theorem ix_t {l : List PyData} {i : Int} {d : PyData} (h : atI l i = some d) : oIx (.tuple l) (.int i) = some d := h
theorem ix_s {z : Str} {i : Int} {c : Nat} (hz : z.length ≤ 1000) (h : atI z.cps.toList i = some c) : oIx (.str z) (.int i) = some (.str ⟨#[c]⟩) := by
  show (if z.length ≤ 1000 then (atI z.cps.toList i).map fun c => PyData.str ⟨#[c]⟩ else none) = _
  rw [if_pos hz, h] <;> rfl
theorem rng_n {n : Nat} (h : n < 100000) : oRng [.int (n : Int)] = some (rngD n) := by
  show (if -100000 ≤ (n : Int) ∧ (n : Int) < 100000 then some (rngD (n : Int).toNat) else none) = _
  rw [if_pos ⟨by omega, by omega⟩, Int.toNat_natCast]
theorem x_rng {as : MA} {ρ : Ev} {n : Nat} (h : as ρ = some [.int (n : Int)]) (hn : n < 100000) : iR as ρ = some (rngD n) := by
  unfold iR
  rw [h, Option.bind_some]
  exact rng_n hn
theorem eq_ii (i j : Int) : oEq (.int i) (.int j) = some (.bool (decide (i = j))) := by
  show (if SeqAt.shaped (.int i) = true ∧ SeqAt.shaped (.int j) = true then some (PyData.bool (i == j)) else none) = _
  rw [if_pos ⟨rfl, rfl⟩]
  congr 2
theorem ne_ii (i j : Int) : oNe (.int i) (.int j) = some (.bool (!decide (i = j))) := by
  show (if SeqAt.shaped (.int i) = true ∧ SeqAt.shaped (.int j) = true then some (PyData.bool (!(i == j))) else none) = _
  rw [if_pos ⟨rfl, rfl⟩]
  congr 2
theorem x_par {i j : Nat} {as : MA} {ρ : Ev} {x y : PyData} (h : as ρ = some [x, y]) : mPar i j as ρ = some (.nx ((ρ.set i (.val x)).set j (.val y))) := by
  unfold mPar
  rw [h]
  rfl
/-- a loop by its invariant -/
theorem x_go {gm : MG} {mb : MS} (I : Nat → Ev → Prop) : ∀ (ds : List PyData) (k : Nat) (ρ : Ev), I k ρ → (∀ i d ρ, ds[i]? = some d → I (k + i) ρ → ∃ ρ1 ρ2, gm d ρ = some ρ1 ∧ mb ρ1 = some (.nx ρ2) ∧ I (k + i + 1) ρ2) → ∃ ρ', forGo gm mb ds ρ = some (.nx ρ') ∧ I (k + ds.length) ρ'
  | [], k, ρ, h, _ => ⟨ρ, rfl, h⟩
  | d :: ds, k, ρ, h, hs => by
    obtain ⟨ρ1, ρ2, h1, h2, h3⟩ := hs 0 d ρ rfl h
    obtain ⟨ρ', h4, h5⟩ := x_go I ds (k + 1) ρ2 h3 fun i d' ρ hd hi => by
      have e : k + 1 + i = k + (i + 1) := by omega
      rw [e] at hi ⊢
      exact hs (i + 1) d' ρ hd hi
    refine ⟨ρ', ?_, ?_⟩
    · show (gm d ρ).bind _ = _
      rw [h1]
      show (mb ρ1).bind _ = _
      rw [h2]
      exact h4
    · have e : k + 1 + ds.length = k + (ds.length + 1) := by omega
      rw [e] at h5
      exact h5
theorem x_for {mi : MA} {gm : MG} {mb : MS} {ds : List PyData} {ρ : Ev} (I : Nat → Ev → Prop) (hi : mi ρ = some ds) (h0 : I 0 ρ) (hs : ∀ i d ρ, ds[i]? = some d → I i ρ → ∃ ρ1 ρ2, gm d ρ = some ρ1 ∧ mb ρ1 = some (.nx ρ2) ∧ I (i + 1) ρ2) : ∃ ρ', mFor mi gm mb ρ = some (.nx ρ') ∧ I ds.length ρ' := by
  obtain ⟨ρ', h1, h2⟩ := x_go I ds 0 ρ h0 fun i d ρ hd h => by
    rw [Nat.zero_add] at h ⊢
    exact hs i d ρ hd h
  refine ⟨ρ', ?_, by rw [Nat.zero_add] at h2; exact h2⟩
  unfold mFor
  rw [hi]
  exact h1
/-- m runs, and what comes of it keeps to Post -/
def Run (m : MS) (ρ : Ev) (Post : Out → Prop) : Prop := ∃ q, m ρ = some q ∧ Post q
section
variable {a b rest : MS} {ρ ρ' : Ev} {Post : Out → Prop} {e : ME} {t : MT} {d : PyData} {c : Bool}
theorem r_seq (h : a ρ = some (.nx ρ')) (h2 : Run b ρ' Post) : Run (mSeq a b) ρ Post := by
  obtain ⟨q, h3, h4⟩ := h2
  exact ⟨q, x_seq h h3, h4⟩
theorem r_end (h : a ρ = some (.nx ρ')) (h2 : Post (.nx ρ')) : Run a ρ Post := ⟨_, h, h2⟩
theorem r_ret (h : e ρ = some d) (h2 : Post (.rt d)) : Run (mRet e) ρ Post := ⟨_, x_rt h, h2⟩
theorem r_if (h : t ρ = some c) (h1 : c = true → Run a ρ Post) (h2 : c = false → Run b ρ Post) : Run (mIfS t a b) ρ Post := by
  cases c with
  | true =>
    obtain ⟨q, h3, h4⟩ := h1 rfl
    exact ⟨q, x_ifT h h3, h4⟩
  | false =>
    obtain ⟨q, h3, h4⟩ := h2 rfl
    exact ⟨q, x_ifF h h3, h4⟩
/-- goes on with some environment -/
def Nx (Mid : Ev → Prop) : Out → Prop
  | .nx ρ => Mid ρ
  | _ => False
theorem r_mid (Mid : Ev → Prop) (h : Run a ρ (Nx Mid)) (h2 : ∀ ρ', Mid ρ' → Run b ρ' Post) : Run (mSeq a b) ρ Post := by
  obtain ⟨q, h3, h4⟩ := h
  cases q with
  | nx ρ' => exact r_seq h3 (h2 ρ' h4)
  | rt d => exact h4.elim
  | rf d => exact h4.elim
  | bk d => exact h4.elim
  | ct d => exact h4.elim
  | er d ρ2 => exact h4.elim
theorem r_for {mi : MA} {gm : MG} {mb : MS} {ds : List PyData} (I : Nat → Ev → Prop) (hi : mi ρ = some ds) (h0 : I 0 ρ) (hs : ∀ i d ρ, ds[i]? = some d → I i ρ → ∃ ρ1, gm d ρ = some ρ1 ∧ Run mb ρ1 (Nx (I (i + 1)))) (he : ∀ ρ', I ds.length ρ' → Run rest ρ' Post) : Run (mSeq (mFor mi gm mb) rest) ρ Post := by
  obtain ⟨ρ', h1, h2⟩ := x_for I hi h0 fun i d ρ hd h => by
    obtain ⟨ρ1, h1, q, h2, h3⟩ := hs i d ρ hd h
    cases q with
    | nx ρ2 => exact ⟨ρ1, ρ2, h1, h2, h3⟩
    | rt d => exact h3.elim
    | rf d => exact h3.elim
    | bk d => exact h3.elim
    | ct d => exact h3.elim
    | er d ρ2 => exact h3.elim
  exact r_seq h1 (he ρ' h2)
theorem r_fn {n N : Nat} {m : MS} {ds : List PyData} {Pd : PyData → Prop} (hl : ds.length = n) (h : Run m (evOf n N ds) fun q => ∃ d, outR q = some d ∧ Pd d) : ∃ d, fnM n N m ds = some d ∧ Pd d := by
  obtain ⟨q, h1, d, h2, h3⟩ := h
  exact ⟨d, x_fn hl h1 h2, h3⟩
theorem r_eq {n N : Nat} {m : MS} {ds : List PyData} (hl : ds.length = n) (h : Run m (evOf n N ds) fun q => outR q = some d) : fnM n N m ds = some d := by
  obtain ⟨q, h1, h2⟩ := h
  exact x_fn hl h1 h2
theorem rng_at {n i : Nat} (h : (rngD n)[i]? = some d) : i < n ∧ d = .int (i : Int) := by
  have hi := (List.getElem?_eq_some_iff.mp h).1
  rw [rngD_length] at hi
  unfold rngD at h
  rw [List.getElem?_map, List.getElem?_range hi] at h
  exact ⟨hi, (Option.some.inj h).symm⟩
end
/-- a comprehension whose every turn is told -/
theorem x_lcGo {gm : MG} {mt : MT} {me : ME} {ρ : Ev} (p : PyData → Bool) (F : PyData → PyData) : ∀ (ds : List PyData), (∀ d ∈ ds, ∃ ρ1, gm d ρ = some ρ1 ∧ mt ρ1 = some (p d) ∧ (p d = true → me ρ1 = some (F d))) → lcGo gm mt me ρ ds = some ((ds.filter p).map F)
  | [], _ => rfl
  | d :: ds, h => by
    obtain ⟨ρ1, h1, h2, h3⟩ := h d List.mem_cons_self
    have ih := x_lcGo p F ds fun x hx => h x (List.mem_cons_of_mem _ hx)
    show (gm d ρ).bind _ = _
    rw [h1]
    show (mt ρ1).bind _ = _
    rw [h2]
    cases hp : p d with
    | true =>
      show (me ρ1).bind _ = _
      rw [h3 hp]
      show (lcGo gm mt me ρ ds).map _ = _
      rw [ih, List.filter_cons_of_pos hp]
      rfl
    | false =>
      show lcGo gm mt me ρ ds = _
      rw [ih, List.filter_cons_of_neg (by rw [hp]; decide)]
theorem x_few {ds : List PyData} (h : ds.length ≤ 100000) : oFew ds = some ds := if_pos h
theorem x_lc {mi : MA} {vs : List Nat} {gm : MG} {mt : MT} {me : ME} {ρ : Ev} {ds es : List PyData} (hi : mi ρ = some ds) (hl : ds.length ≤ 100000) (h : lcGo gm mt me (wipeM ρ vs) ds = some es) : mLc mi vs gm mt me ρ = some (.list es) := by
  unfold mLc
  rw [hi]
  show (oFew ds).bind _ = _
  rw [x_few hl]
  show (lcGo gm mt me (wipeM ρ vs) ds).map _ = _
  rw [h]
  rfl
theorem x_tg {mi : MA} {vs : List Nat} {gm : MG} {mt : MT} {me : ME} {ρ : Ev} {ds es : List PyData} (hi : mi ρ = some ds) (hl : ds.length ≤ 100000) (h : lcGo gm mt me (wipeM ρ vs) ds = some es) : mTg mi vs gm mt me ρ = some (.tuple es) := by
  unfold mTg
  rw [hi]
  show (oFew ds).bind _ = _
  rw [x_few hl]
  show (lcGo gm mt me (wipeM ρ vs) ds).map _ = _
  rw [h]
  rfl
theorem x_agGo {gm : MG} {mt : MT} {me : ME} {ρ : Ev} (p : PyData → Bool) : ∀ (ds : List PyData), (∀ d ∈ ds, ∃ ρ1, gm d ρ = some ρ1 ∧ mt ρ1 = some true ∧ me ρ1 = some (.bool (p d))) → agGo gm mt me ρ ds = some (ds.all p)
  | [], _ => rfl
  | d :: ds, h => by
    obtain ⟨ρ1, h1, h2, h3⟩ := h d List.mem_cons_self
    have ih := x_agGo p ds fun x hx => h x (List.mem_cons_of_mem _ hx)
    show (gm d ρ).bind _ = _
    rw [h1]
    show (mt ρ1).bind _ = _
    rw [h2]
    show (me ρ1).bind _ = _
    rw [h3, List.all_cons]
    cases hp : p d with
    | true =>
      show agGo gm mt me ρ ds = _
      rw [ih, Bool.true_and]
    | false => rfl
theorem x_ag {mi : MA} {vs : List Nat} {gm : MG} {mt : MT} {me : ME} {ρ : Ev} {ds : List PyData} {c : Bool} (hi : mi ρ = some ds) (h : agGo gm mt me (wipeM ρ vs) ds = some c) : mAg mi vs gm mt me ρ = some (.bool c) := by
  unfold mAg
  rw [hi]
  show (agGo gm mt me (wipeM ρ vs) ds).map _ = _
  rw [h]
  rfl
theorem x_sorted {ds : List PyData} (h : Srt ds) : oSorted [.list ds] = some (.list (sortD ds)) := by
  show (open Classical in if Srt ds then some (PyData.list (sortD ds)) else none) = _
  rw [if_pos h]
theorem cut_mem {α : Type} {l : List α} {lo hi : Option Int} {x : α} (h : x ∈ LB.cutD l lo hi) : x ∈ l := List.mem_of_mem_drop (List.mem_of_mem_take h)
theorem cut_len {α : Type} (l : List α) (lo hi : Option Int) : (LB.cutD l lo hi).length ≤ l.length := by
  unfold LB.cutD
  rw [List.length_take, List.length_drop]
  omega
/-! sorted lists of names -/
end PM
namespace PM
open PySem PySem.Spec PyProof.Rows L2 LB
/-! ### cuts, among data -/
def nmD : PyData → PyData
  | .tuple (x :: _) => x
  | _ => .none
theorem nmD_all {top : Int} : ∀ {ns : List Str} {ps : List PyData}, PySem.W.EachIs (PlaceOk top) ns ps → ps.map nmD = ns.map .str
  | _, _, .nil => rfl
  | _, _, .cons ⟨a, b, c, e, h, _⟩ t => by
    subst h
    rw [List.map_cons, List.map_cons, nmD_all t]
    rfl
theorem nmD_at {top : Int} : ∀ {ns : List Str} {ps : List PyData}, PySem.W.EachIs (PlaceOk top) ns ps → ∀ d ∈ ps, ∃ (x : Str) (a b c e : Int), x ∈ ns ∧ d = .tuple [.str x, .int a, .int b, .int c, .int e] ∧ (0 ≤ a ∧ a < 100) ∧ (0 ≤ b ∧ b < 100) ∧ (0 ≤ e ∧ e < 100) ∧ e * top ≤ c ∧ c ≤ 999
  | _, _, .nil, d, h => (List.not_mem_nil h).elim
  | _, _, .cons ⟨a, b, c, e, h, h1⟩ t, d, hd => by
    rcases List.mem_cons.mp hd with z | hd
    · exact ⟨_, a, b, c, e, List.mem_cons_self, z.trans h, h1⟩
    · obtain ⟨x, a, b, c, e, hx, h⟩ := nmD_at t d hd
      exact ⟨x, a, b, c, e, List.mem_cons_of_mem _ hx, h⟩
def riseB : List Str → Bool
  | a :: b :: r => decide (a.cps.toList < b.cps.toList) && riseB (b :: r)
  | _ => true
def ltD : PyData → Bool
  | .tuple [.str a, .str b] => decide (a.cps.toList < b.cps.toList)
  | _ => false
theorem rise_zip : ∀ xs : List Str, (zipD (xs.map .str) ((xs.map PyData.str).drop 1)).all ltD = riseB xs
  | [] => rfl
  | [_] => rfl
  | a :: b :: r => by
    have ih := rise_zip (b :: r)
    unfold riseB
    rw [← ih]
    rfl
theorem cut_tail (l : List PyData) : LB.cutD l (some 1) none = l.drop 1 := by
  unfold LB.cutD
  have e : HT.sIx l.length 0 (some 1) = min 1 l.length := HT.sIx_nat l.length 0 1
  rw [e, show HT.sIx l.length l.length none = l.length from rfl]
  cases l with
  | nil => rfl
  | cons a l =>
    rw [show min 1 (a :: l).length = 1 by simp]
    simp
theorem zip_strs {xs : List Str} {d : PyData} (h : d ∈ zipD (xs.map .str) ((xs.map PyData.str).drop 1)) : ∃ a b : Str, d = .tuple [.str a, .str b] := by
  unfold zipD at h
  obtain ⟨⟨p, q⟩, hp, rfl⟩ := List.mem_map.mp h
  obtain ⟨a, _, rfl⟩ := List.mem_map.mp (List.of_mem_zip hp).1
  obtain ⟨b, _, rfl⟩ := List.mem_map.mp (List.mem_of_mem_drop (List.of_mem_zip hp).2)
  exact ⟨a, b, rfl⟩
/-- a text that is one of ns -/
def inN (ns : List Str) : PyData → Bool
  | .str x => decide (x ∈ ns)
  | _ => false
def txs : List PyData → List Str
  | .str x :: r => x :: txs r
  | _ :: r => txs r
  | [] => []
theorem strs_all {ns : List Str} : ∀ {es : List PyData}, es.all (inN ns) = true → es = (txs es).map .str ∧ ∀ x ∈ txs es, x ∈ ns
  | [], _ => ⟨rfl, fun x h => (List.not_mem_nil h).elim⟩
  | e :: es, h => by
    rw [List.all_cons, Bool.and_eq_true] at h
    obtain ⟨h1, h2⟩ := strs_all h.2
    cases e with
    | str x =>
      refine ⟨?_, fun y hy => ?_⟩
      · show _ = PyData.str x :: (txs es).map .str
        rw [← h1]
      · rcases List.mem_cons.mp (show y ∈ x :: txs es from hy) with rfl | hy
        · exact of_decide_eq_true h.1
        · exact h2 y hy
    | _ => exact absurd h.1 (by simp [inN])
def cutB (ns : List Str) : PyData → Bool
  | .tuple es => es.all (inN ns) && riseB (txs es)
  | _ => false
theorem eqv_str (a b : Str) : PyData.eqv (.str a) (.str b) = (a == b) := by
  first
    | rfl
    | (unfold PyData.eqv; rfl)
theorem any_str {ns : List Str} {x : Str} : ((ns.map PyData.str).any fun z => PyData.eqv z (.str x)) = decide (x ∈ ns) := by
  induction ns with
  | nil => simp
  | cons a ns ih =>
    rw [List.map_cons, List.any_cons, ih, eqv_str]
    by_cases z : a = x
    · subst z
      rw [beq_self_eq_true, Bool.true_or, decide_eq_true List.mem_cons_self]
    · rw [beq_eq_false_iff_ne.mpr z, Bool.false_or]
      exact decide_eq_decide.mpr ⟨List.mem_cons_of_mem _, fun h => (List.mem_cons.mp h).resolve_left fun w => z w.symm⟩
theorem fl_strs (ns : List Str) : (ns.map PyData.str).all flD = true := by
  rw [List.all_eq_true]
  intro d hd
  obtain ⟨x, _, rfl⟩ := List.mem_map.mp hd
  rfl
theorem in_strs {ns : List Str} {x : Str} {c : PyData} (hc : itemsD c = some (ns.map .str)) : oIn (.str x) c = some (.bool (decide (x ∈ ns))) := by
  unfold oIn
  rw [hc]
  show (if flD (.str x) = true ∧ (ns.map PyData.str).all flD = true then _ else none) = _
  rw [if_pos ⟨rfl, fl_strs ns⟩, any_str]
theorem nin_strs {ns : List Str} {x : Str} {c : PyData} (hc : itemsD c = some (ns.map .str)) : oNin (.str x) c = some (.bool (!decide (x ∈ ns))) := by
  unfold oNin
  rw [hc]
  show (if flD (.str x) = true ∧ (ns.map PyData.str).all flD = true then _ else none) = _
  rw [if_pos ⟨rfl, fl_strs ns⟩, any_str]
/-! all cuts -/
def tupS (xs : List Str) : PyData := .tuple (xs.map .str)
def cutsF (ns : List Str) : List (List Str) := ns.foldl (fun C n => C ++ C.map fun c => c ++ [n]) [[]]
theorem cutsF_snoc (l : List Str) (n : Str) : cutsF (l ++ [n]) = cutsF l ++ (cutsF l).map fun c => c ++ [n] := by
  unfold cutsF
  rw [List.foldl_append]
  rfl
theorem snoc_ind {α : Type} {P : List α → Prop} (h0 : P []) (hs : ∀ l a, P l → P (l ++ [a])) (l : List α) : P l := by
  have : ∀ r : List α, P r.reverse := fun r => by
    induction r with
    | nil => exact h0
    | cons a r ih =>
      rw [List.reverse_cons]
      exact hs _ _ ih
  have h := this l.reverse
  rw [List.reverse_reverse] at h
  exact h
theorem cutsF_len (ns : List Str) : (cutsF ns).length = 2 ^ ns.length := by
  refine snoc_ind (P := fun l => (cutsF l).length = 2 ^ l.length) rfl (fun l a ih => ?_) ns
  rw [cutsF_snoc, List.length_append, List.length_map, ih, List.length_append]
  show _ = 2 ^ (l.length + 1)
  rw [Nat.pow_succ]
  omega
theorem cutsF_head (ns : List Str) : ∃ r, cutsF ns = [] :: r := by
  refine snoc_ind (P := fun l => ∃ r, cutsF l = [] :: r) ⟨[], rfl⟩ (fun l a ih => ?_) ns
  obtain ⟨r, e⟩ := ih
  rw [cutsF_snoc, e]
  exact ⟨_, rfl⟩
theorem alike_strs : ∀ xs ys : List Str, PySem.W.alikeAll (xs.map .str) (ys.map .str) = true
  | [], _ => by
    rw [List.map_nil]
    unfold PySem.W.alikeAll
    rfl
  | x :: xs, [] => by
    rw [List.map_cons, List.map_nil]
    unfold PySem.W.alikeAll
    rfl
  | x :: xs, y :: ys => by
    rw [List.map_cons, List.map_cons]
    unfold PySem.W.alikeAll
    rw [alike_strs xs ys, Bool.and_true]
    unfold PySem.W.alike
    rfl
theorem depth_strs : ∀ xs : List Str, PyData.depthAll (xs.map .str) = 0
  | [] => by
    rw [List.map_nil]
    unfold PyData.depthAll
    rfl
  | x :: xs => by
    rw [List.map_cons]
    unfold PyData.depthAll
    rw [depth_strs xs]
    unfold PyData.depth
    rfl
theorem srt_cuts {ns : List Str} (h : ns.length ≤ 8) : Srt ((cutsF ns).map tupS) := by
  refine ⟨fun d hd d' hd' => ?_, .inr ?_, fun d hd => ?_, ?_⟩
  · obtain ⟨x, _, rfl⟩ := List.mem_map.mp hd
    obtain ⟨y, _, rfl⟩ := List.mem_map.mp hd'
    unfold tupS PySem.W.alike
    exact alike_strs x y
  · obtain ⟨r, e⟩ := cutsF_head ns
    refine ⟨r.map tupS, by rw [e]; rfl, fun d hd => ?_⟩
    obtain ⟨x, _, rfl⟩ := List.mem_map.mp hd
    exact ⟨_, rfl⟩
  · obtain ⟨x, _, rfl⟩ := List.mem_map.mp hd
    unfold tupS PyData.depth
    rw [depth_strs]
    omega
  · rw [List.length_map, cutsF_len]
    have : 2 ^ ns.length ≤ 2 ^ 8 := Nat.pow_le_pow_right (by decide) h
    omega
end PM
namespace PM
open PySem PySem.Spec PyProof.Rows L2 LB
/-- where a law begins -/
theorem start_pr {T : Tb} {K : PySem.W.Frag} {H : Hp} {a : Addr} {xs : List V} (t : LamX.Tabs T H) (h : SqL K H a xs) : ∃ P : Pr T, P.H = H ∧ SqL K P.M a xs := by
  rcases h with h | h
  · have hn : ∀ ps, H a ≠ some (.tbl ps) := fun ps z => by
      rcases h with h | ⟨o, h⟩
      · rw [z] at h
        cases h
      · rw [z] at h
        cases h
    refine ⟨⟨fun b => if b = a then H a else none, H, fun b u e _ => ?_, t, fun b ps z => ?_⟩, rfl, .inl ?_⟩
    · have e : (if b = a then H a else none) = some u := e
      by_cases q : b = a
      · rw [if_pos q] at e
        rw [q]
        exact e
      · rw [if_neg q] at e
        cases e
    · have z : (if b = a then H a else none) = some (.tbl ps) := z
      by_cases q : b = a
      · rw [if_pos q] at z
        exact hn ps z
      · rw [if_neg q] at z
        cases z
    · rcases h with h | ⟨o, h⟩
      · exact .inl (by show (if a = a then H a else none) = _; rw [if_pos rfl]; exact h)
      · exact .inr ⟨o, by show (if a = a then H a else none) = _; rw [if_pos rfl]; exact h⟩
  · exact ⟨⟨fun _ => none, H, fun b u e _ => (nomatch e), t, fun b ps z => (nomatch z)⟩, rfl, .inr h⟩
end PM
namespace PM
open PySem PySem.Spec PyProof.Rows L2 LB
variable {T : Tb} {K : PySem.W.Frag} {X : Cx} {e : Expr} {st : Stmt} {sts : List Stmt} {R : ER}
/-! ### what is never reached -/
def mNo : MS := fun _ => none
theorem s_no : PS X st (tSR K T R mNo) := ⟨fun _ _ _ _ _ _ ⟨_, _, _, _, _, _, h, _⟩ => nomatch h⟩
/-! ### x op= y, of ints -/
def oIadd := oI (fun _ _ => true) fun i j => .int (i + j)
theorem od_iadd : OpD K T (ipI fun i j => i + j) oIadd := od_I0 fun _ _ _ => .int _
theorem od_isub : OpD K T (ipI fun i j => i - j) oSub := od_I0 fun _ _ _ => .int _
def mAug (i : Nat) (f : PyData → PyData → Option PyData) (a : ME) : MS := fun ρ => match ρ[i]? with
  | some (.val x) => (a ρ).bind fun y => (f x y).map fun z => .nx (ρ.set i (.val z))
  | _ => none
theorem s_aug {i : Nat} {r : R2} {f : PyData → PyData → Option PyData} {a : ME} (hD : OpD K T r f) (h : PS X st (tAug i (tW K T a) r)) : PS X st (tSR K T R (mAug i f a)) := ps_to h fun D σ H ⟨P0, P, ρ, o, h1, s, h2, q⟩ => by
  subst h1
  unfold mAug at h2
  split at h2
  · rename_i x hx
    obtain ⟨y, ey, h3⟩ := bind_eq h2
    obtain ⟨z, ez, rfl⟩ := map_eq h3
    obtain ⟨u, g1, g2⟩ := s.ok i _ hx
    cases g2 with
    | @val v _ rv => exact ⟨v, g1, P0, P, ρ, y, rfl, s, ey, fun w P1 l1 r1 => hD P1 v w x y z (.inl (rv.ext l1.m)) r1 ez _ fun u P2 l2 r2 => q P2 _ ((s.up (l1.trans l2)).set r2 i)⟩
  · cases h2
/-! ### while -/
def whGo (mc : MT) (mb : MS) : Nat → Ev → Option Out
  | 0, _ => none
  | n + 1, ρ => (mc ρ).bind fun c => if c = true then (mb ρ).bind fun o => match o with
    | .nx ρ2 => whGo mc mb n ρ2
    | .ct ρ2 => whGo mc mb n ρ2
    | .bk ρ2 => some (.nx ρ2)
    | .rt d => some (.rt d)
    | .rf d => some (.rf d)
    | .er c ρ2 => some (.er c ρ2) else some (.nx ρ)
open Classical in
noncomputable def mWhile (mc : MT) (mb : MS) : MS := fun ρ => if h : ∃ n o, whGo mc mb n ρ = some o then whGo mc mb h.choose ρ else none
theorem mWhile_n {mc : MT} {mb : MS} {ρ : Ev} {o : Out} (h : mWhile mc mb ρ = some o) : ∃ n, whGo mc mb n ρ = some o := by
  unfold mWhile at h
  split at h
  · exact ⟨_, h⟩
  · cases h
theorem s_while {mc : MT} {mb : MS} (h : PS X st (tWhile (tQ K T mc) (tSR K T R mb))) : PS X st (tSR K T R (mWhile mc mb)) := ps_to h fun D σ H ⟨P0, P, ρ, o, h1, s, h2, q⟩ => by
  subst h1
  obtain ⟨n, hn⟩ := mWhile_n h2
  refine ⟨fun m σ' H' => ∃ (Pc : Pr T) (ρ' : Ev), Pc.H = H' ∧ St K P0 Pc σ' ρ' ∧ whGo mc mb m ρ' = some o, ⟨n, P, ρ, rfl, s, hn⟩, ?_⟩
  rintro m σ' H' ⟨Pc, ρ', rfl, sc, eg⟩
  cases m with
  | zero => cases eg
  | succ m =>
    obtain ⟨c, ec, eg⟩ := bind_eq eg
    refine ⟨P0, Pc, ρ', c, rfl, sc, ec, fun P1 l1 => ?_⟩
    cases c with
    | false =>
      have : o = .nx ρ' := (Option.some.inj eg).symm
      subst this
      exact iteF (q P1 σ' (sc.up l1))
    | true =>
      rw [if_pos rfl] at eg
      obtain ⟨o1, eo, eg⟩ := bind_eq eg
      refine iteT ⟨fun σ2 H2 => ∃ (Pc : Pr T) (ρ' : Ev), Pc.H = H2 ∧ St K P0 Pc σ2 ρ' ∧ whGo mc mb m ρ' = some o, fun σ2 H2 hh => ⟨m, Nat.lt_succ_self m, hh⟩, P0, P1, ρ', o1, rfl, sc.up l1, eo, ?_⟩
      cases o1 with
      | nx ρ2 => exact fun P' σ3 s3 => ⟨P', ρ2, rfl, s3, eg⟩
      | ct ρ2 => exact fun P' σ3 s3 => ⟨P', ρ2, rfl, s3, eg⟩
      | bk ρ2 =>
        cases eg
        exact q
      | rt d =>
        cases eg
        exact q
      | rf d =>
        cases eg
        exact q
      | er c ρ2 =>
        cases eg
        exact q
theorem wh_more {mc : MT} {mb : MS} : ∀ (n : Nat) (ρ : Ev) (o : Out), whGo mc mb n ρ = some o → whGo mc mb (n + 1) ρ = some o
  | 0, _, _, h => nomatch h
  | n + 1, ρ, o, h => by
    obtain ⟨c, ec, h⟩ := bind_eq h
    show (mc ρ).bind _ = _
    rw [ec]
    cases c with
    | false => exact h
    | true =>
      rw [if_pos rfl] at h
      obtain ⟨o1, eo, h⟩ := bind_eq h
      show (mb ρ).bind _ = _
      rw [eo]
      cases o1 with
      | nx ρ2 => exact wh_more n ρ2 o h
      | ct ρ2 => exact wh_more n ρ2 o h
      | bk ρ2 => exact h
      | rt d => exact h
      | rf d => exact h
      | er c ρ2 => exact h
theorem wh_mono {mc : MT} {mb : MS} {n : Nat} {ρ : Ev} {o : Out} (h : whGo mc mb n ρ = some o) : ∀ k, whGo mc mb (n + k) ρ = some o
  | 0 => h
  | k + 1 => wh_more _ _ _ (wh_mono h k)
theorem x_while {mc : MT} {mb : MS} {n : Nat} {ρ : Ev} {o : Out} (h : whGo mc mb n ρ = some o) : mWhile mc mb ρ = some o := by
  have hh : ∃ n o, whGo mc mb n ρ = some o := ⟨n, o, h⟩
  unfold mWhile
  rw [dif_pos hh]
  obtain ⟨o', h'⟩ := hh.choose_spec
  have h1 := wh_mono h hh.choose
  have h2 := wh_mono h' n
  rw [Nat.add_comm] at h2
  rw [h1] at h2
  rw [h']
  exact h2.symm
theorem wh_stop {mc : MT} {mb : MS} {n : Nat} {ρ : Ev} (h : mc ρ = some false) : whGo mc mb (n + 1) ρ = some (.nx ρ) := by
  show (mc ρ).bind _ = _
  rw [h]
  rfl
theorem wh_step {mc : MT} {mb : MS} {n : Nat} {ρ ρ' : Ev} {o : Option Out} (h : mc ρ = some true) (h2 : mb ρ = some (.nx ρ')) (h3 : whGo mc mb n ρ' = o) : whGo mc mb (n + 1) ρ = o := by
  show (mc ρ).bind _ = _
  rw [h]
  show (mb ρ).bind _ = _
  rw [h2]
  exact h3
theorem x_aug {i : Nat} {f : PyData → PyData → Option PyData} {a : ME} {ρ : Ev} {x y z : PyData} (h : ρ[i]? = some (.val x)) (h2 : a ρ = some y) (h3 : f x y = some z) : mAug i f a ρ = some (.nx (ρ.set i (.val z))) := by
  unfold mAug
  rw [h]
  show (a ρ).bind _ = _
  rw [h2]
  show (f x y).map _ = _
  rw [h3]
  rfl
end PM
namespace PM
open PySem PySem.Spec PyProof.Rows L2 LB
section
variable {T : Tb} {K : PySem.W.Frag} {X : Cx} {e : Expr}
/-! ### list(range(n)), l[::-1] -/
end
end PM
namespace PM
open PySem PySem.Spec PyProof.Rows L2 LB
section
variable {T : Tb} {K : PySem.W.Frag} {X : Cx} {e : Expr} {st : Stmt} {sts : List Stmt} {R : ER}
/-! ### what may be refused -/
abbrev Rs := Except Str PyData
abbrev MX := Ev → Option Rs
def ResK (K : PySem.W.Frag) (R : ER) (P : Pr T) (σ : L2.St) (Q : VK) : Rs → Prop
  | .ok d => ∀ v (P' : Pr T), Le P P' → Rp K P'.M v d → Q v P'.H
  | .error c => ∀ (P' : Pr T), Le P P' → R c σ P'.H
def tDX (K : PySem.W.Frag) (T : Tb) (R : ER) (m : MX) : TE := fun σ H Q => ∃ (P0 P : Pr T) (ρ : Ev) (r : Rs), P.H = H ∧ St K P0 P σ ρ ∧ m ρ = some r ∧ ResK K R P σ Q r
/-- a def that may refuse -/
def spX (K : PySem.W.Frag) (T : Tb) (f : List PyData → Option Rs) : Sp := fun vs H Q E => ∃ (P : Pr T) (ds : List PyData) (r : Rs), P.H = H ∧ RpAll K P.M vs ds ∧ f ds = some r ∧ ResK K (fun c _ H => E (.ref (He.ga K c)) none H) P [] Q r
def erE (K : PySem.W.Frag) (E : XK) : ER := fun c _ H => E (.ref (He.ga K c)) none H
def mCbX (f : List PyData → Option Rs) (a : MA) : MX := fun ρ => (a ρ).bind f
theorem ResK.up {P P1 : Pr T} {σ : L2.St} {Q : VK} {r : Rs} (l : Le P P1) (h : ResK K R P σ Q r) : ResK K R P1 σ Q r := by
  cases r with
  | ok d => exact fun v P' l' r' => h v P' (l.trans l') r'
  | error c => exact fun P' l' => h P' (l.trans l')
def mDropX (a : MX) : MS := fun ρ => (a ρ).map fun r => match r with
  | .ok _ => .nx ρ
  | .error c => .er c ρ
theorem s_dropX {a : MX} (h : PS X st (tDrop (tDX K T R a))) : PS X st (tSR K T R (mDropX a)) := ps_to h fun D σ H ⟨P0, P, ρ, o, h1, s, h2, q⟩ => by
  obtain ⟨r, e1, rfl⟩ := map_eq h2
  refine ⟨P0, P, ρ, r, h1, s, e1, ?_⟩
  cases r with
  | ok d => exact fun v P' l r => q P' σ (s.up l)
  | error c => exact fun P' l => q P' σ (s.up l)
def mEr (c : Str) : MS := fun ρ => some (.er c ρ)
theorem s_er {E : XK} (c : Str) (h : PS X st (fun _ _ H => E (.ref (He.ga K c)) none H)) : PS X st (tSR K T (erE K E) (mEr c)) := ps_to h fun D σ H ⟨P0, P, ρ, o, h1, s, h2, q⟩ => by
  subst h1
  cases h2
  exact q P σ s
def outX : Out → Option Rs
  | .rt d => some (.ok d)
  | .rf (.list ds) => some (.ok (.list ds))
  | .nx _ => some (.ok .none)
  | .er c _ => some (.error c)
  | _ => none
def fnX (n N : Nat) (m : MS) : List PyData → Option Rs := fun ds => if ds.length = n then (m (evOf n N ds)).bind outX else none
theorem spX_len {n N : Nat} {m : MS} {vs : List V} {H : Hp} {Q : VK} {E : XK} (h : spX K T (fnX n N m) vs H Q E) : vs.length = n := by
  obtain ⟨P, ds, d, _, r, h, _⟩ := h
  unfold fnX at h
  split at h
  · rw [r.length]
    assumption
  · cases h
theorem spX_in {N : List Str} {n : Nat} {m : MS} {vs : List V} {H : Hp} {Q : VK} {E : XK} (h : spX K T (fnX n N.length m) vs H Q E) : tSR K T (erE K E) m { nx := fun _ H' => Q .non H', rt := Q } (L2.start N vs) H := by
  obtain ⟨P, ds, d, rfl, r, h, q⟩ := h
  unfold fnX at h
  split at h
  · rename_i hn
    obtain ⟨o, eo, h⟩ := bind_eq h
    refine ⟨P, P, _, o, rfl, start_st r hn, eo, ?_⟩
    unfold outX at h
    split at h
    · cases h
      exact fun v P' l r' => q v P' l r'
    · cases h
      intro p P' l r' lo
      obtain ⟨P'', e, l'', r''⟩ := own_put l r' lo
      show Q (.ref p) P'.H
      rw [← e]
      exact q _ P'' l'' r''
    · cases h
      exact fun P' σ s => q .non P' s.le .non
    · cases h
      exact fun P' σ s => q P' s.le
    · cases h
  · cases h
/-- x = f(..), where f does not refuse: as before -/
theorem x_mx {f : List PyData → Option Rs} {a : MA} {ρ : Ev} {ds : List PyData} {r : Rs} (h : a ρ = some ds) (h2 : f ds = some r) : mCbX f a ρ = some r := by
  unfold mCbX
  rw [h]
  exact h2
end
end PM
namespace PM
open PySem PySem.Spec PyProof.Rows L2 LB
section
variable {T : Tb} {K : PySem.W.Frag} {X : Cx}
/-! ### try: body, except C as e: a suite that gives one thing for each class -/
end
end PM
namespace PM
open PySem PySem.Spec PyProof.Rows L2 LB
def g1 (c0 : Str) (d0 : PyData) : Str → Option PyData := fun c => if c = c0 then some d0 else none
end PM
namespace PM
open PySem PySem.Spec PyProof.Rows L2 LB
section
variable {T : Tb} {K : PySem.W.Frag} {X : Cx} {st : Stmt} {R : ER}
theorem St.nw {P0 P : Pr T} {σ : L2.St} {ρ : Ev} (s : St K P0 P σ ρ) {p : Addr} (hp : P.H p = none) (i : Nat) : St K P0 (P.hid p (.lst []) hp) (σ.set i (some (.ref p))) (ρ.set i (.own (.list []))) := by
  refine (s.up (le_hid P hp)).setO (.lst (P.none hp) upd_same .nil) (loose_back s.le.h (loose_none hp)) i fun j e' q' h1 h2 z => ?_
  obtain ⟨u, g1, g2⟩ := s.ok j _ h1
  rw [h2] at g1
  cases g1
  cases g2 with
  | own r' =>
    subst z
    exact r'.tight (loose_none hp)
end
end PM
namespace PM
open PySem PySem.Spec PyProof.Rows L2 LB
section
variable {T : Tb} {K : PySem.W.Frag} {X : Cx} {e : Expr} {st : Stmt} {sts : List Stmt} {R : ER}
/-! ### calls within a try: what is raised is told with the slots -/
def erW (K : PySem.W.Frag) (W : WX) : ER := fun c σ H => W (.ref (He.ga K c)) none σ H
theorem pe_ownS {k j : Nat} {x : Str} {ps : List Str} {sp : Sp} {W : WX} {e : Expr} {es : List Expr} {t : TA} {p pos : Pos} (F : OwnFn X.prog X.w X.K X.mg X.base k x ps sp) (hr : Room j X.A) (tk : Takes X W) (ha : PA X (e :: es) t)
    (hk : k ≤ j := by decide) (hg : Gl X x := by rfl) (hdb : (x == ("__debug__" : Str)) = false := by decide) (he : starEach (e :: es) X.env = (false, eval e X.env) :: starEach es X.env := by rfl) (hpl : (backTo pos (starEach es X.env)).any (·.1) = false := by rfl) :
    PE X (.Call (.Name x p) (e :: es) [] pos) (tCallS sp (WE W) t) := by
  obtain ⟨f, fd, G, hm, kp, b, _⟩ := F.fn
  exact pe_callS G (hr.mono hk) hg hm kp b (fun σ => passAt tk σ) ha hdb he hpl
theorem c_callW {W : WX} {f : List PyData → Option Rs} {a : MA} (h : PE X e (tCallS (spX K T f) (WE W) (tA K T a))) : PE X e (tDX K T (erW K W) (mCbX f a)) := pe_to h fun σ H Q ⟨P0, P, ρ, r, h1, s, h2, q⟩ => by
  subst h1
  obtain ⟨x, ex, h3⟩ := bind_eq h2
  refine ⟨P0, P, ρ, x, rfl, s, ex, fun vs P1 l1 r1 => ?_⟩
  refine ⟨P1, x, r, rfl, r1, h3, ?_⟩
  have q1 := q.up l1
  cases r with
  | ok d => exact q1
  | error c => exact q1
/-! ### try: body, except C as e: suite, the suite a model too -/
def clr (i : Nat) : Out → Out
  | .nx ρ => .nx (ρ.set i .no)
  | .bk ρ => .bk (ρ.set i .no)
  | .ct ρ => .ct (ρ.set i .no)
  | o => o
open Classical in
noncomputable def exV (f : Addr → Option Out) : Option Out := if h : ∃ o, ∀ a, f a = some o then some h.choose else none
theorem exV_is {f : Addr → Option Out} {o : Out} (h : exV f = some o) (a : Addr) : f a = some o := by
  unfold exV at h
  split at h
  · rename_i hh
    cases h
    exact hh.choose_spec a
  · cases h
theorem exV_of {f : Addr → Option Out} {o : Out} (h : ∀ a, f a = some o) : exV f = some o := by
  have hh : ∃ o, ∀ a, f a = some o := ⟨o, h⟩
  have : exV f = some hh.choose := by
    unfold exV
    rw [dif_pos hh]
  rw [this]
  have h1 := hh.choose_spec 0
  rw [h 0] at h1
  exact h1.symm
/-- the suite's model for each class -/
abbrev Su := List (Str × (Addr → MS))
noncomputable def mTryE (i : Nat) (l : Su) (m : MS) : MS := fun ρ => (m ρ).bind fun o => match o with
  | .er c ρ' => (l.lookup c).bind fun g => exV fun a => (g a (ρ'.set i (.exn a))).map (clr i)
  | o => some o
def SuOk (X : Cx) (T : Tb) (sts : List Stmt) (l : Su) : Prop := ∀ (a : Addr) (oe : Obj) (c : Str) (pn : List (Addr × Obj)) (g : Addr → MS), l.lookup c = some g → Zc (.ref (He.ga X.K c)) none oe → (∃ vs, oe.data = .fields vs) → PSs (X.suite a ((a, oe) :: pn)) sts (tS X.K T (g a))
theorem su_nil : SuOk X T sts [] := fun _ _ _ _ _ h => nomatch h
theorem su_cons {c0 : Str} {g0 : Addr → MS} {l : Su} (h : ∀ (a : Addr) (oe : Obj) (pn : List (Addr × Obj)), Zc (.ref (He.ga X.K c0)) none oe → (∃ vs, oe.data = .fields vs) → PSs (X.suite a ((a, oe) :: pn)) sts (tS X.K T (g0 a))) (hl : SuOk X T sts l) : SuOk X T sts ((c0, g0) :: l) := fun a oe c pn g hg hz hf => by
  rw [List.lookup_cons] at hg
  by_cases e : c = c0
  · subst e
    rw [beq_self_eq_true] at hg
    cases hg
    exact h a oe pn hz hf
  · rw [beq_eq_false_iff_ne.mpr e] at hg
    exact hl a oe c pn g hg hz hf
theorem look_mem : ∀ {l : Su} {c : Str} {g : Addr → MS}, l.lookup c = some g → c ∈ l.map (·.1)
  | [], _, _, h => nomatch h
  | (c0, g0) :: l, c, g, h => by
    rw [List.lookup_cons] at h
    by_cases e : c = c0
    · subst e
      exact List.mem_cons_self
    · rw [beq_eq_false_iff_ne.mpr e] at h
      exact List.mem_cons_of_mem _ (look_mem h)
theorem St.setE {P0 P : Pr T} {σ : L2.St} {ρ : Ev} (s : St K P0 P σ ρ) (i : Nat) (a : Addr) : St K P0 P (σ.set i (some (.ref a))) (ρ.set i (.exn a)) := by
  refine ⟨s.le, by rw [List.length_set, List.length_set]; exact s.len, fun j x h => ?_, fun j k p d e ne h1 h2 h3 h4 => ?_, fun j d p h1 h2 => ?_, s.od.put i _ _ fun _ z => nomatch z⟩
  · rcases getset h with ⟨rfl, rfl, hl⟩ | ⟨ne, h⟩
    · exact ⟨_, List.getElem?_set_self (by rw [s.len]; exact hl), .exn⟩
    · rw [List.getElem?_set_ne ne]
      exact s.ok j x h
  · rcases getset h1 with ⟨_, z, _⟩ | ⟨n1, h1⟩
    · cases z
    rcases getset h2 with ⟨_, z, _⟩ | ⟨n2, h2⟩
    · cases z
    rw [List.getElem?_set_ne n1] at h3
    rw [List.getElem?_set_ne n2] at h4
    exact s.dis j k p d e ne h1 h2 h3 h4
  · rcases getset h1 with ⟨_, z, _⟩ | ⟨n1, h1⟩
    · cases z
    rw [List.getElem?_set_ne n1] at h2
    exact s.fr j d p h1 h2
theorem St.clr {P0 P : Pr T} {σ : L2.St} {ρ : Ev} (s : St K P0 P σ ρ) (i : Nat) : St K P0 P (σ.set i none) (ρ.set i .no) := by
  refine ⟨s.le, by rw [List.length_set, List.length_set]; exact s.len, fun j x h => ?_, fun j k p d e ne h1 h2 h3 h4 => ?_, fun j d p h1 h2 => ?_, s.od.put i _ _ fun _ z => nomatch z⟩
  · rcases getset h with ⟨rfl, rfl, hl⟩ | ⟨ne, h⟩
    · exact ⟨_, List.getElem?_set_self (by rw [s.len]; exact hl), .no⟩
    · rw [List.getElem?_set_ne ne]
      exact s.ok j x h
  · rcases getset h1 with ⟨_, z, _⟩ | ⟨n1, h1⟩
    · cases z
    rcases getset h2 with ⟨_, z, _⟩ | ⟨n2, h2⟩
    · cases z
    rw [List.getElem?_set_ne n1] at h3
    rw [List.getElem?_set_ne n2] at h4
    exact s.dis j k p d e ne h1 h2 h3 h4
  · rcases getset h1 with ⟨_, z, _⟩ | ⟨n1, h1⟩
    · cases z
    rw [List.getElem?_set_ne n1] at h2
    exact s.fr j d p h1 h2
theorem s_tryE {x n C : Str} {i : Nat} {body suite : List Stmt} {b₀ : Stmt} {np pos pos' : Pos} {l : Su} {m : MS}
    (hs : X.stack = X.env :: X.outer) (hf : X.env.frame = some X.env.locals) (hN : X.N.Nodup) (hi : X.N[i]? = some n) (hln : X.env.kindOf n = some .local) (hc : Names X x (.ref (He.ga X.K C)))
    (hx : ∀ c ∈ l.map (·.1), PySem.W.exmOne X.K (.ref (He.ga X.K c)) (.ref (He.ga X.K C)) = some true)
    (hb : ∀ (W : WX) (pn : List (Addr × Obj)) (xe : Value → Shared → Prop), Takes (X.tr pn xe) W → PSs (X.tr pn xe) body (tSR X.K T (erW X.K W) m))
    (hsu : SuOk X T (b₀ :: suite) l) :
    PS X (.Try body [.ExceptHandler (some (.Name x np)) (some n) (b₀ :: suite) pos'] [] [] pos) (tS X.K T (mTryE i l m)) := by
  refine ps_to (ps_try_as (i := i) (c := .ref (He.ga X.K C))
    (tb := fun W => tSR X.K T (erW X.K W) m)
    (ts := fun a cls d' D σ H => ∃ (c : Str) (g : Addr → MS), cls = .ref (He.ga X.K c) ∧ d' = none ∧ l.lookup c = some g ∧ tS X.K T (g a) D σ H)
    (Wout := fun _ _ _ _ => False) hs hf hN hi hln hc LamX.takes0 (fun W pn xe tk _ => hb W pn xe tk) (fun a oe cls d' pn hz hfl => ⟨fun pins s σ H D I h => ?_⟩)) ?_
  · obtain ⟨c, g, rfl, rfl, hg, h⟩ := h
    exact (hsu a oe c pn g hg hz hfl).run pins s σ H D I h
  · intro D σ H ⟨P0, P, ρ, o, h1, s, h2, q⟩
    obtain ⟨o1, e1, h3⟩ := bind_eq h2
    refine ⟨P0, P, ρ, o1, h1, s, e1, ?_⟩
    cases o1 with
    | er c ρ2 =>
      obtain ⟨g, hg, h3⟩ := bind_eq h3
      intro P' σ' s'
      refine ⟨true, hx c (look_mem hg), fun _ a _ => ⟨c, g, rfl, rfl, hg, ?_⟩, fun z => nomatch z⟩
      obtain ⟨o2, e2, e3⟩ := map_eq (exV_is h3 a)
      refine ⟨P0, P', _, o2, rfl, s'.setE i a, e2, ?_⟩
      subst e3
      cases o2 with
      | nx ρ3 => exact fun P3 σ3 s3 => q P3 _ (s3.clr i)
      | rt d => exact q
      | rf d => exact q
      | bk ρ3 => exact fun P3 σ3 s3 => q P3 _ (s3.clr i)
      | ct ρ3 => exact fun P3 σ3 s3 => q P3 _ (s3.clr i)
      | er c' ρ3 => exact fun P3 σ3 s3 => q P3 σ3 s3
    | nx => cases h3; exact q
    | rt => cases h3; exact q
    | rf => cases h3; exact q
    | bk => cases h3; exact q
    | ct => cases h3; exact q
theorem x_tryE {i : Nat} {l : Su} {g : Addr → MS} {m : MS} {ρ ρ' : Ev} {c : Str} {o : Out} (h : m ρ = some (.er c ρ')) (hc : l.lookup c = some g) (hg : ∀ a, (g a (ρ'.set i (.exn a))).map (clr i) = some o) : mTryE i l m ρ = some o := by
  unfold mTryE
  rw [h]
  show (l.lookup c).bind (fun g => exV fun a => (g a (ρ'.set i (.exn a))).map (clr i)) = some o
  rw [hc]
  exact exV_of hg
/-! ### the caught error: isinstance, and a def that is handed it -/
def mE (i : Nat) (a : Addr) (d : PyData) : ME := fun ρ => match ρ[i]? with
  | some (.exn a') => if a' = a then some d else none
  | _ => none
theorem x_mE {i : Nat} {a : Addr} {d : PyData} {ρ : Ev} (h : ρ[i]? = some (.exn a)) : mE i a d ρ = some d := by
  unfold mE
  rw [h]
  show (if a = a then some d else none) = some d
  rw [if_pos rfl]
theorem mE_at {P0 P : Pr T} {σ : L2.St} {ρ : Ev} {i : Nat} {a : Addr} {d d' : PyData} (s : St K P0 P σ ρ) (h : mE i a d ρ = some d') : σ[i]? = some (some (.ref a)) ∧ d' = d := by
  unfold mE at h
  split at h
  · rename_i a' ha
    split at h
    · rename_i hh
      subst hh
      cases h
      obtain ⟨o, g1, g2⟩ := s.ok i _ ha
      cases g2
      exact ⟨g1, rfl⟩
    · cases h
  · cases h
theorem call_isP {X : Cx} {a D : Addr} {oe : Obj} (C : ExcC X.K D) (hp : (a, oe) ∈ X.pn) (hz : Zc (.ref D) none oe) (hf : ∃ vs, oe.data = .fields vs) : CallR X (.builtin "isinstance") (rIsE X.K D a) := by
  intro pins s σ H xs us Q I r h
  obtain ⟨c, cv, b, rfl, hcv, e, q⟩ := h
  obtain ⟨u1, u2, rfl, r1, r2⟩ := vals2 r
  cases (show u1 = Value.ref a from r1)
  have ec := hcv _ r2
  subst ec
  obtain ⟨hget, _⟩ := I.pin (a, oe) (List.mem_append.mpr (.inl hp))
  obtain ⟨vs, hv⟩ := hf
  have J : PySem.W.InstAt s.heap a oe D none := by
    obtain ⟨oc, od, oda, osl⟩ := oe
    obtain ⟨h1, h2⟩ := hz
    dsimp only at h1 h2 hv
    subst h1 h2 hv
    exact ⟨hget, rfl, rfl, trivial⟩
  exact PySem.W.kia_one (PySem.W.handS_kitx_exc C.hg C.hk C.hs C.hd C.ha C.hn C.ht C.hm) I.kIn J e (fun z => nomatch z) fun tk => ⟨.bl b, H, I.kept (t' := tk) fun _ _ z => z, rfl, q⟩
/-- isinstance(e, C), C a class of the program or of Python's own -/
theorem c_isE {i : Nat} {a D : Addr} {b : Bool} {c : V} {cv : Value} (hcv : ∀ u, RelV c u → u = cv) (hk : PySem.W.kitOne K (.ref D) cv = some b) (h : PE X e (tCB (rIsE K D a) (tCons (tVar i) (tCons (tC c) tNil)))) : PE X e (tD K T (mE i a (.bool b))) := pe_to h fun σ H Q ⟨P0, P, ρ, d, h1, s, h2, q⟩ => by
  subst h1
  obtain ⟨g1, rfl⟩ := mE_at s h2
  exact ⟨_, g1, c, cv, b, rfl, hcv, hk, q _ P (Le.refl P) (.bl b)⟩
end
end PM
namespace PM
open PySem PySem.Spec PyProof.Rows L2 LB
/-! ### a def that is handed the caught error -/
section
variable {T : Tb} {K : PySem.W.Frag} {X : Cx} {e : Expr}
end
end PM
namespace PM
open PySem PySem.Spec PyProof.Rows L2 LB
section
variable {T : Tb} {K : PySem.W.Frag} {X : Cx} {e : Expr}
/-! ### l.count(x), flat items -/
end
end PM
namespace PM
open PySem PySem.Spec PyProof.Rows L2 LB
section
variable {T : Tb} {K : PySem.W.Frag}
/-! ### a is b, a is not b, of truths -/
end
end PM
namespace PM
open PySem PySem.Spec PyProof.Rows L2 LB
section
variable {T : Tb} {K : PySem.W.Frag} {X : Cx} {e : Expr}
/-! ### x[::-1], a tuple or a list -/
end
/-! ### what ends a row of statements by a refusal -/
theorem x_erS {a b : MS} {ρ ρ' : Ev} {c : Str} (h : a ρ = some (.er c ρ')) : mSeq a b ρ = some (.er c ρ') := by
  unfold mSeq
  rw [h]
  rfl
theorem x_dropE {f : List PyData → Option Rs} {a : MA} {ρ : Ev} {ds : List PyData} {c : Str} (h : a ρ = some ds) (h2 : f ds = some (.error c)) : mDropX (mCbX f a) ρ = some (.er c ρ) := by
  unfold mDropX
  rw [x_mx h h2]
  rfl
theorem r_fnX {n N : Nat} {m : MS} {ds : List PyData} {r : Rs} (hl : ds.length = n) (h : Run m (evOf n N ds) fun q => outX q = some r) : fnX n N m ds = some r := by
  obtain ⟨q, h1, h2⟩ := h
  unfold fnX
  rw [if_pos hl, h1]
  exact h2
theorem r_er {n N : Nat} {m : MS} {ds : List PyData} {c : Str} {ρ : Ev} (hl : ds.length = n) (h : m (evOf n N ds) = some (.er c ρ)) : fnX n N m ds = some (.error c) := by
  unfold fnX
  rw [if_pos hl, h]
  rfl
end PM
namespace PM
open PySem PySem.Spec PyProof.Rows L2 LB
section
variable {T : Tb} {K : PySem.W.Frag} {X : Cx} {e : Expr}
/-! ### tuples that are there may be stood on -/
theorem show1 (P : Pr T) {b : Addr} {vs : List V} (h : P.H b = some (.tup vs)) : ∃ P' : Pr T, P'.H = P.H ∧ Le P P' ∧ P'.M b = some (.tup vs) := by
  cases z : P.M b with
  | some u =>
    have := P.sub b u z fun ps w => P.nt b ps (by rw [z, w])
    rw [h] at this
    cases this
    exact ⟨P, rfl, Le.refl P, z⟩
  | none =>
    refine ⟨⟨upd P.M b (.tup vs), P.H, fun a u e q => ?_, P.tab, nt_upd P.nt fun _ w => nomatch w⟩, rfl, ⟨fun a u e q => ?_, ex_refl _, fun a h1 h2 => ?_⟩, upd_same⟩
    · by_cases w : a = b
      · subst w
        rw [upd_same] at e
        cases e
        exact h
      · rw [upd_ne w] at e
        exact P.sub a u e q
    · have ne : a ≠ b := fun w => by
        rw [w, z] at e
        cases e
      show upd P.M b (.tup vs) a = some u
      rw [upd_ne ne]
      exact e
    · by_cases w : a = b
      · subst w
        exact .inr ⟨vs, h⟩
      · have h2 : upd P.M b (.tup vs) a ≠ none := h2
        rw [upd_ne w] at h2
        exact absurd h1 h2
theorem showAll : ∀ {bs : List Addr} {ds : List PyData} (P : Pr T), PySem.W.EachIs (TupK P.H) bs ds → ∃ P' : Pr T, P'.H = P.H ∧ Le P P' ∧ RpAll K P'.M (bs.map V.ref) ds
  | _, _, P, .nil => ⟨P, rfl, Le.refl P, .nil⟩
  | _, _, P, .cons (a := b) h t => by
    obtain ⟨ks, rfl, hb⟩ := h
    obtain ⟨P1, e1, l1, m1⟩ := show1 P hb
    obtain ⟨P2, e2, l2, r2⟩ := showAll P1 (by rw [e1]; exact t)
    exact ⟨P2, e2.trans e1, l1.trans l2, .cons (.tup (l2.m _ _ m1 fun _ z => nomatch z) (LB.rp_keys ks)) r2⟩
/-! ### sorted(d), d a dict of one's own, its keys tuples -/
/-! ### a < b of tuples -/
/-! ### a sign in a text -/
def rInSg : R2 := fun x y H Q => ∃ (c : Nat) (z : Str), x = .str ⟨#[c]⟩ ∧ y = .str z ∧ Q (.bl (decide (c ∈ z.cps.toList))) H
def sg1 : Str → Option Nat
  | ⟨⟨[c]⟩⟩ => some c
  | _ => none
def oInX (a b : PyData) : Option PyData := match b with
  | .str z => match a with
    | .str x => (sg1 x).map fun c => .bool (decide (c ∈ z.cps.toList))
    | _ => none
  | b => oIn a b
theorem sg1_is {x : Str} {c : Nat} (h : sg1 x = some c) : x = ⟨#[c]⟩ := by
  unfold sg1 at h
  split at h
  · cases h
    rfl
  · cases h
theorem op_uInX (hK : X.K = K := by rfl) : OpR X (compareOp .In) (fun x y H Q => rIn K false x y H Q ∨ rInSg x y H Q) := opR_or (op_inK K hK) op_in_sign
theorem od_inX : OpD K T (fun x y H Q => rIn K false x y H Q ∨ rInSg x y H Q) oInX := by
  intro P x y a b d ra rb h Q q
  unfold oInX at h
  split at h
  · split at h
    · obtain ⟨c, hc, rfl⟩ := map_eq h
      have e := sg1_is hc
      subst e
      exact .inr ⟨c, _, ra.str, rb.str, q _ P (Le.refl P) (.bl _)⟩
    · cases h
  · exact .inl (od_in P x y a b d ra rb h Q q)
/-! ### range(i, j) -/
/-! ### l + m, a new list of one's own -/
/-! ### tuple(text) -/
theorem vals_signs : ∀ (l : List Nat) (us : List Value), us.length = l.length → (∀ (j : Nat) (u : Value), us[j]? = some u → ∃ c t, l[j]? = some c ∧ u = .str ⟨#[c]⟩ t) → Vals (l.map fun c => V.str ⟨#[c]⟩) us
  | [], [], _, _ => .nil
  | c :: l, u :: us, h, hh => by
    obtain ⟨c', t, h1, rfl⟩ := hh 0 u rfl
    cases h1
    exact .cons ⟨t, rfl⟩ (vals_signs l us (Nat.succ.inj h) fun j v hv => hh (j + 1) v hv)
theorem rp_signs {M : Hp} : ∀ l : List Nat, RpAll K M (l.map fun c => V.str ⟨#[c]⟩) (l.map fun c => PyData.str ⟨#[c]⟩)
  | [] => .nil
  | _ :: l => .cons (.str _) (rp_signs l)
end
end PM
namespace PM
open PySem PySem.Spec PyProof.Rows L2 LB
section
variable {T : Tb} {K : PySem.W.Frag} {X : Cx} {e : Expr} {st : Stmt} {R : ER}
/-! ### a dict of one's own, its keys names, its values True -/
def getS (ds : List (Str × PyData)) (k : Str) : Option PyData := (ds.find? fun e => decide (e.1 = k)).map (·.2)
theorem ds_vals {M : Hp} : ∀ {as : List (Key × V)} {bs : List (Str × PyData)}, PySem.W.EachIs (DS K M) as bs → RpAll K M (as.map (·.2)) (bs.map (·.2))
  | _, _, .nil => .nil
  | _, _, .cons h t => .cons h.2 (ds_vals t)
/-! ### a is None -/
def isNn : PyData → Bool
  | .none => true
  | _ => false
def oIsNo (a b : PyData) : Option PyData := match b with
  | .none => some (.bool (isNn a))
  | _ => none
def oNotNo (a b : PyData) : Option PyData := match b with
  | .none => some (.bool (!isNn a))
  | _ => none
theorem rw_none {P : Pr T} {v : V} {d : PyData} (h : Rw K P v d) : decide (v = .non) = isNn d := by
  rcases h with h | ⟨p, rfl, h⟩
  · cases h <;> rfl
  · cases h <;> rfl
theorem od_isNo : OpD K T (fun x y H Q => y = .non ∧ Q (.bl (decide (x = .non))) H) oIsNo := fun P x y a b d ra rb h Q q => by
  unfold oIsNo at h
  split at h
  · cases h
    have e : y = .non := of_decide_eq_true (by rw [rw_none rb]; rfl)
    refine ⟨e, ?_⟩
    rw [rw_none ra]
    exact q _ P (Le.refl P) (.bl _)
  · cases h
theorem od_notNo : OpD K T (fun x y H Q => y = .non ∧ Q (.bl (!decide (x = .non))) H) oNotNo := fun P x y a b d ra rb h Q q => by
  unfold oNotNo at h
  split at h
  · cases h
    have e : y = .non := of_decide_eq_true (by rw [rw_none rb]; rfl)
    refine ⟨e, ?_⟩
    rw [rw_none ra]
    exact q _ P (Le.refl P) (.bl _)
  · cases h
end
end PM
namespace PM
open PySem PySem.Spec PyProof.Rows L2 LB
section
variable {T : Tb} {K : PySem.W.Frag} {X : Cx} {e : Expr}
/-! ### sorted(xs, key=len, reverse=True), xs a list of tuples -/
def tlen : PyData → Nat
  | .tuple xs => xs.length
  | _ => 0
theorem zip_rp {M : Hp} : ∀ {vs : List V} {ds : List PyData}, RpAll K M vs ds → (vs.zip ds).map (·.1) = vs ∧ (vs.zip ds).map (·.2) = ds ∧ ∀ b ∈ vs.zip ds, Rp K M b.1 b.2
  | _, _, .nil => ⟨rfl, rfl, fun b hb => absurd hb List.not_mem_nil⟩
  | _, _, .cons r rs => by
    obtain ⟨h1, h2, h3⟩ := zip_rp rs
    refine ⟨by rw [List.zip_cons_cons, List.map_cons, h1], by rw [List.zip_cons_cons, List.map_cons, h2], fun b hb => ?_⟩
    rcases List.mem_cons.mp hb with e | e
    · rw [e]
      exact r
    · exact h3 b e
end
end PM
namespace PM
open PySem PySem.Spec PyProof.Rows L2 LB
section
variable {T : Tb} {K : PySem.W.Frag} {X : Cx} {e : Expr} {st : Stmt} {R : ER}
/-! ### an own dict is locked while an expression reads it -/
theorem St.lock {P0 P : Pr T} {σ : L2.St} {ρ : Ev} (s : St K P0 P σ ρ) {i : Nat} {p : Addr} {kvs : List (List Key × V)} {ds : List (PyData × PyData)} (hρ : ρ[i]? = some (.own (.dict ds))) (hσ : σ[i]? = some (some (.ref p))) (hM : P.M p = none) (hp : P.H p = some (.dT kvs)) (hd : PySem.W.EachIs (DT K P.M) kvs ds) (od : Obj) :
    ∃ Q : Pr T, Q.M = P.M ∧ Q.H = upd P.H p (.frz od (.dT kvs)) ∧ St K P0 Q σ (ρ.set i (.lck ds)) := by
  have lo := s.fr i _ p hρ hσ
  have tm : ∀ {x : Nat} {y : Sl}, (ρ.set i (.lck ds))[x]? = some y → (i = x ∧ y = .lck ds) ∨ (i ≠ x ∧ ρ[x]? = some y) := fun h => by
    rcases getset h with ⟨rfl, rfl, _⟩ | ⟨ne, h⟩
    · exact .inl ⟨rfl, rfl⟩
    · exact .inr ⟨ne, h⟩
  refine ⟨⟨P.M, upd P.H p (.frz od (.dT kvs)), fun b u e q => ?_, tabs_mut P.tab hp (fun _ z => nomatch z) (fun _ _ z => by unfold LamX.CodeO at z; cases z), P.nt⟩, rfl, rfl, ⟨⟨s.le.m, fun b u e q => ?_, s.le.f⟩, by rw [List.length_set]; exact s.len, fun j x h => ?_, fun j k q d1 e ne h1 h2 h3 h4 => ?_, fun j e q h1 h2 => ?_, s.od.same i _ fun _ z => nomatch z⟩⟩
  · have ne : b ≠ p := fun z => by rw [z, hM] at e; cases e
    rw [upd_ne ne]
    exact P.sub b u e q
  · have ne : b ≠ p := fun z => by
      rw [z] at e
      obtain ⟨ps, w⟩ := lo u e
      exact q ps w
    show upd P.H p _ b = some u
    rw [upd_ne ne]
    exact s.le.h b u e q
  · rcases tm h with ⟨rfl, rfl⟩ | ⟨ne, h⟩
    · exact ⟨_, hσ, .lck hM upd_same hd⟩
    · obtain ⟨u, h1, h2⟩ := s.ok j x h
      refine ⟨u, h1, ?_⟩
      cases h2 with
      | no => exact .no
      | val r => exact .val r
      | exn => exact .exn
      | @ods q kv1 k1 b1 b2 b3 =>
        have nq : q ≠ p := fun z => by
          rw [z, hp] at b2
          cases b2
        exact .ods b1 (by show upd P.H p _ q = _; rw [upd_ne nq]; exact b2) b3
      | @lck q od kvs ds b1 b2 b3 =>
        have nq : q ≠ p := fun z => by
          rw [z, hp] at b2
          cases b2
        exact .lck b1 (by show upd P.H p _ q = _; rw [upd_ne nq]; exact b2) b3
      | @own q e r =>
        have nq : q ≠ p := fun z => s.dis i j p _ e ne hρ h hσ (by rw [h1, z])
        refine .own ?_
        cases r with
        | lst a1 a2 a3 => exact .lst a1 (by show upd P.H p _ q = _; rw [upd_ne nq]; exact a2) a3
        | dT a1 a2 a3 => exact .dT a1 (by show upd P.H p _ q = _; rw [upd_ne nq]; exact a2) a3
  · rcases tm h1 with ⟨_, z⟩ | ⟨_, h1⟩
    · cases z
    rcases tm h2 with ⟨_, z⟩ | ⟨_, h2⟩
    · cases z
    exact s.dis j k q d1 e ne h1 h2 h3 h4
  · rcases tm h1 with ⟨_, z⟩ | ⟨_, h1⟩
    · cases z
    exact s.fr j e q h1 h2
/-! ### [f, g][i](x), what is raised told with the slots -/
/-! ### isinstance(e, (C1, C2, ..)) of a caught error -/
theorem call_isPT {X : Cx} {a D : Addr} {oe : Obj} (C : ExcC X.K D) (hp : (a, oe) ∈ X.pn) (hz : Zc (.ref D) none oe) (hf : ∃ vs, oe.data = .fields vs) : CallR X (.builtin "isinstance") (rIsET X.K D a) := by
  intro pins s σ H xs us Q I r h
  obtain ⟨tp, cs, ws, b, rfl, hT, k, e, q⟩ := h
  obtain ⟨u1, u2, rfl, r1, r2⟩ := vals2 r
  cases (show u2 = Value.ref tp from r2)
  cases (show u1 = Value.ref a from r1)
  obtain ⟨hget, _⟩ := I.pin (a, oe) (List.mem_append.mpr (.inl hp))
  obtain ⟨vs, hv⟩ := hf
  have J : PySem.W.InstAt s.heap a oe D none := by
    obtain ⟨oc, od, oda, osl⟩ := oe
    obtain ⟨h1, h2⟩ := hz
    dsimp only at h1 h2 hv
    subst h1 h2 hv
    exact ⟨hget, rfl, rfl, trivial⟩
  obtain ⟨_, its, rv, o, h1, h2, n, h3⟩ := (show ObjOk X.prog X.w H s.heap tp (.tup cs) from I.hok tp _ hT)
  have e3 := ClsV.all k rv
  subst e3
  obtain ⟨oc, od, dt, sl⟩ := o
  simp only at h2 h3
  subst h2 h3
  exact PySem.W.kia_tup (PySem.W.handS_kitx_exc C.hg C.hk C.hs C.hd C.ha C.hn C.ht C.hm) I.kIn J h1 e (fun z => nomatch z) fun tk => ⟨.bl b, H, I.kept (t' := tk) fun _ _ z => z, rfl, q⟩
def tRefs (K : PySem.W.Frag) : List Str → TA
  | [] => tNil
  | x :: l => tCons (tC (.ref (He.ga K x))) (tRefs K l)
theorem trefs {σ : L2.St} {H : Hp} : ∀ {l : List Str} {Q : List V → Hp → Prop}, Q (l.map fun x => V.ref (He.ga K x)) H → tRefs K l σ H Q
  | [], _, h => h
  | _ :: l, _, h => trefs (l := l) h
theorem c_isET {i : Nat} {a D : Addr} {b : Bool} {l : List Str} (hl : l.length ≤ 100) (hk : PySem.W.kitAny K (.ref D) (refs K l) = some b) (h : PE X e (tCB (rIsET K D a) (tCons (tVar i) (tCons (tTup (tRefs K l)) tNil)))) : PE X e (tD K T (mE i a (.bool b))) := pe_to h fun σ H Q ⟨P0, P, ρ, d, h1, s, h2, q⟩ => by
  subst h1
  obtain ⟨g1, rfl⟩ := mE_at s h2
  refine ⟨_, g1, trefs ⟨Nat.le_trans (by rw [List.length_map]; exact hl) (by decide), fun p hp => ?_⟩⟩
  exact ⟨p, _, _, b, rfl, upd_same, refs_cls K l, hk, q _ (P.hid p _ hp) (le_hid P hp) (.bl b)⟩
/-! ### a call that may raise, and does not -/
def okF (f : List PyData → Option Rs) : List PyData → Option PyData := fun x => (f x).bind fun r => match r with
  | .ok d => some d
  | .error _ => none
theorem c_callOk {E : XK} {f : List PyData → Option Rs} {a : MA} (h : PE X e (tCall (spX K T f) [] E (tA K T a))) : PE X e (tD K T (mCb (okF f) a)) := pe_to h fun σ H Q ⟨P0, P, ρ, d, h1, s, h2, q⟩ => by
  subst h1
  obtain ⟨x, ex, h3⟩ := bind_eq h2
  obtain ⟨r, er, h4⟩ := bind_eq h3
  refine ⟨P0, P, ρ, x, rfl, s, ex, fun vs P1 l1 r1 => ?_⟩
  show spX K T f (vs ++ []) P1.H Q E
  rw [List.append_nil]
  refine ⟨P1, x, r, rfl, r1, er, ?_⟩
  split at h4
  · cases h4
    exact fun v P2 l2 r2 => q v P2 (l1.trans l2) r2
  · cases h4
end
end PM
namespace PM
open PySem PySem.Spec PyProof.Rows L2 LB
section
variable {T : Tb} {K : PySem.W.Frag} {X : Cx} {e : Expr} {st : Stmt} {R : ER}
/-! ### an own dict with text keys is one's own no more: data may stand on it -/
def dcD (ds : List (Str × PyData)) : PyData := .dict (ds.map fun e => (.str e.1, e.2))
theorem dc_keys {M : Hp} : ∀ {as : List (Key × V)} {bs : List (Str × PyData)}, PySem.W.EachIs (DS K M) as bs → as.map (fun e => keyD e.1) = (bs.map fun e => (PyData.str e.1, e.2)).map (·.1)
  | _, _, .nil => rfl
  | _, _, .cons h t => by rw [List.map_cons, List.map_cons, List.map_cons, dc_keys t, h.1]; rfl
theorem dc_vals {M : Hp} {as : List (Key × V)} {bs : List (Str × PyData)} (h : PySem.W.EachIs (DS K M) as bs) : RpAll K M (as.map (·.2)) ((bs.map fun e => (PyData.str e.1, e.2)).map (·.2)) := by
  rw [List.map_map]
  exact ds_vals h
/-! ### d[k] of a datum -/
end
end PM
namespace PM
open PySem PySem.Spec PyProof.Rows L2 LB
section
variable {T : Tb} {K : PySem.W.Frag} {X : Cx} {e : Expr} {st : Stmt} {R : ER}
/-! ### sorted(d.values()), the values texts -/
/-! ### f() -/
end
end PM
namespace LB
open PySem PySem.Spec PyProof.Rows L2 PySem.W PySem.SeqAt PySem.Calls
section
variable {prog : Program} {w : World} {A : Around} {E : Value → Shared → Prop} {s : Shared} {κ : PyProof.Rows.KeyKind} {t : Addr} {vs : List Value}
/-! ### sorted(tuple) -/
end
end LB
namespace PM
open PySem PySem.Spec PyProof.Rows L2 LB
section
variable {T : Tb} {K : PySem.W.Frag} {X : Cx} {e : Expr} {st : Stmt} {R : ER}
/-! ### x not in a tuple of data -/
end
end PM
namespace PM
open PySem PySem.Spec PyProof.Rows L2 LB
section
variable {T : Tb} {K : PySem.W.Frag} {X : Cx} {e : Expr} {st : Stmt} {R : ER}
/-! ### a dict of lists, gathered by keys -/
def addG (G : List (List Key × List PyData)) (ks : List Key) (d : PyData) : List (List Key × List PyData) :=
  if (G.any fun e => decide (e.1 = ks)) = true then G.map (fun e => if e.1 = ks then (e.1, e.2 ++ [d]) else e) else G ++ [(ks, [d])]
def gaGo (c j : Nat) (me : ME) : List PyData → Ev → List (List Key × List PyData) → Option (Ev × List (List Key × List PyData))
  | [], ρ, G => some (ρ, G)
  | d :: ds, ρ, G => (me (ρ.set c (.val d))).bind fun l => (keyL l).bind fun ks => gaGo c j me ds ((ρ.set c (.val d)).set j (.val l)) (addG G ks d)
def dG (G : List (List Key × List PyData)) : PyData := .dict (G.map fun e => (.tuple (e.1.map keyD), .list e.2))
def plS : Sl → Bool
  | .no => true
  | .val _ => true
  | .exn _ => true
  | _ => false
def mGather (i j c : Nat) (mi : MA) (me : ME) : MS := fun ρ => match ρ[i]? with
  | some (.own (.dict [])) => (mi ρ).bind fun ds => if ds.length ≤ 1000 ∧ (c < ρ.length ∧ j < ρ.length) ∧ (ρ.set i .no).all plS = true then (gaGo c j me ds (ρ.set i .no) []).map fun r => .nx (r.1.set i (.val (dG r.2))) else none
  | _ => none
def DL (K : PySem.W.Frag) (P : Pr T) (e : List Key × V) (g : List Key × List PyData) : Prop := e.1 = g.1 ∧ ∃ q xs, e.2 = .ref q ∧ P.M q = none ∧ P.H q = some (.lst xs) ∧ RpAll K P.M xs g.2
structure GAt (K : PySem.W.Frag) (P0 P : Pr T) (p : Addr) (kvs : List (List Key × V)) (G : List (List Key × List PyData)) : Prop where
  m : P.M p = none
  h : P.H p = some (.dT kvs)
  each : PySem.W.EachIs (DL K P) kvs G
  nk : (kvs.map (·.1)).Nodup
  nv : (kvs.map (·.2)).Nodup
  lo : Loose P0.H p
  los : ∀ e ∈ kvs, ∀ q, e.2 = V.ref q → Loose P0.H q
theorem DL.up {P P' : Pr T} (l : Le P P') {e : List Key × V} {g : List Key × List PyData} (h : DL K P e g) : DL K P' e g := by
  obtain ⟨h1, q, xs, h2, h3, h4, h5⟩ := h
  exact ⟨h1, q, xs, h2, own_none l h3 h4 (fun _ z => nomatch z) (fun _ z => nomatch z), l.h _ _ h4 (fun _ z => nomatch z), h5.ext l.m⟩
theorem GAt.up {P0 P P' : Pr T} {p : Addr} {kvs : List (List Key × V)} {G : List (List Key × List PyData)} (g : GAt K P0 P p kvs G) (l : Le P P') : GAt K P0 P' p kvs G :=
  ⟨own_none l g.m g.h (fun _ z => nomatch z) (fun _ z => nomatch z), l.h _ _ g.h (fun _ z => nomatch z), g.each.mono (fun _ _ h => h.up l), g.nk, g.nv, g.lo, g.los⟩
theorem each_imp {α β : Type} {R R' : α → β → Prop} : ∀ {as : List α} {bs : List β}, PySem.W.EachIs R as bs → (∀ a ∈ as, ∀ b, R a b → R' a b) → PySem.W.EachIs R' as bs
  | _, _, .nil, _ => .nil
  | _, _, .cons h t, q => .cons (q _ List.mem_cons_self _ h) (each_imp t fun a ha => q a (List.mem_cons_of_mem _ ha))
theorem dl_keys {P : Pr T} : ∀ {kvs : List (List Key × V)} {G : List (List Key × List PyData)}, PySem.W.EachIs (DL K P) kvs G → kvs.map (·.1) = G.map (·.1)
  | _, _, .nil => rfl
  | _, _, .cons h t => by rw [List.map_cons, List.map_cons, dl_keys t, h.1]
theorem dl_hit {P : Pr T} {ks : List Key} {v : V} : ∀ {kvs : List (List Key × V)} {G : List (List Key × List PyData)}, PySem.W.EachIs (DL K P) kvs G → valV kvs ks = some v →
    ∃ q xs as bs As Bs ds, v = V.ref q ∧ kvs = as ++ (ks, V.ref q) :: bs ∧ G = As ++ (ks, ds) :: Bs ∧ PySem.W.EachIs (DL K P) as As ∧ PySem.W.EachIs (DL K P) bs Bs ∧ P.M q = none ∧ P.H q = some (.lst xs) ∧ RpAll K P.M xs ds
  | _, _, .nil, h => by cases h
  | (k, u) :: kvs, (k', ds) :: G, .cons h t, hv => by
    obtain ⟨h1, q, xs, h2, h3, h4, h5⟩ := h
    have h1 : k = k' := h1
    have h2 : u = V.ref q := h2
    subst h1 h2
    unfold valV at hv
    rw [List.find?_cons] at hv
    by_cases z : k = ks
    · subst z
      rw [decide_eq_true rfl] at hv
      cases hv
      exact ⟨q, xs, [], kvs, [], G, ds, rfl, rfl, rfl, .nil, t, h3, h4, h5⟩
    · rw [decide_eq_false z] at hv
      obtain ⟨q', xs', as, bs, As, Bs, ds', e1, e2, e3, e4, e5, e6, e7, e8⟩ := dl_hit t hv
      exact ⟨q', xs', (k, V.ref q) :: as, bs, (k, ds) :: As, Bs, ds', e1, by rw [e2]; rfl, by rw [e3]; rfl, .cons ⟨rfl, q, xs, rfl, h3, h4, h5⟩ e4, e5, e6, e7, e8⟩
theorem add_hit {ks : List Key} {d : PyData} {As Bs : List (List Key × List PyData)} {ds : List PyData} (n1 : ks ∉ As.map (·.1)) (n2 : ks ∉ Bs.map (·.1)) : addG (As ++ (ks, ds) :: Bs) ks d = As ++ (ks, ds ++ [d]) :: Bs := by
  unfold addG
  rw [if_pos (List.any_eq_true.mpr ⟨(ks, ds), List.mem_append_right _ List.mem_cons_self, decide_eq_true rfl⟩), List.map_append, List.map_cons, if_pos rfl]
  have e : ∀ l : List (List Key × List PyData), ks ∉ l.map (·.1) → l.map (fun e => if e.1 = ks then (e.1, e.2 ++ [d]) else e) = l := fun l hn => by
    conv => rhs; rw [← List.map_id l]
    refine List.map_congr_left fun x hx => ?_
    exact if_neg fun z => hn (List.mem_map.mpr ⟨x, hx, z⟩)
  rw [e As n1, e Bs n2]
theorem val_none {ks : List Key} {kvs : List (List Key × V)} (h : valV kvs ks = none) : ks ∉ kvs.map (·.1) := fun z => by
  obtain ⟨e, he, rfl⟩ := List.mem_map.mp z
  unfold valV at h
  rw [Option.map_eq_none_iff, List.find?_eq_none] at h
  exact h e he (decide_eq_true rfl)
theorem add_new {ks : List Key} {d : PyData} {G : List (List Key × List PyData)} (h : ks ∉ G.map (·.1)) : addG G ks d = G ++ [(ks, [d])] := by
  unfold addG
  rw [if_neg]
  intro z
  obtain ⟨e, he, h2⟩ := List.any_eq_true.mp z
  exact h (List.mem_map.mpr ⟨e, he, of_decide_eq_true h2⟩)
theorem put_new {ks : List Key} {v : V} {kvs : List (List Key × V)} (h : ks ∉ kvs.map (·.1)) : putK kvs ks v = kvs ++ [(ks, v)] := by
  unfold putK
  rw [if_neg]
  intro z
  obtain ⟨e, he, h2⟩ := List.any_eq_true.mp z
  exact h (List.mem_map.mpr ⟨e, he, of_decide_eq_true h2⟩)
theorem val_new {ks : List Key} {v : V} {kvs : List (List Key × V)} (h : ks ∉ kvs.map (·.1)) : valV (kvs ++ [(ks, v)]) ks = some v := by
  unfold valV
  rw [List.find?_append]
  have : (kvs.find? fun kv => decide (kv.1 = ks)) = none := List.find?_eq_none.mpr fun e he z => h (List.mem_map.mpr ⟨e, he, of_decide_eq_true z⟩)
  rw [this]
  simp
/-- an object changed that no data stands on -/
theorem Pr.mut1 (P : Pr T) {p : Addr} {o o' : HO} (hM : P.M p = Option.none) (hp : P.H p = some o) (n : Plain o) (nc : ∀ c q, o ≠ LamX.CodeO c q) : ∃ Q : Pr T, Q.M = P.M ∧ Q.H = upd P.H p o' :=
  ⟨⟨P.M, upd P.H p o', fun b u e q => by
    have ne : b ≠ p := fun z => by rw [z, hM] at e; cases e
    rw [upd_ne ne]
    exact P.sub b u e q, tabs_mut P.tab hp n nc, P.nt⟩, rfl, rfl⟩
theorem le_mut1 {P0 P Q : Pr T} {p : Addr} {o' : HO} (l : Le P0 P) (lo : Loose P0.H p) (hM : Q.M = P.M) (hH : Q.H = upd P.H p o') : Le P0 Q := by
  refine ⟨by rw [hM]; exact l.m, fun b u e q => ?_, fun a h1 h2 => l.f a h1 (by rw [← hM]; exact h2)⟩
  have ne : b ≠ p := fun z => by
    rw [z] at e
    obtain ⟨ps, w⟩ := lo u e
    exact q ps w
  rw [hH, upd_ne ne]
  exact l.h b u e q
/-- slots that hold data alone -/
theorem St.plain {P0 P Q : Pr T} {σ : L2.St} {ρ : Ev} (s : St K P0 P σ ρ) (hp : ρ.all plS = true) (l : Le P0 Q) (m : Ex P.M Q.M) : St K P0 Q σ ρ := by
  have pl : ∀ (i : Nat) x, ρ[i]? = some x → plS x = true := fun i x h => List.all_eq_true.mp hp x (List.mem_of_getElem? h)
  refine ⟨l, s.len, fun i x h => ?_, fun i j p d e ne h1 h2 h3 h4 => ?_, fun i d p h1 h2 => ?_, fun i j p ks ls ne h1 h2 h3 h4 => ?_, fun i ks p h1 h2 => ?_⟩
  · obtain ⟨u, g1, g2⟩ := s.ok i x h
    refine ⟨u, g1, ?_⟩
    have := pl i x h
    cases g2 with
    | no => exact .no
    | val r => exact .val (r.ext m)
    | exn => exact .exn
    | own r => cases this
    | ods a b c => cases this
    | lck a b c => cases this
  · have := pl i _ h1
    cases this
  · have := pl i _ h1
    cases this
  · have := pl i _ h1
    cases this
  · have := pl i _ h1
    cases this
theorem all_set {ρ : Ev} {i : Nat} {x : Sl} (h : ρ.all plS = true) (hx : plS x = true) : (ρ.set i x).all plS = true := by
  rw [List.all_eq_true] at h ⊢
  intro y hy
  rcases List.mem_or_eq_of_mem_set hy with h' | rfl
  · exact h y h'
  · exact hx
/-- one more is gathered where its key stands -/
theorem GAt.hit {P0 P : Pr T} {p : Addr} {kvs : List (List Key × V)} {G : List (List Key × List PyData)} (g : GAt K P0 P p kvs G) (l : Le P0 P) {ks : List Key} {v w : V} {d : PyData} (hv : valV kvs ks = some v) (r : Rp K P.M w d) :
    ∃ q xs Q, v = V.ref q ∧ P.H q = some (.lst xs) ∧ (∃ ds, (ks, ds) ∈ G ∧ xs.length = ds.length) ∧ Q.M = P.M ∧ Q.H = upd P.H q (.lst (xs ++ [w])) ∧ Le P0 Q ∧ GAt K P0 (T := T) Q p kvs (addG G ks d) := by
  obtain ⟨q, xs, as, bs, As, Bs, ds, rfl, rfl, rfl, e4, e5, e6, e7, e8⟩ := dl_hit g.each hv
  obtain ⟨Q, hM, hH⟩ := P.mut1 (o' := .lst (xs ++ [w])) e6 e7 (fun _ z => nomatch z) (fun _ _ z => by unfold LamX.CodeO at z; cases z)
  have lq : Loose P0.H q := g.los (ks, V.ref q) (List.mem_append_right _ List.mem_cons_self) q rfl
  have npq : p ≠ q := fun z => by
    have := g.h
    rw [z, e7] at this
    cases this
  have nk := g.nk
  have nv := g.nv
  rw [List.map_append, List.map_cons, List.nodup_append] at nk nv
  have ka : ks ∉ as.map (·.1) := fun z => nk.2.2 ks z ks List.mem_cons_self rfl
  have kb : ks ∉ bs.map (·.1) := (List.nodup_cons.mp nk.2.1).1
  have va : V.ref q ∉ as.map (·.2) := fun z => nv.2.2 _ z _ List.mem_cons_self rfl
  have vb : V.ref q ∉ bs.map (·.2) := (List.nodup_cons.mp nv.2.1).1
  have keep : ∀ {l : List (List Key × V)} {L : List (List Key × List PyData)}, V.ref q ∉ l.map (·.2) → PySem.W.EachIs (DL K P) l L → PySem.W.EachIs (DL K Q) l L := fun {l L} hn h => each_imp h fun a ha b hb => by
    obtain ⟨h1, q', xs', h2, h3, h4, h5⟩ := hb
    have ne : q' ≠ q := fun z => hn (List.mem_map.mpr ⟨a, ha, by rw [h2, z]⟩)
    exact ⟨h1, q', xs', h2, by rw [hM]; exact h3, by rw [hH, upd_ne ne]; exact h4, by rw [hM]; exact h5⟩
  refine ⟨q, xs, Q, rfl, e7, ⟨ds, List.mem_append_right _ List.mem_cons_self, e8.length⟩, hM, hH, le_mut1 l lq hM hH, ⟨by rw [hM]; exact g.m, by rw [hH, upd_ne npq]; exact g.h, ?_, g.nk, g.nv, g.lo, g.los⟩⟩
  rw [add_hit (by rw [← dl_keys e4]; exact ka) (by rw [← dl_keys e5]; exact kb)]
  exact each_app (keep va e4) (.cons ⟨rfl, q, _, rfl, by rw [hM]; exact e6, by rw [hH]; exact upd_same, by rw [hM]; exact RpAll.append e8 (.cons r .nil)⟩ (keep vb e5))
theorem GAt.fresh {P0 P : Pr T} {p : Addr} {kvs : List (List Key × V)} {G : List (List Key × List PyData)} (g : GAt K P0 P p kvs G) (l : Le P0 P) {ks : List Key} (hv : valV kvs ks = none) {q : Addr} (hq : P.H q = none) :
    ∃ Q : Pr T, Q.M = P.M ∧ Q.H = upd (upd P.H q (.lst [])) p (.dT (kvs ++ [(ks, V.ref q)])) ∧ Le P0 Q ∧ (upd P.H q (.lst [])) p = some (.dT kvs) ∧ Q.H q = some (.lst []) ∧ Q.M q = none ∧ GAt K P0 Q p kvs G = GAt K P0 Q p kvs G ∧
      (∀ e ∈ kvs, e.2 ≠ V.ref q) ∧ PySem.W.EachIs (DL K Q) kvs G ∧ Loose P0.H q ∧ p ≠ q := by
  have npq : p ≠ q := fun z => by
    have := g.h
    rw [z, hq] at this
    cases this
  have mq := P.none hq
  have lq : Loose P0.H q := fun o ho => by
    by_cases t : ∃ ps, o = HO.tbl ps
    · exact t
    · have := l.h q o ho fun ps z => t ⟨ps, z⟩
      rw [hq] at this
      cases this
  have hp1 : (P.hid q (.lst []) hq).H p = some (.dT kvs) := by
    show upd P.H q _ p = _
    rw [upd_ne npq]
    exact g.h
  obtain ⟨Q, hM, hH⟩ := (P.hid q (.lst []) hq).mut1 (o' := .dT (kvs ++ [(ks, V.ref q)])) g.m hp1 (fun _ z => nomatch z) (fun _ _ z => by unfold LamX.CodeO at z; cases z)
  have nv : ∀ e ∈ kvs, e.2 ≠ V.ref q := fun e he z => by
    obtain ⟨b, _, _, q', xs, h2, _, h4, _⟩ := g.each.left e he
    rw [h2] at z
    cases z
    rw [hq] at h4
    cases h4
  refine ⟨Q, hM, hH, le_mut1 (l.trans (le_hid P hq)) g.lo hM hH, hp1, ?_, by rw [hM]; exact mq, rfl, nv, each_imp g.each fun a ha b hb => ?_, lq, npq⟩
  · rw [hH, upd_ne (Ne.symm npq)]
    exact upd_same
  · obtain ⟨h1, q', xs', h2, h3, h4, h5⟩ := hb
    have n1 : q' ≠ q := fun z => nv a ha (by rw [h2, z])
    have n2 : q' ≠ p := fun z => by
      rw [z, g.h] at h4
      cases h4
    refine ⟨h1, q', xs', h2, by rw [hM]; exact h3, ?_, by rw [hM]; exact h5⟩
    rw [hH, upd_ne n2]
    show upd P.H q _ q' = _
    rw [upd_ne n1]
    exact h4
/-- one more is gathered under a new key -/
theorem GAt.more {P0 P : Pr T} {p : Addr} {kvs : List (List Key × V)} {G : List (List Key × List PyData)} (g : GAt K P0 P p kvs G) (l : Le P0 P) {ks : List Key} (hv : valV kvs ks = none) {q : Addr} (hq : P.H q = none) {w : V} {d : PyData} (r : Rp K P.M w d) :
    ∃ Q : Pr T, Q.M = P.M ∧ Q.H = upd (upd (upd P.H q (.lst [])) p (.dT (kvs ++ [(ks, V.ref q)]))) q (.lst ([] ++ [w])) ∧ (upd P.H q (.lst [])) p = some (.dT kvs) ∧ (upd (upd P.H q (.lst [])) p (.dT (kvs ++ [(ks, V.ref q)]))) q = some (.lst []) ∧ Le P0 Q ∧ GAt K P0 Q p (kvs ++ [(ks, V.ref q)]) (addG G ks d) := by
  obtain ⟨Q1, hM, hH, l1, hp1, hq1, mq1, _, nv, ea, lq, npq⟩ := g.fresh l (ks := ks) hv hq
  obtain ⟨Q, hM2, hH2⟩ := Q1.mut1 (o' := .lst ([] ++ [w])) mq1 hq1 (fun _ z => nomatch z) (fun _ _ z => by unfold LamX.CodeO at z; cases z)
  have kn := val_none hv
  refine ⟨Q, hM2.trans hM, by rw [hH2, hH], hp1, by rw [← hH]; exact hq1, le_mut1 l1 lq hM2 hH2, ⟨by rw [hM2, hM]; exact g.m, ?_, ?_, ?_, ?_, g.lo, fun e he q' hq' => ?_⟩⟩
  · rw [hH2, upd_ne npq, hH]
    exact upd_same
  · rw [add_new (by rw [← dl_keys g.each]; exact kn)]
    refine each_app (each_imp ea fun a ha b hb => ?_) (.cons ⟨rfl, q, _, rfl, by rw [hM2]; exact mq1, by rw [hH2]; exact upd_same, .cons (by rw [hM2, hM]; exact r) .nil⟩ .nil)
    obtain ⟨h1, q', xs', h2, h3, h4, h5⟩ := hb
    have n1 : q' ≠ q := fun z => nv a ha (by rw [h2, z])
    exact ⟨h1, q', xs', h2, by rw [hM2]; exact h3, by rw [hH2, upd_ne n1]; exact h4, by rw [hM2]; exact h5⟩
  · rw [List.map_append, List.nodup_append]
    exact ⟨g.nk, by simp, fun a ha b hb e => kn (by
      have e : a = ks := e.trans (List.mem_singleton.mp hb)
      rw [e] at ha
      exact ha)⟩
  · rw [List.map_append, List.nodup_append]
    refine ⟨g.nv, by simp, fun a ha b hb e => ?_⟩
    obtain ⟨x, hx, rfl⟩ := List.mem_map.mp ha
    rw [List.mem_singleton.mp hb] at e
    exact nv x hx e
  · rcases List.mem_append.mp he with h | h
    · exact g.los e h q' hq'
    · rw [List.mem_singleton.mp h] at hq'
      cases hq'
      exact lq
open Classical in
/-- what was gathered is data, the dict known from now on -/
theorem GAt.done {P0 P : Pr T} {p : Addr} {kvs : List (List Key × V)} {G : List (List Key × List PyData)} (g : GAt K P0 P p kvs G) (l : Le P0 P) (od : Obj) : ∃ Q : Pr T, Q.H = upd P.H p (.frz od (.dT kvs)) ∧ Le P0 Q ∧ Ex P.M Q.M ∧ Rp K Q.M (V.ref p) (dG G) := by
  let inn : Addr → Prop := fun a => ∃ e ∈ kvs, e.2 = V.ref a
  have plain : ∀ a, inn a → P.M a = none ∧ (∃ o, P.H a = some o ∧ Plain o) ∧ Loose P0.H a ∧ a ≠ p := fun a ha => by
    obtain ⟨e, he, h2⟩ := ha
    obtain ⟨b, _, _, q, xs, e2, e3, e4, _⟩ := g.each.left e he
    rw [e2] at h2
    cases h2
    refine ⟨e3, ⟨_, e4, fun _ z => nomatch z⟩, g.los e he a e2, fun z => ?_⟩
    rw [z, g.h] at e4
    cases e4
  let M' : Hp := fun a => if a = p then some (.frz od (.dT kvs)) else if inn a then P.H a else P.M a
  have em : Ex P.M M' := fun b u e q => by
    have n1 : b ≠ p := fun z => by rw [z, g.m] at e; cases e
    have n2 : ¬ inn b := fun z => by rw [(plain b z).1] at e; cases e
    show (if b = p then _ else if inn b then P.H b else P.M b) = some u
    rw [if_neg n1, if_neg n2]
    exact e
  have at' : ∀ a o, inn a → P.H a = some o → M' a = some o := fun a o ha ho => by
    show (if a = p then _ else if inn a then P.H a else P.M a) = some o
    rw [if_neg (plain a ha).2.2.2, if_pos ha]
    exact ho
  have atp : M' p = some (.frz od (.dT kvs)) := if_pos rfl
  refine ⟨⟨M', upd P.H p (.frz od (.dT kvs)), fun b u e q => ?_, tabs_mut P.tab g.h (fun _ z => nomatch z) (fun _ _ z => by unfold LamX.CodeO at z; cases z), fun a ps z => ?_⟩, rfl, ⟨l.m.trans em, fun b u e q => ?_, fun a h1 h2 => ?_⟩, em, ?_⟩
  · by_cases hb : b = p
    · subst hb
      rw [atp] at e
      cases e
      exact upd_same
    · have e : (if b = p then some (HO.frz od (.dT kvs)) else if inn b then P.H b else P.M b) = some u := e
      rw [if_neg hb] at e
      rw [upd_ne hb]
      split at e
      · exact e
      · exact P.sub b u e q
  · by_cases hb : a = p
    · subst hb
      rw [atp] at z
      cases z
    · have z : (if a = p then some (HO.frz od (.dT kvs)) else if inn a then P.H a else P.M a) = some (.tbl ps) := z
      rw [if_neg hb] at z
      split at z
      · rename_i ha
        obtain ⟨_, ⟨o, ho, n⟩, _⟩ := plain a ha
        rw [ho] at z
        cases z
        exact n ps rfl
      · exact P.nt a ps z
  · have ne : b ≠ p := fun z => by
      rw [z] at e
      obtain ⟨ps, w⟩ := g.lo u e
      exact q ps w
    show upd P.H p _ b = some u
    rw [upd_ne ne]
    exact l.h b u e q
  · by_cases hb : a = p
    · rw [hb]
      exact .inl g.lo
    · have h2 : (if a = p then some (HO.frz od (.dT kvs)) else if inn a then P.H a else P.M a) ≠ none := h2
      rw [if_neg hb] at h2
      split at h2
      · rename_i ha
        exact .inl (plain a ha).2.2.1
      · exact l.f a h1 h2
  · have hv : ∀ {l : List (List Key × V)} {L : List (List Key × List PyData)}, (∀ e ∈ l, e ∈ kvs) → PySem.W.EachIs (DL K P) l L → l.map (fun e => PyData.tuple (e.1.map keyD)) = (L.map fun e => ((PyData.tuple (e.1.map keyD), PyData.list e.2) : PyData × PyData)).map (·.1) ∧ RpAll K M' (l.map (·.2)) ((L.map fun e => ((PyData.tuple (e.1.map keyD), PyData.list e.2) : PyData × PyData)).map (·.2)) := by
      intro l L sub h
      induction h with
      | nil => exact ⟨rfl, .nil⟩
      | @cons a b as bs h t ih =>
        obtain ⟨i1, i2⟩ := ih fun e he => sub e (List.mem_cons_of_mem _ he)
        obtain ⟨h1, q, xs, h2, h3, h4, h5⟩ := h
        refine ⟨?_, ?_⟩
        · rw [List.map_cons, List.map_cons, List.map_cons, i1, h1]
        · rw [List.map_cons, List.map_cons, List.map_cons]
          refine .cons ?_ i2
          show Rp K M' a.2 (.list b.2)
          rw [h2]
          exact .lst (SqL.of (at' q _ ⟨a, sub a List.mem_cons_self, h2⟩ h4)) (h5.ext em)
    obtain ⟨k1, k2⟩ := hv (fun e he => he) g.each
    exact .dcT atp k1 k2
/-- a thing is known from now on: it is read, never written -/
def tFrz (t : TS) : TS := fun D σ H => t ⟨fun σ' H' => ∃ d u, H' d = some u ∧ Mut (some u) ∧ ∀ od, D.nx σ' (upd H' d (.frz od u)), D.rt, D.bk, D.ct⟩ σ H
theorem ps_frz {t : TS} (h : PS X st t) : PS X st (tFrz t) := by
  refine ⟨fun pins s σ H D I hw => ?_⟩
  refine thn (h.run pins s σ H _ I hw) fun f s1 q => ?_
  cases f with
  | next =>
    obtain ⟨σ', H', I2, d, u, hd, mu, q⟩ := q
    obtain ⟨od, I3⟩ := I2.lock hd mu
    exact ⟨σ', _, I3, q od⟩
  | brk => exact q
  | cont => exact q
  | ret v => exact q
end
end PM
namespace PM
open PySem PySem.Spec PyProof.Rows L2 LB
section
variable {T : Tb} {K : PySem.W.Frag} {X : Cx} {e : Expr} {st : Stmt} {R : ER}
theorem add_len {G : List (List Key × List PyData)} {ks : List Key} {d : PyData} {n : Nat} (h1 : G.length ≤ n) (h2 : ∀ e ∈ G, e.2.length ≤ n) : (addG G ks d).length ≤ n + 1 ∧ ∀ e ∈ addG G ks d, e.2.length ≤ n + 1 := by
  unfold addG
  split
  · refine ⟨by rw [List.length_map]; omega, fun e he => ?_⟩
    obtain ⟨x, hx, rfl⟩ := List.mem_map.mp he
    have := h2 x hx
    split
    · show (x.2 ++ [d]).length ≤ _
      rw [List.length_append]
      show x.2.length + 1 ≤ _
      omega
    · omega
  · refine ⟨by rw [List.length_append]; show G.length + 1 ≤ _; omega, fun e he => ?_⟩
    rcases List.mem_append.mp he with h | h
    · have := h2 e h
      omega
    · rw [List.mem_singleton.mp h]
      show 1 ≤ _
      omega
abbrev tGa (K : PySem.W.Frag) (T : Tb) (i j c : Nat) (mi : MA) (me : ME) : TS := tFor (tI K T mi) (tG K T [c] (gN c)) (tSeq (tAsg (tD K T me) (gName j)) (tSeq (tIfS (tB (tDNotIn (tVar j) (tVar i))) (tSeq (sDPut (tVar i) (tVar j) (tLst tNil)) tNext) tNext) (tSeq (tDrop (tBM K "list" rAppend (tDGet (tVar i) (tVar j)) (tCons (tVar c) tNil))) tNext)))
theorem s_gather {i j c : Nat} {mi : MA} {me : ME} (hci : c ≠ i) (hji : j ≠ i) (hcj : c ≠ j) (h : PS X st (tFrz (tGa K T i j c mi me))) : PS X st (tSR K T R (mGather i j c mi me)) := ps_to h fun D σ H ⟨P0, P, ρ, o, h1, s, h2, q⟩ => by
  subst h1
  unfold mGather at h2
  split at h2
  · rename_i hd
    obtain ⟨ds, e0, h3⟩ := bind_eq h2
    split at h3
    · rename_i hh
      obtain ⟨few, ⟨cl, jl⟩, pl⟩ := hh
      obtain ⟨⟨ρf, Gf⟩, eg, rfl⟩ := map_eq h3
      obtain ⟨u, g1, g2⟩ := s.ok i _ hd
      cases g2 with
      | @own p _ r =>
      have lo := s.fr i _ p hd g1
      have il : i < ρ.length := (List.getElem?_eq_some_iff.mp hd).1
      refine ⟨P0, P, ρ, ds, rfl, s, e0, fun J P1 l1 wk => ?_⟩
      have r1 := r.up l1
      have s1 := s.up l1
      have ga : GAt K P0 P1 p [] [] := by
        cases r1 with
        | @dT kvs _ a1 a2 a3 =>
          cases a3
          exact ⟨a1, a2, .nil, List.nodup_nil, List.nodup_nil, lo, fun e he => absurd he List.not_mem_nil⟩
      have sp : St K P0 P1 σ (ρ.set i .no) := by
        have pp : ∀ (k : Nat) x, (ρ.set i .no)[k]? = some x → plS x = true := fun k x hx => List.all_eq_true.mp pl x (List.mem_of_getElem? hx)
        refine ⟨s1.le, by rw [List.length_set]; exact s1.len, fun k x hx => ?_, fun a b p d e ne h1 h2 h3 h4 => ?_, fun a d p h1 h2 => ?_, fun a b p ks ls ne h1 h2 h3 h4 => ?_, fun a ks p h1 h2 => ?_⟩
        · rcases getset hx with ⟨rfl, rfl, _⟩ | ⟨ne, hx⟩
          · exact ⟨_, g1, .no⟩
          · exact s1.ok k x hx
        · have := pp a _ h1
          cases this
        · have := pp a _ h1
          cases this
        · have := pp a _ h1
          cases this
        · have := pp a _ h1
          cases this
      refine ⟨fun n m σ' H' => m = ds.length - n ∧ n ≤ ds.length ∧ ∃ (Pc : Pr T) (ρ' : Ev) (kvs : List (List Key × V)) (G : List (List Key × List PyData)), Pc.H = H' ∧ Ex P1.M Pc.M ∧ St K P0 Pc σ' ρ' ∧ ρ'.all plS = true ∧ ρ'.length = ρ.length ∧ σ'[i]? = some (some (.ref p)) ∧ GAt K P0 Pc p kvs G ∧ G.length ≤ n ∧ (∀ e ∈ G, e.2.length ≤ n) ∧ gaGo c j me (ds.drop n) ρ' G = some (ρf, Gf),
        ⟨ds.length, by simp, Nat.zero_le _, P1, ρ.set i .no, [], [], rfl, ex_refl _, sp, pl, List.length_set, g1, ga, Nat.zero_le _, fun e he => absurd he List.not_mem_nil, eg⟩, ?_⟩
      rintro n m σ' H' ⟨rfl, hi, Pc, ρ', kvs, G, rfl, lc, sc, plc, il', gi, g, gl, gls, eg⟩
      by_cases hlt : n < ds.length
      · refine .inr ⟨wk.go n Pc hlt lc, fun σ2 H2 => ∃ m', m' < ds.length - n ∧ (m' = ds.length - (n + 1) ∧ n + 1 ≤ ds.length ∧ ∃ (Pc : Pr T) (ρ' : Ev) (kvs : List (List Key × V)) (G : List (List Key × List PyData)), Pc.H = H2 ∧ Ex P1.M Pc.M ∧ St K P0 Pc σ2 ρ' ∧ ρ'.all plS = true ∧ ρ'.length = ρ.length ∧ σ2[i]? = some (some (.ref p)) ∧ GAt K P0 Pc p kvs G ∧ G.length ≤ n + 1 ∧ (∀ e ∈ G, e.2.length ≤ n + 1) ∧ gaGo c j me (ds.drop (n + 1)) ρ' G = some (ρf, Gf)), fun σ2 H2 hh => hh, fun x H'' y => ?_⟩
        obtain ⟨P3, rfl, l3, dd, hdd, rx⟩ := wk.yld n Pc x H'' hlt lc y
        rw [drop_some hdd] at eg
        obtain ⟨l, el, eg⟩ := bind_eq eg
        obtain ⟨ks, ek, eg⟩ := bind_eq eg
        have s3 := sc.up l3
        refine ⟨P0, P3, ρ', dd, ρ'.set c (.val dd), rfl, s3, rx, rfl, fun σ2 s2 _ hk => ?_⟩
        have gi2 : σ2[i]? = some (some (.ref p)) := by
          rw [hk i (by simp; exact Ne.symm hci)]
          exact gi
        have g3 := g.up l3
        refine ⟨P0, P3, ρ'.set c (.val dd), l, rfl, s2, el, fun v P4 l4 rv => ?_⟩
        have g4 := g3.up l4
        have s4 := (s2.up l4).set rv j
        have gi4 : (σ2.set j (some v))[i]? = some (some (.ref p)) := by
          rw [List.getElem?_set_ne hji]
          exact gi2
        have pl4 : ((ρ'.set c (.val dd)).set j (.val l)).all plS = true := all_set (all_set plc rfl) rfl
        have il4 : ((ρ'.set c (.val dd)).set j (.val l)).length = ρ.length := by
          rw [List.length_set, List.length_set]
          exact il'
        obtain ⟨w, hc4, rw4⟩ : ∃ w, (σ2.set j (some v))[c]? = some (some w) ∧ Rp K P4.M w dd := by
          have e1 : ((ρ'.set c (.val dd)).set j (.val l))[c]? = some (.val dd) := by
            rw [List.getElem?_set_ne (Ne.symm hcj), List.getElem?_set_self (by rw [il']; exact cl)]
          obtain ⟨w, k1, k2⟩ := s4.ok c _ e1
          cases k2 with
          | val r => exact ⟨_, k1, r⟩
        have hj4 : (σ2.set j (some v))[j]? = some (some v) := List.getElem?_set_self (by
          have := s2.len
          rw [List.length_set] at this
          rw [this, il']
          exact jl)
        obtain ⟨b, rfl, hb⟩ : ∃ b, v = V.ref b ∧ P4.M b = some (.tup (ks.map kV)) := by
          cases l with
          | tuple kd =>
            cases rv with
            | @tup b xs _ hb ra =>
              rw [keysK_eq ek] at ra
              rw [rpk_inv ra] at hb
              exact ⟨b, rfl, hb⟩
          | _ => cases ek
        have hbH : P4.H b = some (.tup (ks.map kV)) := P4.sub _ _ hb fun _ z => nomatch z
        have lc4 : Ex P1.M P4.M := lc.trans (l3.m.trans l4.m)
        have kl : kvs.length = G.length := g.each.length
        obtain ⟨n1, n2⟩ := add_len (ks := ks) (d := dd) gl gls
        refine ⟨_, hj4, _, gi4, p, valV kvs ks, rfl, DGet.t g4.h hbH, _, rfl, ?_⟩
        cases hv : valV kvs ks with
        | none =>
          refine iteT ?_
          refine ⟨Nat.zero_le _, fun q hq => ?_⟩
          obtain ⟨Q, hM, hH, hp1, hq1, lQ, gQ⟩ := g4.more s4.le (ks := ks) hv hq rw4
          have nbq : b ≠ q := fun z => by
            rw [z, hq] at hbH
            cases hbH
          have nbp : b ≠ p := fun z => by
            rw [z, g4.h] at hbH
            cases hbH
          have hb1 : (upd P4.H q (.lst [])) b = some (.tup (ks.map kV)) := by
            rw [upd_ne nbq]
            exact hbH
          have kn := val_none hv
          refine ⟨_, gi4, _, hj4, p, _, rfl, DPut.t hp1 hb1 (Nat.lt_of_le_of_lt (by rw [kl]; exact Nat.le_trans gl (Nat.le_trans (Nat.le_of_lt hlt) few)) (by decide)), ?_⟩
          rw [put_new kn]
          have hb2 : (upd (upd P4.H q (.lst [])) p (.dT (kvs ++ [(ks, V.ref q)]))) b = some (.tup (ks.map kV)) := by
            rw [upd_ne nbp]
            exact hb1
          refine ⟨_, gi4, _, hj4, p, V.ref q, rfl, (val_new (v := V.ref q) kn) ▸ DGet.t upd_same hb2, .inl ⟨rfl, [], SqL.of hq1⟩, w, hc4, q, [], w, rfl, rfl, hq1, by decide, ?_⟩
          exact ⟨_, Nat.sub_lt_sub_left hlt (Nat.lt_succ_self n), rfl, hlt, Q, _, _, _, hH, by rw [hM]; exact lc4, s4.plain pl4 lQ (by rw [hM]; exact ex_refl _), pl4, il4, gi4, gQ, n1, n2, eg⟩
        | some v' =>
          obtain ⟨q, xs, Q, rfl, hq, ⟨ds', hds, hxl⟩, hM, hH, lQ, gQ⟩ := g4.hit s4.le hv rw4
          have hl : ds'.length ≤ n := gls _ hds
          refine iteF ?_
          refine ⟨_, gi4, _, hj4, p, V.ref q, rfl, hv ▸ DGet.t g4.h hbH, .inl ⟨rfl, xs, SqL.of hq⟩, w, hc4, q, xs, w, rfl, rfl, hq, szl (by rw [hxl]; omega), ?_⟩
          exact ⟨_, Nat.sub_lt_sub_left hlt (Nat.lt_succ_self n), rfl, hlt, Q, _, _, _, hH, by rw [hM]; exact lc4, s4.plain pl4 lQ (by rw [hM]; exact ex_refl _), pl4, il4, gi4, gQ, n1, n2, eg⟩
      · have ei : n = ds.length := by omega
        subst ei
        rw [List.drop_length] at eg
        cases eg
        refine .inl ⟨wk.stop Pc lc, p, .dT kvs, g.h, True.intro, fun od => ?_⟩
        obtain ⟨Q, hQ, lQ, mQ, rQ⟩ := g.done sc.le od
        have sQ := sc.plain plc lQ mQ
        have sf : St K P0 Q σ' (ρf.set i (.val (dG Gf))) := by
          have := sQ.set rQ i
          have e : σ'.set i (some (.ref p)) = σ' := by
            refine List.ext_getElem? fun k => ?_
            by_cases z : i = k
            · subst z
              rw [List.getElem?_set_self (by rw [sQ.len, il']; exact il), gi]
            · rw [List.getElem?_set_ne z]
          rw [e] at this
          exact this
        have := q Q σ' sf
        rw [hQ] at this
        exact this
    · cases h3
  · cases h2
end
end PM
namespace PM
open PySem PySem.Spec PyProof.Rows L2 LB
section
variable {T : Tb} {K : PySem.W.Frag} {X : Cx} {e : Expr} {st : Stmt} {R : ER}
/-! ### d[k], list(d) of a datum whose keys are tuples -/
theorem getT_in {M : Hp} {ks : List Key} {d : PyData} : ∀ {kvs : List (List Key × V)} {ds : List (PyData × PyData)}, kvs.map (fun e => PyData.tuple (e.1.map keyD)) = ds.map (·.1) → RpAll K M (kvs.map (·.2)) (ds.map (·.2)) → getD ds ks = some d → ∃ v, valV kvs ks = some v ∧ Rp K M v d
  | [], [], _, _, h => by cases h
  | (a, v) :: kvs, (b, dv) :: ds, h1, h2, h => by
    have e1 : PyData.tuple (a.map keyD) = b := by injection h1
    have e2 : kvs.map (fun e => PyData.tuple (e.1.map keyD)) = ds.map (·.1) := by injection h1
    subst e1
    have ka : keyL (.tuple (a.map keyD)) = some a := keysK_of a
    cases h2 with
    | cons r1 r2 =>
      unfold getD at h
      rw [List.find?_cons] at h
      unfold valV
      rw [List.find?_cons]
      by_cases z : a = ks
      · subst z
        rw [decide_eq_true (by exact ka)] at h
        cases h
        rw [decide_eq_true rfl]
        exact ⟨v, rfl, r1⟩
      · rw [decide_eq_false (fun w => z (by rw [ka] at w; exact Option.some.inj w))] at h
        rw [decide_eq_false z]
        exact getT_in e2 r2 h
  | [], _ :: _, h1, _, _ => by cases h1
  | _ :: _, [], h1, _, _ => by cases h1
theorem getK_no {ks : List Key} : ∀ {kvs : List (Key × V)} {ds : List (PyData × PyData)}, kvs.map (fun e => keyD e.1) = ds.map (·.1) → getD ds ks = none
  | [], [], _ => rfl
  | (a, v) :: kvs, (b, dv) :: ds, h1 => by
    have e1 : keyD a = b := by injection h1
    have e2 : kvs.map (fun e => keyD e.1) = ds.map (·.1) := by injection h1
    subst e1
    unfold getD
    rw [List.find?_cons, decide_eq_false (fun w => by cases a <;> cases w)]
    exact getK_no e2
  | [], _ :: _, h1 => by cases h1
  | _ :: _, [], h1 => by cases h1
def oGetT (a b : PyData) : Option PyData := match a, b with
  | .dict ds, .tuple kd => (keysK kd).bind fun ks => getD ds ks
  | _, _ => none
theorem c_dgetT {a key : ME} (h : PE X e (tDGet (tD K T a) (tD K T key))) : PE X e (tD K T (mOp oGetT a key)) := pe_to h fun σ H Q ⟨P0, P, ρ, d, h1, s, h2, q⟩ => by
  subst h1
  obtain ⟨x, ex, h3⟩ := bind_eq h2
  obtain ⟨y, ey, h4⟩ := bind_eq h3
  clear h2 h3
  unfold oGetT at h4
  split at h4
  · rename_i ds kd
    obtain ⟨ks, ek, h5⟩ := bind_eq h4
    refine ⟨P0, P, ρ, _, rfl, s, ex, fun v P1 l1 r1 => ⟨P0, P1, ρ, _, rfl, s.up l1, ey, fun w P2 l2 r2 => ?_⟩⟩
    have r3 := r1.ext l2.m
    cases r2 with
    | @tup b xs _ hb ra =>
      rw [keysK_eq ek] at ra
      rw [rpk_inv ra] at hb
      cases r3 with
      | @dct p od kvs _ hp hk hv =>
        rw [getK_no hk] at h5
        cases h5
      | @dcT p od kvs _ hp hk hv =>
        obtain ⟨u, eu, ru⟩ := getT_in hk hv h5
        refine ⟨p, u, rfl, ?_, q u P2 (l1.trans l2) ru⟩
        rw [← eu]
        exact .inr ⟨kvs, ks, b, .inr ⟨_, P2.sub _ _ hp (fun _ z => nomatch z)⟩, rfl, P2.sub _ _ hb (fun _ z => nomatch z), rfl⟩
  · cases h4
def rKeysT : List V → Hp → VK → Prop := fun xs H Q => ∃ d kvs, xs = [V.ref d] ∧ Rd H d (.dT kvs) ∧ ∀ p bs, H p = none → IsKeys H kvs bs → Q (.ref p) (upd H p (.lst (bs.map V.ref)))
def oKeysT : List PyData → Option PyData
  | [.dict ((.tuple t, v) :: ds)] => some (.list ((.tuple t :: ds.map (·.1))))
  | _ => none
theorem keys_each {H : Hp} : ∀ {kvs : List (List Key × V)} {bs : List Addr} {ds : List PyData}, IsKeys H kvs bs → kvs.map (fun e => PyData.tuple (e.1.map keyD)) = ds → PySem.W.EachIs (TupK H) bs ds
  | _, _, _, .nil, h => by
    subst h
    exact .nil
  | _, _, _, .cons (a := a) h t, hd => by
    subst hd
    exact .cons ⟨a.1, rfl, h⟩ (keys_each t rfl)
theorem cb_keysT : CbF K T rKeysT oKeysT := by
  intro P vs ds d ra h Q q
  unfold oKeysT at h
  split at h
  · rename_i t v ds
    cases h
    cases ra with
    | cons r1 r2 =>
      cases r2
      have r : Rp K P.M _ (.dict ((.tuple t, v) :: ds)) ∨ _ := r1
      rcases r with r | ⟨p, rfl, r⟩
      · cases r with
        | @dct p od kvs _ hp hk hv =>
          exfalso
          cases kvs with
          | nil => cases hk
          | cons a kvs =>
            have : keyD a.1 = .tuple t := by injection hk
            cases ha : a.1 <;> rw [ha] at this <;> cases this
        | @dcT p od kvs _ hp hk hv =>
          refine ⟨p, kvs, rfl, .inr ⟨_, P.sub _ _ hp fun _ z => nomatch z⟩, fun l bs hl ik => ?_⟩
          obtain ⟨P1, e1, l1, r1⟩ := showAll (K := K) P (keys_each ik hk)
          have hl1 : P1.H l = none := by rw [e1]; exact hl
          have := q l (P1.hid l (.lst (bs.map V.ref)) hl1) (l1.trans (le_hid P1 hl1)) (.lst (P1.none hl1) upd_same r1) (loose_none hl)
          have eh : (P1.hid l (.lst (bs.map V.ref)) hl1).H = upd P.H l (.lst (bs.map V.ref)) := by
            show upd P1.H l _ = _
            rw [e1]
          rw [eh] at this
          exact this
      · cases r with
        | @dT kvs _ a1 a2 a3 =>
          refine ⟨p, kvs, rfl, .inl a2, fun l bs hl ik => ?_⟩
          have hk : kvs.map (fun e => PyData.tuple (e.1.map keyD)) = ((PyData.tuple t, v) :: ds).map (·.1) := by
            have : ∀ {as : List (List Key × V)} {bs : List (PyData × PyData)}, PySem.W.EachIs (DT K P.M) as bs → as.map (fun e => PyData.tuple (e.1.map keyD)) = bs.map (·.1) := by
              intro as bs h
              induction h with
              | nil => rfl
              | cons h t ih => rw [List.map_cons, List.map_cons, ih, h.1]
            exact this a3
          obtain ⟨P1, e1, l1, r1⟩ := showAll (K := K) P (keys_each ik hk)
          have hl1 : P1.H l = none := by rw [e1]; exact hl
          have := q l (P1.hid l (.lst (bs.map V.ref)) hl1) (l1.trans (le_hid P1 hl1)) (.lst (P1.none hl1) upd_same r1) (loose_none hl)
          have eh : (P1.hid l (.lst (bs.map V.ref)) hl1).H = upd P.H l (.lst (bs.map V.ref)) := by
            show upd P1.H l _ = _
            rw [e1]
          rw [eh] at this
          exact this
  · cases h
theorem mKeysT_is {a : MA} (ρ : Ev) (d : PyData) (h : mCb oKeysT a ρ = some d) : isLst d = true := by
  obtain ⟨x, _, h⟩ := bind_eq h
  unfold oKeysT at h
  split at h
  · cases h
    rfl
  · cases h
/-! ### min(list), max(list) of data -/
open PySem.W in
theorem minD_mem : ∀ (xs : List PyData) (x : PyData), minD x xs ∈ x :: xs
  | [], x => List.mem_cons_self
  | y :: xs, x => by
    unfold minD
    rw [List.foldl_cons]
    have := minD_mem xs (if PySem.W.dataLt y x = true then y else x)
    unfold minD at this
    rcases List.mem_cons.mp this with h | h
    · rw [h]
      split
      · exact List.mem_cons_of_mem _ List.mem_cons_self
      · exact List.mem_cons_self
    · exact List.mem_cons_of_mem _ (List.mem_cons_of_mem _ h)
theorem lay_mem : ∀ {ds : List PyData} {d : PyData}, PyData.canLayAll0 ds = true → d ∈ ds → d.canLay0 = true
  | _ :: ds, d, h, hd => by
    unfold PyData.canLayAll0 at h
    rw [Bool.and_eq_true] at h
    rcases List.mem_cons.mp hd with rfl | hd
    · exact h.1
    · exact lay_mem h.2 hd
open PySem.W in
def rMinL (K : PySem.W.Frag) : List V → Hp → VK → Prop := fun vs H Q => ∃ (a : Addr) (xs : List V) (x : PyData) (ds : List PyData), vs = [.ref a] ∧ SqL K H a xs ∧ DpAll K H xs (x :: ds) ∧ PyData.canLayAll0 (x :: ds) = true ∧ AlikeAll (x :: ds) ∧ PyData.depthAll (x :: ds) ≤ 40 ∧
  ∀ (i : Nat) v, xs[i]? = some v → (x :: ds)[i]? = some (minD x ds) → Q v H
open PySem.W in
theorem cr_minL (hc : X.calm = true) (hu : X.A.units + 64 < cLine) (hK : X.K = K := by rfl) : CallR X (.builtin "min") (rMinL K) := by
  subst hK
  intro pins s σ H xs us Q I r h
  obtain ⟨a, xs, x, ds, rfl, hs, ra, hl, ha, hd, q⟩ := h
  obtain rfl := Vals.ref1 r
  obtain ⟨its, rv, pl, hz⟩ := I.list hs
  obtain ⟨as, hr⟩ := Dp.readsAll I (x :: ds) xs its ra rv
  refine min_list_data (I.ok.hd hc) pl.isList (by exact hr) ha (by omega) fun i v h' tk bs hi rd hk => ?_
  have hi' : its[i]? = some v := by simpa using hi
  obtain ⟨cs, r2, il, _, _⟩ := readsAll_at hr i v hi'
  have e1 : (x :: ds)[i]? = some ((x :: ds).getD i .none) := by
    rw [List.getD_eq_getElem?_getD, List.getElem?_eq_getElem il]
    rfl
  have l1 : ((x :: ds).getD i .none).canLay0 = true := lay_mem hl (List.mem_of_getElem? e1)
  have l2 : (minD x ds).canLay0 = true := lay_mem hl (minD_mem ds x)
  have ee : (x :: ds).getD i .none = minD x ds := by
    rw [← SeqAt.readOf_eq l1 (reads_keeps hk r2), ← SeqAt.readOf_eq l2 rd]
  obtain ⟨w, hw, rw'⟩ : ∃ w, xs[i]? = some w ∧ RelV w v := by
    have il : i < xs.length := by
      rw [rv.length]
      exact (List.getElem?_eq_some_iff.mp hi').1
    obtain ⟨u, h1, h2⟩ := rv.get (List.getElem?_eq_getElem il)
    rw [hi'] at h1
    cases h1
    exact ⟨_, List.getElem?_eq_getElem il, h2⟩
  exact ⟨w, H, I.kept hk, rw', q i w hw (by rw [e1, ee])⟩
open PySem.W Classical in
noncomputable def oMinL : List PyData → Option PyData
  | [.list (x :: ds)] => if PyData.canLayAll0 (x :: ds) = true ∧ AlikeAll (x :: ds) ∧ PyData.depthAll (x :: ds) ≤ 40 then some (minD x ds) else none
  | _ => none
open PySem.W in
theorem x_minL {x : PyData} {ds : List PyData} (h1 : PyData.canLayAll0 (x :: ds) = true) (h2 : AlikeAll (x :: ds)) (h3 : PyData.depthAll (x :: ds) ≤ 40) : oMinL [.list (x :: ds)] = some (minD x ds) := if_pos ⟨h1, h2, h3⟩
theorem cb_minL : CbD K T (rMinL K) oMinL := by
  intro P vs ds d ra h Q q
  unfold oMinL at h
  split at h
  · rename_i x ds
    split at h
    · rename_i hh
      cases h
      cases ra with
      | cons r1 r2 =>
        cases r2
        obtain ⟨p, xs, rfl, hs, r⟩ := r1.list
        refine ⟨p, xs, x, ds, rfl, hs, rps_dp hh.1 (r.ext P.sub), hh.1, hh.2.1, hh.2.2, fun i v h1 h2 => q v P (Le.refl P) ?_⟩
        obtain ⟨v', e1, e2⟩ := rpAll_at r (i := (i : Int)) (d := PySem.W.minD x ds) (atI_nat h2)
        have e1 : atI xs (i : Int) = some v' := e1
        rw [atI_nat h1] at e1
        cases e1
        exact e2
    · cases h
  · cases h
/-! ### x in a list of data -/
/-! ### the truth of a list -/
end
end PM
namespace PM
open PySem PySem.Spec PyProof.Rows L2 LB
section
variable {T : Tb} {K : PySem.W.Frag} {X : Cx} {e : Expr} {st : Stmt} {R : ER}
/-! ### min(xs, key=len), max(xs, key=len) -/
def bestP (f : PyData → PyData → Bool) (b : V × PyData) (bs : List (V × PyData)) : V × PyData := bs.foldl (fun a y => if f y.2 a.2 = true then y else a) b
def bestL (f : PyData → PyData → Bool) (x : PyData) (ds : List PyData) : PyData := ds.foldl (fun a y => if f y a = true then y else a) x
theorem bestP_snd (f : PyData → PyData → Bool) : ∀ (bs : List (V × PyData)) (b : V × PyData), (bestP f b bs).2 = bestL f b.2 (bs.map (·.2))
  | [], _ => rfl
  | y :: bs, b => by
    unfold bestP bestL
    rw [List.map_cons, List.foldl_cons, List.foldl_cons]
    have := bestP_snd f bs (if f y.2 b.2 = true then y else b)
    unfold bestP bestL at this
    rw [this]
    split <;> rfl
theorem bestP_mem (f : PyData → PyData → Bool) : ∀ (bs : List (V × PyData)) (b : V × PyData), bestP f b bs ∈ b :: bs
  | [], _ => List.mem_cons_self
  | y :: bs, b => by
    unfold bestP
    rw [List.foldl_cons]
    have := bestP_mem f bs (if f y.2 b.2 = true then y else b)
    unfold bestP at this
    rcases List.mem_cons.mp this with h | h
    · rw [h]
      split
      · exact List.mem_cons_of_mem _ List.mem_cons_self
      · exact List.mem_cons_self
    · exact List.mem_cons_of_mem _ (List.mem_cons_of_mem _ h)
def shorter (y a : PyData) : Bool := decide (tlen y < tlen a)
def longer (y a : PyData) : Bool := decide (tlen a < tlen y)
def tBest (K : PySem.W.Frag) (f : PyData → PyData → Bool) (t : TA) : TE := fun σ H Q => t σ H fun vs H1 => ∃ (a : Addr) (b : V × PyData) (bs : List (V × PyData)), vs = [.ref a] ∧ SqL K H1 a ((b :: bs).map (·.1)) ∧ (∀ c ∈ b :: bs, ∃ q ys, c.1 = .ref q ∧ SqT K H1 q ys ∧ tlen c.2 = ys.length) ∧ Q (bestP f b bs).1 H1
theorem pe_minLen {t : TA} {p p1 k1 pos : Pos} (hc : X.calm = true) (hg : Gl X "min") (hm : X.mg "min" = none) (hg2 : Gl X "len") (hm2 : X.mg "len" = none) (ha : PA X [e] t)
    (he : backTo pos (starEach [e] X.env) = (false, eval e X.env) :: backTo pos (starEach [] X.env) := by rfl) (hpl : (backTo pos (starEach [e] X.env)).any (·.1) = false := by rfl) :
    PE X (.Call (.Name "min" p) [e] [⟨some "key", .Name "len" p1, k1⟩] pos) (tBest X.K shorter t) := by
  refine ⟨fun pins s σ H Q I h => ?_⟩
  refine wpAny_Call_Name_kw (ld_blt I hg hm (u := .builtin "min") (by decide +kernel) ?_)
  refine PyProof.Rows.callWith_kw (thn (ha.run pos pins s σ H _ I h) fun us s1 ⟨vs, H1, I1, r1, a, b, bs, hx, hq, hb, q⟩ => ?_) he hpl rfl rfl
  subst hx
  obtain ⟨u, rfl, ru⟩ := vals1 r1
  cases ru
  show wpAny _ _ (evalAll [(do let v ← eval (.Name "len" p1) X.env; standAt pos; pure v)]) _ _ s1
  refine wpAny_evalAll_cons (wpAny_bind (ld_blt I1 hg2 hm2 (u := .builtin "len") (by decide +kernel) (wpAny_bind (wpAny_standAt (wpAny_pure (wpAny_evalAll_nil ?_))))))
  obtain ⟨its, rv, pl, hz⟩ := I1.list hq
  have hl := rv.length
  rw [List.length_map] at hl
  have ln : its.toArray.size = bs.length + 1 := by
    rw [List.size_toArray, ← hl]
    rfl
  refine call_min_walkKB (q := "len") (PySem.W.iter_listW (A := X.A.in1) (I1.ok.hd hc) pl.isList fun s₂ e2 W st hfp hw hk => ?_)
  subst e2
  let gt : Nat → V × PyData := fun i => (b :: bs).getD i (.non, .none)
  have at' : ∀ i v, its.toArray[i]? = some v → ∃ c ∈ b :: bs, gt i = c ∧ RelV c.1 v := fun i v hi => by
    have hi' : its[i]? = some v := by simpa using hi
    have il : i < (b :: bs).length := by
      rw [hl]
      exact (List.getElem?_eq_some_iff.mp hi').1
    obtain ⟨u, h1, h2⟩ := rv.get (i := i) (x := (b :: bs)[i].1) (by rw [List.getElem?_map, List.getElem?_eq_getElem il]; rfl)
    rw [hi'] at h1
    cases h1
    refine ⟨(b :: bs)[i], List.getElem_mem il, ?_, h2⟩
    show (b :: bs).getD i _ = _
    rw [List.getD_eq_getElem?_getD, List.getElem?_eq_getElem il]
    rfl
  refine ⟨_, _, _, _, _, _, _, (fun s' => ∃ h' tk, s' = { s1 with heap := h', toks := tk } ∧ ∀ b o, s1.heap.get? b = some o → h'.get? b = some o), (fun i k _ => ∃ t, k = Value.int (tlen (gt i).2 : Int) t), (fun i j => shorter (gt i).2 (gt j).2), rfl, W, st, hfp, by omega, ⟨fun s2 s3 hJ hm => ?_, fun i k s2 s3 hv _ => hv, fun i v s2 o Q' E' hin hP hJ hst hS hq' => ?_, fun i j ki kj s2 Q' E' hJ hi hj hq' => ?_⟩, ⟨_, _, rfl, hk⟩, fun v s' hP hJ => ?_⟩
  · obtain ⟨h', tk, rfl, hk'⟩ := hJ
    obtain ⟨h3, g3, d3, tk3, os3⟩ := s3
    have eg : g3 = s1.gens := hm.gens
    have ed : d3 = s1.drawn := hm.drawn
    have eo : os3 = s1.os := hm.os
    subst eg ed eo
    refine ⟨h3, tk3, rfl, fun b o e => hm.heap b o (fun hb => ?_) (hk' b o e)⟩
    have := Heap.lt_size e
    rcases List.mem_cons.mp hb with rfl | hb
    · have z : (s1.heap.push { cls := .type "list_iterator", data := .fields #[.ref a, .int 0 0] }).objs.size < s1.heap.objs.size := this
      rw [Heap.size_push] at z
      exact absurd (Nat.lt_of_succ_lt z) (Nat.lt_irrefl _)
    · rw [List.mem_singleton.mp hb] at this
      exact absurd this (Nat.lt_irrefl _)
  · obtain ⟨h', tk, rfl, hk'⟩ := hJ
    obtain ⟨c, hcm, hgt, rc⟩ := at' i v hP
    obtain ⟨r, ys, e1, hys, hn⟩ := hb c hcm
    rw [e1] at rc
    obtain rfl : v = Value.ref r := rc
    obtain ⟨its', r', ⟨o', e, hcl, n, hd⟩, hz'⟩ := I1.tuple hys
    have hlen := r'.length
    have h63 := line63
    refine len_tuple (items := its'.toArray) ⟨o', hk' _ _ e, hcl, n, hd⟩ (by simp only [List.size_toArray] <;> omega) ?_
    refine hq' _ _ ⟨_, _, rfl, hk'⟩ hst hS ⟨tk + 1, ?_⟩ fun _ _ z => z
    rw [hgt, hn, List.size_toArray, ← hlen]
  · refine CmpOf.ints_lt (prog := X.prog) (w := X.w) (A := X.A.in1) (P := fun i v => ∃ t, v = .int (tlen (gt i).2 : Int) t) (fun i => (tlen (gt i).2 : Int)) (fun i v h => h) i j _ _ _ _ _ hi hj ?_
    have : decide ((tlen (gt i).2 : Int) < (tlen (gt j).2 : Int)) = shorter (gt i).2 (gt j).2 := by
      unfold shorter
      exact decide_eq_decide.mpr (by omega)
    show Q' (Value.bool (decide ((tlen (gt i).2 : Int) < (tlen (gt j).2 : Int)))) s2
    rw [this]
    exact hq'
  · obtain ⟨h', tk, rfl, hk'⟩ := hJ
    obtain ⟨c, hcm, hgt, rc⟩ := at' _ v hP
    refine ⟨c.1, H1, I1.kept hk', rc, ?_⟩
    have e2 := (PySem.W.argBest_fold (fun p q : V × PyData => shorter p.2 q.2) (V.non, PyData.none) b bs bs.length (Nat.le_refl _)).2
    rw [List.take_length] at e2
    have e1 : its.toArray.size - 1 = bs.length := by omega
    rw [e1] at hgt
    have : c = bestP shorter b bs := by
      rw [← hgt]
      exact e2
    rw [this]
    exact q
theorem pe_maxLen {t : TA} {p p1 k1 pos : Pos} (hc : X.calm = true) (hg : Gl X "max") (hm : X.mg "max" = none) (hg2 : Gl X "len") (hm2 : X.mg "len" = none) (ha : PA X [e] t)
    (he : backTo pos (starEach [e] X.env) = (false, eval e X.env) :: backTo pos (starEach [] X.env) := by rfl) (hpl : (backTo pos (starEach [e] X.env)).any (·.1) = false := by rfl) :
    PE X (.Call (.Name "max" p) [e] [⟨some "key", .Name "len" p1, k1⟩] pos) (tBest X.K longer t) := by
  refine ⟨fun pins s σ H Q I h => ?_⟩
  refine wpAny_Call_Name_kw (ld_blt I hg hm (u := .builtin "max") (by decide +kernel) ?_)
  refine PyProof.Rows.callWith_kw (thn (ha.run pos pins s σ H _ I h) fun us s1 ⟨vs, H1, I1, r1, a, b, bs, hx, hq, hb, q⟩ => ?_) he hpl rfl rfl
  subst hx
  obtain ⟨u, rfl, ru⟩ := vals1 r1
  cases ru
  show wpAny _ _ (evalAll [(do let v ← eval (.Name "len" p1) X.env; standAt pos; pure v)]) _ _ s1
  refine wpAny_evalAll_cons (wpAny_bind (ld_blt I1 hg2 hm2 (u := .builtin "len") (by decide +kernel) (wpAny_bind (wpAny_standAt (wpAny_pure (wpAny_evalAll_nil ?_))))))
  obtain ⟨its, rv, pl, hz⟩ := I1.list hq
  have hl := rv.length
  rw [List.length_map] at hl
  have ln : its.toArray.size = bs.length + 1 := by
    rw [List.size_toArray, ← hl]
    rfl
  refine call_max_walkKB (q := "len") (PySem.W.iter_listW (A := X.A.in1) (I1.ok.hd hc) pl.isList fun s₂ e2 W st hfp hw hk => ?_)
  subst e2
  let gt : Nat → V × PyData := fun i => (b :: bs).getD i (.non, .none)
  have at' : ∀ i v, its.toArray[i]? = some v → ∃ c ∈ b :: bs, gt i = c ∧ RelV c.1 v := fun i v hi => by
    have hi' : its[i]? = some v := by simpa using hi
    have il : i < (b :: bs).length := by
      rw [hl]
      exact (List.getElem?_eq_some_iff.mp hi').1
    obtain ⟨u, h1, h2⟩ := rv.get (i := i) (x := (b :: bs)[i].1) (by rw [List.getElem?_map, List.getElem?_eq_getElem il]; rfl)
    rw [hi'] at h1
    cases h1
    refine ⟨(b :: bs)[i], List.getElem_mem il, ?_, h2⟩
    show (b :: bs).getD i _ = _
    rw [List.getD_eq_getElem?_getD, List.getElem?_eq_getElem il]
    rfl
  refine ⟨_, _, _, _, _, _, _, (fun s' => ∃ h' tk, s' = { s1 with heap := h', toks := tk } ∧ ∀ b o, s1.heap.get? b = some o → h'.get? b = some o), (fun i k _ => ∃ t, k = Value.int (tlen (gt i).2 : Int) t), (fun i j => longer (gt i).2 (gt j).2), rfl, W, st, hfp, by omega, ⟨fun s2 s3 hJ hm => ?_, fun i k s2 s3 hv _ => hv, fun i v s2 o Q' E' hin hP hJ hst hS hq' => ?_, fun i j ki kj s2 Q' E' hJ hi hj hq' => ?_⟩, ⟨_, _, rfl, hk⟩, fun v s' hP hJ => ?_⟩
  · obtain ⟨h', tk, rfl, hk'⟩ := hJ
    obtain ⟨h3, g3, d3, tk3, os3⟩ := s3
    have eg : g3 = s1.gens := hm.gens
    have ed : d3 = s1.drawn := hm.drawn
    have eo : os3 = s1.os := hm.os
    subst eg ed eo
    refine ⟨h3, tk3, rfl, fun b o e => hm.heap b o (fun hb => ?_) (hk' b o e)⟩
    have := Heap.lt_size e
    rcases List.mem_cons.mp hb with rfl | hb
    · have z : (s1.heap.push { cls := .type "list_iterator", data := .fields #[.ref a, .int 0 0] }).objs.size < s1.heap.objs.size := this
      rw [Heap.size_push] at z
      exact absurd (Nat.lt_of_succ_lt z) (Nat.lt_irrefl _)
    · rw [List.mem_singleton.mp hb] at this
      exact absurd this (Nat.lt_irrefl _)
  · obtain ⟨h', tk, rfl, hk'⟩ := hJ
    obtain ⟨c, hcm, hgt, rc⟩ := at' i v hP
    obtain ⟨r, ys, e1, hys, hn⟩ := hb c hcm
    rw [e1] at rc
    obtain rfl : v = Value.ref r := rc
    obtain ⟨its', r', ⟨o', e, hcl, n, hd⟩, hz'⟩ := I1.tuple hys
    have hlen := r'.length
    have h63 := line63
    refine len_tuple (items := its'.toArray) ⟨o', hk' _ _ e, hcl, n, hd⟩ (by simp only [List.size_toArray] <;> omega) ?_
    refine hq' _ _ ⟨_, _, rfl, hk'⟩ hst hS ⟨tk + 1, ?_⟩ fun _ _ z => z
    rw [hgt, hn, List.size_toArray, ← hlen]
  · refine CmpOf.ints_gt (prog := X.prog) (w := X.w) (A := X.A.in1) (P := fun i v => ∃ t, v = .int (tlen (gt i).2 : Int) t) (fun i => (tlen (gt i).2 : Int)) (fun i v h => h) i j _ _ _ _ _ hi hj ?_
    have : decide ((tlen (gt i).2 : Int) > (tlen (gt j).2 : Int)) = longer (gt i).2 (gt j).2 := by
      unfold longer
      exact decide_eq_decide.mpr (by omega)
    show Q' (Value.bool (decide ((tlen (gt i).2 : Int) > (tlen (gt j).2 : Int)))) s2
    rw [this]
    exact hq'
  · obtain ⟨h', tk, rfl, hk'⟩ := hJ
    obtain ⟨c, hcm, hgt, rc⟩ := at' _ v hP
    refine ⟨c.1, H1, I1.kept hk', rc, ?_⟩
    have e2 := (PySem.W.argBest_fold (fun p q : V × PyData => longer p.2 q.2) (V.non, PyData.none) b bs bs.length (Nat.le_refl _)).2
    rw [List.take_length] at e2
    have e1 : its.toArray.size - 1 = bs.length := by omega
    rw [e1] at hgt
    have : c = bestP longer b bs := by
      rw [← hgt]
      exact e2
    rw [this]
    exact q
def mBest (f : PyData → PyData → Bool) (a : ME) : ME := fun ρ => (a ρ).bind fun x => match x with
  | .list (d :: ds) => if (d :: ds).all isU = true then some (bestL f d ds) else none
  | _ => none
theorem c_best {f : PyData → PyData → Bool} {a : ME} (h : PE X e (tBest K f (tAw K T (aCons a aNil)))) : PE X e (tD K T (mBest f a)) := pe_to h fun σ H Q ⟨P0, P, ρ, d, h1, s, h2, q⟩ => by
  subst h1
  obtain ⟨x, ex, h3⟩ := bind_eq h2
  split at h3
  · rename_i d0 ds
    split at h3
    · rename_i hu
      cases h3
      refine ⟨P0, P, ρ, [.list (d0 :: ds)], rfl, s, by unfold aCons aNil; rw [ex]; rfl, fun vs P1 l1 rw1 => ?_⟩
      cases rw1 with
      | cons r1 r2 =>
        cases r2
        obtain ⟨p, xs, rfl, hs, r⟩ := r1.list
        cases r with
        | @cons v vs _ _ rv rs =>
          obtain ⟨z1, z2, z3⟩ := zip_rp rs
          have each : ∀ c ∈ (v, d0) :: vs.zip ds, Rp K P1.M c.1 c.2 := fun c hc => by
            rcases List.mem_cons.mp hc with rfl | hc
            · exact rv
            · exact z3 c hc
          have mem2 : ∀ c ∈ (v, d0) :: vs.zip ds, c.2 ∈ d0 :: ds := fun c hc => by
            rcases List.mem_cons.mp hc with rfl | hc
            · exact List.mem_cons_self
            · refine List.mem_cons_of_mem _ ?_
              have := List.mem_map_of_mem (f := (·.2)) hc
              rw [z2] at this
              exact this
          refine ⟨p, (v, d0), vs.zip ds, rfl, by rw [List.map_cons, z1]; exact hs, fun c hc => ?_, ?_⟩
          · have hcu := List.all_eq_true.mp hu c.2 (mem2 c hc)
            have rc := each c hc
            obtain ⟨cv, cd⟩ := c
            cases cd with
            | tuple xs =>
              cases rc with
              | @tup b ys _ hb ra => exact ⟨b, ys, rfl, SqT.of (P1.sub _ _ hb fun _ z => nomatch z), ra.length.symm⟩
            | _ => cases hcu
          · have rb := each _ (bestP_mem f (vs.zip ds) (v, d0))
            rw [bestP_snd, z2] at rb
            exact q _ P1 l1 rb
    · cases h3
  · cases h3
end
end PM
namespace PM
open PySem PySem.Spec PyProof.Rows L2 LB
section
variable {X : Cx} {pins : List (Addr × Obj)} {σ : L2.St} {H : Hp} {s : Shared} {a b : Addr} {r : Value} {d : V} {k : List Key} {A : Around} {E : Value → Shared → Prop}
end
section
variable {X : Cx} {o e f : Expr} {td ty tx : TE} {apos cpos : Pos}
end
end PM
namespace PM
open PySem PySem.Spec PyProof.Rows L2 LB
section
variable {T : Tb} {K : PySem.W.Frag} {X : Cx} {e : Expr} {st : Stmt} {R : ER}
/-! ### a dict of lists, gathered by d.setdefault(k, []).append(c) -/
/-! ### iteration over a datum dict whose keys are tuples -/
/-! ### max(list) of data -/
end
end PM
namespace PM
open PySem PySem.Spec PyProof.Rows L2 LB
section
variable {X : Cx}
/-! ### xs.insert(i, x), the place within the list -/
end
end PM
namespace PM
open PySem PySem.Spec PyProof.Rows L2 LB
section
variable {T : Tb} {K : PySem.W.Frag} {X : Cx} {e : Expr} {st : Stmt} {R : ER}
end
end PM
namespace PM
open PySem PySem.Spec PyProof.Rows L2 LB
section
variable {T : Tb} {K : PySem.W.Frag} {X : Cx} {e : Expr}
/-! ### range(i, j, c) -/
def rngC (i c : Int) (n : Nat) : List PyData := (List.range n).map fun (k : Nat) => .int (i + (k : Int) * c)
theorem rngC_length (i c : Int) (n : Nat) : (rngC i c n).length = n := by
  unfold rngC
  rw [List.length_map, List.length_range]
def oRng3 : List PyData → Option (List PyData)
  | [.int i, .int j, .int c] => if 1 ≤ c ∧ c ≤ 1000 ∧ Builtin.Range.small i j c = true then some (rngC i c (Builtin.Range.rangeSize i j c).toNat) else none
  | _ => none
def iR3 (a : MA) : MA := fun ρ => (a ρ).bind oRng3
theorem wk_r3 {P1 : Pr T} {i0 c : Int} {m : Nat} : WkM K P1 (Itc i0 c m) (rngC i0 c m) := by
  have l := rngC_length i0 c m
  refine ⟨fun P' x => by show m ≤ _; omega, fun i P' hi x => by show i < m; omega, fun i P' v H'' hi x y => ⟨P', y.1.symm, Le.refl P', .int (i0 + (i : Int) * c), ?_, ?_⟩⟩
  · unfold rngC
    rw [List.getElem?_map, List.getElem?_range (by omega)] <;> rfl
  · rw [y.2]
    exact .int _
theorem c_irng3 {tg : Expr} {a : MA} (h : PI X tg e (iRng3 (tA K T a))) : PI X tg e (tI K T (iR3 a)) := pi_to h fun σ H Q ⟨P0, P, ρ, ds, h1, s, h2, q⟩ => by
  subst h1
  obtain ⟨x, ex, h3⟩ := bind_eq h2
  unfold oRng3 at h3
  split at h3
  · split at h3
    · cases h3
      rename_i i j c hh
      refine ⟨P0, P, ρ, _, rfl, s, ex, fun vs P1 l1 r1 => ?_⟩
      cases r1 with
      | cons r1 r2 =>
        cases r2 with
        | cons r2 r3 =>
          cases r3 with
          | cons r3 r4 =>
            cases r4
            cases r1
            cases r2
            cases r3
            exact ⟨i, j, c, _, rfl, ⟨by omega, by omega, hh.2.2, PyProof.Rows.rangeSize_toNat i j c⟩, q _ P1 l1 wk_r3⟩
    · cases h3
  · cases h3
end
end PM
namespace PM
open PySem PySem.Spec PyProof.Rows L2 LB
section
variable {T : Tb} {K : PySem.W.Frag} {X : Cx} {e : Expr} {st : Stmt} {sts : List Stmt} {R : ER}
/-! ### a def that may refuse, and gives a new list -/
end
end PM
namespace PM
open PySem PySem.Spec PyProof.Rows L2 LB
section
variable {T : Tb} {K : PySem.W.Frag} {X : Cx} {e : Expr} {st : Stmt} {sts : List Stmt} {R : ER}
/-! ### a tuple of two new lists -/
structure Two (K : PySem.W.Frag) (P : Pr T) (p q1 q2 : Addr) (a b : List PyData) : Prop where
  tp : P.H p = some (.tup [.ref q1, .ref q2])
  ne : q1 ≠ q2
  m1 : P.M q1 = none
  m2 : P.M q2 = none
  l1 : ∃ xs, P.H q1 = some (.lst xs) ∧ RpAll K P.M xs a
  l2 : ∃ ys, P.H q2 = some (.lst ys) ∧ RpAll K P.M ys b
variable {P0 P P' : Pr T} {p q1 q2 : Addr} {a b : List PyData} {σ : L2.St} {ρ : Ev}
/-! ### a def that gives such a tuple -/
abbrev M2 := Ev → Option (List PyData × List PyData)
/-! ### such a tuple is held: read as a datum, then changed -/
def plE (ρ : Ev) : Bool := ρ.all fun s => match s with
  | .no => true
  | .val _ => true
  | _ => false
structure Hold (K : PySem.W.Frag) (P0 P : Pr T) (σ : L2.St) (ρ : Ev) (i : Nat) (p q1 q2 : Addr) (a b : List PyData) : Prop where
  s : St K P0 P σ ρ
  pl : plE ρ = true
  si : σ[i]? = some (some (.ref p))
  ri : ρ[i]? = some .no
  two : Two K P p q1 q2 a b
  l1 : Loose P0.H q1
  l2 : Loose P0.H q2
end
end PM
namespace PM
open PySem PySem.Spec PyProof.Rows L2 LB
section
variable {X : Cx} {pins : List (Addr × Obj)} {σ : L2.St} {H : Hp} {s : Shared} {a : Addr} {o : HO}
/-! ### an error that is stored: its object is tracked from the suite on -/
end
section
variable {X : Cx} {x n : Str} {c : Value} {i : Nat} {body suite : List Stmt} {b₀ : Stmt} {np pos pos' : Pos} {tb : WX → TS} {ts : Addr → TS}
end
end PM
namespace PM
open PySem PySem.Spec PyProof.Rows L2 LB
section
variable {T : Tb} {K : PySem.W.Frag} {X : Cx} {e : Expr} {st : Stmt} {sts : List Stmt} {R : ER}
/-! ### a def that is handed a stored error, and a number -/
/-! ### r = None; try: .. except C as e: r = e; return r is not None and f(r, k) -/
end
end PM
namespace PM
open PySem PySem.Spec PyProof.Rows L2 LB
section
variable {T : Tb} {K : PySem.W.Frag} {X : Cx} {e : Expr}
/-! ### xs[::k], k not 0 -/
/-! ### x.upper() -/
end
end PM
namespace PM
open PySem PySem.Spec PyProof.Rows L2 LB
section
variable {T : Tb} {K : PySem.W.Frag} {X : Cx} {e : Expr} {st : Stmt} {R : ER}
/-! ### xs[k] = v on an own list, k of any sign -/
/-! ### a, b = a list -/
end
end PM
namespace PM
open PySem PySem.Spec PyProof.Rows L2 LB
section
variable {T : Tb} {K : PySem.W.Frag} {X : Cx} {e : Expr} {st : Stmt} {R : ER}
/-! ### {k: v for .. in .. if ..}, the keys texts -/
end
end PM
/-! ### list(d.items()), the keys of d tuples -/
namespace LiT
open PySem PySem.Spec PyProof.Rows L2
section
variable {prog : Program} {w : World} {A : Around} {E : Value → Shared → Prop} {s : Shared} {es : Array DictEntry} {ep : Nat} {r d : Addr}
end
section
variable {X : Cx} {e : Expr} {te : TE} {p apos cpos pos : Pos}
end
end LiT
namespace PM
open PySem PySem.Spec PyProof.Rows L2 LB
section
variable {T : Tb} {K : PySem.W.Frag} {X : Cx} {e : Expr} {st : Stmt} {R : ER}
/-! ### list(d.items()) of an own dict with tuple keys: a new list of one's own -/
end
end PM
namespace PM
open PySem PySem.Spec PyProof.Rows L2 LB
section
variable {T : Tb} {K : PySem.W.Frag} {X : Cx} {e : Expr} {st : Stmt} {R : ER}
/-! ### a call within an expression that raises: the reading that asks for the error alone -/
/-! ### a loop that may end the def -/
end
end PM
namespace DZ
open PySem PySem.Spec PyProof.Rows L2 LB
open Sem (wp)
/-! ### dict(zip(a, b)), a and b lists or tuples in any mix -/
section
variable {prog : Program} {w : World} {A : Around} {E : Value → Shared → Prop} {s : Shared} {z TI TO i1 i2 T : Addr} {fp1 fp2 : List Addr} {n1 n2 i : Nat} {P1 P2 : Nat → Value → Prop} {St1 St2 : Nat → Heap → Prop}
end
section
variable {prog : Program} {w : World} {z TI TO i1 i2 : Addr} {fp1 fp2 : List Addr} {n1 n2 : Nat} {P1 P2 : Nat → Value → Prop} {St1 St2 : Nat → Heap → Prop}
end
end DZ
namespace DZ
open PySem PySem.Spec PyProof.Rows L2 LB
section
variable {prog : Program} {w : World}
/-- what zip reads of a list or a tuple -/
structure Src (h : Heap) (a : Addr) (us : List Value) where
  o : Obj
  Hs : Heap → Prop
  St : Addr → Nat → Heap → Prop
  beg : Begins (.ref a) o Hs
  now : Hs h
  lt : a < h.objs.size
  dr : ∀ (it : Addr) (A : Around), A.handled = none → a ≠ it → Draws prog w A it [it, a] us.length (fun i v => us[i]? = some v) (St it)
  st : ∀ it h', h'.get? it = some o → Hs h' → St it 0 h'
  kp : ∀ h', (∀ b o', h.get? b = some o' → h'.get? b = some o') → Hs h'
  fr : ∀ it i h h', St it i h → (∀ b ∈ [it, a], ∀ o', h.get? b = some o' → h'.get? b = some o') → St it i h'
  th : ∀ it h, St it 0 h → ∀ b ∈ [it, a], ∃ o', h.get? b = some o'
end
end DZ
namespace PM
open PySem PySem.Spec PyProof.Rows L2 LB
section
variable {T : Tb} {K : PySem.W.Frag} {X : Cx} {e : Expr} {st : Stmt} {R : ER}
/-! ### iteration over a datum dict whose keys are texts -/
end
end PM
namespace PM
open PySem PySem.Spec PyProof.Rows L2 LB
section
variable {T : Tb} {K : PySem.W.Frag} {X : Cx} {e : Expr} {st : Stmt} {R : ER}
/-! ### k in d, k not in d: d an own dict of texts, or a datum -/
/-! ### a test that reads an own list as a datum; it stays one's own -/
end
end PM
namespace PM
open PySem PySem.Spec PyProof.Rows L2 LB
/-! ### dicts of dicts of one's own: rows of names, each with a row of names and whole numbers -/
abbrev DDt := List (Str × List (Str × Int))
def iK (l : List (Str × Int)) : List (Key × V) := l.map fun e => (.inr e.1, .int e.2)
def oK (dd : DDt) (qs : List Addr) : List (Key × V) := (dd.zip qs).map fun e => (.inr e.1.1, .ref e.2)
def iD (l : List (Str × Int)) : PyData := .dict (l.map fun e => (.str e.1, .int e.2))
def ddD (dd : DDt) : PyData := .dict (dd.map fun f => (.str f.1, iD f.2))
/-! locking several things at once, as long as an expression or a test is read -/
open Classical in
noncomputable def lkF (H : Hp) (L : List Addr) (od : Addr → Obj) : Hp := fun a => if a ∈ L then (H a).map (HO.frz (od a)) else H a
theorem lkF_in {H : Hp} {L : List Addr} {od : Addr → Obj} {a : Addr} (h : a ∈ L) {u : HO} (e : H a = some u) : lkF H L od a = some (.frz (od a) u) := by
  unfold lkF
  rw [if_pos h, e]
  rfl
theorem lkF_out {H : Hp} {L : List Addr} {od : Addr → Obj} {a : Addr} (h : a ∉ L) : lkF H L od a = H a := by
  unfold lkF
  rw [if_neg h]
section
variable {X : Cx} {pins : List (Addr × Obj)} {σ : L2.St} {H : Hp} {s : Shared}
end
section
variable {X : Cx} {e : Expr} {st : Stmt}
end
section
variable {T : Tb} {K : PySem.W.Frag} {X : Cx} {e : Expr} {st : Stmt} {R : ER}
structure Odd (P0 P : Pr T) (p : Addr) (dd : DDt) (qs : List Addr) : Prop where
  len : qs.length = dd.length
  nd : (p :: qs).Nodup
  m : ∀ c ∈ p :: qs, P.M c = none
  lo : ∀ c ∈ p :: qs, Loose P0.H c
  h : P.H p = some (.dK (oK dd qs))
  hi : ∀ (j : Nat) f q, dd[j]? = some f → qs[j]? = some q → P.H q = some (.dK (iK f.2))
theorem Odd.cell {P0 P : Pr T} {p : Addr} {dd : DDt} {qs : List Addr} (o : Odd P0 P p dd qs) : ∀ c ∈ p :: qs, ∃ kvs, P.H c = some (.dK kvs) := fun c hc => by
  rcases List.mem_cons.mp hc with rfl | hc
  · exact ⟨_, o.h⟩
  · obtain ⟨j, hj, ej⟩ := List.mem_iff_getElem.mp hc
    have hl : j < dd.length := by rw [← o.len]; exact hj
    exact ⟨_, o.hi j dd[j] c (List.getElem?_eq_getElem hl) (by rw [List.getElem?_eq_getElem hj, ej])⟩
theorem Odd.up {P0 P P' : Pr T} {p : Addr} {dd : DDt} {qs : List Addr} (l : Le P P') (o : Odd P0 P p dd qs) : Odd P0 P' p dd qs := by
  refine ⟨o.len, o.nd, fun c hc => ?_, o.lo, l.h _ _ o.h (fun _ z => nomatch z), fun j f q hj hq => l.h _ _ (o.hi j f q hj hq) fun _ z => nomatch z⟩
  obtain ⟨kvs, e⟩ := o.cell c hc
  exact own_none l (o.m c hc) e (fun _ z => nomatch z) fun _ z => nomatch z
structure StD (K : PySem.W.Frag) (P0 P : Pr T) (σ : L2.St) (ρ : Ev) (i : Nat) (p : Addr) (dd : DDt) : Prop where
  st : St K P0 P σ ρ
  flat : ∀ (j : Nat) s, ρ[j]? = some s → s = .no ∨ ∃ d, s = .val d
  no : ρ[i]? = some .no
  ref : σ[i]? = some (some (.ref p))
  ob : ∃ qs, Odd P0 P p dd qs
theorem StD.up {P0 P P' : Pr T} {σ : L2.St} {ρ : Ev} {i : Nat} {p : Addr} {dd : DDt} (s : StD K P0 P σ ρ i p dd) (l : Le P P') : StD K P0 P' σ ρ i p dd := ⟨s.st.up l, s.flat, s.no, s.ref, let ⟨qs, h2⟩ := s.ob; ⟨qs, h2.up l⟩⟩
theorem flat_set {ρ : Ev} (h : ∀ (j : Nat) s, ρ[j]? = some s → s = .no ∨ ∃ d, s = .val d) (i : Nat) (d : PyData) : ∀ (j : Nat) s, (ρ.set i (.val d))[j]? = some s → s = .no ∨ ∃ d, s = .val d := fun j s hs => by
  rcases getset hs with ⟨_, rfl, _⟩ | ⟨_, h2⟩
  · exact .inr ⟨_, rfl⟩
  · exact h j s h2
theorem StD.set {P0 P : Pr T} {σ : L2.St} {ρ : Ev} {i : Nat} {p : Addr} {dd : DDt} (s : StD K P0 P σ ρ i p dd) {v : V} {d : PyData} (r : Rp K P.M v d) {j : Nat} (ne : j ≠ i) : StD K P0 P (σ.set j (some v)) (ρ.set j (.val d)) i p dd :=
  ⟨s.st.set r j, flat_set s.flat j d, by rw [List.getElem?_set_ne ne]; exact s.no, by rw [List.getElem?_set_ne ne]; exact s.ref, s.ob⟩
theorem tabs_agree {H H' : Hp} {L : List Addr} (t : LamX.Tabs T H) (hL : ∀ a ∈ L, ∃ o, H a = some o ∧ Plain o ∧ ∀ c q, o ≠ LamX.CodeO c q) (h : ∀ a, a ∉ L → H' a = H a) : LamX.Tabs T H' := fun q hq => by
  obtain ⟨ps, h1, h2, h3⟩ := t q hq
  have n1 : q.1 ∉ L := fun z => by
    obtain ⟨o, e, pl, _⟩ := hL _ z
    rw [h1] at e
    exact pl ps (Option.some.inj e).symm
  refine ⟨ps, by rw [h _ n1]; exact h1, h2, fun pos cv hc => ?_⟩
  obtain ⟨c, e1, e2⟩ := h3 pos cv hc
  have n2 : c ∉ L := fun z => by
    obtain ⟨o, e, _, nc⟩ := hL _ z
    rw [e2] at e
    exact nc _ _ (Option.some.inj e).symm
  exact ⟨c, e1, by rw [h _ n2]; exact e2⟩
theorem dK_plain {kvs : List (Key × V)} : Plain (.dK kvs) ∧ ∀ c q, HO.dK kvs ≠ LamX.CodeO c q := ⟨(fun _ z => nomatch z), fun _ _ z => by unfold LamX.CodeO at z; cases z⟩
open Classical in
/-- the dicts seen as data, while they are locked -/
noncomputable def Pr.lk (P : Pr T) (L : List Addr) (od : Addr → Obj) (hm : ∀ c ∈ L, P.M c = Option.none) (hk : ∀ c ∈ L, ∃ kvs, P.H c = some (.dK kvs)) : Pr T where
  M := fun a => if a ∈ L then lkF P.H L od a else P.M a
  H := lkF P.H L od
  sub := fun b u e n => by
    by_cases z : b ∈ L
    · have e : (if b ∈ L then lkF P.H L od b else P.M b) = some u := e
      rw [if_pos z] at e
      exact e
    · have e : (if b ∈ L then lkF P.H L od b else P.M b) = some u := e
      rw [if_neg z] at e
      rw [lkF_out z]
      exact P.sub b u e n
  tab := tabs_agree P.tab (fun a ha => let ⟨_, e⟩ := hk a ha; ⟨_, e, dK_plain⟩) fun a ha => lkF_out ha
  nt := fun a ps e => by
    by_cases z : a ∈ L
    · have e : (if a ∈ L then lkF P.H L od a else P.M a) = some (.tbl ps) := e
      rw [if_pos z] at e
      obtain ⟨kvs, ek⟩ := hk a z
      rw [lkF_in z ek] at e
      cases e
    · have e : (if a ∈ L then lkF P.H L od a else P.M a) = some (.tbl ps) := e
      rw [if_neg z] at e
      exact P.nt a ps e
theorem lk_M_in {P : Pr T} {L : List Addr} {od : Addr → Obj} {hm : ∀ c ∈ L, P.M c = none} {hk : ∀ c ∈ L, ∃ kvs, P.H c = some (.dK kvs)} {a : Addr} (h : a ∈ L) {kvs : List (Key × V)} (e : P.H a = some (.dK kvs)) : (P.lk L od hm hk).M a = some (.frz (od a) (.dK kvs)) := by
  show (if a ∈ L then lkF P.H L od a else P.M a) = _
  rw [if_pos h, lkF_in h e]
theorem lk_M_out {P : Pr T} {L : List Addr} {od : Addr → Obj} {hm : ∀ c ∈ L, P.M c = none} {hk : ∀ c ∈ L, ∃ kvs, P.H c = some (.dK kvs)} {a : Addr} (h : a ∉ L) : (P.lk L od hm hk).M a = P.M a := by
  show (if a ∈ L then lkF P.H L od a else P.M a) = _
  rw [if_neg h]
theorem lk_ext {P : Pr T} {L : List Addr} {od : Addr → Obj} {hm : ∀ c ∈ L, P.M c = none} {hk : ∀ c ∈ L, ∃ kvs, P.H c = some (.dK kvs)} : Ex P.M (P.lk L od hm hk).M := fun b u e n => by
  rw [lk_M_out fun z => by rw [hm b z] at e; cases e]
  exact e
theorem rp_iD {M : Hp} {q : Addr} {o : Obj} {l : List (Str × Int)} (h : M q = some (.frz o (.dK (iK l)))) : Rp K M (.ref q) (iD l) := by
  refine .dct h ?_ ?_
  · unfold iK
    rw [List.map_map, List.map_map]
    rfl
  · unfold iK
    rw [List.map_map, List.map_map]
    have : ∀ l : List (Str × Int), RpAll K M (l.map ((fun x => x.2) ∘ fun e => ((.inr e.1, .int e.2) : Key × V))) (l.map ((fun x => x.2) ∘ fun e => ((.str e.1, .int e.2) : PyData × PyData))) := by
      intro l
      induction l with
      | nil => exact .nil
      | cons e l ih => exact .cons (.int _) ih
    exact this l
theorem rp_ddD {M : Hp} {p : Addr} {o : Obj} {dd : DDt} {qs : List Addr} (len : qs.length = dd.length) (h : M p = some (.frz o (.dK (oK dd qs)))) (hi : ∀ (j : Nat) f q, dd[j]? = some f → qs[j]? = some q → ∃ o, M q = some (.frz o (.dK (iK f.2)))) : Rp K M (.ref p) (ddD dd) := by
  refine .dct h ?_ ?_
  · unfold oK
    rw [List.map_map, List.map_map]
    have : ∀ (dd : DDt) (qs : List Addr), qs.length = dd.length → (dd.zip qs).map ((fun e => keyD e.1) ∘ fun e => ((.inr e.1.1, .ref e.2) : Key × V)) = dd.map ((fun x => x.1) ∘ fun f => ((.str f.1, iD f.2) : PyData × PyData)) := by
      intro dd
      induction dd with
      | nil => intro qs _; rfl
      | cons f dd ih =>
        intro qs hl
        cases qs with
        | nil => cases hl
        | cons q qs =>
          have := ih qs (Nat.succ.inj hl)
          rw [List.zip_cons_cons, List.map_cons, List.map_cons, this]
          rfl
    exact this dd qs len
  · unfold oK
    rw [List.map_map, List.map_map]
    have : ∀ (dd : DDt) (qs : List Addr), qs.length = dd.length → (∀ (j : Nat) f q, dd[j]? = some f → qs[j]? = some q → ∃ o, M q = some (.frz o (.dK (iK f.2)))) → RpAll K M ((dd.zip qs).map ((fun x => x.2) ∘ fun e => ((.inr e.1.1, .ref e.2) : Key × V))) (dd.map ((fun x => x.2) ∘ fun f => ((.str f.1, iD f.2) : PyData × PyData))) := by
      intro dd
      induction dd with
      | nil => intro qs _ _; exact .nil
      | cons f dd ih =>
        intro qs hl hi
        cases qs with
        | nil => cases hl
        | cons q qs =>
          obtain ⟨o, ho⟩ := hi 0 f q rfl rfl
          exact .cons (rp_iD ho) (ih qs (Nat.succ.inj hl) fun j f q h1 h2 => hi (j + 1) f q h1 h2)
    exact this dd qs len hi
/-- the state with the dicts seen as data -/
theorem StD.view {P0 P : Pr T} {σ : L2.St} {ρ : Ev} {i : Nat} {p : Addr} {dd : DDt} (s : StD K P0 P σ ρ i p dd) : ∃ (L : List Addr) (hm : ∀ c ∈ L, P.M c = none) (hk : ∀ c ∈ L, ∃ kvs, P.H c = some (.dK kvs)), L.Nodup ∧ (∀ c ∈ L, Loose P0.H c) ∧ ∀ od, St K P0 (P.lk L od hm hk) σ (ρ.set i (.val (ddD dd))) := by
  obtain ⟨qs, o⟩ := s.ob
  have hp := s.ref
  refine ⟨p :: qs, o.m, o.cell, o.nd, o.lo, fun od => ?_⟩
  have il : i < ρ.length := (List.getElem?_eq_some_iff.mp s.no).1
  have rr : Rp K (P.lk (p :: qs) od o.m o.cell).M (.ref p) (ddD dd) := by
    refine rp_ddD o.len (lk_M_in List.mem_cons_self o.h) fun j f q h1 h2 => ⟨od q, lk_M_in (List.mem_cons_of_mem _ (List.mem_of_getElem? h2)) (o.hi j f q h1 h2)⟩
  have fl := flat_set s.flat i (ddD dd)
  refine ⟨⟨s.st.le.m.trans lk_ext, fun b u e n => ?_, fun a h1 h2 => ?_⟩, by rw [List.length_set]; exact s.st.len, fun j x hx => ?_, fun j k q d e ne h1 h2 h3 h4 => ?_, fun j d q h1 h2 => ?_, fun j k q d e ne h1 h2 h3 h4 => ?_, fun j d q h1 h2 => ?_⟩
  · have nb : b ∉ p :: qs := fun z => by
      obtain ⟨ps, w⟩ := o.lo b z u e
      exact n ps w
    show lkF P.H (p :: qs) od b = some u
    rw [lkF_out nb]
    exact s.st.le.h b u e n
  · by_cases z : a ∈ p :: qs
    · exact .inl (o.lo a z)
    · rw [lk_M_out z] at h2
      exact s.st.le.f a h1 h2
  · rcases getset hx with ⟨rfl, rfl, _⟩ | ⟨ne, hx⟩
    · exact ⟨_, hp, .val rr⟩
    · obtain ⟨w, g1, g2⟩ := s.st.ok j x hx
      refine ⟨w, g1, ?_⟩
      cases g2 with
      | no => exact .no
      | val r => exact .val (r.ext lk_ext)
      | exn => exact .exn
      | own => rcases s.flat j _ hx with z | ⟨_, z⟩ <;> cases z
      | ods => rcases s.flat j _ hx with z | ⟨_, z⟩ <;> cases z
      | lck => rcases s.flat j _ hx with z | ⟨_, z⟩ <;> cases z
  · rcases fl j _ h1 with z | ⟨_, z⟩ <;> cases z
  · rcases fl j _ h1 with z | ⟨_, z⟩ <;> cases z
  · rcases fl j _ h1 with z | ⟨_, z⟩ <;> cases z
  · rcases fl j _ h1 with z | ⟨_, z⟩ <;> cases z
/-- what is no dict is there without them -/
theorem sq_keep {M M2 : Hp} (h : ∀ a u, M a = some u → (∀ o kvs, u ≠ .frz o (.dK kvs)) → M2 a = some u) {a : Addr} {xs : List V} (q : SqL K M a xs) : SqL K M2 a xs := by
  rcases q with (q | ⟨o, q⟩) | q
  · exact .inl (.inl (h _ _ q fun _ _ z => nomatch z))
  · exact .inl (.inr ⟨o, h _ _ q fun _ _ z => by cases z⟩)
  · exact .inr q
mutual
theorem rp_keep {M M2 : Hp} (h : ∀ a u, M a = some u → (∀ o kvs, u ≠ .frz o (.dK kvs)) → M2 a = some u) : ∀ {v : V} {d : PyData}, ndD d = true → Rp K M v d → Rp K M2 v d
  | _, _, _, .non => .non
  | _, _, _, .bl b => .bl b
  | _, _, _, .int i => .int i
  | _, _, _, .str x => .str x
  | _, _, n, .lst q r => .lst (sq_keep h q) (rps_keep h (by simpa [ndD] using n) r)
  | _, _, n, .tup q r => .tup (h _ _ q fun _ _ z => nomatch z) (rps_keep h (by simpa [ndD] using n) r)
  | _, _, n, .dct _ _ _ => absurd n (by simp [ndD])
  | _, _, n, .dcT _ _ _ => absurd n (by simp [ndD])
theorem rps_keep {M M2 : Hp} (h : ∀ a u, M a = some u → (∀ o kvs, u ≠ .frz o (.dK kvs)) → M2 a = some u) : ∀ {v : List V} {d : List PyData}, ndDs d = true → RpAll K M v d → RpAll K M2 v d
  | _, _, _, .nil => .nil
  | _, _, n, .cons r t => by
    have n : (ndD _ && ndDs _) = true := n
    rw [Bool.and_eq_true] at n
    exact .cons (rp_keep h n.1 r) (rps_keep h n.2 t)
end
/-! readings -/
end
end PM
namespace PM
open PySem PySem.Spec PyProof.Rows L2 LB
section
variable {T : Tb} {K : PySem.W.Frag} {X : Cx} {e : Expr} {st : Stmt} {sts : List Stmt} {R : ER}
/-! ### statements over a dict of dicts of one's own -/
abbrev Flat (ρ : Ev) : Prop := ∀ (j : Nat) s, ρ[j]? = some s → s = .no ∨ ∃ d, s = .val d
theorem st_flat {P0 P : Pr T} {σ : L2.St} {ρ : Ev} (fl : Flat ρ) (le : Le P0 P) (len : σ.length = ρ.length) (ok : ∀ (i : Nat) d, ρ[i]? = some (.val d) → ∃ v, σ[i]? = some (some v) ∧ Rp K P.M v d) : St K P0 P σ ρ := by
  have no : ∀ {j : Nat} {s : Sl}, ρ[j]? = some s → (∀ d, s ≠ .val d) → s ≠ .no → False := fun h1 h2 h3 => by
    rcases fl _ _ h1 with z | ⟨_, z⟩
    · exact h3 z
    · exact h2 _ z
  refine ⟨le, len, fun i s h => ?_, fun i j p d e ne h1 h2 h3 h4 => ?_, fun i d p h1 h2 => ?_, fun i j p ks ls ne h1 h2 h3 h4 => ?_, fun i ks p h1 h2 => ?_⟩
  · rcases fl i s h with rfl | ⟨d, rfl⟩
    · have hi : i < σ.length := by rw [len]; exact (List.getElem?_eq_some_iff.mp h).1
      exact ⟨_, List.getElem?_eq_getElem hi, .no⟩
    · obtain ⟨v, g1, g2⟩ := ok i d h
      exact ⟨_, g1, .val g2⟩
  · exact (no h1 (fun _ z => nomatch z) fun z => nomatch z).elim
  · exact (no h1 (fun _ z => nomatch z) fun z => nomatch z).elim
  · exact (no h1 (fun _ z => nomatch z) fun z => nomatch z).elim
  · exact (no h1 (fun _ z => nomatch z) fun z => nomatch z).elim
theorem St.valsF {P0 P : Pr T} {σ : L2.St} {ρ : Ev} (s : St K P0 P σ ρ) : ∀ (i : Nat) d, ρ[i]? = some (.val d) → ∃ v, σ[i]? = some (some v) ∧ Rp K P.M v d := fun i d h => by
  obtain ⟨o, g1, g2⟩ := s.ok i _ h
  cases g2 with
  | val r => exact ⟨_, g1, r⟩
/-- a cell of the dicts is changed -/
theorem StD.mut {P0 P : Pr T} {σ : L2.St} {ρ : Ev} {i : Nat} {p : Addr} {dd : DDt} (s : StD K P0 P σ ρ i p dd) {qs : List Addr} (o : Odd P0 P p dd qs) {c : Addr} (hc : c ∈ p :: qs) (kvs' : List (Key × V)) : ∃ Q : Pr T, Q.M = P.M ∧ Q.H = upd P.H c (.dK kvs') ∧ St K P0 Q σ ρ := by
  obtain ⟨kvs, hk⟩ := o.cell c hc
  have hM := o.m c hc
  have lo := o.lo c hc
  refine ⟨⟨P.M, upd P.H c (.dK kvs'), fun b u e q => ?_, tabs_mut P.tab hk (fun _ z => nomatch z) (fun _ _ z => by unfold LamX.CodeO at z; cases z), P.nt⟩, rfl, rfl, st_flat s.flat ⟨s.st.le.m, fun b u e q => ?_, s.st.le.f⟩ s.st.len s.st.valsF⟩
  · have ne : b ≠ c := fun z => by rw [z, hM] at e; cases e
    rw [upd_ne ne]
    exact P.sub b u e q
  · have ne : b ≠ c := fun z => by
      rw [z] at e
      obtain ⟨ps, w⟩ := lo u e
      exact q ps w
    show upd P.H c _ b = some u
    rw [upd_ne ne]
    exact s.st.le.h b u e q
open Classical in
theorem StD.rebase {P0 P : Pr T} {σ : L2.St} {ρ : Ev} {i : Nat} {p : Addr} {dd : DDt} (s : StD K P0 P σ ρ i p dd) : ∃ Pb : Pr T, Pb.M = P.M ∧ Le P0 Pb ∧ StD K Pb P σ ρ i p dd := by
  have agree : ∀ {b : Addr} {u o : HO}, P.M b = some u → P0.H b = some o → Plain o → u = o := fun {b u o} h1 h2 n => by
    have e1 := P.sub b u h1 fun ps z => P.nt b ps (by rw [h1, z])
    have e2 := s.st.le.h b o h2 n
    rw [e1] at e2
    exact Option.some.inj e2
  let Pb : Pr T := ⟨P.M, fun a => if P.M a = none then P0.H a else P.M a, fun b u h n => by
    show (if P.M b = none then P0.H b else P.M b) = some u
    rw [if_neg (by rw [h]; exact fun z => nomatch z)]
    exact h, fun q hq => by
    obtain ⟨ps, h1, h2, h3⟩ := P0.tab q hq
    have e : ∀ {a : Addr} {o : HO}, P0.H a = some o → (∀ u, P.M a = some u → u = o) → (if P.M a = none then P0.H a else P.M a) = some o := fun {a o} h hu => by
      cases z : P.M a with
      | none =>
        rw [if_pos rfl]
        exact h
      | some u =>
        rw [if_neg (fun z => nomatch z), hu u z]
    refine ⟨ps, e h1 fun u hu => ?_, h2, fun pos cv hc => ?_⟩
    · obtain ⟨ps', h1', _⟩ := P.tab q hq
      have := P.sub _ u hu fun ps z => P.nt _ ps (by rw [hu, z])
      rw [h1'] at this
      exact absurd hu (by rw [← Option.some.inj this]; exact P.nt _ _)
    · obtain ⟨c, e1, e2⟩ := h3 pos cv hc
      exact ⟨c, e1, e e2 fun u hu => agree hu e2 LamX.codeO_ne⟩, P.nt⟩
  have l1 : Le P0 Pb := ⟨s.st.le.m, fun b o h n => by
    show (if P.M b = none then P0.H b else P.M b) = some o
    cases z : P.M b with
    | none =>
      rw [if_pos rfl]
      exact h
    | some u => rw [if_neg (fun z => nomatch z), agree z h n], s.st.le.f⟩
  have l2 : Le Pb P := ⟨ex_refl _, fun b o h n => by
    have h : (if P.M b = none then P0.H b else P.M b) = some o := h
    cases z : P.M b with
    | none =>
      rw [z, if_pos rfl] at h
      exact s.st.le.h b o h n
    | some u =>
      rw [z, if_neg (fun z => nomatch z)] at h
      cases h
      exact P.sub b o z n, fun a h1 h2 => absurd h1 h2⟩
  refine ⟨Pb, rfl, l1, st_flat s.flat l2 s.st.len s.st.valsF, s.flat, s.no, s.ref, ?_⟩
  obtain ⟨qs, o⟩ := s.ob
  refine ⟨qs, o.len, o.nd, o.m, fun c hc u hu => ?_, o.h, o.hi⟩
  have hu : (if P.M c = none then P0.H c else P.M c) = some u := hu
  rw [if_pos (o.m c hc)] at hu
  exact o.lo c hc u hu
theorem Odd.base {P0 Pb P : Pr T} {p : Addr} {dd : DDt} {qs : List Addr} (l : Le P0 Pb) (o : Odd Pb P p dd qs) : Odd P0 P p dd qs := ⟨o.len, o.nd, o.m, fun c hc => loose_back l.h (o.lo c hc), o.h, o.hi⟩
theorem StD.base {P0 Pb P : Pr T} {σ : L2.St} {ρ : Ev} {i : Nat} {p : Addr} {dd : DDt} (l : Le P0 Pb) (s : StD K Pb P σ ρ i p dd) : StD K P0 P σ ρ i p dd := ⟨s.st.base l, s.flat, s.no, s.ref, let ⟨qs, o⟩ := s.ob; ⟨qs, o.base l⟩⟩
inductive OutD where
  | nx (ρ : Ev) (dd : DDt) | rd (dd : DDt)
def EndD (K : PySem.W.Frag) (P0 : Pr T) (D : Ends) (i : Nat) (p : Addr) : OutD → Prop
  | .nx ρ dd => ∀ (P : Pr T) σ, StD K P0 P σ ρ i p dd → D.nx σ P.H
  | .rd dd => ∀ (P : Pr T) qs, Le P0 P → Odd P0 P p dd qs → D.rt (.ref p) P.H
theorem EndD.base {P0 Pb : Pr T} {D : Ends} {i : Nat} {p : Addr} {o : OutD} (l : Le P0 Pb) (h : EndD K P0 D i p o) : EndD K Pb D i p o := by
  cases o with
  | nx ρ dd => exact fun P σ s => h P σ (s.base l)
  | rd dd => exact fun P qs l' o => h P qs (l.trans l') (o.base l)
/-! ### the dicts are changed -/
theorem oK_set {dd : DDt} {qs : List Addr} {j : Nat} {x : Str} {l l' : List (Str × Int)} (h : dd[j]? = some (x, l)) : oK (dd.set j (x, l')) qs = oK dd qs := by
  refine List.ext_getElem? fun n => ?_
  unfold oK
  rw [List.getElem?_map, List.getElem?_map]
  show Option.map _ (List.zipWith Prod.mk (dd.set j (x, l')) qs)[n]? = Option.map _ (List.zipWith Prod.mk dd qs)[n]?
  rw [List.getElem?_zipWith, List.getElem?_zipWith]
  by_cases e : j = n
  · subst e
    rw [List.getElem?_set_self (List.getElem?_eq_some_iff.mp h).1, h]
    cases qs[j]? <;> rfl
  · rw [List.getElem?_set_ne e]
/-- behind a change of a row -/
theorem StD.row {P0 P : Pr T} {σ : L2.St} {ρ : Ev} {i : Nat} {p : Addr} {dd : DDt} (s : StD K P0 P σ ρ i p dd) {qs : List Addr} (o : Odd P0 P p dd qs) {j : Nat} {x : Str} {l l' : List (Str × Int)} {b : Addr} (h1 : dd[j]? = some (x, l)) (h2 : qs[j]? = some b) : ∃ Q : Pr T, Q.H = upd P.H b (.dK (iK l')) ∧ StD K P0 Q σ ρ i p (dd.set j (x, l')) := by
  have hb : b ∈ p :: qs := List.mem_cons_of_mem _ (List.mem_of_getElem? h2)
  obtain ⟨Q', hQ, hQ', s'⟩ := s.mut o hb (iK l')
  refine ⟨Q', hQ', s', s.flat, s.no, s.ref, qs, by rw [List.length_set]; exact o.len, o.nd, fun c hc => by rw [hQ]; exact o.m c hc, o.lo, ?_, fun n f c g1 g2 => ?_⟩
  · have ne : p ≠ b := fun z => (List.nodup_cons.mp o.nd).1 (by rw [z]; exact List.mem_of_getElem? h2)
    rw [hQ', upd_ne ne, oK_set h1]
    exact o.h
  · rw [hQ']
    rcases getset g1 with ⟨rfl, rfl, _⟩ | ⟨ne, g1⟩
    · rw [h2] at g2
      cases g2
      exact upd_same
    · have nb : c ≠ b := fun z => by
        subst z
        obtain ⟨k1, e1⟩ := List.getElem?_eq_some_iff.mp h2
        obtain ⟨k2, e2⟩ := List.getElem?_eq_some_iff.mp g2
        exact ne ((List.getElem_inj (List.nodup_cons.mp o.nd).2).mp (e1.trans e2.symm))
      rw [upd_ne nb]
      exact o.hi n f c g1 g2
end
end PM
namespace PM
open PySem PySem.Spec PyProof.Rows L2 LB
section
variable {T : Tb} {K : PySem.W.Frag} {X : Cx} {e : Expr} {st : Stmt} {sts : List Stmt} {R : ER}
/-! ### defs that make, or change, a dict of dicts -/
/-! ### for k in d, d a datum of texts, maybe without any -/
end
end PM
namespace PM
open PySem PySem.Spec PyProof.Rows L2 LB
section
variable {T : Tb} {K : PySem.W.Frag} {X : Cx} {e : Expr} {st : Stmt} {sts : List Stmt} {R : ER}
/-! ### d[a].get(b, c), d a dict of dicts of one's own -/
/-! ### x = {k: v}, an own dict of texts -/
end
end PM
namespace PM
open PySem PySem.Spec PyProof.Rows L2 LB
section
variable {T : Tb} {K : PySem.W.Frag} {X : Cx} {e : Expr} {st : Stmt} {R : ER}
/-! ### x = {k: v for ..} on one line, x a local -/
end
end PM
namespace ZM
open PySem PySem.Spec PyProof.Rows L2 LB
/-! ### zip of two rows, each a list or a tuple -/
def SqK (K : PySem.W.Frag) (t : Bool) (H : Hp) (a : Addr) (xs : List V) : Prop := match t with
  | true => SqT K H a xs
  | false => SqL K H a xs
def ItK (t : Bool) (h : Heap) (it l : Addr) (i : Nat) : Prop := match t with
  | true => h.IsTupleIter it l i
  | false => h.IsListIter it l i
def IsK (t : Bool) (h : Heap) (l : Addr) (xs : Array Value) : Prop := match t with
  | true => h.IsTuple l xs
  | false => h.IsList l xs
def objK (t : Bool) (a : Addr) : Obj := match t with
  | true => { cls := .type "tuple_iterator", data := .fields #[.ref a, .int 0 0] }
  | false => { cls := .type "list_iterator", data := .fields #[.ref a, .int 0 0] }
theorem draws {prog : Program} {w : World} {A : Around} (t : Bool) (hh : A.handled = none) {it l : Addr} (ne : l ≠ it) (items : Array Value) : Draws prog w A it [it, l] items.size (fun i v => items[i]? = some v) (fun i h => ItK t h it l i ∧ IsK t h l items) := by
  cases t
  · exact Draws.list hh it l ne items
  · exact Draws.tuple hh it l ne items
theorem begins (t : Bool) (l : Addr) (items : Array Value) : Begins (.ref l) (objK t l) fun h => IsK t h l items := by
  cases t
  · exact begins_list l items
  · exact begins_tuple l items
theorem it_obj {t : Bool} {h : Heap} {it l : Addr} {i : Nat} (st : ItK t h it l i) : ∃ o, h.get? it = some o ∧ ∀ v, o.data ≠ .cell v := by
  cases t
  · obtain ⟨o, e, _, d⟩ := st
    exact ⟨o, e, fun v q => by rw [d] at q; cases q⟩
  · obtain ⟨o, e, _, d⟩ := st
    exact ⟨o, e, fun v q => by rw [d] at q; cases q⟩
theorem it_at {t : Bool} {h h' : Heap} {it l : Addr} {i : Nat} (st : ItK t h it l i) (k : ∀ o, h.get? it = some o → h'.get? it = some o) : ItK t h' it l i := by
  cases t
  · exact Heap.IsListIter.at st k
  · exact Heap.IsTupleIter.at st k
section
variable {X : Cx} {pins : List (Addr × Obj)} {σ : L2.St} {H : Hp} {s : Shared}
theorem row (I : Inv X pins σ H s) {t : Bool} {a : Addr} {xs : List V} (q : SqK X.K t H a xs) : ∃ us : List Value, Vals xs us ∧ IsK t s.heap a us.toArray ∧ a < s.heap.objs.size := by
  cases t
  · obtain ⟨us, r, p, _⟩ := I.list q
    have p' := p.isList
    obtain ⟨o, e, _⟩ := id p'
    exact ⟨us, r, p', Heap.lt_size e⟩
  · obtain ⟨us, r, p, _⟩ := I.tuple q
    obtain ⟨o, e, _⟩ := id p
    exact ⟨us, r, p, Heap.lt_size e⟩
theorem inj (I : Inv X pins σ H s) {t : Bool} {a : Addr} {xs ys : List V} (h : SqK X.K t H a xs) (h' : SqK X.K t H a ys) : xs = ys := by
  cases t
  · exact I.list_inj h h'
  · exact I.tuple_inj h h'
end
def ItzK (K : PySem.W.Frag) (t u : Bool) (a b : Addr) : It :=
  ⟨fun i H => ∃ (xs ys : List V) (x y : V), SqK K t H a xs ∧ SqK K u H b ys ∧ xs[i]? = some x ∧ ys[i]? = some y,
    fun i H v H' => ∃ T x y, v = .ref T ∧ H T = none ∧ H' = upd H T (.tup [x, y]) ∧ (∀ xs, SqK K t H a xs → xs[i]? = some x) ∧ ∀ ys, SqK K u H b ys → ys[i]? = some y,
    fun i H => ∃ xs ys : List V, SqK K t H a xs ∧ SqK K u H b ys ∧ i ≤ xs.length ∧ i ≤ ys.length ∧ (i = xs.length ∨ i = ys.length)⟩
theorem turn {P : Program} {w : World} {K : PySem.W.Frag} {elts : List Expr} {kk : Nat} {tpos : Pos} {t u : Bool} {a b z TI TO i1 i2 : Addr} (S : ZipSep2 z TI TO i1 i2 [i1, a] [i2, b]) :
    Turn P w K (.Tuple elts kk tpos) (ItzK K t u a b) [z, TI, TO, i1, i2] z (fun i h => IsZip h z TI TO .none ∧ IsTupOf2 h TI (.ref i1) (.ref i2) ∧ (∃ x y, IsTupOf2 h TO x y) ∧ ItK t h i1 a i ∧ ItK u h i2 b i) where
  mem := by simp
  obj := fun i h st c hc => by
    obtain ⟨hz, hTI, ⟨x, y, hTO⟩, h1, h2⟩ := st
    simp only [List.mem_cons, List.not_mem_nil, or_false] at hc
    rcases hc with rfl | rfl | rfl | rfl | rfl
    · exact ⟨_, hz, fun v q => nomatch q⟩
    · exact ⟨_, hTI, fun v q => nomatch q⟩
    · exact ⟨_, hTO, fun v q => nomatch q⟩
    · exact it_obj h1
    · exact it_obj h2
  keep := fun i h h' st k => by
    obtain ⟨hz, hTI, ⟨x, y, hTO⟩, h1, h2⟩ := st
    exact ⟨k z (by simp) _ hz, k TI (by simp) _ hTI, ⟨x, y, k TO (by simp) _ hTO⟩, it_at h1 fun o q => k i1 (by simp) o q, it_at h2 fun o q => k i2 (by simp) o q⟩
  item := by
    intro X hP hw hK hc i pins s σ H E I hf st hg
    subst hP hw hK
    obtain ⟨hz, hTI, ⟨x0, y0, hTO⟩, h1, h2⟩ := st
    obtain ⟨xs, ys, x, y, qx, qy, hx, hy⟩ := hg
    obtain ⟨us, ru, p1, la⟩ := row I qx
    obtain ⟨vs, rv, p2, lb⟩ := row I qy
    obtain ⟨x1, ex, rx⟩ := ru.get hx
    obtain ⟨y1, ey, ry⟩ := rv.get hy
    have hh := I.ok.hd hc
    have ne1 : a ≠ i1 := fun e => absurd (S.sep1_2) (fun _ => by
      obtain ⟨o1, e1, _⟩ := it_obj h1
      subst e
      cases t
      · obtain ⟨o, eo, c1, _⟩ := p1
        obtain ⟨o', eo', c2, _⟩ := h1
        rw [eo] at eo'
        cases eo'
        rw [c1] at c2
        exact absurd c2 (by decide)
      · obtain ⟨o, eo, c1, _⟩ := p1
        obtain ⟨o', eo', c2, _⟩ := h1
        rw [eo] at eo'
        cases eo'
        rw [c1] at c2
        exact absurd c2 (by decide))
    have ne2 : b ≠ i2 := fun e => by
      subst e
      cases u
      · obtain ⟨o, eo, c1, _⟩ := p2
        obtain ⟨o', eo', c2, _⟩ := h2
        rw [eo] at eo'
        cases eo'
        rw [c1] at c2
        exact absurd c2 (by decide)
      · obtain ⟨o, eo, c1, _⟩ := p2
        obtain ⟨o', eo', c2, _⟩ := h2
        rw [eo] at eo'
        cases eo'
        rw [c1] at c2
        exact absurd c2 (by decide)
    have gu : us.toArray[i]? = some x1 := by simpa using ex
    have gv : vs.toArray[i]? = some y1 := by simpa using ey
    have hzl : z < s.heap.objs.size := Heap.lt_size hz
    refine wpAny_pyNext_zipD2_item S (draws t (A := X.A.in1) hh ne1 us.toArray) (draws u (A := X.A.in1) hh ne2 vs.toArray) hz hTI hTO ⟨h1, p1⟩ ⟨h2, p2⟩ (Array.getElem?_eq_some_iff.mp gu).1 (Array.getElem?_eq_some_iff.mp gv).1 fun x2 y2 h' tk z1 z2 hz' hTO' h1' h2' hT hsz hk => ?_
    rw [gu] at z1
    cases z1
    rw [gv] at z2
    cases z2
    refine ⟨_, rfl, wpAny_letOwnedTupleGo_zip (s := { s with heap := h', toks := tk }) hz' fun h'' hz'' sb => ?_⟩
    have hT2 : h''.get? s.heap.objs.size = some { cls := .type "tuple", data := .seq #[x1, y1] } := (sb.2 _ (Nat.ne_of_gt hzl)).trans hT
    have new : ObjOk X.prog X.w (upd H s.heap.objs.size (.tup [x, y])) h'' s.heap.objs.size (.tup [x, y]) := ⟨by show 2 ≤ sizeLine; decide, [x1, y1], .cons rx (.cons ry .nil), ⟨_, hT2, rfl, _, rfl⟩⟩
    have kp : ∀ c o, c ∉ [z, TI, TO, i1, i2] → s.heap.get? c = some o → h''.get? c = some o := fun c o hc q => by
      simp only [List.mem_cons, List.not_mem_nil, or_false, not_or] at hc
      exact (sb.2 c hc.1).trans (hk c o hc.1 hc.2.2.1 hc.2.2.2.1 hc.2.2.2.2 q)
    have I1 : Inv X pins σ (upd H s.heap.objs.size (.tup [x, y])) { s with heap := h'', toks := tk } := I.turnedNew (t' := tk) (ch := [z, TI, TO, i1, i2]) kp hf (Nat.le_refl _) new
    have lt1 : i1 < s.heap.objs.size := by
      obtain ⟨_, e, _⟩ := it_obj h1
      exact Heap.lt_size e
    have lt2 : i2 < s.heap.objs.size := by
      obtain ⟨_, e, _⟩ := it_obj h2
      exact Heap.lt_size e
    refine ⟨.ref s.heap.objs.size, _, I1, rfl, ⟨_, x, y, rfl, I.hok.fresh (Nat.le_refl _), rfl, fun l hl => by rw [inj I hl qx]; exact hx, fun l hl => by rw [inj I hl qy]; exact hy⟩, ⟨hz'', ?_, ⟨x1, y1, ?_⟩, ?_, ?_⟩, fun c hcm => ?_⟩
    · exact (sb.2 _ S.TIz).trans (hk _ _ S.TIz S.TITO S.TIi1 S.TIi2 hTI)
    · exact (sb.2 _ S.TOz).trans hTO'
    · exact it_at h1'.1 fun o q => (sb.2 _ (Ne.symm S.zi1)).trans q
    · exact it_at h2'.1 fun o q => (sb.2 _ (Ne.symm S.zi2)).trans q
    · have hlt : c < s.heap.objs.size := by
        simp only [List.mem_cons, List.not_mem_nil, or_false] at hcm
        rcases hcm with rfl | rfl | rfl | rfl | rfl
        · exact hzl
        · exact Heap.lt_size hTI
        · exact Heap.lt_size hTO
        · exact lt1
        · exact lt2
      rw [upd_ne (Nat.ne_of_lt hlt)]
      exact (hf c hcm).1
  done := by
    intro X hP hw hK hc i pins s σ H E I hf st hg
    subst hP hw hK
    obtain ⟨hz, hTI, ⟨x0, y0, hTO⟩, h1, h2⟩ := st
    obtain ⟨xs, ys, qx, qy, l1, l2, hend⟩ := hg
    obtain ⟨us, ru, p1, la⟩ := row I qx
    obtain ⟨vs, rv, p2, lb⟩ := row I qy
    have e1 := ru.length
    have e2 := rv.length
    have hh := I.ok.hd hc
    have ne1 : a ≠ i1 := fun e => by
      subst e
      cases t
      · obtain ⟨o, eo, c1, _⟩ := p1
        obtain ⟨o', eo', c2, _⟩ := h1
        rw [eo] at eo'
        cases eo'
        rw [c1] at c2
        exact absurd c2 (by decide)
      · obtain ⟨o, eo, c1, _⟩ := p1
        obtain ⟨o', eo', c2, _⟩ := h1
        rw [eo] at eo'
        cases eo'
        rw [c1] at c2
        exact absurd c2 (by decide)
    have ne2 : b ≠ i2 := fun e => by
      subst e
      cases u
      · obtain ⟨o, eo, c1, _⟩ := p2
        obtain ⟨o', eo', c2, _⟩ := h2
        rw [eo] at eo'
        cases eo'
        rw [c1] at c2
        exact absurd c2 (by decide)
      · obtain ⟨o, eo, c1, _⟩ := p2
        obtain ⟨o', eo', c2, _⟩ := h2
        rw [eo] at eo'
        cases eo'
        rw [c1] at c2
        exact absurd c2 (by decide)
    refine wpAny_pyNext_zipD2_end S (draws t (A := X.A.in1) hh ne1 us.toArray) (draws u (A := X.A.in1) hh ne2 vs.toArray) hz hTI hTO ⟨h1, p1⟩ ⟨h2, p2⟩ (by simp; omega) (by simp; omega) (by simp; omega) fun h' tk hk => ⟨rfl, I.turnedL (t' := tk) (ch := [z, TI, TO, i1, i2]) (fun c o hc q => ?_) hf⟩
    simp only [List.mem_cons, List.not_mem_nil, or_false, not_or] at hc
    exact hk c o hc.1 hc.2.2.1 hc.2.2.2.1 hc.2.2.2.2 q
  self := fun A i s Q E st h => wpAny_pyIter_zip st.1 h
end ZM
namespace PM
open PySem PySem.Spec PyProof.Rows L2 LB
section
variable {T : Tb} {K : PySem.W.Frag} {X : Cx} {e : Expr}
end
end PM
namespace PM
open PySem PySem.Spec PyProof.Rows L2 LB
section
variable {T : Tb} {K : PySem.W.Frag} {X : Cx} {e : Expr} {st : Stmt} {sts : List Stmt} {R : ER}
/-! ### x = {k: v for ..}, the dict one's own -/
/-! ### a dict of lists, its keys texts, all there from the start -/
def addS (G : List (Str × List PyData)) (k : Str) (d : PyData) : List (Str × List PyData) := G.map fun e => if e.1 = k then (e.1, e.2 ++ [d]) else e
def lsD (G : List (Str × List PyData)) : PyData := dcD (G.map fun e => (e.1, .list e.2))
def DLs (K : PySem.W.Frag) (P : Pr T) (e : Key × V) (g : Str × List PyData) : Prop := e.1 = .inr g.1 ∧ ∃ q xs, e.2 = .ref q ∧ P.M q = none ∧ P.H q = some (.lst xs) ∧ RpAll K P.M xs g.2
structure GS (K : PySem.W.Frag) (P0 P : Pr T) (p : Addr) (kvs : List (Key × V)) (G : List (Str × List PyData)) : Prop where
  m : P.M p = none
  h : P.H p = some (.dK kvs)
  each : PySem.W.EachIs (DLs K P) kvs G
  nk : (G.map (·.1)).Nodup
  nv : (kvs.map (·.2)).Nodup
  lo : Loose P0.H p
  los : ∀ e ∈ kvs, ∀ q, e.2 = V.ref q → Loose P0.H q
theorem DLs.up {P P' : Pr T} (l : Le P P') {e : Key × V} {g : Str × List PyData} (h : DLs K P e g) : DLs K P' e g := by
  obtain ⟨h1, q, xs, h2, h3, h4, h5⟩ := h
  exact ⟨h1, q, xs, h2, own_none l h3 h4 (fun _ z => nomatch z) (fun _ z => nomatch z), l.h _ _ h4 (fun _ z => nomatch z), h5.ext l.m⟩
theorem GS.up {P0 P P' : Pr T} {p : Addr} {kvs : List (Key × V)} {G : List (Str × List PyData)} (g : GS K P0 P p kvs G) (l : Le P P') : GS K P0 P' p kvs G :=
  ⟨own_none l g.m g.h (fun _ z => nomatch z) (fun _ z => nomatch z), l.h _ _ g.h (fun _ z => nomatch z), g.each.mono (fun _ _ h => h.up l), g.nk, g.nv, g.lo, g.los⟩
theorem dls_hit {P : Pr T} {k : Str} : ∀ {kvs : List (Key × V)} {G : List (Str × List PyData)}, PySem.W.EachIs (DLs K P) kvs G → k ∈ G.map (·.1) →
    ∃ q xs as bs As Bs ds, valV kvs (.inr k) = some (V.ref q) ∧ kvs = as ++ (.inr k, V.ref q) :: bs ∧ G = As ++ (k, ds) :: Bs ∧ PySem.W.EachIs (DLs K P) as As ∧ PySem.W.EachIs (DLs K P) bs Bs ∧ P.M q = none ∧ P.H q = some (.lst xs) ∧ RpAll K P.M xs ds
  | _, _, .nil, h => absurd h List.not_mem_nil
  | (k0, u) :: kvs, (k', ds) :: G, .cons h t, hk => by
    obtain ⟨h1, q, xs, h2, h3, h4, h5⟩ := h
    have h1 : k0 = .inr k' := h1
    have h2 : u = V.ref q := h2
    subst h1 h2
    by_cases z : k' = k
    · subst z
      refine ⟨q, xs, [], kvs, [], G, ds, ?_, rfl, rfl, .nil, t, h3, h4, h5⟩
      unfold valV
      rw [List.find?_cons, decide_eq_true rfl]
      rfl
    · have hk' : k ∈ G.map (·.1) := (List.mem_cons.mp hk).elim (fun w => absurd w.symm z) id
      obtain ⟨q', xs', as, bs, As, Bs, ds', e1, e2, e3, e4, e5, e6, e7, e8⟩ := dls_hit t hk'
      refine ⟨q', xs', (.inr k', V.ref q) :: as, bs, (k', ds) :: As, Bs, ds', ?_, by rw [e2]; rfl, by rw [e3]; rfl, .cons ⟨rfl, q, xs, rfl, h3, h4, h5⟩ e4, e5, e6, e7, e8⟩
      unfold valV at e1 ⊢
      rw [List.find?_cons, decide_eq_false (fun w => z (by injection w))]
      exact e1
theorem addS_hit {k : Str} {d : PyData} {As Bs : List (Str × List PyData)} {ds : List PyData} (n1 : k ∉ As.map (·.1)) (n2 : k ∉ Bs.map (·.1)) : addS (As ++ (k, ds) :: Bs) k d = As ++ (k, ds ++ [d]) :: Bs := by
  unfold addS
  rw [List.map_append, List.map_cons, if_pos rfl]
  have e : ∀ l : List (Str × List PyData), k ∉ l.map (·.1) → l.map (fun e => if e.1 = k then (e.1, e.2 ++ [d]) else e) = l := fun l hn => by
    conv => rhs; rw [← List.map_id l]
    refine List.map_congr_left fun x hx => ?_
    exact if_neg fun z => hn (List.mem_map.mpr ⟨x, hx, z⟩)
  rw [e As n1, e Bs n2]
theorem addS_keys (G : List (Str × List PyData)) (k : Str) (d : PyData) : (addS G k d).map (·.1) = G.map (·.1) := by
  unfold addS
  rw [List.map_map]
  refine List.map_congr_left fun e _ => ?_
  show (if e.1 = k then (e.1, e.2 ++ [d]) else e).1 = e.1
  split <;> rfl
theorem GS.hit {P0 P : Pr T} {p : Addr} {kvs : List (Key × V)} {G : List (Str × List PyData)} (g : GS K P0 P p kvs G) (l : Le P0 P) {k : Str} {w : V} {d : PyData} (hk : k ∈ G.map (·.1)) (r : Rp K P.M w d) :
    ∃ q xs Q, valV kvs (.inr k) = some (V.ref q) ∧ P.H q = some (.lst xs) ∧ (∃ ds, (k, ds) ∈ G ∧ xs.length = ds.length) ∧ Q.M = P.M ∧ Q.H = upd P.H q (.lst (xs ++ [w])) ∧ Le P0 Q ∧ GS K P0 (T := T) Q p kvs (addS G k d) := by
  obtain ⟨q, xs, as, bs, As, Bs, ds, e0, rfl, rfl, e4, e5, e6, e7, e8⟩ := dls_hit g.each hk
  obtain ⟨Q, hM, hH⟩ := P.mut1 (o' := .lst (xs ++ [w])) e6 e7 (fun _ z => nomatch z) (fun _ _ z => by unfold LamX.CodeO at z; cases z)
  have lq : Loose P0.H q := g.los (.inr k, V.ref q) (List.mem_append_right _ List.mem_cons_self) q rfl
  have npq : p ≠ q := fun z => by
    have := g.h
    rw [z, e7] at this
    cases this
  have nk := g.nk
  have nv := g.nv
  rw [List.map_append, List.map_cons, List.nodup_append] at nk nv
  have ka : k ∉ As.map (·.1) := fun z => nk.2.2 k z k List.mem_cons_self rfl
  have kb : k ∉ Bs.map (·.1) := (List.nodup_cons.mp nk.2.1).1
  have va : V.ref q ∉ as.map (·.2) := fun z => nv.2.2 _ z _ List.mem_cons_self rfl
  have vb : V.ref q ∉ bs.map (·.2) := (List.nodup_cons.mp nv.2.1).1
  have keep : ∀ {l : List (Key × V)} {L : List (Str × List PyData)}, V.ref q ∉ l.map (·.2) → PySem.W.EachIs (DLs K P) l L → PySem.W.EachIs (DLs K Q) l L := fun {l L} hn h => each_imp h fun a ha b hb => by
    obtain ⟨h1, q', xs', h2, h3, h4, h5⟩ := hb
    have ne : q' ≠ q := fun z => hn (List.mem_map.mpr ⟨a, ha, by rw [h2, z]⟩)
    exact ⟨h1, q', xs', h2, by rw [hM]; exact h3, by rw [hH, upd_ne ne]; exact h4, by rw [hM]; exact h5⟩
  refine ⟨q, xs, Q, e0, e7, ⟨ds, List.mem_append_right _ List.mem_cons_self, e8.length⟩, hM, hH, le_mut1 l lq hM hH, ⟨by rw [hM]; exact g.m, by rw [hH, upd_ne npq]; exact g.h, ?_, by rw [addS_keys]; exact g.nk, g.nv, g.lo, g.los⟩⟩
  rw [addS_hit ka kb]
  exact each_app (keep va e4) (.cons ⟨rfl, q, _, rfl, by rw [hM]; exact e6, by rw [hH]; exact upd_same, by rw [hM]; exact RpAll.append e8 (.cons r .nil)⟩ (keep vb e5))
/-- a new key with a new list -/
theorem GS.new {P0 P : Pr T} {p : Addr} {kvs : List (Key × V)} {G : List (Str × List PyData)} (g : GS K P0 P p kvs G) (l : Le P0 P) {k : Str} (hk : k ∉ G.map (·.1)) {q : Addr} (hq : P.H q = none) :
    ∃ Q : Pr T, Q.M = P.M ∧ Q.H = upd (upd P.H q (.lst [])) p (.dK (kvs ++ [(.inr k, V.ref q)])) ∧ (upd P.H q (.lst [])) p = some (.dK kvs) ∧ Le P0 Q ∧ (∀ P1 : Pr T, Le P1 P → Loose P1.H p → Le P1 Q) ∧ GS K P0 Q p (kvs ++ [(.inr k, V.ref q)]) (G ++ [(k, [])]) := by
  have npq : p ≠ q := fun z => by
    have := g.h
    rw [z, hq] at this
    cases this
  have mq := P.none hq
  have lq : Loose P0.H q := fun o ho => by
    by_cases t : ∃ ps, o = HO.tbl ps
    · exact t
    · have := l.h q o ho fun ps z => t ⟨ps, z⟩
      rw [hq] at this
      cases this
  have hp1 : (P.hid q (.lst []) hq).H p = some (.dK kvs) := by
    show upd P.H q _ p = _
    rw [upd_ne npq]
    exact g.h
  obtain ⟨Q, hM, hH⟩ := (P.hid q (.lst []) hq).mut1 (o' := .dK (kvs ++ [(.inr k, V.ref q)])) g.m hp1 (fun _ z => nomatch z) (fun _ _ z => by unfold LamX.CodeO at z; cases z)
  have hM : Q.M = P.M := hM
  have hH : Q.H = upd (upd P.H q (.lst [])) p (.dK (kvs ++ [(.inr k, V.ref q)])) := hH
  have nv : ∀ e ∈ kvs, e.2 ≠ V.ref q := fun e he z => by
    obtain ⟨b, _, _, q', xs, h2, _, h4, _⟩ := g.each.left e he
    rw [h2] at z
    cases z
    rw [hq] at h4
    cases h4
  refine ⟨Q, hM, hH, hp1, le_mut1 (l.trans (le_hid P hq)) g.lo hM hH, fun P1 l1 lo1 => le_mut1 (l1.trans (le_hid P hq)) lo1 hM hH, ⟨by rw [hM]; exact g.m, by rw [hH]; exact upd_same, ?_, ?_, ?_, g.lo, fun e he q' hq' => ?_⟩⟩
  · refine each_app (each_imp g.each fun a ha b hb => ?_) (.cons ⟨rfl, q, [], rfl, by rw [hM]; exact mq, by rw [hH, upd_ne (Ne.symm npq)]; exact upd_same, .nil⟩ .nil)
    obtain ⟨h1, q', xs', h2, h3, h4, h5⟩ := hb
    have n1 : q' ≠ q := fun z => nv a ha (by rw [h2, z])
    have n2 : q' ≠ p := fun z => by
      rw [z, g.h] at h4
      cases h4
    refine ⟨h1, q', xs', h2, by rw [hM]; exact h3, ?_, by rw [hM]; exact h5⟩
    rw [hH, upd_ne n2, upd_ne n1]
    exact h4
  · rw [List.map_append, List.nodup_append]
    exact ⟨g.nk, by simp, fun a ha b hb e => hk (by
      have e : a = k := e.trans (List.mem_singleton.mp hb)
      rw [e] at ha
      exact ha)⟩
  · rw [List.map_append, List.nodup_append]
    refine ⟨g.nv, by simp, fun a ha b hb e => ?_⟩
    obtain ⟨x, hx, rfl⟩ := List.mem_map.mp ha
    rw [List.mem_singleton.mp hb] at e
    exact nv x hx e
  · rcases List.mem_append.mp he with h | h
    · exact g.los e h q' hq'
    · rw [List.mem_singleton.mp h] at hq'
      cases hq'
      exact lq
open Classical in
/-- what was gathered is data, the dict known from now on -/
theorem GS.done {P0 P : Pr T} {p : Addr} {kvs : List (Key × V)} {G : List (Str × List PyData)} (g : GS K P0 P p kvs G) (l : Le P0 P) (od : Obj) : ∃ Q : Pr T, Q.H = upd P.H p (.frz od (.dK kvs)) ∧ Le P0 Q ∧ Ex P.M Q.M ∧ Rp K Q.M (V.ref p) (lsD G) := by
  let inn : Addr → Prop := fun a => ∃ e ∈ kvs, e.2 = V.ref a
  have plain : ∀ a, inn a → P.M a = none ∧ (∃ o, P.H a = some o ∧ Plain o) ∧ Loose P0.H a ∧ a ≠ p := fun a ha => by
    obtain ⟨e, he, h2⟩ := ha
    obtain ⟨b, _, _, q, xs, e2, e3, e4, _⟩ := g.each.left e he
    rw [e2] at h2
    cases h2
    refine ⟨e3, ⟨_, e4, fun _ z => nomatch z⟩, g.los e he a e2, fun z => ?_⟩
    rw [z, g.h] at e4
    cases e4
  let M' : Hp := fun a => if a = p then some (.frz od (.dK kvs)) else if inn a then P.H a else P.M a
  have em : Ex P.M M' := fun b u e q => by
    have n1 : b ≠ p := fun z => by rw [z, g.m] at e; cases e
    have n2 : ¬ inn b := fun z => by rw [(plain b z).1] at e; cases e
    show (if b = p then _ else if inn b then P.H b else P.M b) = some u
    rw [if_neg n1, if_neg n2]
    exact e
  have at' : ∀ a o, inn a → P.H a = some o → M' a = some o := fun a o ha ho => by
    show (if a = p then _ else if inn a then P.H a else P.M a) = some o
    rw [if_neg (plain a ha).2.2.2, if_pos ha]
    exact ho
  have atp : M' p = some (.frz od (.dK kvs)) := if_pos rfl
  refine ⟨⟨M', upd P.H p (.frz od (.dK kvs)), fun b u e q => ?_, tabs_mut P.tab g.h (fun _ z => nomatch z) (fun _ _ z => by unfold LamX.CodeO at z; cases z), fun a ps z => ?_⟩, rfl, ⟨l.m.trans em, fun b u e q => ?_, fun a h1 h2 => ?_⟩, em, ?_⟩
  · by_cases hb : b = p
    · subst hb
      rw [atp] at e
      cases e
      exact upd_same
    · have e : (if b = p then some (HO.frz od (.dK kvs)) else if inn b then P.H b else P.M b) = some u := e
      rw [if_neg hb] at e
      rw [upd_ne hb]
      split at e
      · exact e
      · exact P.sub b u e q
  · by_cases hb : a = p
    · subst hb
      rw [atp] at z
      cases z
    · have z : (if a = p then some (HO.frz od (.dK kvs)) else if inn a then P.H a else P.M a) = some (.tbl ps) := z
      rw [if_neg hb] at z
      split at z
      · rename_i ha
        obtain ⟨_, ⟨o, ho, n⟩, _⟩ := plain a ha
        rw [ho] at z
        cases z
        exact n ps rfl
      · exact P.nt a ps z
  · have ne : b ≠ p := fun z => by
      rw [z] at e
      obtain ⟨ps, w⟩ := g.lo u e
      exact q ps w
    show upd P.H p _ b = some u
    rw [upd_ne ne]
    exact l.h b u e q
  · by_cases hb : a = p
    · rw [hb]
      exact .inl g.lo
    · have h2 : (if a = p then some (HO.frz od (.dK kvs)) else if inn a then P.H a else P.M a) ≠ none := h2
      rw [if_neg hb] at h2
      split at h2
      · rename_i ha
        exact .inl (plain a ha).2.2.1
      · exact l.f a h1 h2
  · have hv : ∀ {l : List (Key × V)} {L : List (Str × List PyData)}, (∀ e ∈ l, e ∈ kvs) → PySem.W.EachIs (DLs K P) l L → PySem.W.EachIs (DS K M') l (L.map fun e => (e.1, PyData.list e.2)) := by
      intro l L sub h
      induction h with
      | nil => exact .nil
      | @cons a b as bs h t ih =>
        obtain ⟨h1, q, xs, h2, h3, h4, h5⟩ := h
        refine .cons ⟨h1, ?_⟩ (ih fun e he => sub e (List.mem_cons_of_mem _ he))
        show Rp K M' a.2 (.list b.2)
        rw [h2]
        exact .lst (SqL.of (at' q _ ⟨a, sub a List.mem_cons_self, h2⟩ h4)) (h5.ext em)
    have k := hv (fun e he => he) g.each
    exact .dct atp (dc_keys k) (dc_vals k)
end
end PM
namespace PM
open PySem PySem.Spec PyProof.Rows L2 LB
/-! ### two dicts of one's own compared, the values data -/
section
variable {X : Cx} {pins : List (Addr × Obj)} {σ : L2.St} {H : Hp} {s : Shared}
structure RowsR (K : PySem.W.Frag) (H : Hp) (ls : List (Key × V)) (es : List (Str × PyData)) (p : Key × V) (d : Str × PyData) : Prop where
  k : p.1 = .inr d.1
  r : Dp K H p.2 d.2
  sh : SeqAt.shaped d.2 = true
  o : ∃ v e, getS es d.1 = some e ∧ valV ls p.1 = some v ∧ Dp K H v e ∧ SeqAt.shaped e = true
end
section
variable {T : Tb} {K : PySem.W.Frag} {X : Cx} {e : Expr} {st : Stmt} {sts : List Stmt} {R : ER}
/-! ### x = dict(zip(a, b)), x a dict of one's own -/
/-! ### a call that may raise, handed what may raise -/
end
end PM
namespace Z3
open PySem PySem.Spec PyProof.Rows L2 LB ZM
/-! ### zip of three rows, each a list or a tuple -/
theorem apart {t : Bool} {h : Heap} {i a : Addr} {k : Nat} {us : Array Value} (st : ItK t h i a k) (p : IsK t h a us) : a ≠ i := fun e => by
  subst e
  cases t
  · obtain ⟨o, eo, c1, _⟩ := p
    obtain ⟨o', eo', c2, _⟩ := st
    rw [eo] at eo'
    cases eo'
    rw [c1] at c2
    exact absurd c2 (by decide)
  · obtain ⟨o, eo, c1, _⟩ := p
    obtain ⟨o', eo', c2, _⟩ := st
    rw [eo] at eo'
    cases eo'
    rw [c1] at c2
    exact absurd c2 (by decide)
def Itz3 (K : PySem.W.Frag) (t u v : Bool) (a b c : Addr) : It :=
  ⟨fun i H => ∃ (xs ys zs : List V) (x y z : V), SqK K t H a xs ∧ SqK K u H b ys ∧ SqK K v H c zs ∧ xs[i]? = some x ∧ ys[i]? = some y ∧ zs[i]? = some z,
    fun i H w H' => ∃ T x y z, w = .ref T ∧ H T = none ∧ H' = upd H T (.tup [x, y, z]) ∧ (∀ xs, SqK K t H a xs → xs[i]? = some x) ∧ (∀ ys, SqK K u H b ys → ys[i]? = some y) ∧ ∀ zs, SqK K v H c zs → zs[i]? = some z,
    fun i H => ∃ xs ys zs : List V, SqK K t H a xs ∧ SqK K u H b ys ∧ SqK K v H c zs ∧ i ≤ xs.length ∧ i ≤ ys.length ∧ i ≤ zs.length ∧ (i = xs.length ∨ i = ys.length ∨ i = zs.length)⟩
theorem turn {P : Program} {w : World} {K : PySem.W.Frag} {elts : List Expr} {kk : Nat} {tpos : Pos} {t u v : Bool} {a b c z TI TO i1 i2 i3 : Addr} (S : ZipSep3 z TI TO i1 i2 i3 [i1, a] [i2, b] [i3, c]) :
    Turn P w K (.Tuple elts kk tpos) (Itz3 K t u v a b c) [z, TI, TO, i1, i2, i3] z (fun i h => IsZip h z TI TO .none ∧ IsTupOf3 h TI (.ref i1) (.ref i2) (.ref i3) ∧ (∃ x y w, IsTupOf3 h TO x y w) ∧ ItK t h i1 a i ∧ ItK u h i2 b i ∧ ItK v h i3 c i) where
  mem := by simp
  obj := fun i h st d hd => by
    obtain ⟨hz, hTI, ⟨x, y, w, hTO⟩, h1, h2, h3⟩ := st
    simp only [List.mem_cons, List.not_mem_nil, or_false] at hd
    rcases hd with rfl | rfl | rfl | rfl | rfl | rfl
    · exact ⟨_, hz, fun v q => nomatch q⟩
    · exact ⟨_, hTI, fun v q => nomatch q⟩
    · exact ⟨_, hTO, fun v q => nomatch q⟩
    · exact it_obj h1
    · exact it_obj h2
    · exact it_obj h3
  keep := fun i h h' st k => by
    obtain ⟨hz, hTI, ⟨x, y, w, hTO⟩, h1, h2, h3⟩ := st
    exact ⟨k z (by simp) _ hz, k TI (by simp) _ hTI, ⟨x, y, w, k TO (by simp) _ hTO⟩, it_at h1 fun o q => k i1 (by simp) o q, it_at h2 fun o q => k i2 (by simp) o q, it_at h3 fun o q => k i3 (by simp) o q⟩
  item := by
    intro X hP hw hK hc i pins s σ H E I hf st hg
    subst hP hw hK
    obtain ⟨hz, hTI, ⟨x0, y0, w0, hTO⟩, h1, h2, h3⟩ := st
    obtain ⟨xs, ys, zs, x, y, zz, qx, qy, qz, hx, hy, hzz⟩ := hg
    obtain ⟨us, ru, p1, la⟩ := row I qx
    obtain ⟨vs, rv, p2, lb⟩ := row I qy
    obtain ⟨ws, rw', p3, lc⟩ := row I qz
    obtain ⟨x1, ex, rx⟩ := ru.get hx
    obtain ⟨y1, ey, ry⟩ := rv.get hy
    obtain ⟨w1, ew, rwz⟩ := rw'.get hzz
    have hh := I.ok.hd hc
    have gu : us.toArray[i]? = some x1 := by simpa using ex
    have gv : vs.toArray[i]? = some y1 := by simpa using ey
    have gw : ws.toArray[i]? = some w1 := by simpa using ew
    have hzl : z < s.heap.objs.size := Heap.lt_size hz
    refine wpAny_pyNext_zipD3_item S (draws t (A := X.A.in1) hh (apart h1 p1) us.toArray) (draws u (A := X.A.in1) hh (apart h2 p2) vs.toArray) (draws v (A := X.A.in1) hh (apart h3 p3) ws.toArray) hz hTI hTO ⟨h1, p1⟩ ⟨h2, p2⟩ ⟨h3, p3⟩ (Array.getElem?_eq_some_iff.mp gu).1 (Array.getElem?_eq_some_iff.mp gv).1 (Array.getElem?_eq_some_iff.mp gw).1 fun x2 y2 w2 h' tk z1 z2 z3 hz' hTO' h1' h2' h3' hT hsz hk => ?_
    rw [gu] at z1
    cases z1
    rw [gv] at z2
    cases z2
    rw [gw] at z3
    cases z3
    refine ⟨_, rfl, wpAny_letOwnedTupleGo_zip (s := { s with heap := h', toks := tk }) hz' fun h'' hz'' sb => ?_⟩
    have hT2 : h''.get? s.heap.objs.size = some { cls := .type "tuple", data := .seq #[x1, y1, w1] } := (sb.2 _ (Nat.ne_of_gt hzl)).trans hT
    have new : ObjOk X.prog X.w (upd H s.heap.objs.size (.tup [x, y, zz])) h'' s.heap.objs.size (.tup [x, y, zz]) := ⟨by show 3 ≤ sizeLine; decide, [x1, y1, w1], .cons rx (.cons ry (.cons rwz .nil)), ⟨_, hT2, rfl, _, rfl⟩⟩
    have kp : ∀ d o, d ∉ [z, TI, TO, i1, i2, i3] → s.heap.get? d = some o → h''.get? d = some o := fun d o hd q => by
      simp only [List.mem_cons, List.not_mem_nil, or_false, not_or] at hd
      exact (sb.2 d hd.1).trans (hk d o hd.1 hd.2.2.1 hd.2.2.2.1 hd.2.2.2.2.1 hd.2.2.2.2.2 q)
    have I1 : Inv X pins σ (upd H s.heap.objs.size (.tup [x, y, zz])) { s with heap := h'', toks := tk } := I.turnedNew (t' := tk) (ch := [z, TI, TO, i1, i2, i3]) kp hf (Nat.le_refl _) new
    have lt1 : i1 < s.heap.objs.size := by
      obtain ⟨_, e, _⟩ := it_obj h1
      exact Heap.lt_size e
    have lt2 : i2 < s.heap.objs.size := by
      obtain ⟨_, e, _⟩ := it_obj h2
      exact Heap.lt_size e
    have lt3 : i3 < s.heap.objs.size := by
      obtain ⟨_, e, _⟩ := it_obj h3
      exact Heap.lt_size e
    refine ⟨.ref s.heap.objs.size, _, I1, rfl, ⟨_, x, y, zz, rfl, I.hok.fresh (Nat.le_refl _), rfl, fun l hl => by rw [inj I hl qx]; exact hx, fun l hl => by rw [inj I hl qy]; exact hy, fun l hl => by rw [inj I hl qz]; exact hzz⟩, ⟨hz'', ?_, ⟨x1, y1, w1, ?_⟩, ?_, ?_, ?_⟩, fun d hdm => ?_⟩
    · exact (sb.2 _ S.TIz).trans (hk _ _ S.TIz S.TITO S.TIi1 S.TIi2 S.TIi3 hTI)
    · exact (sb.2 _ S.TOz).trans hTO'
    · exact it_at h1'.1 fun o q => (sb.2 _ fun e => S.zf1 (by rw [← e]; exact S.mem1)).trans q
    · exact it_at h2'.1 fun o q => (sb.2 _ fun e => S.zf2 (by rw [← e]; exact S.mem2)).trans q
    · exact it_at h3'.1 fun o q => (sb.2 _ fun e => S.zf3 (by rw [← e]; exact S.mem3)).trans q
    · have hlt : d < s.heap.objs.size := by
        simp only [List.mem_cons, List.not_mem_nil, or_false] at hdm
        rcases hdm with rfl | rfl | rfl | rfl | rfl | rfl
        · exact hzl
        · exact Heap.lt_size hTI
        · exact Heap.lt_size hTO
        · exact lt1
        · exact lt2
        · exact lt3
      rw [upd_ne (Nat.ne_of_lt hlt)]
      exact (hf d hdm).1
  done := by
    intro X hP hw hK hc i pins s σ H E I hf st hg
    subst hP hw hK
    obtain ⟨hz, hTI, ⟨x0, y0, w0, hTO⟩, h1, h2, h3⟩ := st
    obtain ⟨xs, ys, zs, qx, qy, qz, l1, l2, l3, hend⟩ := hg
    obtain ⟨us, ru, p1, la⟩ := row I qx
    obtain ⟨vs, rv, p2, lb⟩ := row I qy
    obtain ⟨ws, rw', p3, lc⟩ := row I qz
    have e1 := ru.length
    have e2 := rv.length
    have e3 := rw'.length
    have hh := I.ok.hd hc
    refine wpAny_pyNext_zipD3_end S (draws t (A := X.A.in1) hh (apart h1 p1) us.toArray) (draws u (A := X.A.in1) hh (apart h2 p2) vs.toArray) (draws v (A := X.A.in1) hh (apart h3 p3) ws.toArray) hz hTI hTO ⟨h1, p1⟩ ⟨h2, p2⟩ ⟨h3, p3⟩ (by simp; omega) (by simp; omega) (by simp; omega) (by simp; omega) fun h' tk hk => ⟨rfl, I.turnedL (t' := tk) (ch := [z, TI, TO, i1, i2, i3]) (fun d o hd q => ?_) hf⟩
    simp only [List.mem_cons, List.not_mem_nil, or_false, not_or] at hd
    exact hk d o hd.1 hd.2.2.1 hd.2.2.2.1 hd.2.2.2.2.1 hd.2.2.2.2.2 q
  self := fun A i s Q E st h => wpAny_pyIter_zip st.1 h
end Z3
namespace PM
open PySem PySem.Spec PyProof.Rows L2 LB
section
variable {T : Tb} {K : PySem.W.Frag} {X : Cx} {e : Expr}
end
end PM
namespace PM
open PySem PySem.Spec PyProof.Rows L2 LB
section
variable {T : Tb} {K : PySem.W.Frag} {X : Cx} {st : Stmt} {R : ER}
/-! ### d.setdefault(k, v) as a statement, d one's own dict with tuple keys -/
end
end PM
namespace PM
open PySem PySem.Spec PyProof.Rows L2 LB
section
variable {T : Tb} {K : PySem.W.Frag} {X : Cx}
/-! ### max of three whole numbers -/
end
end PM
namespace PM
open PySem PySem.Spec PyProof.Rows L2 LB
section
variable {T : Tb} {K : PySem.W.Frag} {X : Cx} {e : Expr}
/-! ### l.index(x), the items of any kind -/
end
end PM
namespace PM
open PySem PySem.Spec PyProof.Rows L2 LB
section
variable {T : Tb} {K : PySem.W.Frag} {X : Cx}
/-! ### the sum of a list of whole numbers -/
end
end PM
namespace PM
open PySem PySem.Spec PyProof.Rows L2 LB
section
variable {T : Tb} {K : PySem.W.Frag} {X : Cx} {e : Expr}
/-! ### enumerate of a list -/
def enumD (xs : List PyData) : List PyData := (List.range xs.length).map fun (i : Nat) => .tuple [.int (i : Int), xs.getD i .none]
theorem enumD_at {xs : List PyData} {i : Nat} {d : PyData} (h : xs[i]? = some d) : (enumD xs)[i]? = some (.tuple [.int (i : Int), d]) := by
  obtain ⟨hi, e⟩ := List.getElem?_eq_some_iff.mp h
  unfold enumD
  rw [List.getElem?_map, List.getElem?_range hi]
  show some (PyData.tuple [.int (i : Int), xs.getD i .none]) = _
  rw [List.getD_eq_getElem?_getD, h]
  rfl
theorem enumD_len (xs : List PyData) : (enumD xs).length = xs.length := by
  unfold enumD
  rw [List.length_map, List.length_range]
end
end PM
namespace EN
open PySem PySem.Spec PyProof.Rows L2 LB ZM
/-! ### enumerate of a row, a list or a tuple -/
section
variable {prog : Program} {w : World} {A : Around} {E : Value → Shared → Prop} {s : Shared}
end
def ItE (K : PySem.W.Frag) (t : Bool) (a : Addr) : It :=
  ⟨fun i H => ∃ (xs : List V) (x : V), SqK K t H a xs ∧ xs[i]? = some x, fun i H v H' => ∃ T x, v = .ref T ∧ H T = none ∧ H' = upd H T (.tup [.int (i : Nat), x]) ∧ ∀ xs, SqK K t H a xs → xs[i]? = some x, fun i H => ∃ xs : List V, SqK K t H a xs ∧ xs.length = i⟩
theorem turn {P : Program} {w : World} {K : PySem.W.Frag} {elts : List Expr} {kk : Nat} {tpos : Pos} {t : Bool} (a e it : Addr) (hne : e ≠ it) (hea : e ≠ a) :
    Turn P w K (.Tuple elts kk tpos) (ItE K t a) [e, it] e (fun i h => (∃ old, IsEnum h e it ((i : Nat) : Int) old) ∧ ItK t h it a i) where
  mem := by simp
  obj := fun i h st b hb => by
    obtain ⟨⟨old, he⟩, hit⟩ := st
    simp only [List.mem_cons, List.not_mem_nil, or_false] at hb
    rcases hb with rfl | rfl
    · exact ⟨_, he, fun v q => nomatch q⟩
    · exact it_obj hit
  keep := fun i h h' st k => let ⟨⟨old, he⟩, hi⟩ := st; ⟨⟨old, k e (by simp) _ he⟩, it_at hi fun o q => k it (by simp) o q⟩
  item := by
    intro X hP hw hK hc i pins s σ H E I hf st hg
    subst hP hw hK
    obtain ⟨⟨old, he⟩, hit⟩ := st
    obtain ⟨xs, x, hq, hx⟩ := hg
    obtain ⟨us, rv, p, la⟩ := row I hq
    obtain ⟨u, hu, ru⟩ := rv.get hx
    have hh := I.ok.hd hc
    have gu : us.toArray[i]? = some u := by simpa using hu
    have hel : e < s.heap.objs.size := Heap.lt_size he
    have hil : it < s.heap.objs.size := by
      obtain ⟨_, q, _⟩ := it_obj hit
      exact Heap.lt_size q
    have hef : e ∉ [it, a] := by
      simp only [List.mem_cons, List.not_mem_nil, or_false, not_or]
      exact ⟨hne, hea⟩
    refine wpAny_pyNext_enum_itemD (draws t (A := X.A.in1) hh (Z3.apart hit p) us.toArray) he ⟨hit, p⟩ (Array.getElem?_eq_some_iff.mp gu).1 hne hef fun x2 h' tk hP ho hst' hT hsz hk => ?_
    rw [gu] at hP
    cases hP
    refine ⟨_, rfl, wpAny_letOwnedTupleGo_enum (s := { s with heap := h', toks := tk + 1 }) ho fun h'' he' sb => ?_⟩
    have hT2 : h''.get? s.heap.objs.size = some { cls := .type "tuple", data := .seq #[.int i tk, u] } := (sb.2 _ (Nat.ne_of_gt hel)).trans hT
    have new : ObjOk X.prog X.w (upd H s.heap.objs.size (.tup [.int (i : Nat), x])) h'' s.heap.objs.size (.tup [.int (i : Nat), x]) :=
      ⟨by show 2 ≤ sizeLine; decide, [.int i tk, u], .cons ⟨_, rfl⟩ (.cons ru .nil), ⟨_, hT2, rfl, _, rfl⟩⟩
    have I1 : Inv X pins σ (upd H s.heap.objs.size (.tup [.int (i : Nat), x])) { s with heap := h'', toks := tk + 1 } :=
      I.turnedNew (ch := [e, it]) (fun b ob hb q => (sb.2 b (fun z => hb (by simp [z]))).trans (hk b ob (fun z => hb (by simp [z])) (fun z => hb (by simp [z])) q)) hf (Nat.le_refl _) new
    refine ⟨.ref s.heap.objs.size, _, I1, rfl, ⟨_, x, rfl, I.hok.fresh (Nat.le_refl _), rfl, fun ys hy => by rw [inj I hy hq]; exact hx⟩, ⟨⟨u, ?_⟩, it_at hst'.1 fun o q => (sb.2 it (Ne.symm hne)).trans q⟩, fun b hb => ?_⟩
    · have e1 : ((i + 1 : Nat) : Int) = (i : Int) + 1 := by omega
      rw [e1]; exact he'
    · have hb' : b < s.heap.objs.size := by
        simp only [List.mem_cons, List.not_mem_nil, or_false] at hb
        rcases hb with z | z
        · rw [z]; exact hel
        · rw [z]; exact hil
      rw [upd_ne (Nat.ne_of_lt hb')]
      exact (hf b hb).1
  done := by
    intro X hP hw hK hc i pins s σ H E I hf st hg
    subst hP hw hK
    obtain ⟨⟨old, he⟩, hit⟩ := st
    obtain ⟨xs, hq, hx⟩ := hg
    obtain ⟨us, rv, p, la⟩ := row I hq
    obtain ⟨f0, f1, f2, f3, f4, f5⟩ := hf it (by simp)
    have hl := rv.length
    have hn : us.toArray.size = i := by simp; omega
    have hst : ItK t s.heap it a us.toArray.size ∧ IsK t s.heap a us.toArray := ⟨by rw [hn]; exact hit, p⟩
    exact wpAny_pyNext_enum_endD (draws t (A := X.A.in1) (I.ok.hd hc) (Z3.apart hit p) us.toArray) he hst fun h' eb => ⟨rfl, I.turned (t' := s.toks) (fun b o hb q => eb b o hb q) f0 f1 f3 f4 f5⟩
  self := fun A i s Q E st h => let ⟨⟨_, he⟩, _⟩ := st; wpAny_pyIter_enum he h
end EN
namespace PM
open PySem PySem.Spec PyProof.Rows L2 LB
section
variable {T : Tb} {K : PySem.W.Frag} {X : Cx} {e : Expr}
/-! ### a, (b, c): a name, then a tuple of names -/
end
end PM
namespace PM
open PySem PySem.Spec PyProof.Rows L2 LB
section
variable {T : Tb} {K : PySem.W.Frag} {X : Cx} {st : Stmt} {R : Bool}
/-! ### str(n), bool(n) -/
def oStrI : List PyData → Option PyData
  | [.int i] => if i.natAbs.log2 < 1920 then some (.str (toString i)) else none
  | _ => none
theorem cb_strI : CbD K T (fun xs H Q => ∃ i, xs = [.int i] ∧ i.natAbs.log2 < 1920 ∧ Q (.str (toString i)) H) oStrI := by
  intro P vs ds d ra h Q q
  unfold oStrI at h
  split at h
  · split at h
    · rename_i hl
      cases h
      cases ra with
      | cons r1 r2 =>
        cases r2
        rw [r1.int]
        exact ⟨_, rfl, hl, q _ P (Le.refl P) (.str _)⟩
    · cases h
  · cases h
/-! ### xs[a], ys[b] = v -/
end
end PM
namespace PM
open PySem PySem.Spec PyProof.Rows L2 LB
section
variable {T : Tb} {K : PySem.W.Frag} {X : Cx} {st : Stmt} {R : ER}
end
end PM
namespace PM
open PySem PySem.Spec PyProof.Rows L2 LB
section
variable {T : Tb} {K : PySem.W.Frag} {X : Cx} {st : Stmt} {R : ER}
end
end PM
namespace PM
open PySem PySem.Spec PyProof.Rows L2 LB
section
variable {T : Tb} {K : PySem.W.Frag} {X : Cx} {e : Expr}
/-! ### dict([(k, v), ..]), the keys texts, as a datum -/
/-! ### {k: v, ..}, the keys texts, as a datum -/
end
end PM
namespace PM
open PySem PySem.Spec PyProof.Rows L2 LB
section
variable {T : Tb} {K : PySem.W.Frag} {X : Cx} {e : Expr}
/-! ### sorted(d), d a datum dict with texts for keys -/
end
end PM
namespace PM
open PySem PySem.Spec PyProof.Rows L2 LB
section
variable {T : Tb} {K : PySem.W.Frag} {X : Cx} {st : Stmt} {R : ER}
end
end PM
namespace PM
open PySem PySem.Spec PyProof.Rows L2 LB
section
variable {X : Cx} {pins : List (Addr × Obj)} {σ : L2.St} {H : Hp} {s : Shared} {a b : Addr} {v : V} {r : Value} {A : Around} {E : Value → Shared → Prop}
/-! ### {k: v, ..}, the keys tuples, as one's own dict -/
end
section
variable {T : Tb} {K : PySem.W.Frag} {X : Cx} {e : Expr}
/-! ### from here on an own dict with tuple keys is a datum -/
end
section
variable {T : Tb} {K : PySem.W.Frag} {X : Cx} {st : Stmt} {R : ER}
end
end PM
namespace PM
open PySem PySem.Spec PyProof.Rows L2 LB
section
variable {T : Tb} {K : PySem.W.Frag} {X : Cx} {e : Expr}
/-! ### d[k], d one's own dict with tuple keys -/
end
end PM
namespace PM
open PySem PySem.Spec PyProof.Rows L2 LB
section
variable {T : Tb} {K : PySem.W.Frag} {X : Cx} {e : Expr}
/-! ### [..] * n -/
theorem rpAll_rep {M : Hp} {vs : List V} {xs : List PyData} (h : RpAll K M vs xs) : ∀ k : Nat, RpAll K M (List.replicate k vs).flatten (List.replicate k xs).flatten
  | 0 => .nil
  | k + 1 => by
    rw [List.replicate_succ, List.replicate_succ, List.flatten_cons, List.flatten_cons]
    exact RpAll.append h (rpAll_rep h k)
end
end PM
namespace PM
open PySem PySem.Spec PyProof.Rows L2 LB
section
variable {X : Cx} {pins : List (Addr × Obj)} {σ : L2.St} {H : Hp} {s : Shared}
/-! ### dict([(k, v), ..]), the keys tuples, as a datum -/
end
section
variable {T : Tb} {K : PySem.W.Frag} {X : Cx} {e : Expr}
end
end PM
namespace PM
open PySem PySem.Spec PyProof.Rows L2 LB
section
variable {T : Tb} {K : PySem.W.Frag} {X : Cx} {e : Expr}
/-! ### len(dict([(k, v), ..])), the keys tuples -/
end
end PM
namespace PM
open PySem PySem.Spec PyProof.Rows L2 LB
section
variable {T : Tb} {K : PySem.W.Frag} {X : Cx} {e : Expr}
/-! ### sorted(set(xs)), xs a list of pairs of whole numbers -/
end
end PM
namespace PM
open PySem PySem.Spec PyProof.Rows L2 LB
variable {T : Tb} {K : PySem.W.Frag} {X : Cx} {e : Expr}
/-! ### generator expressions with two fors -/
end PM
namespace PM
open PySem PySem.Spec PyProof.Rows L2 LB
variable {T : Tb} {K : PySem.W.Frag} {X : Cx}
end PM
namespace PM
open PySem PySem.Spec PyProof.Rows L2 LB
section
variable {T : Tb} {K : PySem.W.Frag} {X : Cx} {e : Expr} {sts : List Stmt} {R : ER}
/-! ### d = {k: [] for k in ..} where a key may come twice, then d[a].append(b) -/
end
end PM
namespace GX
open PySem PySem.Spec PyProof.Rows L2 GenW
section
variable {X : Cx} {pins : List (Addr × Obj)} {σ : L2.St} {H : Hp} {s : Shared}
end
end GX
/-! ### sets of texts -/
namespace TX
open PySem PySem.Spec PyProof.Rows L2
def kS (e : Int × Value) : Str := match e.2 with
  | .str x _ => x
  | _ => Str.empty
def Ent (w : World) (e : Int × Value) : Prop := ∃ x u, e = (hashStr w x, Value.str x u)
/-- the set of texts at a, L the texts of its entries -/
def TxR (w : World) (h : Heap) (a : Addr) (L : List Str) : Prop :=
  ∃ o es ep t, h.get? a = some o ∧ o.ExactSet ∧ o.data = .set es ep t ∧ (∀ e ∈ es.toList, Ent w e) ∧ es.toList.map kS = L ∧ L.Nodup ∧ es.size < scanBound ∧ t.fits es.size = true ∧
    Ris t.place.toList ∧ (w.params.followText "set-order" = true ∨ t.led = true)
section
variable {P : Program} {w : World} {h h' : Heap} {a : Addr} {L : List Str}
theorem TxR.at (R : TxR w h a L) (k : ∀ o, h.get? a = some o → h'.get? a = some o) : TxR w h' a L := by
  obtain ⟨o, es, ep, t, ho, r⟩ := R
  exact ⟨o, es, ep, t, k o ho, r⟩
theorem ent_elems {l : List (Int × Value)} (g : ∀ e ∈ l, Ent w e) : ElemsOf (strKind P w) l := fun e he => by
  obtain ⟨x, u, rfl⟩ := g e he
  exact ⟨⟨x, strKind_is P w x u, rfl⟩, rfl⟩
theorem ent_is {e : Int × Value} (g : Ent w e) (k : Str) : (strKind P w).is k e.2 = decide (k = kS e) := by
  obtain ⟨x, u, rfl⟩ := g
  exact KeyKind.is_eq_decide (knd := strKind P w) (strKind_is P w x u) k
theorem laid {o : Obj} {es : Array (Int × Value)} {ep : Nat} {t : SetTable} (ho : h.get? a = some o) (hx : o.ExactSet) (hd : o.data = .set es ep t) {es1 : Array (Int × Value)} {t1 : SetTable}
    (g : ∀ e ∈ es1.toList, Ent w e) (nd : (es1.toList.map kS).Nodup) (hb : es1.size < scanBound) (hf : t1.fits es1.size = true) (hr : Ris t1.place.toList) (hl : w.params.followText "set-order" = true ∨ t1.led = true) :
    (h.update a (Obj.putSet es1 t1)).get? a = some { o with data := .set es1 (ep + 1) t1 } ∧ TxR w (h.update a (Obj.putSet es1 t1)) a (es1.toList.map kS) := by
  have ho1 := Heap.get?_update_self (Obj.putSet es1 t1) ho (by rw [putSet_of es1 t1 hd] <;> rfl)
  rw [putSet_of es1 t1 hd] at ho1
  exact ⟨ho1, _, es1, ep + 1, t1, ho1, hx, rfl, g, rfl, nd, hb, hf, hr, hl⟩
end
section
variable {P : Program} {w : World} {A : Around} {E : Value → Shared → Prop} {s : Shared} {a : Addr} {L : List Str}
theorem stored {ga : Bool → Sem Unit} (hg : ∀ (b : Bool) (u : Shared) (q : Unit → Shared → Prop), q () u → wpAny (model P w) A (ga b) q E u)
    {o : Obj} {es : Array (Int × Value)} {ep : Nat} {t : SetTable} (ho : s.heap.get? a = some o) (hx : o.ExactSet) (hd : o.data = .set es ep t) {es1 : Array (Int × Value)} {t1 : SetTable}
    (g : ∀ e ∈ es1.toList, Ent w e) (nd : (es1.toList.map kS).Nodup) (hb : es1.size < scanBound) (hf : t1.fits es1.size = true) (hr : Ris t1.place.toList) (hl : w.params.followText "set-order" = true ∨ t1.led = true)
    {wd : Bool} {R : Option Bool → Shared → Prop} (hR : ∀ h1 L1, Heap.SameBut a s.heap h1 → TxR w h1 a L1 → L1.Perm (es1.toList.map kS) → R (some true) { s with heap := h1 }) :
    wpAny (model P w) A (do
        storeSet a es1 t1
        if (!wd && t1.tooFull) = true then do
            ga (relayAll t1 es1 (SetTable.grown es1.size)).2.2
            storeSet a (relayAll t1 es1 (SetTable.grown es1.size)).1 (relayAll t1 es1 (SetTable.grown es1.size)).2.1
            pure (some true)
          else pure (some true)) R E s := by
  obtain ⟨ho1, R1⟩ := laid ho hx hd g nd hb hf hr hl
  refine wpAny_bind (wpAny_storeSet_of ho hd ?_ (fits_of_scanBound hb))
  have b1 := Heap.SameBut.update s.heap a (Obj.putSet es1 t1)
  by_cases c : (!wd && t1.tooFull) = true
  · rw [if_pos c]
    have p2 := relayAll_perm t1 es1 (SetTable.grown es1.size)
    have f2 := relayAll_fits t1 es1 (SetTable.grown es1.size)
    have r2 := relayAll_ris t1 es1 (SetTable.grown es1.size)
    have l2 := relayAll_led t1 es1 (SetTable.grown es1.size)
    generalize relayAll t1 es1 (SetTable.grown es1.size) = Z at p2 f2 r2 l2 ⊢
    obtain ⟨es2, t2, gv⟩ := Z
    dsimp only at p2 f2 r2 l2 ⊢
    have z2 : es2.size = es1.size := by rw [← Array.length_toList, p2.length_eq, Array.length_toList]
    have hb2 : es2.size < scanBound := by rw [z2]; exact hb
    obtain ⟨_, R2⟩ := laid (w := w) (a := a) ho1 hx rfl (es1 := es2) (t1 := t2) (fun e he => g e (p2.mem_iff.mp he)) ((p2.map kS).nodup_iff.mpr nd) hb2 f2 r2 (hl.imp id fun z => by rw [l2]; exact z)
    refine wpAny_bind (hg _ _ _ (wpAny_bind (wpAny_storeSet_of ho1 rfl ?_ (fits_of_scanBound hb2))))
    exact wpAny_pure (hR _ _ (b1.trans (Heap.SameBut.update _ a _)) R2 (p2.map kS))
  · rw [if_neg c]
    exact wpAny_pure (hR _ _ b1 R1 (List.Perm.refl _))
theorem ent_find {es : List (Int × Value)} (g : ∀ e ∈ es, Ent w e) (k : Str) : (∃ j, es.findIdx? (fun e => (strKind P w).is k e.2) = some j ∧ k ∈ es.map kS) ∨ (es.findIdx? (fun e => (strKind P w).is k e.2) = none ∧ k ∉ es.map kS) := by
  cases e : es.findIdx? (fun e => (strKind P w).is k e.2) with
  | some j =>
    obtain ⟨hj, pj, _⟩ := List.findIdx?_eq_some_iff_getElem.mp e
    have hm := List.getElem_mem hj
    rw [ent_is (g _ hm), decide_eq_true_iff] at pj
    exact .inl ⟨j, rfl, List.mem_map.mpr ⟨_, hm, pj.symm⟩⟩
  | none =>
    refine .inr ⟨rfl, fun z => ?_⟩
    obtain ⟨x, hx, ex⟩ := List.mem_map.mp z
    have := List.findIdx?_eq_none_iff.mp e x hx
    rw [ent_is (g _ hx), decide_eq_false_iff_not] at this
    exact this ex.symm
theorem put_in {k : Str} {u : Tok} {Q : Bool → Shared → Prop} (R : TxR w s.heap a L) (room : L.length + 1 < scanBound)
    (hQ : ∀ b h1 L1, Heap.SameBut a s.heap h1 → TxR w h1 a L1 → (k ∈ L → L1 = L) → (k ∉ L → L1.Perm (k :: L)) → Q b { s with heap := h1 }) :
    wpAny (model P w) A (setAddHashed a (.str k u) ((strKind P w).hash k)) Q E s := by
  obtain ⟨o, es, ep, t, ho, hx, hd, g, rfl, nd, hb, hf, hr, hl⟩ := id R
  have z0 : (es.toList.map kS).length = es.size := by rw [List.length_map, Array.length_toList]
  have hel : ElemsOf (strKind P w) es.toList := ent_elems g
  have sc : (Value.str k u).scannable = true := rfl
  have isk : (strKind P w).is k (.str k u) = true := strKind_is P w k u
  unfold setAddHashed setAddHashedIn
  refine wpAny_holding (wpAny_bind (wpAny_setState_of ho hd hf ?_))
  dsimp only
  rw [byScan_of sc hb hel]
  simp only [↓reduceIte]
  unfold setAddByScan
  refine wpAny_bind (wpAny_bind (wpAny_rule (wpAny_bind (wpAny_setScan_of isk ho hd hf hel ?_))))
  rcases ent_find (P := P) g k with ⟨j, ej, hm⟩ | ⟨ej, hm⟩
  · rw [ej]
    dsimp only
    refine wpAny_pure (wpAny_pure ?_)
    exact hQ _ s.heap _ (Heap.SameBut.refl a s.heap) R (fun _ => rfl) fun n => absurd hm n
  · rw [ej]
    dsimp only
    have giv : ∀ (b : Bool) {v : Shared} {q : Unit → Shared → Prop}, q () v → wpAny (model P w) A (match b with | true => rule "set.scan.the-table-gave-way" | false => pure ()) q E v := fun b v q z => by
      cases b
      · exact wpAny_pure z
      · exact wpAny_rule z
    have p1 := layNew_perm t es ((strKind P w).hash k) (.str k u)
    have f1 := layNew_fits t es ((strKind P w).hash k) (.str k u)
    have r1 := layNew_ris t es ((strKind P w).hash k) (.str k u) hr
    have l1 := layNew_led t es ((strKind P w).hash k) (.str k u)
    generalize layNew t es ((strKind P w).hash k) (.str k u) = Z at p1 f1 r1 l1 ⊢
    obtain ⟨es1, t1, wd, gv⟩ := Z
    dsimp only at p1 f1 r1 l1 ⊢
    rw [Array.toList_push] at p1
    have pc : es1.toList.Perm ((hashStr w k, Value.str k u) :: es.toList) := p1.trans (List.perm_append_singleton _ _)
    have pk : (es1.toList.map kS).Perm (k :: es.toList.map kS) := pc.map kS
    have g1 : ∀ e ∈ es1.toList, Ent w e := fun e he => (List.mem_cons.mp (pc.mem_iff.mp he)).elim (fun z => ⟨k, u, z⟩) (g e)
    have nd1 : (es1.toList.map kS).Nodup := pk.nodup_iff.mpr (List.nodup_cons.mpr ⟨hm, nd⟩)
    have hb1 : es1.size < scanBound := by
      have := pk.length_eq
      rw [List.length_map, List.length_cons, Array.length_toList] at this
      omega
    have led1 : w.params.followText "set-order" = true ∨ t1.led = true := hl.imp id fun z => by rw [l1]; exact z
    have fin : ∀ h1 L1, Heap.SameBut a s.heap h1 → TxR w h1 a L1 → L1.Perm (es1.toList.map kS) → Q true { s with heap := h1 } := fun h1 L1 sb r pm => hQ _ h1 L1 sb r (fun z => absurd z hm) fun _ => pm.trans pk
    refine wpAny_bind (giv _ ?_)
    split
    · refine wpAny_bind ?_
      rw [hashByValue_scannable 8 sc]
      refine wpAny_pure (stored ?_ ho hx hd g1 nd1 hb1 ?_ ?_ ?_ ?_)
      · exact fun b v q z => by cases b <;> first | exact wpAny_pure z | exact wpAny_rule z
      · split
        · exact f1
        · exact SetTable.fits_plain_off f1
      · split <;> exact r1
      · split <;> exact led1
      · intro h1 L1 sb r pm
        dsimp only
        exact wpAny_pure (fin h1 L1 sb r pm)
    · refine wpAny_bind (wpAny_pure ?_)
      simp only [↓reduceIte]
      refine stored ?_ ho hx hd g1 nd1 hb1 f1 r1 led1 ?_
      · exact fun b v q z => by cases b <;> first | exact wpAny_pure z | exact wpAny_rule z
      · intro h1 L1 sb r pm
        dsimp only
        exact wpAny_pure (fin h1 L1 sb r pm)
theorem fresh {h : Heap} {p : Addr} (ho : h.get? p = some { cls := .type "set", dict := none, data := .set #[] 0 (.fresh 0 0 (!w.params.followText "set-order")) }) : TxR w h p [] :=
  ⟨_, #[], 0, _, ho, ⟨rfl, rfl, rfl⟩, rfl, fun _ z => absurd z List.not_mem_nil, rfl, List.nodup_nil, by decide, rfl, List.Pairwise.nil, by
    show _ ∨ (!w.params.followText "set-order") = true
    cases w.params.followText "set-order"
    · exact .inr rfl
    · exact .inl rfl⟩
end
end TX
namespace TX
open PySem PySem.Spec PyProof.Rows L2
/-- what a set has when the first i of xs are in -/
def Has (xs : List Str) (i : Nat) (L : List Str) : Prop := (∀ x, x ∈ L ↔ x ∈ xs.take i) ∧ L.length ≤ i
theorem has_next {xs : List Str} {i : Nat} {x : Str} (e : xs[i]? = some x) {L L1 : List Str} (g : Has xs i L) (h1 : x ∈ L → L1 = L) (h2 : x ∉ L → L1.Perm (x :: L)) : Has xs (i + 1) L1 := by
  have et : xs.take (i + 1) = xs.take i ++ [x] := by
    rw [List.take_succ, e] <;> rfl
  obtain ⟨g1, g2⟩ := g
  by_cases c : x ∈ L
  · rw [h1 c]
    refine ⟨fun y => ?_, Nat.le_succ_of_le g2⟩
    rw [et, List.mem_append, List.mem_singleton, g1 y]
    exact ⟨.inl, fun z => z.elim id fun z => z ▸ (g1 x).mp c⟩
  · have pm := h2 c
    refine ⟨fun y => ?_, ?_⟩
    · rw [et, List.mem_append, List.mem_singleton, pm.mem_iff, List.mem_cons, g1 y]
      exact Or.comm
    · rw [pm.length_eq, List.length_cons]
      omega
theorem strs_nth : ∀ {us : List Value} {xs : List Str}, StrsAre us xs → ∀ {i : Nat} {v : Value}, us[i]? = some v → ∃ x u, xs[i]? = some x ∧ v = .str x u
  | _, _, .nil, i, v, h => by
    rw [List.getElem?_nil] at h
    cases h
  | _, _, .cons x u r, 0, v, h => ⟨x, u, rfl, (Option.some.inj h).symm⟩
  | _, _, .cons x u r, i + 1, v, h => strs_nth r (i := i) (by rw [List.getElem?_cons_succ] at h; exact h)
section
variable {P : Program} {w : World} {A : Around} {R : Result → Shared → Prop} {I : Addr} {fp wr : List Addr} {G : Array GenState → Array GenState → Prop} {n : Nat} {V : Nat → Value → Prop} {St : Nat → Shared → Prop}
theorem rounds (W : WalksS P w A.in1 I fp wr G n V St) {S : Addr} (hS : S ∉ fp) {xs : List Str} (few : n + 1 < scanBound) (hv : ∀ i v, V i v → ∃ x u, xs[i]? = some x ∧ v = .str x u) :
    ∀ (k i : Nat) (s : Shared), n - i = k → i ≤ n → St i s → (∃ L, TxR w s.heap S L ∧ Has xs i L) →
      (∀ s1 L, Moved (S :: wr) G s s1 → TxR w s1.heap S L → Has xs n L → R (.ok (.ret .none)) s1) → codeAny (model P w) A (.builtin "set.update.loop" ⟨[.ref S, .ref I], []⟩) R s := by
  have sw : S ∉ wr := fun z => hS (W.sub _ z)
  have up : ∀ b ∈ wr, b ∈ S :: wr := fun _ z => List.mem_cons_of_mem _ z
  intro k
  induction k with
  | zero =>
    intro i s ek hi st ⟨L, r, g⟩ q
    obtain rfl : i = n := by omega
    refine codeAny_builtin F.entry_set_update_loop ?_
    rw [Around.under_plainId F.plain_set_update_loop _]
    refine wpAny_bind (m := pyNext (.ref I)) (W.done s _ _ st fun s1 mv => ?_)
    exact wpAny_pure (q s1 L (mv.mono up) (r.at fun o e => mv.heap S o sw e) g)
  | succ k ih =>
    intro i s ek hi st ⟨L, r, g⟩ q
    have lt : i < n := by omega
    refine codeAny_builtin F.entry_set_update_loop ?_
    rw [Around.under_plainId F.plain_set_update_loop _]
    refine wpAny_bind (m := pyNext (.ref I)) (W.item i s _ _ lt st fun v s1 pv st1 mv => ?_)
    obtain ⟨x, u, ex, rfl⟩ := hv i v pv
    have r1 : TxR w s1.heap S L := r.at fun o e => mv.heap S o sw e
    show wpAny _ A.in1 (holding [Value.str x u] (setAdd S (.str x u)) >>= _) _ _ s1
    refine wpAny_bind (wpAny_holding ?_)
    unfold setAdd
    refine wpAny_holding (wpAny_bind ((strKind P w).pyHash (k := x) (strKind_is P w x u) ?_))
    have gl := g.2
    refine put_in (s := { s1 with toks := s1.toks + 1 }) r1 (by omega) fun b h1 L1 sb r2 c1 c2 => ?_
    refine wpAny_pure ⟨plainId_quiet F.plain_set_update_loop _, ih (i + 1) _ (by omega) lt (W.frame _ s1 _ _ st1 (Nat.le_succ _) fun b hb o e => ?_) ⟨L1, r2, has_next ex g c1 c2⟩ fun s2 L2 mv2 r3 g3 => ?_⟩
    · rw [sb.2 b fun z : b = S => hS (z ▸ hb)]
      exact e
    · refine q s2 L2 (Moved.trans W.gtrans ((mv.mono up).then_heap (Nat.le_succ _) fun b o hb e => ?_) mv2) r3 g3
      rw [sb.2 b fun z : b = S => hb (z ▸ List.mem_cons_self)]
      exact e
end
section
variable {P : Program} {w : World} {A : Around} {E : Value → Shared → Prop} {s : Shared}
def setObj (w : World) : Obj := { cls := .type "set", dict := none, data := .set #[] 0 (.fresh 0 0 (!w.params.followText "set-order")) }
def Told (P : Program) (w : World) (s : Shared) (xs : List Str) (E : Value → Shared → Prop) : Result → Shared → Prop := wants (fun v u => v = .none ∧ ∃ h1 tk L, u = { s with heap := h1, toks := tk } ∧ TxR w h1 s.heap.objs.size L ∧ Has xs xs.length L ∧ ∀ b o, s.heap.get? b = some o → h1.get? b = some o) E
theorem begun {l : Addr} {items : Array Value} {xs : List Str} (hi : StrsAre items.toList xs) (few : xs.length + 1 < scanBound) {it : Obj} {St : Nat → Heap → Prop} (hlt : l < s.heap.objs.size)
    (W : Walks P w A.in1 (s.heap.objs.size + 1) [s.heap.objs.size + 1, l] [s.heap.objs.size + 1] items.size (fun i v => items[i]? = some v) St) (h0 : St 0 ((s.heap.push (setObj w)).push it)) :
    codeAny (model P w) A (.builtin "set.update.loop" ⟨[.ref s.heap.objs.size, .ref (s.heap.objs.size + 1)], []⟩) (Told P w s xs E) { s with heap := (s.heap.push (setObj w)).push it } := by
  have iz : items.size = xs.length := by rw [← StrsAre.len_eq hi, Array.length_toList]
  have hS : ((s.heap.push (setObj w)).push it).get? s.heap.objs.size = some (setObj w) := Heap.get?_push_of_some _ (Heap.get?_push_size _ rfl)
  have out : s.heap.objs.size ∉ [s.heap.objs.size + 1, l] := fun z => by
    rcases List.mem_cons.mp z with z | z
    · exact Nat.ne_of_lt (Nat.lt_succ_self _) z
    · exact Nat.ne_of_gt hlt (List.mem_singleton.mp z)
  refine rounds W.toS out (xs := xs) (by omega) (fun i v hv => strs_nth hi (by rw [Array.getElem?_toList]; exact hv)) (items.size - 0) 0 _ rfl (Nat.zero_le _) h0 ⟨[], fresh hS, fun x => by rw [List.take_zero], Nat.le_refl _⟩ fun s1 L mv r g => ?_
  obtain ⟨h1, g1, d1, k1, o1⟩ := s1
  have eg : g1 = s.gens := mv.gens
  have ed : d1 = s.drawn := mv.drawn
  have eo : o1 = s.os := mv.os
  subst eg ed eo
  rw [iz] at g
  refine ⟨rfl, h1, k1, L, rfl, r, g, fun b o e => ?_⟩
  have lt := Heap.lt_size e
  refine mv.heap b o (fun z => ?_) (Heap.get?_push_of_some _ (Heap.get?_push_of_some _ e))
  rcases List.mem_cons.mp z with z | z
  · exact Nat.ne_of_lt lt z
  · exact Nat.ne_of_lt (Nat.lt_succ_of_lt lt) (List.mem_singleton.mp z)
set_option maxHeartbeats 4000000 in
theorem inited {l : Addr} {items : Array Value} {xs : List Str} (hh : A.handled = none) (hl : s.heap.IsList l items ∨ s.heap.IsTuple l items) (hi : StrsAre items.toList xs) (few : xs.length + 1 < scanBound) :
    codeAny (model P w) A (.call (.builtin "set.__init__") ⟨[.ref s.heap.objs.size, .ref l], []⟩) (Told P w s xs E) { s with heap := s.heap.push (setObj w) } := by
  have hS : (s.heap.push (setObj w)).get? s.heap.objs.size = some (setObj w) := Heap.get?_push_size _ rfl
  have tS : Shared.TypeIs { s with heap := s.heap.push (setObj w) } (.ref s.heap.objs.size) "set" := ⟨_, hS, rfl⟩
  have zs : (s.heap.push (setObj w)).objs.size = s.heap.objs.size + 1 := Heap.size_push ..
  refine codeAny_call_builtin F.called_set.init.plain F.entry_set_init (check_set_init_1 tS ?_)
  rcases hl with ⟨⟨oc, od, oo, os⟩, hol, hoc, on, hod⟩ | ⟨⟨oc, od, oo, os⟩, hol, hoc, on, hod⟩
  all_goals simp only at hoc hod
  all_goals subst hoc hod
  all_goals have hl1 := Heap.get?_push_of_some (setObj w) hol
  all_goals have lts := Heap.lt_size hol
  · have s1 := F.sub_list_set
    have s2 := F.sub_list_frozenset
    have ne : (Value.type "list" == Value.type "dict") = false := by decide
    have isl : (s.heap.push (setObj w)).IsList l items := ⟨_, hl1, rfl, on, rfl⟩
    unfold Builtin.«set.__init__» noKeywords Builtin.Frozenset.updateFrom
    generalize hPI : pyIter = PI
    wp_walk
    subst hPI
    refine wpAny_pyIter_list isl (wpAny_bind (wpAny_runValue ?_))
    rw [show ({ s with heap := s.heap.push (setObj w) } : Shared).heap.objs.size = s.heap.objs.size + 1 from zs]
    refine codeAny_mono (begun (A := A.in1) (E := E) hi few lts (it := { cls := .type "list_iterator", data := .fields #[.ref l, .int 0 0] }) (Walks.list (by simp [hh]) (s.heap.objs.size + 1) l (Nat.ne_of_lt (Nat.lt_succ_of_lt lts)) items) ⟨⟨_, (by rw [← zs]; exact Heap.get?_push_size _ rfl), rfl, rfl⟩, isl.push _⟩) fun r u hr => ?_
    rcases r with e0 | f0
    · exact hr
    rcases f0 with _ | v0 | _ | _
    all_goals try exact hr.elim
    obtain ⟨rfl, ht⟩ := hr
    exact wpAny_pure (wpAny_pure ⟨rfl, ht⟩)
  · have s1 := F.sub_tuple_set
    have s2 := F.sub_tuple_frozenset
    have ne : (Value.type "tuple" == Value.type "dict") = false := by decide
    have isl : (s.heap.push (setObj w)).IsTuple l items := ⟨_, hl1, rfl, on, rfl⟩
    unfold Builtin.«set.__init__» noKeywords Builtin.Frozenset.updateFrom
    generalize hPI : pyIter = PI
    wp_walk
    subst hPI
    refine wpAny_pyIter_tuple isl (wpAny_bind (wpAny_runValue ?_))
    rw [show ({ s with heap := s.heap.push (setObj w) } : Shared).heap.objs.size = s.heap.objs.size + 1 from zs]
    refine codeAny_mono (begun (A := A.in1) (E := E) hi few lts (it := { cls := .type "tuple_iterator", data := .fields #[.ref l, .int 0 0] }) (Walks.tuple (by simp [hh]) (s.heap.objs.size + 1) l (Nat.ne_of_lt (Nat.lt_succ_of_lt lts)) items) ⟨⟨_, (by rw [← zs]; exact Heap.get?_push_size _ rfl), rfl, rfl⟩, isl.push _⟩) fun r u hr => ?_
    rcases r with e0 | f0
    · exact hr
    rcases f0 with _ | v0 | _ | _
    all_goals try exact hr.elim
    obtain ⟨rfl, ht⟩ := hr
    exact wpAny_pure (wpAny_pure ⟨rfl, ht⟩)
set_option maxHeartbeats 4000000 in
theorem made {l : Addr} {items : Array Value} {xs : List Str} {Q : Value → Shared → Prop} (hh : A.handled = none) (hl : s.heap.IsList l items ∨ s.heap.IsTuple l items) (hi : StrsAre items.toList xs) (few : xs.length + 1 < scanBound)
    (hQ : ∀ h1 tk L, TxR w h1 s.heap.objs.size L → Has xs xs.length L → (∀ b o, s.heap.get? b = some o → h1.get? b = some o) → Q (.ref s.heap.objs.size) { s with heap := h1, toks := tk }) :
    wpAny (model P w) A (call (.type "set") [.ref l]) Q E s := by
  have iz : items.size = xs.length := by rw [← StrsAre.len_eq hi, Array.length_toList]
  have ⟨mc, mt, hmro⟩ := F.called_set.mro
  have made' := F.called_set.made
  have sub' := F.called_set.sub
  refine wpAny_call (codeAny_of_tree ?_)
  show wpAny _ _ (callAny (.type "set") _) _ _ _
  refine wpAny_pure ⟨Code.quiet_builtin _ (by decide +kernel), codeAny_builtin F.entry_type_call ?_⟩
  rw [Around.under_plain (weight_type_call_type "set" [.ref l] []) rfl]
  have nt := F.called_set.notType
  have cc := F.called_set.canCreate
  have tc := F.typeCall_set_1 (.ref l)
  repeat (any_goals (first | assumption | wp_step))
  refine codeAny_mono (code_set_led1 (.ref l) (E := E) (Q₁ := fun v u => v = .ref s.heap.objs.size ∧ u = { s with heap := s.heap.push (setObj w) }) ⟨rfl, rfl⟩) fun r0 s0 h0 => ?_
  rcases r0 with e0 | f0
  · exact h0
  rcases f0 with _ | v0 | _ | _
  all_goals try exact h0.elim
  obtain ⟨rfl, rfl⟩ := h0
  have hS : (s.heap.push (setObj w)).get? s.heap.objs.size = some (setObj w) := Heap.get?_push_size _ rfl
  have tS : Shared.TypeIs { s with heap := s.heap.push (setObj w) } (.ref s.heap.objs.size) "set" := ⟨_, hS, rfl⟩
  have il := F.called_set.init.lookup
  have ib := F.called_set.init.bind (.ref s.heap.objs.size)
  repeat (any_goals (first | assumption | wp_step))
  refine codeAny_mono (inited (A := A.in1) (E := E) hh hl hi few) fun r u hr => ?_
  rcases r with e0 | f0
  · exact hr
  rcases f0 with _ | v0 | _ | _
  all_goals try exact hr.elim
  obtain ⟨rfl, h1, tk, L, rfl, r, g, kp⟩ := hr
  repeat (any_goals (first | assumption | wp_step))
  exact hQ _ _ _ r g kp
end
end TX
namespace TX
open PySem PySem.Spec PyProof.Rows L2 PySem.W
section
variable {P : Program} {w : World} {A : Around} {E : Value → Shared → Prop} {s : Shared} {a : Addr} {L : List Str}
end
end TX
/-! ### tables of sets, up to 512 slots -/
namespace TZ
open PySem PySem.Spec PyProof.Rows L2
/-- the slots that come from x by i -> 5 i + 1 -/
def orb (m : Nat) : Nat → Nat → List Nat
  | 0, _ => []
  | n + 1, x => x :: orb m n ((x * 5 + 1) % (m + 1))
theorem lcg_shift (m x : Nat) : ∀ k, lcgI m ((x * 5 + 1) % (m + 1)) k = lcgI m x (k + 1)
  | 0 => rfl
  | k + 1 => by
    unfold lcgI
    rw [lcg_shift m x k]
theorem lcg_plus (m x a : Nat) : ∀ k, lcgI m (lcgI m x a) k = lcgI m x (a + k)
  | 0 => rfl
  | k + 1 => by
    have e := lcg_plus m x a k
    show (lcgI m (lcgI m x a) k * 5 + 1) % (m + 1) = (lcgI m x (a + k) * 5 + 1) % (m + 1)
    rw [e]
theorem orb_mem (m : Nat) : ∀ (n x y : Nat), y ∈ orb m n x → ∃ k, k < n ∧ lcgI m x k = y
  | 0, _, _, h => nomatch h
  | n + 1, x, y, h => by
    rcases List.mem_cons.mp h with e | h
    · exact ⟨0, Nat.succ_pos n, e.symm⟩
    · obtain ⟨k, lk, ek⟩ := orb_mem m n _ y h
      exact ⟨k + 1, Nat.succ_lt_succ lk, by rw [← lcg_shift]; exact ek⟩
def cycB (m : Nat) : Bool := ((List.range (m + 1)).all fun j => (orb m (m + 1) 0).contains j) && (lcgI m 0 (m + 1) == 0) && (m % 2 == 1) && decide (m ≤ 511)
theorem cyc7 : cycB 7 = true := by decide +kernel
theorem cyc31 : cycB 31 = true := by decide +kernel
theorem cyc127 : cycB 127 = true := by decide +kernel
theorem cyc511 : cycB 511 = true := by decide +kernel
/-- a mask whose round meets each slot -/
structure Cyc (m : Nat) : Prop where
  all : ∀ j, j ≤ m → ∃ k, k ≤ m ∧ lcgI m 0 k = j
  back : lcgI m 0 (m + 1) = 0
  odd : m % 2 = 1
  few : m ≤ 511
theorem cyc_of {m : Nat} (h : cycB m = true) : Cyc m := by
  unfold cycB at h
  rw [Bool.and_eq_true, Bool.and_eq_true, Bool.and_eq_true] at h
  obtain ⟨⟨⟨h1, h2⟩, h3⟩, h4⟩ := h
  refine ⟨fun j lj => ?_, beq_iff_eq.mp h2, beq_iff_eq.mp h3, of_decide_eq_true h4⟩
  have c := List.all_eq_true.mp h1 j (List.mem_range.mpr (Nat.lt_succ_of_le lj))
  obtain ⟨k, lk, ek⟩ := orb_mem m _ 0 j (List.contains_iff_mem.mp c)
  exact ⟨k, Nat.le_of_lt_succ lk, ek⟩
theorem Cyc.meet {m : Nat} (c : Cyc m) {i j : Nat} (li : i ≤ m) (lj : j ≤ m) : ∃ k, k ≤ m ∧ lcgI m i k = j := by
  obtain ⟨a, la, ea⟩ := c.all i li
  obtain ⟨b, lb, eb⟩ := c.all j lj
  subst ea
  by_cases h : a ≤ b
  · refine ⟨b - a, by omega, ?_⟩
    rw [lcg_plus, show a + (b - a) = b by omega, eb]
  · refine ⟨b + (m + 1) - a, by omega, ?_⟩
    rw [lcg_plus, show a + (b + (m + 1) - a) = (m + 1) + b by omega, ← lcg_plus, c.back, eb]
theorem Cyc.run {m : Nat} (c : Cyc m) (h : Int) {j : Nat} (lj : j ≤ m) : ∃ n, n ≤ m + 12 ∧ runI m (SetTable.bits h) n = j := by
  obtain ⟨k, lk, ek⟩ := c.meet (runI_le m (SetTable.bits h) 12) lj
  exact ⟨12 + k, by omega, (runI_tail (bits_lt h) k).trans ek⟩
theorem Cyc.way {m : Nat} (c : Cyc m) (h : Int) {j : Nat} (lj : j ≤ m) : ∃ k, k < 10 * SetTable.turns m ∧ L2.way m h k = j := by
  obtain ⟨n, ln, en⟩ := c.run h lj
  obtain ⟨k, lk, ek⟩ := run_nth m (SetTable.bits h) n
  refine ⟨k, ?_, (congrArg SetTable.Probe.j ek).trans en⟩
  show k < 10 * (m + 15)
  omega
theorem way_in (m : Nat) (h : Int) (k : Nat) : L2.way m h k ≤ m := by
  have li : SetTable.bits h % (m + 1) ≤ m := Nat.le_of_lt_succ (Nat.mod_lt _ (Nat.succ_pos _))
  have b := runEnd_bd li
  have q := nth_in (m := m) k (runAt m (SetTable.bits h % (m + 1)) (SetTable.bits h)) (show SetTable.bits h % (m + 1) + (SetTable.runEnd m (SetTable.bits h % (m + 1)) - SetTable.bits h % (m + 1)) ≤ m by omega)
  exact Nat.le_trans (Nat.le_add_right _ _) q
/-- a table without dummies in which each hash is found again -/
structure Tab (t : SetTable) (hs : List Int) : Prop where
  cyc : Cyc t.mask
  up : Ris t.place.toList
  none : t.dummies = #[]
  len : t.place.size = hs.length
  low : ∀ x ∈ t.place.toList, x ≤ t.mask
  met : ∀ (i : Nat) (h : Int) (j : Nat), hs[i]? = some h → t.place.toList[i]? = some j → ∃ k, L2.way t.mask h k = j ∧ ∀ c, c < k → L2.way t.mask h c ∈ t.place.toList
theorem Tab.free {t : SetTable} {hs : List Int} (T : Tab t hs) (few : hs.length ≤ t.mask) (h : Int) : ∃ K, K < 10 * SetTable.turns t.mask ∧ L2.way t.mask h K ∉ t.place.toList ∧ ∀ c, c < K → L2.way t.mask h c ∈ t.place.toList := by
  obtain ⟨j, lj, nj⟩ := st_missing t.place.toList (t.mask + 1) (by rw [Array.length_toList, T.len]; omega)
  obtain ⟨k, lk, ek⟩ := T.cyc.way h (Nat.le_of_lt_succ lj)
  obtain ⟨K, a1, a2, a3⟩ := st_least (p := fun k => L2.way t.mask h k ∉ t.place.toList) k (by show L2.way t.mask h k ∉ _; rw [ek]; exact nj)
  exact ⟨K, Nat.lt_of_le_of_lt a1 lk, a2, fun c lc => Classical.byContradiction fun z => a3 c lc z⟩
theorem Tab.ahead {t : SetTable} {hs : List Int} (T : Tab t hs) {h : Int} {K i j : Nat} (nK : L2.way t.mask h K ∉ t.place.toList) (ei : hs[i]? = some h) (ej : t.place.toList[i]? = some j) : ∃ k, k < K ∧ L2.way t.mask h k = j := by
  obtain ⟨k, e, b⟩ := T.met i h j ei ej
  rcases Nat.lt_or_ge k K with c | c
  · exact ⟨k, c, e⟩
  · rcases Nat.lt_or_eq_of_le c with c | c
    · exact absurd (b K c) nK
    · exact absurd (List.mem_of_getElem? (by rw [ej, ← e, ← c])) nK
/-- what stands behind one more is put in -/
structure Put (t t1 : SetTable) (hs : List Int) (h : Int) (p : Nat) : Prop where
  le : p ≤ hs.length
  tab : Tab t1 (hs.take p ++ h :: hs.drop p)
  mask : t1.mask = t.mask
  led : t1.led = t.led
  fill : t1.fill = hs.length + 1
theorem Tab.put {t : SetTable} {hs : List Int} (T : Tab t hs) {h : Int} {K : Nat} (nK : L2.way t.mask h K ∉ t.place.toList) (bK : ∀ c, c < K → L2.way t.mask h c ∈ t.place.toList) :
    (t.put (L2.way t.mask h K)).2 = SetTable.below t.place (L2.way t.mask h K) ∧ Put t (t.put (L2.way t.mask h K)).1 hs h (SetTable.below t.place (L2.way t.mask h K)) := by
  have jm := way_in t.mask h K
  obtain ⟨j, ej⟩ : ∃ j, j = L2.way t.mask h K := ⟨_, rfl⟩
  rw [← ej] at nK jm ⊢
  obtain ⟨c1, _, _⟩ := below_cut T.up j
  have pl : SetTable.below t.place j ≤ t.place.toList.length := c1
  have ph : SetTable.below t.place j ≤ hs.length := T.len ▸ c1
  have pp := put_place t j
  have np : t.place[SetTable.below t.place j]? ≠ some j := fun e => nK (List.mem_of_getElem? ((Array.getElem?_toList ..).trans e))
  have sz : (t.put j).1.place.size = hs.length + 1 := by
    rw [← Array.length_toList, pp, len_ins _ pl, Array.length_toList, T.len]
  have more : ∀ {x}, x ∈ t.place.toList → x ∈ (t.put j).1.place.toList := fun hx => pp ▸ mem_ins.2 (.inr hx)
  refine ⟨rfl, ph, ⟨T.cyc, ris_insert T.up np, put_dm T.none j, by rw [len_ins _ ph]; exact sz, fun x hx => ?_, fun i g y e1 e2 => ?_⟩, rfl, rfl, ?_⟩
  · rw [pp] at hx
    exact (mem_ins.1 hx).elim (fun e => e ▸ jm) (T.low x)
  · rw [tins_get hs ph] at e1
    rw [pp, tins_get _ pl] at e2
    show ∃ k, L2.way t.mask g k = y ∧ ∀ c, c < k → L2.way t.mask g c ∈ (t.put j).1.place.toList
    by_cases l1 : i < SetTable.below t.place j
    · rw [if_pos l1] at e1 e2
      obtain ⟨k, ek, bk⟩ := T.met i g y e1 e2
      exact ⟨k, ek, fun c lc => more (bk c lc)⟩
    · rw [if_neg l1] at e1 e2
      by_cases l2 : i = SetTable.below t.place j
      · rw [if_pos l2] at e1 e2
        cases e1
        cases e2
        exact ⟨K, ej.symm, fun c lc => more (bK c lc)⟩
      · rw [if_neg l2] at e1 e2
        obtain ⟨k, ek, bk⟩ := T.met _ g y e1 e2
        exact ⟨k, ek, fun c lc => more (bk c lc)⟩
  · show (t.put j).1.place.size + (t.put j).1.dummies.size = _
    rw [sz, put_dm T.none j]
    rfl
/-! #### all laid anew -/
theorem Cyc.slot {m : Nat} (c : Cyc m) (owner : Array (Option Nat)) (h : Int) {j : Nat} (lj : j ≤ m) (f : oAt owner j = none) :
    ∃ K, SetTable.layClean.free m owner (SetTable.turns m) (SetTable.bits h % (m + 1)) (SetTable.bits h) = some (L2.way m h K) ∧ oAt owner (L2.way m h K) = none ∧ ∀ k, k < K → oAt owner (L2.way m h k) ≠ none := by
  obtain ⟨n, ln, en⟩ := c.run h lj
  have e : oAt owner (L2.way m h (off m (SetTable.bits h % (m + 1)) (SetTable.bits h) n)) = none := by
    have w : L2.way m h (off m (SetTable.bits h % (m + 1)) (SetTable.bits h) n) = j := by
      unfold L2.way
      rw [nth_off, itL_run]
      exact en
    rw [w]
    exact f
  obtain ⟨K, a1, a2, a3⟩ := st_least (p := fun k => oAt owner (L2.way m h k) = none) _ e
  refine ⟨K, free_spec m owner (SetTable.turns m) n _ _ K (show n < m + 15 by omega) a1 (fun k lk => ?_) (by rw [show oAt owner (nth m _ K).j = none from a2]; rfl), a2, a3⟩
  have := a3 k lk
  show (oAt owner (L2.way m h k)).isNone = false
  cases z : oAt owner (L2.way m h k) with
  | none => exact absurd z this
  | some _ => rfl
theorem own_next {m : Nat} (c : Cyc m) {done : List Int} {owner : Array (Option Nat)} (W : Own m done owner) (ld : done.length ≤ m) (h : Int) :
    ∃ j, SetTable.layClean.free m owner (SetTable.turns m) (SetTable.bits h % (m + 1)) (SetTable.bits h) = some j ∧ Own m (done ++ [h]) (owner.setIfInBounds j (some done.length)) := by
  obtain ⟨ps, lps, ips⟩ := W.ps
  obtain ⟨f, lf, nf⟩ := st_missing ps (m + 1) (by omega)
  have of : oAt owner f = none := Classical.byContradiction fun z => nf (ips f (Nat.le_of_lt_succ lf) z)
  obtain ⟨K, e1, e2, e3⟩ := c.slot owner h (Nat.le_of_lt_succ lf) of
  have wm := way_in m h K
  have at1 := oAt_set_self (owner := owner) (some done.length) (show L2.way m h K < owner.size by rw [W.sz]; omega)
  have still : ∀ {i}, oAt owner i ≠ none → oAt (owner.setIfInBounds (L2.way m h K) (some done.length)) i ≠ none := fun {i} z => by
    by_cases q : i = L2.way m h K
    · subst q
      rw [at1]
      exact fun y => nomatch y
    · rw [oAt_set_ne _ q]
      exact z
  refine ⟨_, e1, ⟨by rw [Array.size_setIfInBounds]; exact W.sz, fun j k lj e => ?_, fun k lk => ?_, L2.way m h K :: ps, by simp [lps], fun j lj e => ?_⟩⟩
  · by_cases q : j = L2.way m h K
    · subst q
      rw [at1] at e
      cases e
      exact ⟨h, K, by simp, rfl, fun c lc => still (e3 c lc)⟩
    · rw [oAt_set_ne _ q] at e
      obtain ⟨g, G, b1, b2, b3⟩ := W.at_ j k lj e
      exact ⟨g, G, by rw [List.getElem?_append_left (List.getElem?_eq_some_iff.mp b1).1]; exact b1, b2, fun c lc => still (b3 c lc)⟩
  · rw [List.length_append] at lk
    by_cases q : k < done.length
    · obtain ⟨j, lj, e⟩ := W.all k q
      exact ⟨j, lj, by rw [oAt_set_ne _ fun z => by rw [z, e2] at e; exact nomatch e]; exact e⟩
    · have : k = done.length := by
        have : [h].length = 1 := rfl
        omega
      subst this
      exact ⟨_, wm, at1⟩
  · by_cases q : j = L2.way m h K
    · exact q ▸ List.mem_cons_self
    · rw [oAt_set_ne _ q] at e
      exact List.mem_cons_of_mem _ (ips j lj e)
theorem own_all {m : Nat} (c : Cyc m) : ∀ (rest done : List Int) (owner : Array (Option Nat)), Own m done owner → done.length + rest.length ≤ m →
    ∃ o1, rest.foldl (stepF m) (some (owner, done.length)) = some (o1, (done ++ rest).length) ∧ Own m (done ++ rest) o1
  | [], done, owner, W, _ => ⟨owner, by rw [List.append_nil]; rfl, by rw [List.append_nil]; exact W⟩
  | h :: rest, done, owner, W, ln => by
    have ln : done.length + (rest.length + 1) ≤ m := ln
    obtain ⟨j, e, W1⟩ := own_next c W (by omega) h
    obtain ⟨o1, f, W2⟩ := own_all c rest (done ++ [h]) _ W1 (by rw [List.length_append]; show done.length + 1 + _ ≤ m; omega)
    rw [List.append_assoc] at f W2
    rw [List.length_append] at f
    exact ⟨o1, by rw [List.foldl_cons, stepF_some e]; exact f, W2⟩
theorem again {M : Nat} (c : Cyc M) (t : SetTable) {hs : Array Int} {wanted : Nat} (hw : SetTable.sizeAbove wanted - 1 = M) (few : hs.size ≤ M) :
    ∃ t1 order, t.relaid hs wanted = some (t1, order) ∧ order.toList.Perm (List.range hs.size) ∧ Tab t1 (order.toList.map fun i => hs.getD i 0) ∧ t1.mask = M ∧ t1.led = t.led := by
  obtain ⟨o1, f, W⟩ := own_all c hs.toList [] _ (Own.init M) (by show 0 + _ ≤ M; rw [Array.length_toList]; omega)
  rw [List.nil_append] at W f
  have e : SetTable.layClean M hs = some o1 := by
    rw [layClean_eq]
    rw [show (some (Array.replicate (M + 1) (none : Option Nat), 0)) = some (Array.replicate (M + 1) none, ([] : List Int).length) from rfl, f]
    rfl
  have er : t.relaid hs wanted = some (tabOf t M o1, ((liveOf M o1).map (·.2)).toArray) := by
    rw [relaid_eq, hw, e]
    rfl
  have rl := ris_live (fun j => o1.getD j none) (List.range (M + 1)) (by unfold Ris; first | exact List.pairwise_lt_range | exact List.pairwise_lt_range _)
  have r1 : Ris ((liveOf M o1).map (·.1)) := rl.1
  have inr : ∀ x ∈ (liveOf M o1).map (·.1), x ∈ List.range (M + 1) := rl.2
  have nd : ((liveOf M o1).map (·.1)).Nodup := r1.imp fun q => Nat.ne_of_lt q
  have hit : ∀ k, k < hs.size → k ∈ (liveOf M o1).map (·.2) := fun k lk => by
    obtain ⟨j, b1, b2⟩ := W.all k (by rw [Array.length_toList]; exact lk)
    exact List.mem_map.mpr ⟨(j, k), (mem_live W.sz).2 ⟨b1, b2⟩, rfl⟩
  have lz : (liveOf M o1).length = hs.size := by
    obtain ⟨ps, p1, p2⟩ := W.ps
    have u1 := nat_nodup_len ((liveOf M o1).map (·.1)) ps nd fun x hx => by
      obtain ⟨⟨y, k⟩, hq, rfl⟩ := List.mem_map.mp hx
      have b := (mem_live W.sz).1 hq
      exact p2 y b.1 (by rw [b.2]; exact fun z => nomatch z)
    have u2 := nat_nodup_len (List.range hs.size) ((liveOf M o1).map (·.2)) List.nodup_range fun k hk => hit k (List.mem_range.mp hk)
    rw [List.length_map, p1] at u1
    rw [List.length_map, List.length_range] at u2
    have : hs.toList.length = hs.size := Array.length_toList
    omega
  refine ⟨_, _, er, perm_range hs.size _ (by rw [show (((liveOf M o1).map (·.2)).toArray).toList = (liveOf M o1).map (·.2) from rfl, List.length_map, lz]) hit, ⟨c, r1, rfl, ?_, fun x hx => Nat.le_of_lt_succ (List.mem_range.mp (inr x hx)), fun i h j e1 e2 => ?_⟩, rfl, rfl⟩
  · show ((liveOf M o1).map (·.1)).toArray.size = (((liveOf M o1).map (·.2)).map fun i => hs.getD i 0).length
    simp
  · have e1 : (((liveOf M o1).map (·.2)).map fun i => hs.getD i 0)[i]? = some h := e1
    have e2 : ((liveOf M o1).map (·.1))[i]? = some j := e2
    rw [List.getElem?_map, List.getElem?_map] at e1
    rw [List.getElem?_map] at e2
    cases q : (liveOf M o1)[i]? with
    | none =>
      rw [q] at e2
      exact nomatch e2
    | some y =>
      rw [q] at e1 e2
      cases e2
      have e1 : hs.getD y.2 0 = h := Option.some.inj e1
      have b := (mem_live W.sz).1 (List.mem_of_getElem? q)
      obtain ⟨g, K, a1, a2, a3⟩ := W.at_ _ _ b.1 b.2
      have : g = h := by
        rw [← e1, Array.getD_eq_getD_getElem?, ← Array.getElem?_toList, a1]
        rfl
      subst this
      refine ⟨K, a2, fun k lk => ?_⟩
      show L2.way M g k ∈ (liveOf M o1).map (·.1)
      cases z : oAt o1 (L2.way M g k) with
      | none => exact absurd z (a3 k lk)
      | some x => exact List.mem_map.mpr ⟨(L2.way M g k, x), (mem_live W.sz).2 ⟨way_in M g k, z⟩, rfl⟩
theorem size_a : SetTable.sizeAbove (SetTable.grown 5) = 32 := by decide +kernel
theorem size_b : SetTable.sizeAbove (SetTable.grown 19) = 128 := by decide +kernel
theorem size_c : SetTable.sizeAbove (SetTable.grown 77) = 512 := by decide +kernel
end TZ
/-! ### sets of tuples of whole numbers and texts -/
namespace TZ
open PySem PySem.Spec PyProof.Rows L2
abbrev hK (P : Program) (w : World) (k : List Key) : Int := tupleKeyHash (mixKind P w) k
abbrev IsK (P : Program) (w : World) (h : Heap) (k : List Key) (b : Addr) : Prop := IsTupleKey (mixKind P w) h k b
def Plainv (v : Value) : Prop := (∃ i t, v = .int i t) ∨ ∃ x t, v = .str x t
theorem plain_items {P : Program} {w : World} {k : List Key} {vs : List Value} (h : ItemsAre (mixKind P w) k vs) : ∀ v ∈ vs, Plainv v := by
  induction h with
  | nil => exact fun _ z => nomatch z
  | cons q _ ih =>
    intro v hv
    rcases List.mem_cons.mp hv with rfl | hv
    · rcases keyIs_shape q with ⟨i, t, _, e⟩ | ⟨x, t, _, e⟩
      · exact .inl ⟨i, t, e⟩
      · exact .inr ⟨x, t, e⟩
    · exact ih v hv
section
variable {P : Program} {w : World} {A : Around} {E : Value → Shared → Prop} {s : Shared}
theorem class_item {v : Value} (p : Plainv v) (n : Nat) : ofAClassStatement n v = pure false := by
  rcases p with ⟨i, t, rfl⟩ | ⟨x, t, rfl⟩ <;> cases n <;> rfl
theorem hash_item {v : Value} (p : Plainv v) (n : Nat) : ∃ b, hashByValue n v = pure b := by
  rcases p with ⟨i, t, rfl⟩ | ⟨x, t, rfl⟩ <;> cases n <;> exact ⟨_, rfl⟩
theorem class_tup {k : List Key} {b : Addr} {Q : Bool → Shared → Prop} (hb : IsK P w s.heap k b) (q : Q false s) : wpAny (model P w) A (ofAClassStatement 8 (.ref b)) Q E s := by
  have T := hb.typeIs
  obtain ⟨ob, its, n, eb, _, db, ib⟩ := hb
  unfold ofAClassStatement
  refine wpAny_bind (wpAny_typeOf T ?_)
  dsimp only
  have tt : (("tuple" : String) == "tuple") = true := by decide
  simp only [tt, if_true, Bool.not_true, Bool.false_eq_true, if_false]
  try refine wpAny_bind (wpAny_pure ?_)
  try simp only [Bool.not_true, Bool.false_eq_true, if_false]
  show wpAny _ _ (seqItems? (.ref b) >>= _) _ _ s
  refine wpAny_bind (wpAny_seqItems eb db ?_)
  dsimp only
  refine wpAny_bind ?_
  show wpAny _ _ (forIn its _ _) _ _ s
  rw [← Array.forIn_toList]
  refine wpAny_forIn_list _ (fun l r u => r.1 = none ∧ u = s ∧ ∀ v ∈ l, Plainv v) _ ?_ ?_ _ _ ⟨rfl, rfl, plain_items ib⟩
  · rintro v l r u ⟨hr, rfl, al⟩
    rw [class_item (al v List.mem_cons_self)]
    refine wpAny_bind (wpAny_pure ?_)
    simp only [Bool.false_eq_true, if_false]
    exact wpAny_pure ⟨rfl, rfl, fun z hz => al z (List.mem_cons_of_mem _ hz)⟩
  · rintro ⟨r1, r2⟩ u ⟨hr, rfl, _⟩
    obtain rfl : r1 = none := hr
    exact wpAny_pure q
theorem hash_tup {k : List Key} {b : Addr} {Q : Bool → Shared → Prop} (hb : IsK P w s.heap k b) (q : ∀ c, Q c s) : wpAny (model P w) A (hashByValue 8 (.ref b)) Q E s := by
  have T := hb.typeIs
  obtain ⟨ob, its, n, eb, _, db, ib⟩ := hb
  unfold hashByValue
  refine wpAny_bind (wpAny_specialOf T F.slot_tuple_hash.lookup ?_)
  show wpAny _ _ (seqItems? (.ref b) >>= _) _ _ s
  refine wpAny_bind (wpAny_seqItems eb db ?_)
  refine wpAny_bind ?_
  show wpAny _ _ (forIn its _ _) _ _ s
  rw [← Array.forIn_toList]
  refine wpAny_forIn_list _ (fun l r u => r.1 = none ∧ u = s ∧ ∀ v ∈ l, Plainv v) _ ?_ ?_ _ _ ⟨rfl, rfl, plain_items ib⟩
  · rintro v l r u ⟨hr, rfl, al⟩
    obtain ⟨c, ec⟩ := hash_item (al v List.mem_cons_self) 7
    rw [ec]
    refine wpAny_bind (wpAny_pure ?_)
    cases c
    · simp only [Bool.not_false, if_true]
      refine wpAny_pure ?_
      exact wpAny_pure (q _)
    · simp only [Bool.not_true, Bool.false_eq_true, if_false]
      exact wpAny_pure ⟨rfl, rfl, fun z hz => al z (List.mem_cons_of_mem _ hz)⟩
  · rintro ⟨r1, r2⟩ u ⟨hr, rfl, _⟩
    obtain rfl : r1 = none := hr
    exact wpAny_pure (q _)
theorem unseen {k : List Key} {b : Addr} {Q : Bool → Shared → Prop} (hb : IsK P w s.heap k b) {ys : List Value} (hy : ∀ y ∈ ys, ∃ m c, y = Value.ref c ∧ IsK P w s.heap m c) (q : Q false s) : wpAny (model P w) A (searchCouldBeSeen (.ref b) ys) Q E s := by
  unfold searchCouldBeSeen
  refine wpAny_bind ?_
  refine wpAny_forIn_list _ (fun l r u => r.1 = none ∧ u = s ∧ ∀ y ∈ l, ∃ m c, y = Value.ref c ∧ IsK P w s.heap m c) _ ?_ ?_ _ _ ⟨rfl, rfl, hy⟩
  · rintro v l r u ⟨hr, rfl, al⟩
    obtain ⟨m, c, rfl, hc⟩ := al v List.mem_cons_self
    have more := fun z hz => al z (List.mem_cons_of_mem _ hz)
    dsimp only
    by_cases same : (b == c || (carriedByValue (.ref b) && carriedByValue (.ref c))) = true
    · exact wp_if_pos same (wpAny_pure ⟨rfl, rfl, more⟩)
    · refine wp_if_neg same (wpAny_bind (wpAny_eqIsQuiet_tuple hb ?_))
      simp only [Bool.not_true, Bool.false_eq_true, if_false]
      refine wpAny_bind (wpAny_eqIsQuiet_tuple hc ?_)
      simp only [Bool.not_true, Bool.false_eq_true, if_false]
      refine wpAny_bind (class_tup hb ?_)
      simp only [Bool.false_eq_true, if_false]
      refine wpAny_bind (class_tup hc ?_)
      simp only [Bool.false_eq_true, if_false]
      exact wpAny_pure ⟨rfl, rfl, more⟩
  · rintro ⟨r1, r2⟩ u ⟨hr, rfl, _⟩
    obtain rfl : r1 = none := hr
    exact wpAny_pure q
def rws (P : Program) (w : World) (L : List (Addr × List Key)) : List (Int × Value) := L.map fun p => (hK P w p.2, Value.ref p.1)
/-- the set at a, L the tuples of its entries, each with what it holds -/
structure SetK (P : Program) (w : World) (h : Heap) (a : Addr) (L : List (Addr × List Key)) (es : Array (Int × Value)) (ep : Nat) (t : SetTable) : Prop where
  ob : ∃ o, h.get? a = some o ∧ o.ExactSet ∧ o.data = .set es ep t
  rows : es.toList = rws P w L
  tab : Tab t (L.map fun p => hK P w p.2)
  nd : (L.map (·.2)).Nodup
  tup : ∀ p ∈ L, IsK P w h p.2 p.1
  led : w.params.followText "set-order" = true ∨ t.led = true
  room : L.length * 5 < t.mask * 3
  few : L.length ≤ 300
variable {a : Addr} {L : List (Addr × List Key)} {es : Array (Int × Value)} {ep : Nat} {t : SetTable}
theorem rws_len (h : es.toList = rws P w L) : es.size = L.length := by
  rw [← Array.length_toList, h]
  exact List.length_map _
theorem SetK.fit (R : SetK P w s.heap a L es ep t) : t.fits es.size = true := by
  have l1 : t.place.size = L.length := R.tab.len.trans (List.length_map _)
  have l2 := rws_len R.rows
  have l3 := R.room
  unfold SetTable.fits SetTable.fill
  rw [R.tab.none, Bool.and_eq_true, beq_iff_eq, decide_eq_true_eq]
  refine ⟨by omega, ?_⟩
  show t.place.size + 0 ≤ t.mask
  omega
theorem SetK.entry (R : SetK P w s.heap a L es ep t) {i : Nat} {p : Addr × List Key} (e : L[i]? = some p) : es[i]? = some (hK P w p.2, .ref p.1) := by
  rw [← Array.getElem?_toList, R.rows]
  show (L.map _)[i]? = _
  rw [List.getElem?_map, e]
  rfl
theorem SetK.stays (R : SetK P w s.heap a L es ep t) : ¬ t.gaveWay = true := by
  have := R.tab.cyc.odd
  unfold SetTable.gaveWay
  rw [this]
  decide
theorem dummy_none (m : Nat) : ∀ (n : Nat) (p : SetTable.Probe), p.dummy = none → (nth m p n).dummy = none
  | 0, _, h => h
  | n + 1, p, h => dummy_none m n (adv m p) (by unfold adv; split <;> exact h)
/-- the way of the search from its c-th step on -/
theorem seek (R : SetK P w s.heap a L es ep t) {x : Addr} {k : List Key} (hx : IsK P w s.heap k x) (hu : A.units < cLine) {K : Nat} (lK : K < 10 * SetTable.turns t.mask)
    (nK : L2.way t.mask (hK P w k) K ∉ t.place.toList) (bK : ∀ c, c < K → L2.way t.mask (hK P w k) c ∈ t.place.toList) {Q : SetFound → Shared → Prop}
    (q1 : k ∈ L.map (·.2) → Q (.there none) s) (q2 : k ∉ L.map (·.2) → Q (.free (L2.way t.mask (hK P w k) K) false) s) :
    ∀ (f c : Nat) (at_ : Option SetTable.Probe), at_.getD (t.probeStart (hK P w k)) = nth t.mask (runAt t.mask (SetTable.bits (hK P w k) % (t.mask + 1)) (SetTable.bits (hK P w k))) c → c ≤ K → K < f + c →
      (∀ (i : Nat) (p : Addr × List Key), L[i]? = some p → p.2 = k → ∃ d, c ≤ d ∧ d < K ∧ t.place.toList[i]? = some (L2.way t.mask (hK P w k) d)) →
      wpAny (model P w) A (setSearchFrom a (.ref x) (hK P w k) true f at_) Q E s
  | 0, c, at_, _, lc, lf, _ => absurd lf (by omega)
  | f + 1, c, at_, eat, lc, lf, ahead => by
    obtain ⟨o, eo, xo, od⟩ := R.ob
    rw [setSearchFrom_succ]
    refine wpAny_bind (wpAny_setState_of eo od R.fit ?_)
    dsimp only
    refine wp_if_neg R.stays ?_
    try refine wpAny_bind (wpAny_pure ?_)
    have jw : ∀ q, (nth t.mask (nth t.mask (runAt t.mask (SetTable.bits (hK P w k) % (t.mask + 1)) (SetTable.bits (hK P w k))) c) q).j = L2.way t.mask (hK P w k) (c + q) := fun q => congrArg SetTable.Probe.j (nth_add t.mask c _ q).symm
    have spec := go_spec t R.tab.up R.tab.none (fun i => (es[i]?.map (·.1)).getD 0) (hK P w k) (10 * SetTable.turns t.mask) (K - c) _ (dummy_none t.mask c (runAt t.mask (SetTable.bits (hK P w k) % (t.mask + 1)) (SetTable.bits (hK P w k))) rfl) (by omega)
      (fun q lq => by rw [jw]; exact bK (c + q) (by omega)) (by rw [jw, show c + (K - c) = K by omega]; exact nK)
    have hat : ∀ (i : Nat) (p : Addr × List Key), L[i]? = some p → (es[i]?.map (·.1)).getD 0 = hK P w p.2 := fun i p e => by
      rw [R.entry e]
      rfl
    rcases spec with ⟨q, i, lq, ei, _, no, pr⟩ | ⟨no, pr⟩
    · rw [← eat] at pr
      rw [show t.probe (fun i => (es[i]?.map (·.1)).getD 0) (hK P w k) (at_.getD (t.probeStart (hK P w k))) = _ from pr]
      dsimp only
      rw [eat, jw] at *
      have li : i < L.length := by
        have l1 := (List.getElem?_eq_some_iff.mp ei).1
        have l2 : t.place.size = L.length := R.tab.len.trans (List.length_map _)
        rw [Array.length_toList] at l1
        omega
      obtain ⟨p, ep1⟩ : ∃ p, L[i]? = some p := ⟨_, List.getElem?_eq_getElem li⟩
      have mp : p ∈ L := List.mem_of_getElem? ep1
      have sl : t.slot (L2.way t.mask (hK P w k) (c + q)) = .live i := slot_live R.tab.up ei
      have rest : wpAny (model P w) A (searchRest a (.ref x) (hK P w k) true f es t (L2.way t.mask (hK P w k) (c + q)) i (nth t.mask (nth t.mask (runAt t.mask (SetTable.bits (hK P w k) % (t.mask + 1)) (SetTable.bits (hK P w k))) c) (q + 1))) Q E s := by
        unfold searchRest
        rw [R.entry ep1]
        dsimp only
        refine wpAny_bind (wpAny_holding (wpAny_eqBool_tuple hu (R.tup p mp) hx ?_))
        refine wpAny_bind (wpAny_setState_of eo od R.fit ?_)
        dsimp only
        by_cases pk : p.2 = k
        · refine wp_if_pos (by simp [pk]) (wpAny_pure (q1 ?_))
          exact List.mem_map.mpr ⟨p, mp, pk⟩
        · refine wp_if_neg (by simp [pk]) ?_
          try refine wpAny_bind (wpAny_pure ?_)
          rw [sameMem]
          dsimp only
          simp only [if_true, sl, R.entry ep1]
          refine wpAny_bind (wpAny_isSame_ref_self (wpAny_bind (wpAny_pure ?_)))
          simp only [if_true]
          refine wp_if_neg (by simp [pk]) ?_
          refine seek R hx hu lK nK bK q1 q2 f (c + (q + 1)) _ (nth_add t.mask c _ (q + 1)).symm (by omega) (by omega) fun i0 p0 e0 k0 => ?_
          obtain ⟨d, d1, d2, d3⟩ := ahead i0 p0 e0 k0
          refine ⟨d, ?_, d2, d3⟩
          rcases Nat.lt_trichotomy d (c + q) with z | z | z
          · refine absurd ((hat i0 p0 e0).trans (congrArg (hK P w) k0)) (no (d - c) i0 (by omega) ?_)
            rw [jw, show c + (d - c) = d by omega]
            exact d3
          · subst z
            have s0 := slot_live R.tab.up d3
            rw [sl] at s0
            injection s0 with s0
            subst s0
            rw [ep1] at e0
            cases e0
            exact absurd k0 pk
          · exact z
      by_cases hl : t.led = true
      · refine wp_if_neg (by simp [hl]) ?_
        try refine wpAny_bind (wpAny_pure ?_)
        exact rest
      · refine wp_if_pos (by simp [hl]) ?_
        refine wpAny_bind (unseen hx (fun y hy => ?_) ?_)
        · obtain ⟨e, me, rfl⟩ := List.mem_map.mp hy
          have m1 : e ∈ es ∧ e.1 = hK P w k := by simpa using me
          have m2 : e ∈ es.toList := by simpa using m1.1
          rw [R.rows] at m2
          obtain ⟨p2, mp2, rfl⟩ := List.mem_map.mp m2
          exact ⟨p2.2, p2.1, rfl, R.tup p2 mp2⟩
        · refine wp_if_neg (by decide) ?_
          try refine wpAny_bind (wpAny_pure ?_)
          exact rest
    · have ej : (nth t.mask (nth t.mask (runAt t.mask (SetTable.bits (hK P w k) % (t.mask + 1)) (SetTable.bits (hK P w k))) c) (K - c)).j = L2.way t.mask (hK P w k) K := by
        rw [jw, show c + (K - c) = K by omega]
      rw [← eat] at pr ej
      rw [show t.probe (fun i => (es[i]?.map (·.1)).getD 0) (hK P w k) (at_.getD (t.probeStart (hK P w k))) = _ from pr]
      dsimp only
      rw [ej]
      refine wpAny_pure (q2 fun mk => ?_)
      obtain ⟨p0, m0, k0⟩ := List.mem_map.mp mk
      obtain ⟨i0, li0, e0⟩ := List.getElem_of_mem m0
      have g0 : L[i0]? = some p0 := by rw [List.getElem?_eq_getElem li0, e0]
      obtain ⟨d, d1, d2, d3⟩ := ahead i0 p0 g0 k0
      refine no (d - c) i0 (by omega) ?_ ((hat i0 p0 g0).trans (congrArg (hK P w) k0))
      rw [jw, show c + (d - c) = d by omega]
      exact d3
theorem sought (R : SetK P w s.heap a L es ep t) {x : Addr} {k : List Key} (hx : IsK P w s.heap k x) (hu : A.units < cLine) {Q : SetFound → Shared → Prop} (q1 : k ∈ L.map (·.2) → Q (.there none) s)
    (q2 : ∀ K, k ∉ L.map (·.2) → L2.way t.mask (hK P w k) K ∉ t.place.toList → (∀ c, c < K → L2.way t.mask (hK P w k) c ∈ t.place.toList) → Q (.free (L2.way t.mask (hK P w k) K) false) s) :
    wpAny (model P w) A (setSearch a (.ref x) (hK P w k) true) Q E s := by
  have rm := R.room
  have sm := R.tab.cyc.few
  obtain ⟨K, lK, nK, bK⟩ := R.tab.free (by rw [List.length_map]; omega) (hK P w k)
  have lK2 : K < 10 * (t.mask + 15) := lK
  refine seek R hx hu lK nK bK q1 (fun n => q2 K n nK bK) 100000 0 none rfl (Nat.zero_le _) (by omega) fun i p e pk => ?_
  have e1 : (L.map fun p => hK P w p.2)[i]? = some (hK P w k) := by rw [List.getElem?_map, e, ← pk]; rfl
  have li : i < t.place.toList.length := by
    have l1 := (List.getElem?_eq_some_iff.mp e1).1
    have l2 := R.tab.len
    rw [Array.length_toList]
    omega
  obtain ⟨c, lc, ec⟩ := R.tab.ahead nK e1 (List.getElem?_eq_getElem li)
  exact ⟨c, Nat.zero_le _, lc, by rw [List.getElem?_eq_getElem li, ec]⟩
end
end TZ
namespace TZ
open PySem PySem.Spec PyProof.Rows L2
section
variable {P : Program} {w : World} {A : Around} {E : Value → Shared → Prop} {s : Shared} {a : Addr} {L : List (Addr × List Key)} {es : Array (Int × Value)} {ep : Nat} {t : SetTable}
theorem isK_but {h h' : Heap} {k : List Key} {b : Addr} {o : Obj} (hb : IsK P w h k b) (eo : h.get? a = some o) (od : o.data = .set es ep t) (sb : Heap.SameBut a h h') : IsK P w h' k b := by
  obtain ⟨ob, its, n, eb, cb, db, ib⟩ := hb
  refine ⟨ob, its, n, ?_, cb, db, ib⟩
  rw [sb.2 b fun z => ?_]
  · exact eb
  · subst z
    rw [eo] at eb
    cases eb
    rw [od] at db
    exact nomatch db
theorem isK_keep {h h' : Heap} {k : List Key} {b : Addr} (x : IsK P w h k b) (kp : ∀ c o, h.get? c = some o → h'.get? c = some o) : IsK P w h' k b := by
  obtain ⟨ob, its, n, eb, r⟩ := x
  exact ⟨ob, its, n, kp b ob eb, r⟩
theorem ins_perm {α : Type} (l : List α) (p : Nat) (x : α) : (l.take p ++ x :: l.drop p).Perm (x :: l) := by
  have q : (l.take p ++ x :: l.drop p).Perm (x :: (l.take p ++ l.drop p)) := List.perm_middle
  rwa [List.take_append_drop] at q
/-- rows in another order -/
theorem rows_by (L : List (Addr × List Key)) (es : Array (Int × Value)) (er : es.toList = rws P w L) : ∀ order : List Nat, (∀ i ∈ order, i < L.length) →
    ∃ L1 : List (Addr × List Key), order.filterMap (fun i => es[i]?) = rws P w L1 ∧ L1 = order.filterMap (fun i => L[i]?) ∧ (L1.map fun p => hK P w p.2) = order.map fun i => (es.map (·.1)).getD i 0
  | [], _ => ⟨[], rfl, rfl, rfl⟩
  | i :: order, lo => by
    obtain ⟨L1, a1, a2, a3⟩ := rows_by L es er order fun j hj => lo j (List.mem_cons_of_mem _ hj)
    have li := lo i List.mem_cons_self
    obtain ⟨p, ep⟩ : ∃ p, L[i]? = some p := ⟨_, List.getElem?_eq_getElem li⟩
    have ee : es[i]? = some (hK P w p.2, .ref p.1) := by
      rw [← Array.getElem?_toList, er]
      show (L.map _)[i]? = _
      rw [List.getElem?_map, ep]
      rfl
    refine ⟨p :: L1, ?_, ?_, ?_⟩
    · rw [List.filterMap_cons_some ee, a1]
      rfl
    · rw [List.filterMap_cons_some ep, a2]
    · have eh : (es.map (·.1))[i]? = some (hK P w p.2) := by rw [Array.getElem?_map, ee]; rfl
      rw [List.map_cons, List.map_cons, a3, Array.getD_eq_getD_getElem?, eh]
      rfl
theorem range_all {α : Type} (L : List α) : ∀ n, n ≤ L.length → (List.range n).filterMap (fun i => L[i]?) = L.take n
  | 0, _ => rfl
  | n + 1, ln => by
    rw [List.range_succ, List.filterMap_append, range_all L n (Nat.le_of_lt ln), List.take_succ, List.getElem?_eq_getElem ln, List.filterMap_cons_some (List.getElem?_eq_getElem ln)]
    rfl
/-- the table made larger -/
theorem grow {o : Obj} (eo : s.heap.get? a = some o) (xo : o.ExactSet) (od : o.data = .set es ep t) (er : es.toList = rws P w L) (sz : t.place.size = es.size) (dm : t.dummies = #[]) (fl : es.size ≤ t.mask)
    (nd : (L.map (·.2)).Nodup) (tup : ∀ p ∈ L, IsK P w s.heap p.2 p.1) (ld : w.params.followText "set-order" = true ∨ t.led = true) (few : L.length ≤ 300) {wanted M : Nat}
    (hw : SetTable.sizeAbove wanted = M + 1) (c : Cyc M) (rm : L.length * 5 < M * 3) {Q : Unit → Shared → Prop}
    (q : ∀ h' L' es' ep' t', Heap.SameBut a s.heap h' → SetK P w h' a L' es' ep' t' → L'.Perm L → t'.mask = M → Q () { s with heap := h' }) : wpAny (model P w) A (setRelay a wanted) Q E s := by
  have sl := rws_len er
  have fm := c.few
  have ft : t.fits es.size = true := by
    unfold SetTable.fits SetTable.fill
    rw [dm, Bool.and_eq_true, beq_iff_eq, decide_eq_true_eq]
    refine ⟨sz, ?_⟩
    show t.place.size + 0 ≤ t.mask
    omega
  obtain ⟨t1, order, e, pm, T, em, el⟩ := again c t (hs := es.map (·.1)) (wanted := wanted) (by rw [hw]; rfl) (by rw [Array.size_map, sl]; omega)
  rw [Array.size_map, sl] at pm
  obtain ⟨L1, r1, r2, r3⟩ := rows_by (P := P) (w := w) L es er order.toList fun i hi => List.mem_range.mp (pm.mem_iff.mp hi)
  have pL : L1.Perm L := by
    have := pm.filterMap fun i => L[i]?
    rw [← r2, range_all L L.length (Nat.le_refl _), List.take_length] at this
    exact this
  rw [← r3] at T
  have r1' : (order.filterMap (es[·]?)).toList = rws P w L1 := by first | (rw [Array.toList_filterMap]; exact r1) | simpa using r1
  have s2 : (order.filterMap (es[·]?)).size = es.size := by rw [rws_len r1', pL.length_eq, sl]
  rw [setRelay_eq]
  refine wpAny_bind (wpAny_setState_of eo od ft ?_)
  dsimp only
  refine wp_if_neg (by rw [sizeLine_eq, hw]; omega) ?_
  try refine wpAny_bind (wpAny_pure ?_)
  rw [e]
  dsimp only
  refine wpAny_bind ?_
  refine wp_if_neg (by rw [s2]; simp) ?_
  try refine wpAny_bind (wpAny_pure ?_)
  refine wpAny_pure ?_
  dsimp only
  refine wpAny_storeSet_of eo od ?_ (by rw [s2, sl, sizeLine_eq]; omega)
  have sb := Heap.SameBut.update s.heap a (Obj.putSet (order.filterMap (es[·]?)) t1)
  refine q _ L1 _ (ep + 1) t1 sb ⟨⟨_, store_at eo od, ⟨xo.1, xo.2.1, xo.2.2⟩, rfl⟩, r1', T, (pL.map (·.2)).nodup_iff.mpr nd, fun p hp => isK_but (tup p (pL.mem_iff.mp hp)) eo od sb, ld.imp id fun z => el.trans z, ?_, by rw [pL.length_eq]; exact few⟩ pL em
  rw [pL.length_eq, em]
  exact rm
/-- one of the four masks -/
def Four (m : Nat) : Prop := m = 7 ∨ m = 31 ∨ m = 127 ∨ m = 511
theorem mask_cases {m n : Nat} (lm : Four m) (l1 : n * 5 < m * 3) (l2 : (n + 1) * 5 ≥ m * 3) (few : n + 1 ≤ 300) :
    ∃ M, SetTable.sizeAbove (SetTable.grown (n + 1)) = M + 1 ∧ Cyc M ∧ (n + 1) * 5 < M * 3 ∧ Four M ∧ n + 1 ≤ m := by
  rcases lm with e | e | e | e
  · obtain rfl : n = 4 := by omega
    exact ⟨31, size_a, cyc_of cyc31, by decide, .inr (.inl rfl), by omega⟩
  · obtain rfl : n = 18 := by omega
    exact ⟨127, size_b, cyc_of cyc127, by decide, .inr (.inr (.inl rfl)), by omega⟩
  · obtain rfl : n = 76 := by omega
    exact ⟨511, size_c, cyc_of cyc511, by decide, .inr (.inr (.inr rfl)), by omega⟩
  · omega
/-- the set at a, with its tuples -/
def SetF (P : Program) (w : World) (h : Heap) (a : Addr) (L : List (Addr × List Key)) : Prop := ∃ es ep t, SetK P w h a L es ep t ∧ Four t.mask
theorem add_one (R : SetF P w s.heap a L) {x : Addr} {k : List Key} (hx : IsK P w s.heap k x) (hu : A.units < cLine) (few : L.length + 1 ≤ 300) {Q : Bool → Shared → Prop}
    (q : ∀ b h' L', Heap.SameBut a s.heap h' → SetF P w h' a L' → (k ∈ L.map (·.2) → L' = L) → (k ∉ L.map (·.2) → L'.Perm ((x, k) :: L)) → Q b { s with heap := h' }) :
    wpAny (model P w) A (setAddHashed a (.ref x) (hK P w k)) Q E s := by
  obtain ⟨es, ep, t, R, fm⟩ := R
  obtain ⟨o, eo, xo, od⟩ := R.ob
  have sl := rws_len R.rows
  have rm := R.room
  unfold setAddHashed
  refine wpAny_holding ?_
  rw [show (100000 : Nat) = 99999 + 1 from rfl, setAddHashedIn_succ]
  refine wpAny_bind (wpAny_setState_of eo od R.fit ?_)
  dsimp only
  refine wp_if_neg (by simp [byScan, Value.scannable]) ?_
  try refine wpAny_bind (wpAny_pure ?_)
  refine wpAny_bind (sought R hx hu (fun mk => ?_) fun K mk nK bK => ?_)
  · dsimp only
    exact wpAny_pure (q false s.heap L (Heap.SameBut.refl a s.heap) ⟨es, ep, t, R, fm⟩ (fun _ => rfl) fun z => absurd mk z)
  · dsimp only
    refine wpAny_bind (wpAny_setState_of eo od R.fit ?_)
    dsimp only
    obtain ⟨e2, B⟩ := R.tab.put nK bK
    generalize ept : t.put (L2.way t.mask (hK P w k) K) = pt at e2 B ⊢
    obtain ⟨t1, p⟩ := pt
    dsimp only at e2 B ⊢
    rw [← e2] at B
    have go : ∀ t2 : SetTable, Put t t2 (L.map fun p => hK P w p.2) (hK P w k) p → wpAny (model P w) A (do
        storeSet a (SetTable.insertAt es p (hK P w k, Value.ref x)) t2
        if (!false && t2.tooFull) = true then do
            setRelay a (SetTable.grown (es.size + 1))
            pure true
          else pure true) Q E s := fun t2 B => by
      have ie : (SetTable.insertAt es p (hK P w k, Value.ref x)).toList = rws P w (L.take p ++ (x, k) :: L.drop p) := by
        rw [SetTable.toList_insertAt, R.rows]
        unfold rws
        rw [List.map_append, List.map_cons, List.map_take, List.map_drop]
      have pm := ins_perm L p (x, k)
      have ln : (L.take p ++ (x, k) :: L.drop p).length = L.length + 1 := pm.length_eq
      have hh : (L.take p ++ (x, k) :: L.drop p).map (fun p => hK P w p.2) = (L.map fun p => hK P w p.2).take p ++ hK P w k :: (L.map fun p => hK P w p.2).drop p := by
        rw [List.map_append, List.map_cons, List.map_take, List.map_drop]
      have T1 := B.tab
      rw [← hh] at T1
      have nd1 : ((L.take p ++ (x, k) :: L.drop p).map (·.2)).Nodup := (pm.map (·.2)).nodup_iff.mpr (List.nodup_cons.mpr ⟨mk, R.nd⟩)
      have z1 := rws_len ie
      generalize SetTable.insertAt es p (hK P w k, Value.ref x) = es1 at ie z1 ⊢
      generalize L.take p ++ (x, k) :: L.drop p = L1 at pm ln T1 nd1 ie z1
      refine wpAny_bind (wpAny_storeSet_of eo od ?_ (by rw [z1, ln, sizeLine_eq]; omega))
      have sb := Heap.SameBut.update s.heap a (Obj.putSet es1 t2)
      have o1 := store_at (es' := es1) (t' := t2) eo od
      generalize s.heap.update a (Obj.putSet es1 t2) = h1 at sb o1 ⊢
      have tp1 : ∀ r ∈ L1, IsK P w h1 r.2 r.1 := fun r hr => (List.mem_cons.mp (pm.mem_iff.mp hr)).elim (fun e => by rw [e]; exact isK_but hx eo od sb) fun hr => isK_but (R.tup r hr) eo od sb
      have ld1 : w.params.followText "set-order" = true ∨ t2.led = true := R.led.imp id fun z => B.led.trans z
      have fl := B.fill
      rw [List.length_map] at fl
      by_cases tf : t2.tooFull = true
      · refine wp_if_pos (by simp [tf]) (wpAny_bind ?_)
        have full : (L.length + 1) * 5 ≥ t.mask * 3 := by
          have := tf
          unfold SetTable.tooFull at this
          rw [decide_eq_true_eq, fl, B.mask] at this
          exact this
        rw [sl]
        obtain ⟨M, m1, m2, m3, m4, m5⟩ := mask_cases fm rm full few
        refine grow (s := { s with heap := h1 }) o1 ⟨xo.1, xo.2.1, xo.2.2⟩ rfl ie ?_ T1.none (by rw [z1, ln, B.mask]; exact m5) nd1 tp1 ld1 (by rw [ln]; exact few) m1 m2 (by rw [ln]; exact m3) fun h2 L2 es2 ep2 t3 sb2 R2 pm2 em => ?_
        · have := T1.len
          rw [List.length_map] at this
          rw [this, z1]
        · exact wpAny_pure (q true h2 L2 (sb.trans sb2) ⟨es2, ep2, t3, R2, by rw [em]; exact m4⟩ (fun z => absurd z mk) fun _ => pm2.trans pm)
      · refine wp_if_neg (by simp [tf]) (wpAny_pure ?_)
        refine q true h1 L1 sb ⟨es1, ep + 1, t2, ⟨⟨_, o1, ⟨xo.1, xo.2.1, xo.2.2⟩, rfl⟩, ie, T1, nd1, tp1, ld1, ?_, by rw [ln]; exact few⟩, by rw [B.mask]; exact fm⟩ (fun z => absurd z mk) fun _ => pm
        have := tf
        unfold SetTable.tooFull at this
        rw [decide_eq_true_eq, fl] at this
        rw [ln]
        omega
    have alt : Put t { t1 with plain := false } (L.map fun p => hK P w p.2) (hK P w k) p := ⟨B.le, ⟨B.tab.cyc, B.tab.up, B.tab.none, B.tab.len, B.tab.low, B.tab.met⟩, B.mask, B.led, B.fill⟩
    split
    · refine wpAny_bind (hash_tup hx fun c => ?_)
      cases c
      · exact go _ alt
      · exact go _ B
    · refine wpAny_bind (wpAny_pure ?_)
      exact go _ B
end
end TZ
namespace TZ
open PySem PySem.Spec PyProof.Rows L2
/-- what a set has when the first i of ks are in -/
structure Hold (ks : List (Addr × List Key)) (i : Nat) (L : List (Addr × List Key)) : Prop where
  sub : ∀ p ∈ L, p ∈ ks.take i
  all : ∀ p ∈ ks.take i, p.2 ∈ L.map (·.2)
  few : L.length ≤ i
theorem Hold.next {ks L L1 : List (Addr × List Key)} {i : Nat} {x : Addr × List Key} (g : Hold ks i L) (e : ks[i]? = some x) (c1 : x.2 ∈ L.map (·.2) → L1 = L) (c2 : x.2 ∉ L.map (·.2) → L1.Perm (x :: L)) : Hold ks (i + 1) L1 := by
  have et : ks.take (i + 1) = ks.take i ++ [x] := by
    rw [List.take_succ, e]
    rfl
  by_cases c : x.2 ∈ L.map (·.2)
  · rw [c1 c]
    refine ⟨fun p hp => by rw [et]; exact List.mem_append_left _ (g.sub p hp), fun p hp => ?_, Nat.le_succ_of_le g.few⟩
    rw [et] at hp
    rcases List.mem_append.mp hp with z | z
    · exact g.all p z
    · exact List.mem_singleton.mp z ▸ c
  · have pm := c2 c
    refine ⟨fun p hp => ?_, fun p hp => ?_, by rw [pm.length_eq]; exact Nat.succ_le_succ g.few⟩
    · rw [et]
      rcases List.mem_cons.mp (pm.mem_iff.mp hp) with z | z
      · exact List.mem_append_right _ (List.mem_singleton.mpr z)
      · exact List.mem_append_left _ (g.sub p z)
    · rw [et] at hp
      refine (pm.map (·.2)).mem_iff.mpr ?_
      rcases List.mem_append.mp hp with z | z
      · exact List.mem_cons_of_mem _ (g.all p z)
      · exact List.mem_singleton.mp z ▸ List.mem_cons_self
section
variable {P : Program} {w : World} {A : Around} {E : Value → Shared → Prop} {s : Shared}
theorem SetF.keep {h h' : Heap} {a : Addr} {L : List (Addr × List Key)} (R : SetF P w h a L) (ka : ∀ o, h.get? a = some o → h'.get? a = some o) (kt : ∀ p ∈ L, IsK P w h' p.2 p.1) : SetF P w h' a L := by
  obtain ⟨es, ep, t, R, fm⟩ := R
  obtain ⟨o, eo, r⟩ := R.ob
  exact ⟨es, ep, t, ⟨⟨o, ka o eo, r⟩, R.rows, R.tab, R.nd, kt, R.led, R.room, R.few⟩, fm⟩
theorem fresh {h : Heap} {a : Addr} (eo : h.get? a = some (TX.setObj w)) : SetF P w h a [] :=
  ⟨#[], 0, _, ⟨⟨_, eo, ⟨rfl, rfl, rfl⟩, rfl⟩, rfl, ⟨cyc_of cyc7, List.Pairwise.nil, rfl, rfl, fun _ z => absurd z List.not_mem_nil, fun i h j z => nomatch (show (none : Option Int) = some h by rw [← z]; rfl)⟩, List.nodup_nil, fun _ z => absurd z List.not_mem_nil, by
    show _ ∨ (!w.params.followText "set-order") = true
    cases w.params.followText "set-order"
    · exact .inr rfl
    · exact .inl rfl, (show 0 * 5 < 7 * 3 by decide), (show 0 ≤ 300 by decide)⟩, .inl rfl⟩
theorem turns {I : Addr} {fp wr : List Addr} {G : Array GenState → Array GenState → Prop} {n : Nat} {V : Nat → Value → Prop} {St : Nat → Shared → Prop} {R : Result → Shared → Prop} (W : WalksS P w A.in1 I fp wr G n V St) {S : Addr} (nS : S ∉ fp)
    {ks : List (Addr × List Key)} (few : n ≤ 299) (hv : ∀ i v, V i v → ∃ p, ks[i]? = some p ∧ v = .ref p.1) {h0 : Heap} (hk : ∀ p ∈ ks, IsK P w h0 p.2 p.1) (n0 : h0.get? S = none) (nw : ∀ b ∈ wr, h0.get? b = none) (hu : A.in1.units < cLine) :
    ∀ (k i : Nat) (s : Shared), n - i = k → i ≤ n → St i s → (∀ b o, h0.get? b = some o → s.heap.get? b = some o) → (∃ L, SetF P w s.heap S L ∧ Hold ks i L) →
      (∀ s1 L, Moved (S :: wr) G s s1 → SetF P w s1.heap S L → Hold ks n L → (∀ b o, h0.get? b = some o → s1.heap.get? b = some o) → R (.ok (.ret .none)) s1) → codeAny (model P w) A (.builtin "set.update.loop" ⟨[.ref S, .ref I], []⟩) R s := by
  have sw : S ∉ wr := fun z => nS (W.sub _ z)
  have up : ∀ b ∈ wr, b ∈ S :: wr := fun _ z => List.mem_cons_of_mem _ z
  have kept : ∀ {s s1 : Shared}, Moved wr G s s1 → (∀ b o, h0.get? b = some o → s.heap.get? b = some o) → ∀ b o, h0.get? b = some o → s1.heap.get? b = some o := fun mv kp b o e =>
    mv.heap b o (fun z => nomatch (nw b z).symm.trans e) (kp b o e)
  have inks : ∀ {i : Nat} {L : List (Addr × List Key)}, Hold ks i L → ∀ p ∈ L, p ∈ ks := fun g p hp => List.mem_of_mem_take (g.sub p hp)
  intro k
  induction k with
  | zero =>
    intro i s ek li st kp ⟨L, r, g⟩ q
    obtain rfl : i = n := by omega
    refine codeAny_builtin F.entry_set_update_loop ?_
    rw [Around.under_plainId F.plain_set_update_loop _]
    refine wpAny_bind (m := pyNext (.ref I)) (W.done s _ _ st fun s1 mv => ?_)
    have kp1 := kept mv kp
    exact wpAny_pure (q s1 L (mv.mono up) (r.keep (fun o e => mv.heap S o sw e) fun p hp => isK_keep (hk p (inks g p hp)) kp1) g kp1)
  | succ k ih =>
    intro i s ek li st kp ⟨L, r, g⟩ q
    have lt : i < n := by omega
    refine codeAny_builtin F.entry_set_update_loop ?_
    rw [Around.under_plainId F.plain_set_update_loop _]
    refine wpAny_bind (m := pyNext (.ref I)) (W.item i s _ _ lt st fun v s1 pv st1 mv => ?_)
    obtain ⟨x, ex, rfl⟩ := hv i v pv
    have kp1 := kept mv kp
    have r1 : SetF P w s1.heap S L := r.keep (fun o e => mv.heap S o sw e) fun p hp => isK_keep (hk p (inks g p hp)) kp1
    have hx : IsK P w s1.heap x.2 x.1 := isK_keep (hk x (List.mem_of_getElem? ex)) kp1
    show wpAny _ A.in1 (holding [Value.ref x.1] (setAdd S (.ref x.1)) >>= _) _ _ s1
    refine wpAny_bind (wpAny_holding ?_)
    unfold setAdd
    refine wpAny_holding (wpAny_bind (wpAny_pyHash_tuple hu hx ?_))
    have gl := g.few
    refine add_one (s := { s1 with toks := s1.toks + (x.2.length + 1) }) r1 hx hu (by omega) fun b h1 L1 sb r2 c1 c2 => ?_
    have kp2 : ∀ b o, h0.get? b = some o → h1.get? b = some o := fun b o e => by
      rw [sb.2 b fun z : b = S => by rw [z, n0] at e; exact nomatch e]
      exact kp1 b o e
    refine wpAny_pure ⟨plainId_quiet F.plain_set_update_loop _, ih (i + 1) _ (by omega) lt (W.frame _ s1 _ _ st1 (Nat.le_add_right _ _) fun b hb o e => ?_) kp2 ⟨L1, r2, g.next ex c1 c2⟩ fun s2 L2 mv2 r3 g3 kp3 => ?_⟩
    · rw [sb.2 b fun z : b = S => nS (z ▸ hb)]
      exact e
    · refine q s2 L2 (Moved.trans W.gtrans ((mv.mono up).then_heap (Nat.le_add_right _ _) fun b o hb e => ?_) mv2) r3 g3 kp3
      rw [sb.2 b fun z : b = S => hb (z ▸ List.mem_cons_self)]
      exact e
def Gave (P : Program) (w : World) (s : Shared) (ks : List (Addr × List Key)) (E : Value → Shared → Prop) : Result → Shared → Prop := wants (fun v u => v = .none ∧ ∃ h1 tk L, u = { s with heap := h1, toks := tk } ∧ SetF P w h1 s.heap.objs.size L ∧ Hold ks ks.length L ∧ ∀ b o, s.heap.get? b = some o → h1.get? b = some o) E
theorem begun {l : Addr} {items : Array Value} {ks : List (Addr × List Key)} (ie : items.toList = ks.map fun p => Value.ref p.1) (hk : ∀ p ∈ ks, IsK P w s.heap p.2 p.1) (few : ks.length ≤ 299) (hu : A.in1.units < cLine) {it : Obj} {St : Nat → Heap → Prop} (ll : l < s.heap.objs.size)
    (W : Walks P w A.in1 (s.heap.objs.size + 1) [s.heap.objs.size + 1, l] [s.heap.objs.size + 1] items.size (fun i v => items[i]? = some v) St) (h0 : St 0 ((s.heap.push (TX.setObj w)).push it)) :
    codeAny (model P w) A (.builtin "set.update.loop" ⟨[.ref s.heap.objs.size, .ref (s.heap.objs.size + 1)], []⟩) (Gave P w s ks E) { s with heap := (s.heap.push (TX.setObj w)).push it } := by
  have iz : items.size = ks.length := by rw [← Array.length_toList, ie]; exact List.length_map _
  have eS : ((s.heap.push (TX.setObj w)).push it).get? s.heap.objs.size = some (TX.setObj w) := Heap.get?_push_of_some _ (Heap.get?_push_size _ rfl)
  have new : ∀ b, s.heap.objs.size ≤ b → s.heap.get? b = none := fun b lb => by
    cases z : s.heap.get? b with
    | none => rfl
    | some o => exact absurd (Heap.lt_size z) (Nat.not_lt.mpr lb)
  have out : s.heap.objs.size ∉ [s.heap.objs.size + 1, l] := fun z => by
    rcases List.mem_cons.mp z with z | z
    · exact Nat.ne_of_lt (Nat.lt_succ_self _) z
    · exact Nat.ne_of_gt ll (List.mem_singleton.mp z)
  refine turns W.toS out (ks := ks) (by omega) (fun i v hv => ?_) hk (new _ (Nat.le_refl _)) (fun b hb => new b (by rw [List.mem_singleton.mp hb]; exact Nat.le_succ _)) hu (items.size - 0) 0 _ rfl (Nat.zero_le _) h0 (fun b o e => Heap.get?_push_of_some _ (Heap.get?_push_of_some _ e))
    ⟨[], fresh eS, ⟨fun _ z => (nomatch z), fun p z => by rw [List.take_zero] at z; exact (nomatch z), Nat.le_refl _⟩⟩ fun s1 L mv r g kp => ?_
  · have q : items.toList[i]? = some v := by rw [Array.getElem?_toList]; exact hv
    rw [ie, List.getElem?_map] at q
    obtain ⟨p, ep, rfl⟩ := Option.map_eq_some_iff.mp q
    exact ⟨p, ep, rfl⟩
  · obtain ⟨h1, g1, d1, k1, o1⟩ := s1
    have eg : g1 = s.gens := mv.gens
    have ed : d1 = s.drawn := mv.drawn
    have eo : o1 = s.os := mv.os
    subst eg ed eo
    rw [iz] at g
    exact ⟨rfl, h1, k1, L, rfl, r, g, kp⟩
set_option maxHeartbeats 4000000 in
theorem inited {l : Addr} {items : Array Value} {ks : List (Addr × List Key)} (hh : A.handled = none) (hu : A.units + 3 < cLine) (hl : s.heap.IsList l items ∨ s.heap.IsTuple l items) (ie : items.toList = ks.map fun p => Value.ref p.1) (hk : ∀ p ∈ ks, IsK P w s.heap p.2 p.1) (few : ks.length ≤ 299) :
    codeAny (model P w) A (.call (.builtin "set.__init__") ⟨[.ref s.heap.objs.size, .ref l], []⟩) (Gave P w s ks E) { s with heap := s.heap.push (TX.setObj w) } := by
  have hS : (s.heap.push (TX.setObj w)).get? s.heap.objs.size = some (TX.setObj w) := Heap.get?_push_size _ rfl
  have tS : Shared.TypeIs { s with heap := s.heap.push (TX.setObj w) } (.ref s.heap.objs.size) "set" := ⟨_, hS, rfl⟩
  have zs : (s.heap.push (TX.setObj w)).objs.size = s.heap.objs.size + 1 := Heap.size_push ..
  refine codeAny_call_builtin F.called_set.init.plain F.entry_set_init (check_set_init_1 tS ?_)
  rcases hl with ⟨⟨oc, od, oo, os⟩, hol, hoc, on, hod⟩ | ⟨⟨oc, od, oo, os⟩, hol, hoc, on, hod⟩
  all_goals simp only at hoc hod
  all_goals subst hoc hod
  all_goals have hl1 := Heap.get?_push_of_some (TX.setObj w) hol
  all_goals have lts := Heap.lt_size hol
  · have s1 := F.sub_list_set
    have s2 := F.sub_list_frozenset
    have ne : (Value.type "list" == Value.type "dict") = false := by decide
    have isl : (s.heap.push (TX.setObj w)).IsList l items := ⟨_, hl1, rfl, on, rfl⟩
    unfold Builtin.«set.__init__» noKeywords Builtin.Frozenset.updateFrom
    generalize hPI : pyIter = PI
    wp_walk
    subst hPI
    refine wpAny_pyIter_list isl (wpAny_bind (wpAny_runValue ?_))
    rw [show ({ s with heap := s.heap.push (TX.setObj w) } : Shared).heap.objs.size = s.heap.objs.size + 1 from zs]
    refine codeAny_mono (begun (E := E) ie hk few (by simp only [Around.in1_units]; omega) lts (it := { cls := .type "list_iterator", data := .fields #[.ref l, .int 0 0] }) (Walks.list (by simp [hh]) (s.heap.objs.size + 1) l (Nat.ne_of_lt (Nat.lt_succ_of_lt lts)) items) ⟨⟨_, (by rw [← zs]; exact Heap.get?_push_size _ rfl), rfl, rfl⟩, isl.push _⟩) fun r u hr => ?_
    rcases r with e0 | f0
    · exact hr
    rcases f0 with _ | v0 | _ | _
    all_goals try exact hr.elim
    obtain ⟨rfl, ht⟩ := hr
    exact wpAny_pure (wpAny_pure ⟨rfl, ht⟩)
  · have s1 := F.sub_tuple_set
    have s2 := F.sub_tuple_frozenset
    have ne : (Value.type "tuple" == Value.type "dict") = false := by decide
    have isl : (s.heap.push (TX.setObj w)).IsTuple l items := ⟨_, hl1, rfl, on, rfl⟩
    unfold Builtin.«set.__init__» noKeywords Builtin.Frozenset.updateFrom
    generalize hPI : pyIter = PI
    wp_walk
    subst hPI
    refine wpAny_pyIter_tuple isl (wpAny_bind (wpAny_runValue ?_))
    rw [show ({ s with heap := s.heap.push (TX.setObj w) } : Shared).heap.objs.size = s.heap.objs.size + 1 from zs]
    refine codeAny_mono (begun (E := E) ie hk few (by simp only [Around.in1_units]; omega) lts (it := { cls := .type "tuple_iterator", data := .fields #[.ref l, .int 0 0] }) (Walks.tuple (by simp [hh]) (s.heap.objs.size + 1) l (Nat.ne_of_lt (Nat.lt_succ_of_lt lts)) items) ⟨⟨_, (by rw [← zs]; exact Heap.get?_push_size _ rfl), rfl, rfl⟩, isl.push _⟩) fun r u hr => ?_
    rcases r with e0 | f0
    · exact hr
    rcases f0 with _ | v0 | _ | _
    all_goals try exact hr.elim
    obtain ⟨rfl, ht⟩ := hr
    exact wpAny_pure (wpAny_pure ⟨rfl, ht⟩)
set_option maxHeartbeats 4000000 in
theorem made {l : Addr} {items : Array Value} {ks : List (Addr × List Key)} {Q : Value → Shared → Prop} (hh : A.handled = none) (hu : A.units + 8 < cLine) (hl : s.heap.IsList l items ∨ s.heap.IsTuple l items) (ie : items.toList = ks.map fun p => Value.ref p.1) (hk : ∀ p ∈ ks, IsK P w s.heap p.2 p.1) (few : ks.length ≤ 299)
    (hQ : ∀ h1 tk L, SetF P w h1 s.heap.objs.size L → Hold ks ks.length L → (∀ b o, s.heap.get? b = some o → h1.get? b = some o) → Q (.ref s.heap.objs.size) { s with heap := h1, toks := tk }) :
    wpAny (model P w) A (call (.type "set") [.ref l]) Q E s := by
  have iz : items.size = ks.length := by rw [← Array.length_toList, ie]; exact List.length_map _
  have ⟨mc, mt, hmro⟩ := F.called_set.mro
  have made' := F.called_set.made
  have sub' := F.called_set.sub
  refine wpAny_call (codeAny_of_tree ?_)
  show wpAny _ _ (callAny (.type "set") _) _ _ _
  refine wpAny_pure ⟨Code.quiet_builtin _ (by decide +kernel), codeAny_builtin F.entry_type_call ?_⟩
  rw [Around.under_plain (weight_type_call_type "set" [.ref l] []) rfl]
  have nt := F.called_set.notType
  have cc := F.called_set.canCreate
  have tc := F.typeCall_set_1 (.ref l)
  repeat (any_goals (first | assumption | wp_step))
  refine codeAny_mono (code_set_led1 (.ref l) (E := E) (Q₁ := fun v u => v = .ref s.heap.objs.size ∧ u = { s with heap := s.heap.push (TX.setObj w) }) ⟨rfl, rfl⟩) fun r0 s0 h0 => ?_
  rcases r0 with e0 | f0
  · exact h0
  rcases f0 with _ | v0 | _ | _
  all_goals try exact h0.elim
  obtain ⟨rfl, rfl⟩ := h0
  have hS : (s.heap.push (TX.setObj w)).get? s.heap.objs.size = some (TX.setObj w) := Heap.get?_push_size _ rfl
  have tS : Shared.TypeIs { s with heap := s.heap.push (TX.setObj w) } (.ref s.heap.objs.size) "set" := ⟨_, hS, rfl⟩
  have il := F.called_set.init.lookup
  have ib := F.called_set.init.bind (.ref s.heap.objs.size)
  repeat (any_goals (first | assumption | wp_step))
  refine codeAny_mono (inited (A := A.in1) (E := E) hh (by simp only [Around.in1_units]; omega) hl ie hk few) fun r u hr => ?_
  rcases r with e0 | f0
  · exact hr
  rcases f0 with _ | v0 | _ | _
  all_goals try exact hr.elim
  obtain ⟨rfl, h1, tk, L, rfl, r, g, kp⟩ := hr
  repeat (any_goals (first | assumption | wp_step))
  exact hQ _ _ _ r g kp
end
end TZ
namespace PM
open PySem PySem.Spec PyProof.Rows L2 LB
/-! ### len(set(xs)), sorted(set(xs)), xs a list or tuple of texts -/
section
variable {X : Cx} {K : PySem.W.Frag} {w : World}
theorem strs_vals : ∀ {ys : List Str} {us : List Value}, Vals (ys.map V.str) us → StrsAre us ys
  | [], _, .nil => .nil
  | y :: ys, _, .cons ⟨k, e⟩ t => e ▸ .cons y k (strs_vals t)
end
section
variable {T : Tb} {K : PySem.W.Frag} {w : World}
def txD : List PyData → Option (List Str)
  | [] => some []
  | .str x :: l => (txD l).map (x :: ·)
  | _ :: _ => none
theorem txD_strs : ∀ l : List Str, txD (l.map .str) = some l
  | [] => rfl
  | x :: l => by
    show (txD (l.map .str)).map _ = _
    rw [txD_strs l]
    rfl
theorem txD_is : ∀ {ds : List PyData} {l : List Str}, txD ds = some l → ds = l.map .str
  | [], l, h => by
    cases h
    rfl
  | d :: ds, l, h => by
    unfold txD at h
    split at h
    · rename_i e
      cases e
    · rename_i x l0 e
      injection e with e1 e2
      subst e1 e2
      obtain ⟨r, er, rfl⟩ := map_eq h
      rw [txD_is er]
      rfl
    · cases h
theorem tx_rp {M : Hp} : ∀ {l : List Str} {xs : List V}, RpAll K M xs (l.map .str) → xs = l.map V.str
  | [], _, r => by
    cases r
    rfl
  | x :: l, _, r => by
    cases r with
    | cons r1 r2 =>
      cases r1
      rw [tx_rp r2]
      rfl
variable {X : Cx} {e : Expr} {a : MA}
end
end PM
namespace PM
open PySem PySem.Spec PyProof.Rows L2 LB
/-! ### xs.extend(ys), ys a list -/
variable {T : Tb} {K : PySem.W.Frag} {X : Cx}
end PM
namespace PM
open PySem PySem.Spec PyProof.Rows L2 LB
variable {T : Tb} {K : PySem.W.Frag} {X : Cx} {e : Expr}
/-! ### list comprehensions with two fors -/
/-- all stands but the new list, which grows -/
structure LeX (D : Addr) (P P' : Pr T) : Prop where
  m : Ex P.M P'.M
  h : ∀ b o, b ≠ D → P.H b = some o → (∀ ps, o ≠ HO.tbl ps) → P'.H b = some o
  f : ∀ a, P.M a = none → P'.M a ≠ none → Opn P.H a
  n : P'.M D = none
theorem Le.x {D : Addr} {P P' : Pr T} (l : Le P P') (n : P'.M D = none) : LeX D P P' := ⟨l.m, fun b o _ e q => l.h b o e q, l.f, n⟩
theorem LeX.trans {D : Addr} {A B C : Pr T} (l1 : LeX D A B) (l2 : LeX D B C) : LeX D A C := by
  refine ⟨l1.m.trans l2.m, fun b o ne e q => l2.h b o ne (l1.h b o ne e q) q, fun a h1 h2 => ?_, l2.n⟩
  by_cases hb : B.M a = none
  · have ne : a ≠ D := fun z => h2 (by rw [z]; exact l2.n)
    have key : ∀ o, A.H a = some o → (∃ ps, o = HO.tbl ps) ∨ B.H a = some o := fun o ho => by
      by_cases t : ∃ ps, o = HO.tbl ps
      · exact .inl t
      · exact .inr (l1.h a o ne ho fun ps z => t ⟨ps, z⟩)
    rcases l2.f a hb h2 with lo | ⟨vs, tv⟩
    · exact .inl fun o ho => (key o ho).elim id fun z => lo o z
    · cases ha : A.H a with
      | none => exact .inl (loose_none ha)
      | some o =>
        rcases key o ha with t | z
        · exact .inl fun o' ho' => by
            rw [ha] at ho'
            cases ho'
            exact t
        · rw [tv] at z
          cases z
          exact .inr ⟨vs, ha⟩
  · exact l1.f a h1 hb
theorem own_noneX {D : Addr} {P P' : Pr T} (l : LeX D P P') {p : Addr} {o : HO} (h : P.M p = none) (e : P.H p = some o) (n : Plain o) (n2 : ∀ vs, o ≠ .tup vs) : P'.M p = none := by
  cases z : P'.M p with
  | none => rfl
  | some u =>
    rcases l.f p h (by rw [z]; exact fun q => nomatch q) with w | ⟨vs, w⟩
    · obtain ⟨ps, w⟩ := w o e
      exact absurd w (n ps)
    · rw [e] at w
      exact absurd (Option.some.inj w) (n2 vs)
/-- from a state on which the new list stands, to one where it has grown -/
theorem St.grow {Pb P P0 Pn : Pr T} {σ : L2.St} {ρ : Ev} {D : Addr} {a0 a1 : List V} (s : St K Pb P σ ρ) (hD : Pb.H D = some (.lst a0)) (hP : P.H D = some (.lst a1)) (hb : ∀ p, p ≠ D → Loose Pb.H p → Loose P0.H p) (l : LeX D P Pn) (le : Le P0 Pn) : St K P0 Pn σ ρ := by
  have ne : ∀ {p : Addr}, Loose Pb.H p → p ≠ D := fun h z => Loose.lst (z ▸ h) hD
  refine ⟨le, s.len, fun i x h => ?_, s.dis, fun i d p h1 h2 => hb p (ne (s.fr i d p h1 h2)) (s.fr i d p h1 h2), s.od.1, fun i ks p h1 h2 => hb p (ne (s.od.2 i ks p h1 h2)) (s.od.2 i ks p h1 h2)⟩
  obtain ⟨o, h1, h2⟩ := s.ok i x h
  refine ⟨o, h1, ?_⟩
  cases h2 with
  | no => exact .no
  | val r => exact .val (r.ext l.m)
  | exn => exact .exn
  | own q =>
    have np := ne (s.fr i _ _ h h1)
    refine .own ?_
    cases q with
    | lst h1 h2 h3 => exact .lst (own_noneX l h1 h2 (fun _ z => nomatch z) fun _ z => nomatch z) (l.h _ _ np h2 fun _ z => nomatch z) (h3.ext l.m)
    | dT h1 h2 h3 => exact .dT (own_noneX l h1 h2 (fun _ z => nomatch z) fun _ z => nomatch z) (l.h _ _ np h2 fun _ z => nomatch z) (h3.mono fun _ _ r => ⟨r.1, r.2.ext l.m⟩)
  | @ods pp _ _ w1 w2 w3 =>
    have np : pp ≠ D := fun z => by
      rw [z, hP] at w2
      cases w2
    exact .ods (own_noneX l w1 w2 (fun _ z => nomatch z) fun _ z => nomatch z) (l.h _ _ np w2 fun _ z => nomatch z) (w3.mono fun _ _ r => ⟨r.1, r.2.ext l.m⟩)
  | @lck pp _ _ _ w1 w2 w3 =>
    have np : pp ≠ D := fun z => by
      rw [z, hP] at w2
      cases w2
    exact .lck (own_noneX l w1 w2 (fun _ z => nomatch z) fun _ z => nomatch z) (l.h _ _ np w2 fun _ z => nomatch z) (w3.mono fun _ _ r => ⟨r.1, r.2.ext l.m⟩)
theorem OwnAt.list {P : Pr T} {p : Addr} {ds : List PyData} (h : OwnAt K P p (.list ds)) : ∃ xs, P.M p = none ∧ P.H p = some (.lst xs) ∧ RpAll K P.M xs ds := by
  cases h with
  | lst h1 h2 h3 => exact ⟨_, h1, h2, h3⟩
end PM
namespace PM
open PySem PySem.Spec PyProof.Rows L2 LB
/-! ### sorted(xs, key=lambda z: z[0]), xs a list of tuples whose first items are texts -/
structure LamF (x : Str) (scope : Scope) : Prop where
  kind : scope.kind = .function
  co : scope.isCoroutine = false
  gen : scope.isGenerator = false
  cell : ∀ y ∈ scope.names, y.2 ≠ .cell
  free : ∀ y ∈ scope.names, y.2 ≠ .free
  loc : scope.names.lookup x = some .local
section
variable {prog : Program} {w : World} {A : Around} {s : Shared} {E : Value → Shared → Prop}
end
section
variable {T : Tb} {K : PySem.W.Frag} {X : Cx} {e : Expr}
end
end PM
namespace PM
open PySem PySem.Spec PyProof.Rows L2 LB
/-! ### xs += ys, xs a list of one's own, ys a new one -/
variable {T : Tb} {K : PySem.W.Frag} {X : Cx}
end PM
namespace PM
open PySem PySem.Spec PyProof.Rows L2 LB
variable {T : Tb} {K : PySem.W.Frag} {X : Cx} {e : Expr}
/-! ### all(.. for .. in .. for .. in ..) -/
end PM
namespace PM
open PySem PySem.Spec PyProof.Rows L2 LB
section
variable {T : Tb} {K : PySem.W.Frag} {X : Cx} {e : Expr} {st : Stmt} {sts : List Stmt} {R : ER}
variable {P0 P P' : Pr T} {p q1 q2 : Addr} {a b : List PyData} {σ : L2.St} {ρ : Ev}
/-! ### a tuple of two new lists is taken apart, and told on -/
theorem Two.up (t : Two K P p q1 q2 a b) (l : Le P P') : Two K P' p q1 q2 a b := by
  obtain ⟨xs, k1, k2⟩ := t.l1
  obtain ⟨ys, k3, k4⟩ := t.l2
  exact ⟨l.h _ _ t.tp (fun _ z => (nomatch z)), t.ne, (own_none l t.m1 k1 (fun _ z => (nomatch z)) fun _ z => (nomatch z)), (own_none l t.m2 k3 (fun _ z => (nomatch z)) fun _ z => (nomatch z)), ⟨xs, l.h _ _ k1 (fun _ z => (nomatch z)), k2.ext l.m⟩, ⟨ys, l.h _ _ k3 (fun _ z => (nomatch z)), k4.ext l.m⟩⟩
theorem Two.o1 (t : Two K P p q1 q2 a b) : OwnAt K P q1 (.list a) := by
  obtain ⟨xs, k1, k2⟩ := t.l1
  exact .lst t.m1 k1 k2
theorem Two.o2 (t : Two K P p q1 q2 a b) : OwnAt K P q2 (.list b) := by
  obtain ⟨xs, k1, k2⟩ := t.l2
  exact .lst t.m2 k1 k2
theorem St.apart (s : St K P0 P σ ρ) {p : Addr} (lo : Loose P.H p) : ∀ (j : Nat) e q, ρ[j]? = some (.own e) → σ[j]? = some (some (.ref q)) → q ≠ p := fun j e' q' h1 h2 z => by
  obtain ⟨u, g1, g2⟩ := s.ok j _ h1
  rw [h2] at g1
  cases g1
  cases g2 with
  | own r' =>
    subst z
    exact r'.tight lo
/-! ### what is held: a loop of tests, any datum put behind -/
theorem Hold.up {i : Nat} (hd : Hold K P0 P σ ρ i p q1 q2 a b) (l : Le P P') : Hold K P0 P' σ ρ i p q1 q2 a b := ⟨hd.s.up l, hd.pl, hd.si, hd.ri, hd.two.up l, hd.l1, hd.l2⟩
end
end PM
namespace PM
open PySem PySem.Spec PyProof.Rows L2 LB
section
variable {T : Tb} {K : PySem.W.Frag} {X : Cx} {e : Expr} {st : Stmt} {R : ER}
/-! ### list(d.values()) -/
end
end PM
namespace PM
open PySem PySem.Spec PyProof.Rows L2 LB
section
variable {T : Tb} {K : PySem.W.Frag} {X : Cx} {e : Expr} {st : Stmt} {R : ER}
/-! ### len(d), d with text keys -/
end
end PM
namespace PM
open PySem PySem.Spec PyProof.Rows L2 LB
/-! ### (..) * n -/
theorem tuple_mul0 (l : Addr) (items : Array Value) (n : Nat) (dd : Option Addr) (sl : Array (Option Value)) (u : Tok) (c1 : (items.isEmpty || (0 : Int) == 1) = false) :
    Meets (Builtin.«tuple.__mul__» ⟨[.ref l, .int 0 u], []⟩) (fun _ R s => s.heap.get? l = some { cls := .type "tuple", dict := dd, data := .seq items n, slots := sl } ∧
      R (.ok (.ret (Value.ref s.heap.objs.size))) { s with heap := s.heap.push { cls := Value.type "tuple", data := Data.seq #[] }, toks := s.toks }) :=
  .of_wp fun prog w A R s h => by
    obtain ⟨hp, g, d, tk, os⟩ := s
    obtain ⟨hl, h⟩ := h
    have f1 := AutoSeq1.idx_int
    wp_walk using wpAny_loadPart' hl
    repeat (first
      | (refine wpAny_ite_false (by decide) ?_; wp_walk using wpAny_loadPart' hl)
      | (refine wpAny_ite_false (decide_eq_false (by rw [c1]; exact Bool.false_ne_true)) ?_; wp_walk using wpAny_loadPart' hl)
      | (refine wpAny_ite_true (by rfl) ?_; wp_walk using wpAny_loadPart' hl)
      | (refine wpAny_ite_true (by decide) ?_; wp_walk using wpAny_loadPart' hl))
    exact ⟨_, rfl, h⟩
theorem tuple_mul1 (l : Addr) (items : Array Value) (n : Nat) (dd : Option Addr) (sl : Array (Option Value)) (u : Tok) :
    Meets (Builtin.«tuple.__mul__» ⟨[.ref l, .int 1 u], []⟩) (fun _ R s => s.heap.get? l = some { cls := .type "tuple", dict := dd, data := .seq items n, slots := sl } ∧ R (.ok (.ret (Value.ref l))) s) :=
  .of_wp fun prog w A R s h => by
    obtain ⟨hp, g, d, tk, os⟩ := s
    obtain ⟨hl, h⟩ := h
    have f1 := AutoSeq1.idx_int
    wp_walk using wpAny_loadPart' hl
    repeat (first
      | (refine wpAny_ite_false (by decide) ?_; wp_walk using wpAny_loadPart' hl)
      | (refine wpAny_ite_true (by simp) ?_; wp_walk using wpAny_loadPart' hl))
    exact ⟨_, rfl, h⟩
section
variable {T : Tb} {K : PySem.W.Frag} {X : Cx} {e : Expr}
def rRepT01 (K : PySem.W.Frag) : R2 := fun x y H Q => ∃ l xs, x = .ref l ∧ SqT K H l xs ∧ xs ≠ [] ∧ ((y = .int 1 ∧ Q (.ref l) H) ∨ (y = .int 0 ∧ ∀ p, H p = none → Q (.ref p) (upd H p (.tup []))))
theorem op_repT01 : OpR X (binaryOp .Mult) (rRepT01 X.K) := by
  intro pins s σ H x y v u Q I rx ry h
  obtain ⟨l, xs, rfl, hT, hne, h⟩ := h
  cases rx
  obtain ⟨its, r, ⟨⟨cls, dd, data, sl⟩, ho, hc, n, hd⟩, hs⟩ := I.tuple hT
  simp only at hc hd
  subst hc hd
  have hle : its.length = xs.length := r.length.symm
  have hn : its ≠ [] := fun e => hne (by
    rw [e] at hle
    exact List.eq_nil_of_length_eq_zero hle.symm)
  have hi : its.toArray.isEmpty = false := by
    cases its with
    | nil => exact absurd rfl hn
    | cons a b => rfl
  rcases h with ⟨rfl, q⟩ | ⟨rfl, q⟩
  · obtain ⟨t, rfl⟩ := ry
    exact wpAny_binaryOp_repeat_ref (T := "tuple") (U := "int") (by decide) ⟨_, ho, rfl⟩ (fun s' => typeIs_int s' 1 t) noFill_tuple_mul F.fills_int_mul F.slot_int_rmul repeat_tuple F.slot_int_index.lookup
      (call_meets F.slot_int_rmul (typeIs_int s 1 t) F.entry_int_rmul (F.args_int_rmul_2 _ _) (int_rmul_tuple 1 t l its.toArray n dd sl)
        ⟨ho, rfl, ⟨_, ho, rfl⟩, call_meets F.slot_tuple_mul ⟨_, ho, rfl⟩ F.entry_tuple_mul (F.args_tuple_mul_2 _ _) (tuple_mul1 l its.toArray n dd sl t) ⟨ho, .ref l, H, I, rfl, q⟩⟩)
  · obtain ⟨t, rfl⟩ := ry
    refine wpAny_binaryOp_repeat_ref (T := "tuple") (U := "int") (by decide) ⟨_, ho, rfl⟩ (fun s' => typeIs_int s' 0 t) noFill_tuple_mul F.fills_int_mul F.slot_int_rmul repeat_tuple F.slot_int_index.lookup
      (call_meets F.slot_int_rmul (typeIs_int s 0 t) F.entry_int_rmul (F.args_int_rmul_2 _ _) (int_rmul_tuple 0 t l its.toArray n dd sl)
        ⟨ho, rfl, ⟨_, ho, rfl⟩, call_meets F.slot_tuple_mul ⟨_, ho, rfl⟩ F.entry_tuple_mul (F.args_tuple_mul_2 _ _) (tuple_mul0 l its.toArray n dd sl t (by rw [hi]; rfl)) ⟨ho, ?_⟩⟩)
    exact ⟨.ref s.heap.objs.size, _, I.laid (t' := s.toks) (o := .tup []) (fun b ob q => Heap.get?_push_of_some _ q) (Nat.le_refl _) ⟨Nat.zero_le _, [], .nil, IsTup.new _ _⟩, rfl, q _ (I.hok.fresh (Nat.le_refl _))⟩
def uRepT (K : PySem.W.Frag) : R2 := fun x y H Q => rRepT K x y H Q ∨ rRepT01 K x y H Q
theorem op_uRepT (hK : X.K = K := by rfl) : OpR X (binaryOp .Mult) (uRepT K) := by
  subst hK
  exact opR_or op_repT op_repT01
def oRepT : PyData → PyData → Option PyData
  | .tuple (x :: xs), .int n => if n = 0 then some (.tuple []) else if n = 1 then some (.tuple (x :: xs)) else if 2 ≤ n ∧ n ≤ 1000 ∧ (x :: xs).length ≤ 1000 then some (.tuple (List.replicate n.toNat (x :: xs)).flatten) else none
  | _, _ => none
theorem od_repT : OpD K T (uRepT K) oRepT := by
  intro P x y a b d ra rb h Q q
  unfold oRepT at h
  split at h
  · rename_i z zs n
    have e := rb.int
    subst e
    obtain ⟨l, vs, rfl, hM, hs, r⟩ := ra.tuple
    have hne : vs ≠ [] := fun e => by
      rw [e] at r
      cases r
    split at h
    · rename_i h0
      subst h0
      cases h
      exact .inr ⟨l, vs, rfl, hs, hne, .inr ⟨rfl, fun p hp => q _ (P.put p (.tup []) hp) (le_put P hp) (.tup upd_same .nil)⟩⟩
    · split at h
      · rename_i h1
        subst h1
        cases h
        exact .inr ⟨l, vs, rfl, hs, hne, .inl ⟨rfl, q _ P (Le.refl P) (.tup hM r)⟩⟩
      · split at h
        · rename_i hh
          cases h
          refine .inl ⟨l, n, vs, rfl, rfl, hs, hne, hh.1, hh.2.1, by rw [r.length]; exact hh.2.2, fun p hp => ?_⟩
          exact q _ (P.put p (.tup (List.replicate n.toNat vs).flatten) hp) (le_put P hp) (.tup upd_same (rpAll_rep (r.ext (le_put P hp).m) _))
        · cases h
  · cases h
end
end PM
namespace PM
open PySem PySem.Spec PyProof.Rows L2 LB
/-! ### a table of the module, texts to defs: z in TABLE; f = TABLE[z]; return f(..) -/
structure TabF (K : PySem.W.Frag) (n : Str) (kvs : List (Str × Str)) : Prop where
  each : ∀ q ∈ kvs, PySem.W.nsIn K (He.ga K n) q.1 = some (some (.ref (He.ga K q.2)))
/-- the table n: where it stands, its keys, its defs -/
structure TabK (K : PySem.W.Frag) (w : World) (n : Str) (kvs : List (Str × Str)) : Prop where
  kd : ∃ es m, KDict K w (He.ga K n) es m
  yes : ∀ q ∈ kvs, PySem.W.nsIn K (He.ga K n) q.1 = some (some (.ref (He.ga K q.2)))
  no : ∀ z, z ∉ kvs.map (·.1) → PySem.W.nsIn K (He.ga K n) z = some none
section
variable {T : Tb} {K : PySem.W.Frag} {X : Cx} {e : Expr} {st : Stmt} {sts : List Stmt} {R : ER}
/-- the call of what the i-th slot holds -/
def tCallS (i : Nat) (S : Addr → Sp → Prop) (E : XK) (t : TA) : TE := fun σ H Q => ∃ f sp, σ[i]? = some (some (.ref f)) ∧ S f sp ∧ t σ H fun vs H1 => sp vs H1 Q E
/-- of several defs that a slot may hold -/
def SOk (P : Program) (w : World) (K : PySem.W.Frag) (mg : Str → Option Value) (base : Heap) (j : Nat) (S : Addr → Sp → Prop) : Prop := ∀ f sp, S f sp → ∃ k x ps, k ≤ j ∧ OwnFn P w K mg base k x ps sp ∧ mg x = some (.ref f)
theorem SOk.nil {P : Program} {w : World} {mg : Str → Option Value} {base : Heap} {j : Nat} : SOk P w K mg base j fun _ _ => False := fun _ _ h => h.elim
theorem SOk.cons {P : Program} {w : World} {mg : Str → Option Value} {base : Heap} {j k : Nat} {x : Str} {ps : List Str} {f : List PyData → Option PyData} {S : Addr → Sp → Prop} (F : OwnFn P w K mg base k x ps (spM K T f)) (hm : mg x = some (.ref (He.ga K x))) (t : SOk P w K mg base j S) (hk : k ≤ j := by decide) :
    SOk P w K mg base j fun g sp => (g = He.ga K x ∧ sp = spM K T f) ∨ S g sp := fun g sp h => by
  rcases h with ⟨rfl, rfl⟩ | h
  · exact ⟨k, x, ps, hk, F, hm⟩
  · exact t g sp h
theorem pe_callS {i j : Nat} {x : Str} {p pos : Pos} {e : Expr} {es : List Expr} {t : TA} {E : XK} {S : Addr → Sp → Prop} (A : SOk X.prog X.w X.K X.mg X.base j S) (hr : Room j X.A) (hN : X.N[i]? = some x) (hv : Vis X.env.scope x) (hx : Passes (L2.CX X.prog X.w) X E) (ha : PA X (e :: es) t)
    (hdb : (x == ("__debug__" : Str)) = false := by decide) (hcd : (x == ("__classdict__" : Str)) = false := by decide)
    (he : starEach (e :: es) X.env = (false, eval e X.env) :: starEach es X.env := by rfl) (hpl : (backTo pos (starEach es X.env)).any (·.1) = false := by rfl) : PE X (.Call (.Name x p) (e :: es) [] pos) (tCallS i S E t) := by
  refine ⟨fun pins s σ H Q I h => ?_⟩
  obtain ⟨f, sp, hs, hS, ht⟩ := h
  obtain ⟨k, y, ps, hk, F, hm⟩ := A f sp hS
  obtain ⟨f', fd, G, hm', kp, hb, _⟩ := F.fn
  have e1 := hm.symm.trans hm'
  cases e1
  refine (pe_callL (i := i) (f := f) (sp := sp) (dvs := []) (E := E) G (hr.mono hk) hN hv kp hb .nil hx ha hdb hcd he hpl).run pins s σ H Q I ⟨hs, ?_⟩
  have e0 : (fun (vs : List V) (H1 : Hp) => sp (vs ++ []) H1 Q E) = fun vs H1 => sp vs H1 Q E := by
    funext vs H1
    rw [List.append_nil]
  show t σ H (fun vs H1 => sp (vs ++ []) H1 Q E)
  rw [e0]
  exact ht
/-- the table's defs and what they give -/
inductive FsOk (K : PySem.W.Frag) (T : Tb) (kvs : List (Str × Str)) : List (Str × (List PyData → Option PyData)) → (Addr → Sp → Prop) → Prop
  | nil : FsOk K T kvs [] fun _ _ => False
  | cons {z x : Str} {f : List PyData → Option PyData} {fs : List (Str × (List PyData → Option PyData))} {S : Addr → Sp → Prop} : (z, x) ∈ kvs → FsOk K T kvs fs S → FsOk K T kvs ((z, f) :: fs) fun g sp => (g = He.ga K x ∧ sp = spM K T f) ∨ S g sp
theorem FsOk.at {kvs : List (Str × Str)} {fs : List (Str × (List PyData → Option PyData))} {S : Addr → Sp → Prop} (h : FsOk K T kvs fs S) {z : Str} {f : List PyData → Option PyData} (e : fs.lookup z = some f) : ∃ x, (z, x) ∈ kvs ∧ S (He.ga K x) (spM K T f) := by
  induction h with
  | nil => cases e
  | @cons z' x f' fs S hz t ih =>
    rw [List.lookup_cons] at e
    by_cases c : z = z'
    · subst c
      rw [show (z == z) = true from beq_self_eq_true z] at e
      cases e
      exact ⟨x, hz, .inl ⟨rfl, rfl⟩⟩
    · rw [show (z == z') = false from beq_eq_false_iff_ne.mpr c] at e
      obtain ⟨y, h1, h2⟩ := ih e
      exact ⟨y, h1, .inr h2⟩
end
end PM
namespace PM
open PySem PySem.Spec PyProof.Rows L2 LB PySem.W
/-! ### len(set(xs)), sorted(set(xs)), xs a list or tuple of tuples of whole numbers and texts -/
structure TzG (P : Program) (w : World) (h : Heap) (a : Addr) (L : List (Addr × List Key)) : Prop where
  ex : ∃ (es : Array (Int × Value)) (ep : Nat) (t : SetTable), (∃ o, h.get? a = some o ∧ o.ExactSet ∧ o.data = .set es ep t) ∧ es.toList = TZ.rws P w L ∧ TZ.Tab t (L.map fun p => TZ.hK P w p.2) ∧ (w.params.followText "set-order" = true ∨ t.led = true) ∧ L.length * 5 < t.mask * 3
  nd : (L.map (·.2)).Nodup
  few : L.length ≤ 300
section
variable {X : Cx} {K : PySem.W.Frag} {P : Program} {w : World}
end
/-! ### what the calls give, said of the data -/
section
variable {T : Tb} {K : PySem.W.Frag} {P : Program} {w : World}
variable {X : Cx} {e : Expr} {a : MA}
end
end PM
namespace PM
open PySem PySem.Spec PyProof.Rows L2 LB
/-! ### x[::-1], x a text too -/
section
variable {X : Cx}
end
section
variable {T : Tb} {K : PySem.W.Frag} {X : Cx} {e : Expr}
end
end PM
namespace GX
open PySem PySem.Spec PyProof.Rows L2 GenW
open Builtin Builtin.Str
section
variable {P : Program} {w : World} {outer : List Env} {H : Hp} {sc s : Shared} {ex : List Addr} {Q : List V → Hp → Prop} {EX : XK} {A : Around} {k : Nat} {u : Value} {E : Value → Shared → Prop} {x : Str} {t : Tok}
/-- x.join(g), g a generator -/
theorem call_joinG {Q' : Value → Shared → Prop} (hx : ∀ cls d H, ¬ EX cls d H) (hr : Room (k + 4) A) (hfr : A.frames = some outer) (h : GMade P w k outer H sc ex Q EX u s)
    (hQ : ∀ (s' : Shared) (acc : Array Value) (H' : Hp) (ys : List V), Vals ys acc.toList → ys.length ≤ sizeLine → s'.os = sc.os → AllBare s'.gens → Un (frs outer) ex H H' sc.heap s'.heap → HOk P w H' s'.heap → Q ys H' → ∃ zs : List Str, StrsAre acc.toList zs ∧ (zs.map (·.length)).sum + zs.length * x.length ≤ 16777216 ∧ ∀ t' k, Q' (.str (Txt.join x zs) t') { s' with toks := k }) :
    wpAny (model P w) A (call (.builtin "str.join") [.str x t, u]) Q' E s := by
  have hh := h
  obtain ⟨a, g, c, rfl, ha1, ha2, hg, hgs, hos, hb, hl, hkp, wake⟩ := h
  have hTI : s.TypeIs (.ref a) "generator" := Heap.IsGen.typeIs hg
  have hr1 : Room (k + 2) A.in1 := ⟨hr.hd, by have := hr.dp; show A.depth + 3 * (k + 2) + 5 < _; omega, by have := hr.un; show A.units + 1 + 16 * (k + 2) + 200 < _; omega⟩
  refine wpAny_call (codeAny_call_builtin F.slot_str_join.plain F.entry_str_join (F.slot_str_join.check _ _ _ _ _ _ _ _ (typeIs_str _ _ _) (F.args_str_join_2 _ _) ?_))
  rw [join_tree_other]
  refine wpAny_bind (wpAny_typeOf hTI ?_)
  show wpAny _ A.in1 ((pyIter (.ref a)).tryCatch _ >>= fun it => collect it >>= fun items => joinTail x items) _ _ s
  refine wpAny_bind (wpAny_tryCatch (wpAny_pyIter_gen hg ?_))
  refine wpAny_bind (collectG (A := A.in1) hx hr1 hfr hh fun s' acc H' ys q1 q2 q3 q4 q5 q6 q7 => ?_)
  obtain ⟨zs, hz, fit, post⟩ := hQ s' acc H' ys q1 q2 q3 q4 q5 q6 q7
  obtain ⟨l, hv, rfl⟩ := strsAre_values hz
  rw [hv]
  have hok := joinOk_of fit
  unfold JoinOk at hok
  rw [Bool.not_eq_true'] at hok
  have g : Gives (joinTail x (strValues l)) (joinMade x l) := by
    have g0 := gives_joinTail x l hok
    cases l with
    | nil => exact g0
    | cons p r => cases r with
      | nil => exact g0
      | cons q r' => exact g0
  exact g P w A (wants Q' E) s' (post_join l ⟨joinFit_length hok, post⟩)
end
section
variable {X : Cx}
def tJoinG (to : TE) (tg : TGen) : TE := fun σ H Q => to σ H fun y H1 => ∃ x, y = .str x ∧ tg σ H1 fun out H2 => ∃ zs : List Str, out = zs.map V.str ∧ (zs.map (·.length)).sum + zs.length * x.length ≤ 16777216 ∧ Q (.str (Txt.join x zs)) H2
theorem pe_joinG {k : Nat} {o e : Expr} {to : TE} {tg : TGen} {apos pos : Pos} (ho : PE X o to) (h : PGen X k e tg (fun _ _ _ => False)) (hr : Room (k + 4) X.A) (hs : starEach [e] X.env = [(false, eval e X.env)] := by rfl) (hbase : attributeBase o "join" X.env (eval o X.env) = eval o X.env := by rfl) (hline : (apos.endLine == pos.line) = true := by rfl) :
    PE X (.Call (.Attribute o "join" apos) [e] [] pos) (tJoinG to tg) := by
  refine ⟨fun pins s σ H Q I hq => ?_⟩
  refine PySem.Call_method1 hbase hs hline (thn (ho.run pins s σ H _ I hq) fun v s1 ⟨y, H1, I1, r1, q1⟩ => ?_)
  obtain ⟨x, rfl, q1⟩ := q1
  obtain ⟨t, rfl⟩ := _root_.id r1
  refine ⟨"str", _, F.plainAttrs_str, F.slot_str_join, F.type_str_join, typeIs_str _ _ _, (fun _ e => nomatch e), Calls.callWith_builtin rfl (Calls.evalArgs_plain (Calls.spliced_cons ?_))⟩
  refine thn (h.run pins s1 σ H1 _ I1 q1) fun u s2 ⟨H2, sc, ex, I2, hex, hG⟩ => Calls.spliced_nil ?_
  refine call_joinG (fun _ _ _ z => z) hr I2.ok.frames hG fun s' acc H' ys q1 q2 q3 q4 q5 q6 q7 => ?_
  obtain ⟨zs, rfl, fit, q8⟩ := q7
  have I3 : Inv X pins σ H' s' := I2.call' (ch := ex) q3 q5 q6 q4 hex
  exact ⟨zs, PM.strs_vals q1, fit, fun t' k => ⟨.str _, H', I3.tok _, ⟨_, rfl⟩, q8⟩⟩
end
end GX
namespace PM
open PySem PySem.Spec PyProof.Rows L2 LB
section
variable {T : Tb} {K : PySem.W.Frag} {X : Cx} {e : Expr}
/-! ### sep.join(texts) -/
def oJoin (x y : PyData) : Option PyData := match x with
  | .str sep => (itemsD y).bind fun ds => (txD ds).bind fun zs => if (zs.map (·.length)).sum + zs.length * sep.length ≤ 16777216 then some (.str (Txt.join sep zs)) else none
  | _ => none
theorem c_join {a b : ME} (h : PE X e (tM1 (fun x xs H Q => ∃ a p, ∃ ys : List Str, x = .str a ∧ xs = [.ref p] ∧ (SqL K H p (ys.map V.str) ∨ SqT K H p (ys.map V.str)) ∧
      (ys.map (·.length)).sum + ys.length * a.length ≤ 16777216 ∧ Q (.str (Txt.join a ys)) H) (tD K T a) (tW K T b))) : PE X e (tD K T (mOp oJoin a b)) := pe_to h fun σ H Q ⟨P0, P, ρ, d, h1, s, h2, q⟩ => by
  subst h1
  obtain ⟨x, ex, h3⟩ := bind_eq h2
  obtain ⟨y, ey, h4⟩ := bind_eq h3
  clear h2 h3
  unfold oJoin at h4
  split at h4
  · rename_i sep
    obtain ⟨ds, ed, h4⟩ := bind_eq h4
    obtain ⟨zs, ez, h4⟩ := bind_eq h4
    split at h4
    · rename_i fit
      cases h4
      have eds := txD_is ez
      subst eds
      refine ⟨P0, P, ρ, _, rfl, s, ex, fun v P1 l1 r1 => ?_⟩
      cases r1
      refine ⟨⟨_, rfl⟩, P0, P1, ρ, y, rfl, s.up l1, ey, fun u P2 l2 r2 => ?_⟩
      unfold itemsD at ed
      split at ed
      · cases ed
        obtain ⟨p, xs, rfl, hs, ra⟩ := r2.list
        rw [tx_rp ra] at hs
        exact ⟨sep, p, zs, rfl, rfl, .inl hs, fit, q _ P2 (l1.trans l2) (.str _)⟩
      · cases ed
        obtain ⟨p, xs, rfl, _, hs, ra⟩ := r2.tuple
        rw [tx_rp ra] at hs
        exact ⟨sep, p, zs, rfl, rfl, .inr hs, fit, q _ P2 (l1.trans l2) (.str _)⟩
      · cases ed
    · cases h4
  · cases h4
def mJg (a : ME) (mi : MA) (vs : List Nat) (gm : MG) (mt : MT) (me : ME) : ME := mOp oJoin a (mTg mi vs gm mt me)
theorem c_jg {a : ME} {mi : MA} {vs : List Nat} {gm : MG} {mt : MT} {me : ME} (h : PE X e (GX.tJoinG (tD K T a) (GX.tGx T (tIh K T mi) (tG K T vs gm) (tQ K T mt) (tD K T me) vs))) : PE X e (tD K T (mJg a mi vs gm mt me)) := pe_to h fun σ H Q ⟨P0, P, ρ, d, h1, s, h2, q⟩ => by
  subst h1
  obtain ⟨x, ex, h3⟩ := bind_eq h2
  obtain ⟨y, ey, h5⟩ := bind_eq h3
  clear h2 h3
  obtain ⟨ds0, e0, h3⟩ := bind_eq ey
  obtain ⟨ds, e1, h4⟩ := bind_eq h3
  obtain ⟨tot, et, rfl⟩ := map_eq h4
  obtain ⟨rfl, hl⟩ := oFew_eq e1
  unfold oJoin at h5
  split at h5
  · rename_i sep
    obtain ⟨es, ed, h5⟩ := bind_eq h5
    cases ed
    obtain ⟨zs, ez, h5⟩ := bind_eq h5
    split at h5
    · rename_i fit
      cases h5
      refine ⟨P0, P, ρ, _, rfl, s, ex, fun v P0' l0 r0 => ?_⟩
      cases r0
      refine ⟨sep, rfl, P0, P0', ρ, ds, rfl, s.up l0, e0, fun J P1 l1' wk => ⟨P1.tab, fun H2 hx ht => ?_⟩⟩
      have s := s.up l0
      have l1 := l0.trans l1'
      obtain ⟨P2, rfl, l2⟩ := ext_pr P1 hx ht
      refine ⟨fun i m ys H' => m = ds.length - i ∧ i ≤ ds.length ∧ ∃ (Pc : Pr T) (out rest : List PyData), Pc.H = H' ∧ Le P2 Pc ∧ RpAll K Pc.M ys out ∧ lcGo gm mt me (wipeM ρ vs) (ds.drop i) = some rest ∧ out ++ rest = tot ∧ out.length ≤ i, ⟨ds.length, by simp, Nat.zero_le _, P2, [], tot, rfl, Le.refl _, .nil, by simpa using et, rfl, Nat.le_refl _⟩, ?_⟩
      rintro i m ys H' ⟨rfl, hi, Pc, out, rest, rfl, lc, ra, eg, eo, el⟩
      have l12 := l2.trans lc
      by_cases hlt : i < ds.length
      · refine .inr ⟨wk.go i Pc hlt l12, fun x H'' y => ?_⟩
        obtain ⟨P3, rfl, l3, dd, hdd, rx⟩ := wk.yld i Pc x H'' hlt l12 y
        rw [drop_some hdd] at eg
        obtain ⟨ρ1, eρ, eg⟩ := bind_eq eg
        obtain ⟨b, eb, eg⟩ := bind_eq eg
        refine ⟨P0, P3, wipeM ρ vs, dd, ρ1, rfl, (st_wipe s vs).up (l1'.trans (l12.trans l3)), rx, eρ, fun σ2 s2 hl2 hf2 => ⟨wipe_frame hl2 hf2, P0, P3, ρ1, b, rfl, s2, eb, fun P4 l4 => ?_⟩⟩
        cases b with
        | false => exact iteF ⟨_, by omega, rfl, hlt, P4, out, rest, rfl, lc.trans (l3.trans l4), ra.ext (l3.trans l4).m, by simpa using eg, eo, by omega⟩
        | true =>
          rw [if_pos rfl] at eg
          obtain ⟨z, ez', eg⟩ := bind_eq eg
          obtain ⟨rest', er, rfl⟩ := map_eq eg
          refine iteT ⟨P0, P4, ρ1, z, rfl, s2.up l4, ez', fun yv P5 l5 r5 => ?_⟩
          have := ra.length
          exact ⟨szl' (by omega) hl, _, Nat.sub_lt_sub_left hlt (Nat.lt_succ_self i), rfl, hlt, P5, out ++ [z], rest', rfl, lc.trans (l3.trans (l4.trans l5)), RpAll.append (ra.ext (l3.trans (l4.trans l5)).m) (.cons r5 .nil), er, by rw [← eo]; simp, by rw [List.length_append]; show _ + 1 ≤ _; omega⟩
      · have ei : i = ds.length := by omega
        subst ei
        rw [List.drop_length] at eg
        cases eg
        rw [List.append_nil] at eo
        subst eo
        have eds := txD_is ez
        subst eds
        exact .inl ⟨wk.stop Pc l12, zs, tx_rp ra, fit, q _ Pc (l1.trans l12) (.str _)⟩
    · cases h5
  · cases h5
/-! ### list(text) -/
theorem call_listS (hh : X.calm = true) : CallR X (.type "list") (fun xs H Q => ∃ z : Str, xs = [.str z] ∧ z.length ≤ 10000 ∧ ∀ l, H l = none → Q (.ref l) (upd H l (.lst (z.cps.toList.map fun c => V.str ⟨#[c]⟩)))) := by
  intro pins s σ H xs us Q I r h
  obtain ⟨z, rfl, hz, q⟩ := h
  obtain ⟨u, rfl, t, rfl⟩ := vals1 r
  have hsz : z.cps.size ≤ sizeLine := Nat.le_trans hz (by decide)
  refine call_list_str (I.ok.hd hh) z t (fun h' tk acc c kp hS ha => ?_) hsz
  have hv : Vals (z.cps.toList.map fun c => V.str ⟨#[c]⟩) acc.toList := by
    refine vals_signs _ _ (by rw [Array.length_toList, ha.1, Array.length_toList]) fun j v hv => ?_
    obtain ⟨c, u, hc, e⟩ := ha.2 j v (by rw [← Array.getElem?_toList]; exact hv)
    exact ⟨c, u, by rw [Array.getElem?_toList]; exact hc, e⟩
  have I2 : Inv X pins σ (upd H s.heap.objs.size (.lst (z.cps.toList.map fun c => V.str ⟨#[c]⟩))) { s with heap := h', toks := tk } :=
    I.laid (t' := tk) kp (Nat.le_refl _) (show ObjOk X.prog X.w _ _ _ (.lst _) from ⟨by rw [List.length_map]; exact hsz, acc.toList, c, hv, by simpa using hS⟩)
  exact ⟨.ref s.heap.objs.size, _, I2, rfl, q _ (I.hok.fresh (Nat.le_refl _))⟩
def oListS : List PyData → Option PyData
  | [.str z] => if z.length ≤ 10000 then some (.list (signsD z)) else none
  | _ => none
theorem cb_listS : CbF K T (fun xs H Q => ∃ z : Str, xs = [.str z] ∧ z.length ≤ 10000 ∧ ∀ l, H l = none → Q (.ref l) (upd H l (.lst (z.cps.toList.map fun c => V.str ⟨#[c]⟩)))) oListS := by
  intro P vs ds d ra h Q q
  unfold oListS at h
  split at h
  · split at h
    · rename_i z hh
      cases h
      cases ra with
      | cons r1 r2 =>
        cases r2
        obtain rfl := r1.str
        exact ⟨z, rfl, hh, fun l hl => q _ (P.hid l (.lst _) hl) (le_hid P hl) (.lst (P.none hl) upd_same (rp_signs _)) (loose_none hl)⟩
    · cases h
  · cases h
theorem mListS_is {a : MA} (ρ : Ev) (d : PyData) (h : mCb oListS a ρ = some d) : isLst d = true := by
  obtain ⟨x, _, h⟩ := bind_eq h
  unfold oListS at h
  split at h
  · split at h
    · cases h
      rfl
    · cases h
  · cases h
end
end PM
namespace EN
open PySem PySem.Spec PyProof.Rows L2 LB ZM
/-! ### enumerate of a text -/
def ItEZ (z : Str) : It :=
  ⟨fun i _ => i < z.cps.size, fun i H v H' => ∃ T c, v = .ref T ∧ H T = none ∧ H' = upd H T (.tup [.int (i : Nat), .str ⟨#[c]⟩]) ∧ z.cps[i]? = some c, fun i _ => z.cps.size = i⟩
theorem drawsZ {prog : Program} {w : World} {A : Around} (hh : A.handled = none) (it : Addr) (x : Str) (t : Tok) : Draws prog w A it [it] x.cps.size (fun i v => ∃ c u, x.cps[i]? = some c ∧ v = .str ⟨#[c]⟩ u) (fun i h => h.IsStrIter it (strIterType x) x t i) := by
  unfold strIterType
  cases x.cps.all (· < 128)
  · exact Draws.strWide hh it x t
  · exact Draws.strAscii hh it x t
theorem turnZ {P : Program} {w : World} {K : PySem.W.Frag} {elts : List Expr} {kk : Nat} {tpos : Pos} (z : Str) (t : Tok) (e it : Addr) (hne : e ≠ it) :
    Turn P w K (.Tuple elts kk tpos) (ItEZ z) [e, it] e (fun i h => (∃ old, IsEnum h e it ((i : Nat) : Int) old) ∧ h.IsStrIter it (strIterType z) z t i) where
  mem := by simp
  obj := fun i h st b hb => by
    obtain ⟨⟨old, he⟩, o, ho, hc, hd⟩ := st
    simp only [List.mem_cons, List.not_mem_nil, or_false] at hb
    rcases hb with rfl | rfl
    · exact ⟨_, he, fun v q => nomatch q⟩
    · exact ⟨o, ho, fun v q => by
        rw [hd] at q
        cases q⟩
  keep := fun i h h' st k => let ⟨⟨old, he⟩, o, ho, r⟩ := st; ⟨⟨old, k e (by simp) _ he⟩, o, k it (by simp) o ho, r⟩
  item := by
    intro X hP hw hK hc i pins s σ H E I hf st hg
    subst hP hw hK
    obtain ⟨⟨old, he⟩, hit⟩ := st
    have hi : i < z.cps.size := hg
    have hh := I.ok.hd hc
    have hel : e < s.heap.objs.size := Heap.lt_size he
    have hil : it < s.heap.objs.size := by
      obtain ⟨o, q, _⟩ := hit
      exact Heap.lt_size q
    have hef : e ∉ [it] := by
      simp only [List.mem_cons, List.not_mem_nil, or_false]
      exact hne
    refine wpAny_pyNext_enum_itemD (drawsZ (A := X.A.in1) hh it z t) he hit hi hne hef fun x2 h' tk hP ho hst' hT hsz hk => ?_
    obtain ⟨c, u, hcc, rfl⟩ := hP
    refine ⟨_, rfl, wpAny_letOwnedTupleGo_enum (s := { s with heap := h', toks := tk + 1 }) ho fun h'' he' sb => ?_⟩
    have hT2 := (sb.2 s.heap.objs.size (Nat.ne_of_gt hel)).trans hT
    have new : ObjOk X.prog X.w (upd H s.heap.objs.size (.tup [.int (i : Nat), .str ⟨#[c]⟩])) h'' s.heap.objs.size (.tup [.int (i : Nat), .str ⟨#[c]⟩]) :=
      ⟨by show 2 ≤ sizeLine; decide, [.int i tk, .str ⟨#[c]⟩ u], .cons ⟨_, rfl⟩ (.cons ⟨_, rfl⟩ .nil), ⟨_, hT2, rfl, _, rfl⟩⟩
    have I1 : Inv X pins σ (upd H s.heap.objs.size (.tup [.int (i : Nat), .str ⟨#[c]⟩])) { s with heap := h'', toks := tk + 1 } :=
      I.turnedNew (ch := [e, it]) (fun b ob hb q => (sb.2 b (fun z => hb (by simp [z]))).trans (hk b ob (fun z => hb (by simp [z])) (fun z => hb (by simp [z])) q)) hf (Nat.le_refl _) new
    refine ⟨.ref s.heap.objs.size, _, I1, rfl, ⟨_, c, rfl, I.hok.fresh (Nat.le_refl _), rfl, hcc⟩, ⟨⟨.str ⟨#[c]⟩ u, ?_⟩, ?_⟩, fun b hb => ?_⟩
    · have e1 : ((i + 1 : Nat) : Int) = (i : Int) + 1 := by omega
      rw [e1]; exact he'
    · obtain ⟨o, ho', hr⟩ := hst'
      exact ⟨o, (sb.2 it (Ne.symm hne)).trans ho', hr⟩
    · have hb' : b < s.heap.objs.size := by
        simp only [List.mem_cons, List.not_mem_nil, or_false] at hb
        rcases hb with z | z
        · rw [z]; exact hel
        · rw [z]; exact hil
      rw [upd_ne (Nat.ne_of_lt hb')]
      exact (hf b hb).1
  done := by
    intro X hP hw hK hc i pins s σ H E I hf st hg
    subst hP hw hK
    obtain ⟨⟨old, he⟩, hit⟩ := st
    obtain ⟨f0, f1, f2, f3, f4, f5⟩ := hf it (by simp)
    have hn : z.cps.size = i := hg
    subst hn
    exact wpAny_pyNext_enum_endD (drawsZ (A := X.A.in1) (I.ok.hd hc) it z t) he hit fun h' eb => ⟨rfl, I.turned (t' := s.toks) (fun b o hb q => eb b o hb q) f0 f1 f3 f4 f5⟩
  self := fun A i s Q E st h => let ⟨⟨_, he⟩, _⟩ := st; wpAny_pyIter_enum he h
def iEZ (ta : TA) : TI := fun σ H R => ta σ H fun vs H1 => ∃ z, vs = [.str z] ∧ R (ItEZ z) H1
theorem pi_enZ {X : Cx} {e : Expr} {ta : TA} {p pos tpos : Pos} {elts : List Expr} {kk : Nat} (hg : Gl X "enumerate") (hm : X.mg "enumerate" = none) (ha : PA X [e] ta) (hs : starEach [e] X.env = [(false, eval e X.env)] := by rfl) :
    PI X (.Tuple elts kk tpos) (.Call (.Name "enumerate" p) [e] [] pos) (iEZ ta) := by
  refine ⟨fun pins s σ H R I h => ?_⟩
  refine Call_ (ld_blt I hg hm boot_enumerate (PyProof.Rows.callWith_type1 (thn (ha.run pos pins s σ H _ I h) fun us s1 ⟨vs, H1, I1, r1, q1⟩ => ?_) hs rfl))
  obtain ⟨z, ex, q⟩ := q1
  subst ex
  cases r1 with
  | cons r rr =>
    cases rr
    obtain ⟨t, rfl⟩ := _root_.id r
    refine call_enumerate_str fun h' he hit hsz hk => wpAny_pyIter_enum he ?_
    have I2 : Inv X pins σ H1 { s1 with heap := h' } := I1.kept (t' := s1.toks) hk
    refine ⟨s1.heap.objs.size + 1, [s1.heap.objs.size + 1, s1.heap.objs.size], _, _, H1, rfl, I2, turnZ z t (s1.heap.objs.size + 1) s1.heap.objs.size (Nat.succ_ne_self _), ⟨⟨.none, he⟩, hit⟩, fun b hb => ?_, q⟩
    have e' : b = s1.heap.objs.size + 1 ∨ b = s1.heap.objs.size := by simpa using hb
    have hle : s1.heap.objs.size ≤ b := by
      rcases e' with z | z
      · rw [z]; exact Nat.le_add_right _ _
      · rw [z]; exact Nat.le_refl _
    exact I1.fpOk hle (I1.hok.fresh hle)
end EN
namespace PM
open PySem PySem.Spec PyProof.Rows L2 LB
section
variable {T : Tb} {K : PySem.W.Frag} {X : Cx} {e : Expr}
def oEnumZ : List PyData → Option (List PyData)
  | [.str z] => if z.length ≤ 10000 then some (enumD (signsD z)) else none
  | _ => none
def iEz (a : MA) : MA := fun ρ => (a ρ).bind oEnumZ
theorem wk_ez {P1 : Pr T} {z : Str} : WkM K P1 (EN.ItEZ z) (enumD (signsD z)) := by
  have l := enumD_len (signsD z)
  have l0 : (signsD z).length = z.cps.size := by simp [signsD]
  refine ⟨fun P' x => ?_, fun i P' hi x => ?_, fun i P' v H'' hi x y => ?_⟩
  · show z.cps.size = _
    omega
  · show i < z.cps.size
    omega
  · obtain ⟨t, c, rfl, hn, rfl, h1⟩ := y
    have e1 : (signsD z)[i]? = some (.str ⟨#[c]⟩) := by
      unfold signsD
      rw [List.getElem?_map, Array.getElem?_toList, h1]
      rfl
    exact ⟨P'.put t (.tup [.int (i : Nat), .str ⟨#[c]⟩]) hn, rfl, le_put P' hn, _, enumD_at e1, .tup upd_same (.cons (.int _) (.cons (.str _) .nil))⟩
theorem c_iez {tg : Expr} {a : MA} (h : PI X tg e (EN.iEZ (tA K T a))) : PI X tg e (tI K T (iEz a)) := pi_to h fun σ H Q ⟨P0, P, ρ, ds, h1, s, h2, q⟩ => by
  subst h1
  obtain ⟨x, ex, h3⟩ := bind_eq h2
  refine ⟨P0, P, ρ, x, rfl, s, ex, fun vs P1 l1 r1 => ?_⟩
  unfold oEnumZ at h3
  split at h3
  · split at h3
    · cases h3
      cases r1 with
      | cons r1 r2 =>
        cases r2
        cases r1
        exact ⟨_, rfl, q _ P1 l1 wk_ez⟩
    · cases h3
  · cases h3
/-! ### int(text) -/
def oIntZ : List PyData → Option PyData
  | [.str z] => if z.length ≤ 640 then (PySem.intText? z).map .int else none
  | _ => none
theorem cb_intZ : CbD K T (fun xs H Q => ∃ a n, xs = [.str a] ∧ PySem.intText? a = some n ∧ a.length ≤ 640 ∧ Q (.int n) H) oIntZ := by
  intro P vs ds d ra h Q q
  unfold oIntZ at h
  split at h
  · split at h
    · rename_i z hz
      obtain ⟨n, hn, rfl⟩ := map_eq h
      cases ra with
      | cons r1 r2 =>
        cases r2
        obtain rfl := r1.str
        exact ⟨z, n, rfl, hn, hz, q _ P (Le.refl _) (.int _)⟩
    · cases h
  · cases h
end
end PM
namespace K01
/-- the loop of rests -/
theorem gcd_fmod (a b : Int) : Int.gcd b (a.fmod b) = Int.gcd a b := by
  have h : a.fmod b = a - b * a.fdiv b := by
    have := Int.mul_fdiv_add_fmod a b
    omega
  rw [h]
  rw [Int.gcd_comm a b]
  apply Nat.dvd_antisymm
  · apply Int.dvd_gcd (Int.gcd_dvd_left _ _)
    have h1 : (↑(Int.gcd b (a - b * a.fdiv b)) : Int) ∣ b := Int.gcd_dvd_left _ _
    have h2 : (↑(Int.gcd b (a - b * a.fdiv b)) : Int) ∣ (a - b * a.fdiv b) := Int.gcd_dvd_right _ _
    have h3 := Int.dvd_add h2 (Int.dvd_mul_of_dvd_left (c := a.fdiv b) h1)
    rwa [Int.sub_add_cancel] at h3
  · apply Int.dvd_gcd (Int.gcd_dvd_left _ _)
    have h1 : (↑(Int.gcd b a) : Int) ∣ b := Int.gcd_dvd_left _ _
    have h2 : (↑(Int.gcd b a) : Int) ∣ a := Int.gcd_dvd_right _ _
    exact Int.dvd_sub h2 (Int.dvd_mul_of_dvd_left (c := a.fdiv b) h1)
theorem fmod_small (a b : Int) (hb : b ≠ 0) : (a.fmod b).natAbs < b.natAbs := by
  rcases Int.lt_or_lt_of_ne hb with h | h
  · have e := Int.fmod_eq_emod (a := a) (b := b)
    have h1 := Int.emod_nonneg a hb
    have h2 := Int.emod_lt a hb
    split at e
    · rename_i q
      rcases q with q | q
      · omega
      · have := Int.emod_eq_zero_of_dvd q
        omega
    · rename_i q
      have h3 : a % b ≠ 0 := fun z => q (Or.inr (Int.dvd_of_emod_eq_zero z))
      omega
  · have h1 := Int.fmod_nonneg_of_pos a h
    have h2 := Int.fmod_lt_of_pos a h
    omega
/-- the divisor with the bottom's sign -/
def dvs (t b : Int) : Int := if b < 0 then -(Int.gcd t b : Int) else (Int.gcd t b : Int)
def lowT (t b : Int) : Int := t.fdiv (dvs t b)
def lowB (t b : Int) : Int := b.fdiv (dvs t b)
theorem gcd_pos (t : Int) {b : Int} (hb : b ≠ 0) : 0 < Int.gcd t b := Int.gcd_pos_iff.mpr (Or.inr hb)
theorem dvs_ne (t : Int) {b : Int} (hb : b ≠ 0) : dvs t b ≠ 0 := by
  have := gcd_pos t hb
  unfold dvs
  split <;> omega
theorem dvs_nat (t b : Int) : (dvs t b).natAbs = Int.gcd t b := by
  unfold dvs
  split <;> omega
theorem gcd_le (t : Int) {b : Int} (hb : b ≠ 0) : Int.gcd t b ≤ b.natAbs := by
  have h : (Int.gcd t b) ∣ b.natAbs := Int.natAbs_dvd_natAbs.mpr (Int.gcd_dvd_right t b)
  exact Nat.le_of_dvd (by omega) h
theorem dvs_dvd_b (t b : Int) : dvs t b ∣ b := by
  unfold dvs
  split
  · exact Int.neg_dvd.mpr (Int.gcd_dvd_right t b)
  · exact Int.gcd_dvd_right t b
theorem dvs_dvd_t (t b : Int) : dvs t b ∣ t := by
  unfold dvs
  split
  · exact Int.neg_dvd.mpr (Int.gcd_dvd_left t b)
  · exact Int.gcd_dvd_left t b
theorem lowB_mul (t b : Int) : lowB t b * dvs t b = b := by
  unfold lowB
  rw [Int.fdiv_eq_ediv_of_dvd (dvs_dvd_b t b)]
  exact Int.ediv_mul_cancel (dvs_dvd_b t b)
theorem lowT_mul (t b : Int) : lowT t b * dvs t b = t := by
  unfold lowT
  rw [Int.fdiv_eq_ediv_of_dvd (dvs_dvd_t t b)]
  exact Int.ediv_mul_cancel (dvs_dvd_t t b)
theorem lowB_pos (t : Int) {b : Int} (hb : b ≠ 0) : 0 < lowB t b := by
  have e := lowB_mul t b
  have g := gcd_pos t hb
  unfold dvs at e
  split at e
  · rename_i h
    apply Int.not_le.mp
    intro z
    have h2 : 0 ≤ lowB t b * -(Int.gcd t b : Int) := Int.mul_nonneg_of_nonpos_of_nonpos z (by omega)
    omega
  · rename_i h
    apply Int.not_le.mp
    intro z
    have h2 : lowB t b * (Int.gcd t b : Int) ≤ 0 := Int.mul_nonpos_of_nonpos_of_nonneg z (by omega)
    omega
theorem low_gcd (t : Int) {b : Int} (hb : b ≠ 0) : Int.gcd (lowT t b) (lowB t b) = 1 := by
  have g := gcd_pos t hb
  have h1 : Int.gcd (lowT t b * dvs t b) (lowB t b * dvs t b) = Int.gcd (lowT t b) (lowB t b) * (dvs t b).natAbs := Int.gcd_mul_right ..
  rw [lowT_mul, lowB_mul, dvs_nat] at h1
  have h2 : 1 * Int.gcd t b = Int.gcd (lowT t b) (lowB t b) * Int.gcd t b := by omega
  exact (Nat.eq_of_mul_eq_mul_right g h2).symm
theorem low_id {t b : Int} (hb : 0 < b) : (lowT t b = t ∧ lowB t b = b) ↔ Int.gcd t b = 1 := by
  constructor
  · intro ⟨_, h⟩
    have e := lowB_mul t b
    rw [h] at e
    have e2 : b * dvs t b = b * 1 := by omega
    have e3 : dvs t b = 1 := Int.eq_of_mul_eq_mul_left (by omega) e2
    have := dvs_nat t b
    omega
  · intro h
    have e : dvs t b = 1 := by
      unfold dvs
      rw [if_neg (by omega), h]
      rfl
    unfold lowT lowB
    rw [e, Int.fdiv_one, Int.fdiv_one]
    exact ⟨rfl, rfl⟩
theorem low_natAbs_t (t : Int) {b : Int} (hb : b ≠ 0) : (lowT t b).natAbs ≤ t.natAbs := by
  have e := congrArg Int.natAbs (lowT_mul t b)
  rw [Int.natAbs_mul, dvs_nat] at e
  have g := gcd_pos t hb
  rw [← e]
  exact Nat.le_mul_of_pos_right _ g
theorem low_natAbs_b (t : Int) {b : Int} (hb : b ≠ 0) : (lowB t b).natAbs ≤ b.natAbs := by
  have e := congrArg Int.natAbs (lowB_mul t b)
  rw [Int.natAbs_mul, dvs_nat] at e
  have g := gcd_pos t hb
  rw [← e]
  exact Nat.le_mul_of_pos_right _ g
end K01
namespace PM
open PySem PySem.Spec PyProof.Rows L2 LB
open K01 (lowT lowB dvs gcd_fmod fmod_small gcd_pos dvs_ne dvs_nat gcd_le lowB_mul lowT_mul lowB_pos low_gcd low_id low_natAbs_t low_natAbs_b)
/-! ### fractions, among data -/
def frD (t b : Int) : PyData := .tuple [.int (lowT t b), .int (lowB t b)]
theorem cop_dvd {q p s : Int} (h : Int.gcd q p = 1) (hd : q ∣ p * s) : q ∣ s := by
  have h1 : q.natAbs ∣ p.natAbs * s.natAbs := by
    rw [← Int.natAbs_mul]
    exact Int.natAbs_dvd_natAbs.mpr hd
  exact Int.natAbs_dvd_natAbs.mp (Nat.Coprime.dvd_of_dvd_mul_left (show Nat.gcd q.natAbs p.natAbs = 1 from h) h1)
theorem cop_eq {p q r s : Int} (hq : 0 < q) (hs : 0 < s) (h1 : Int.gcd p q = 1) (h2 : Int.gcd r s = 1) (h : p * s = r * q) : p = r ∧ q = s := by
  have d1 : q ∣ s := by
    exact cop_dvd (by rw [Int.gcd_comm]; exact h1) ⟨r, by rw [h, Int.mul_comm]⟩
  have d2 : s ∣ q := by
    exact cop_dvd (by rw [Int.gcd_comm]; exact h2) ⟨p, by rw [← h, Int.mul_comm]⟩
  have e : q = s := Int.le_antisymm (Int.le_of_dvd hs d1) (Int.le_of_dvd hq d2)
  subst e
  exact ⟨Int.eq_of_mul_eq_mul_right (by omega) h, rfl⟩
theorem low_eq {t b s c : Int} (hb : b ≠ 0) (hc : c ≠ 0) (h : t * c = s * b) : lowT t b = lowT s c ∧ lowB t b = lowB s c := by
  refine cop_eq (lowB_pos t hb) (lowB_pos s hc) (low_gcd t hb) (low_gcd s hc) ?_
  have e : (lowT t b * lowB s c) * (dvs t b * dvs s c) = (lowT s c * lowB t b) * (dvs t b * dvs s c) := by
    have h1 := lowT_mul t b
    have h2 := lowB_mul t b
    have h3 := lowT_mul s c
    have h4 := lowB_mul s c
    calc (lowT t b * lowB s c) * (dvs t b * dvs s c) = (lowT t b * dvs t b) * (lowB s c * dvs s c) := by ac_rfl
      _ = t * c := by rw [h1, h4]
      _ = s * b := h
      _ = (lowT s c * dvs s c) * (lowB t b * dvs t b) := by rw [h3, h2]
      _ = (lowT s c * lowB t b) * (dvs t b * dvs s c) := by ac_rfl
  exact Int.eq_of_mul_eq_mul_right (Int.mul_ne_zero (dvs_ne t hb) (dvs_ne s hc)) e
theorem frD_eq {t b s c : Int} (hb : b ≠ 0) (hc : c ≠ 0) (h : t * c = s * b) : frD t b = frD s c := by
  obtain ⟨h1, h2⟩ := low_eq hb hc h
  unfold frD
  rw [h1, h2]
/-- what fractions are reckoned of: b is the bottom -/
theorem low_cross (t : Int) {b : Int} (_ : b ≠ 0) : lowT t b * b = t * lowB t b := by
  have h1 := lowT_mul t b
  have h2 := lowB_mul t b
  calc lowT t b * b = lowT t b * (lowB t b * dvs t b) := by rw [h2]
    _ = (lowT t b * dvs t b) * lowB t b := by ac_rfl
    _ = t * lowB t b := by rw [h1]
theorem fdv_big {i j : Int} (h : j ≠ 0) (h2 : j.natAbs < 2 ^ 250) : oFdv (.int i) (.int j) = some (.int (i.fdiv j)) := by
  show (if decide (j ≠ 0 ∧ j.natAbs < 2 ^ 250) = true then some (PyData.int (i.fdiv j)) else none) = _
  rw [if_pos (decide_eq_true ⟨h, h2⟩)]
theorem fdv_ii {i j : Int} (h : j ≠ 0) (h2 : j.natAbs < 2 ^ 200) : oFdv (.int i) (.int j) = some (.int (i.fdiv j)) := fdv_big h (Nat.lt_trans h2 (by decide))
theorem x_neg {e : ME} {ρ : Ev} {i : Int} (h : e ρ = some (.int i)) : mUn oNeg e ρ = some (.int (-i)) := by
  unfold mUn
  rw [h]
  rfl
end PM
namespace PM
open PySem PySem.Spec PyProof.Rows L2 LB
open K01 (lowT lowB dvs gcd_fmod fmod_small gcd_pos dvs_ne dvs_nat gcd_le lowB_mul lowT_mul lowB_pos low_gcd low_id low_natAbs_t low_natAbs_b)
/-! ### lines of cuts, among data -/
def bP (cs : List Str) : PyData → Int
  | .tuple [.str x, .int a, .int _, .int c, .int _] => if x ∈ cs then c else a
  | _ => 0
def lP (cs : List Str) : PyData → Int
  | .tuple [.str x, .int _, .int b, .int _, .int e] => if x ∈ cs then -e else b
  | _ => 0
def bT (cs : List Str) : PyData → Int
  | .tuple [.str x, .str y, .int s] => if x ∈ cs ∧ y ∉ cs then s else 0
  | _ => 0
def sumOf (f : PyData → Int) (l : List PyData) : Int := (l.map f).sum
theorem sum_snoc (f : PyData → Int) (l : List PyData) (d : PyData) : sumOf f (l ++ [d]) = sumOf f l + f d := by
  unfold sumOf
  rw [List.map_append, List.sum_append]
  simp
theorem sum_bound {f : PyData → Int} {B : Nat} : ∀ {l : List PyData}, (∀ d ∈ l, (f d).natAbs ≤ B) → (sumOf f l).natAbs ≤ l.length * B
  | [], _ => by simp [sumOf]
  | d :: l, h => by
    have ih := sum_bound (f := f) (B := B) (l := l) fun x hx => h x (List.mem_cons_of_mem _ hx)
    have h1 := h d List.mem_cons_self
    have e : sumOf f (d :: l) = f d + sumOf f l := by simp [sumOf]
    rw [e, List.length_cons, Nat.add_mul, Nat.one_mul]
    omega
theorem take_snoc {l : List PyData} {i : Nat} {d : PyData} (h : l[i]? = some d) : l.take (i + 1) = l.take i ++ [d] := take_more h
/-- a price p / q of a web of this top -/
structure Pri (top p q : Int) : Prop where
  q1 : 0 < q
  p0 : 0 ≤ p
  pt : p ≤ top * q
  q40 : q < 2 ^ 40
theorem lt200 {x : Nat} (h : x < 2 ^ 99) : x < 2 ^ 200 := Nat.lt_trans h (by decide)
end PM
namespace K60
open PySem PySem.Spec PyProof.Rows L2
def top (i : Nat) : Stmt := PySem.Challenge.pw_cutstairs_k60_what_pictures_are.main.body.getD i (.Pass ⟨0, 0, 0, 0⟩)
abbrev s_is_whole : Stmt := top 18
abbrev s_is_between : Stmt := top 19
abbrev s_common_divisor : Stmt := top 20
abbrev s_fraction : Stmt := top 21
abbrev s_below : Stmt := top 22
abbrev s_is_rising : Stmt := top 25
abbrev s_names_of : Stmt := top 26
abbrev s_is_choice : Stmt := top 28
abbrev s_is_cut : Stmt := top 29
abbrev s_line_of : Stmt := top 30
abbrev s_choices_of : Stmt := top 31
abbrev s_all_cuts : Stmt := top 32
abbrev s_cuts_by_line : Stmt := top 34
abbrev s_meeting : Stmt := top 35
abbrev s_is_met_first : Stmt := top 36
abbrev s_line_behind : Stmt := top 37
abbrev s_bit_of : Stmt := top 38
abbrev s_stair_of : Stmt := top 39
abbrev s_is_picture : Stmt := top 42
abbrev s_spots_beside : Stmt := top 43
abbrev s_picture_web : Stmt := top 44
abbrev s_tones_by : Stmt := top 45
abbrev s_tones_of : Stmt := top 46
abbrev s_L_cell : Stmt := top 48
abbrev s_L_numbers : Stmt := top 49
abbrev s_L_picture : Stmt := top 50
abbrev s_L_due : Stmt := top 51
abbrev s_L_sign : Stmt := top 52
abbrev s_L_spoilt : Stmt := top 53
abbrev s_L_refused : Stmt := top 54
abbrev s_law : Stmt := top 55
end K60
namespace K60
open PySem PySem.Spec PyProof.Rows L2 LB PM
def m_is_whole : MS := (mRet (mAnd (mIs "int" (mW 0)) (mNot (mIs "bool" (mW 0)))))
def M_is_whole : List PyData → Option PyData := fnM 1 1 m_is_whole
def m_is_between : MS := (mRet (mAnd (mCb M_is_whole (aCons (mV 0) aNil)) (mCh oLe oLe (mW 1) (mW 0) (mW 2))))
def M_is_between : List PyData → Option PyData := fnM 3 3 m_is_between
noncomputable def m_common_divisor : MS := (mSeq (mWhile (qV (mOp oNe (mW 1) (mC (.int 0))))
   (mPar 0 1 (aCons (mV 1) (aCons (mOp oMod (mW 0) (mW 1)) aNil))))
  (mRet (mCb oAbs (aCons (mW 0) aNil))))
noncomputable def M_common_divisor : List PyData → Option PyData := fnM 2 2 m_common_divisor
noncomputable def m_fraction : MS := (mSeq (mIfS (qV (mOp oEq (mW 1) (mC (.int 0)))) mNo mNx)
  (mSeq (mSet 2 (mCb M_common_divisor (aCons (mV 0) (aCons (mV 1) aNil))))
  (mSeq (mIfS (qV (mOp oLt (mW 1) (mC (.int 0)))) (mSet 2 (mUn oNeg (mV 2))) mNx)
  (mRet (mTup (aCons (mOp oFdv (mW 0) (mW 2)) (aCons (mOp oFdv (mW 1) (mW 2)) aNil)))))))
noncomputable def M_fraction : List PyData → Option PyData := fnM 2 3 m_fraction
def m_below : MS := (mRet (mOp oLt (mOp oMul (mOp oIx (mW 0) (mC (.int 0))) (mOp oIx (mW 1) (mC (.int 1)))) (mOp oMul (mOp oIx (mW 1) (mC (.int 0))) (mOp oIx (mW 0) (mC (.int 1))))))
def M_below : List PyData → Option PyData := fnM 2 2 m_below
def m_is_rising : MS := (mRet (mAg (iZ (aCons (mV 0) (aCons (mSl (mW 0) (pSo (mC (.int 1))) pNo) aNil))) [1, 2] (gT [1, 2]) qT (mOp oLt (mW 1) (mW 2))))
def M_is_rising : List PyData → Option PyData := fnM 1 3 m_is_rising
def m_names_of : MS := (mRet (mTg (iS (mOp oIx (mW 0) (mC (.int 1)))) [1] (gN 1) qT (mOp oIx (mW 1) (mC (.int 0)))))
def M_names_of : List PyData → Option PyData := fnM 1 2 m_names_of
def m_is_choice : MS := (mSeq (mIfS (qNot (qV (mIs "tuple" (mW 1)))) (mRet (mC (.bool false))) mNx)
  (mRet (mAnd (mAg (iS (mW 1)) [2] (gN 2) qT (mAnd (mIs "str" (mW 2)) (mOp oIn (mW 2) (mW 0)))) (mCb M_is_rising (aCons (mV 1) aNil)))))
def M_is_choice : List PyData → Option PyData := fnM 2 3 m_is_choice
def m_is_cut : MS := (mRet (mCb M_is_choice (aCons (mCb M_names_of (aCons (mV 0) aNil)) (aCons (mV 1) aNil))))
def M_is_cut : List PyData → Option PyData := fnM 2 2 m_is_cut
def m_line_of : MS := (mSeq (mIfS (qNot (qV (mCb M_is_cut (aCons (mV 0) (aCons (mV 1) aNil))))) mNo mNx)
  (mSeq (mSet 2 (mC (.int 0)))
  (mSeq (mSet 3 (mC (.int 0)))
  (mSeq (mFor (iS (mOp oIx (mW 0) (mC (.int 1)))) (gT [4, 5, 6, 7, 8])
   (mIfS (qV (mOp oIn (mW 4) (mW 1))) (mSeq (mAug 2 oIadd (mW 7))
  (mAug 3 oSub (mW 8))) (mSeq (mAug 2 oIadd (mW 5))
  (mAug 3 oIadd (mW 6)))))
  (mSeq (mFor (iS (mOp oIx (mW 0) (mC (.int 2)))) (gT [9, 10, 11])
   (mIfS (qAnd (qV (mOp oIn (mW 9) (mW 1))) (qV (mOp oNin (mW 10) (mW 1)))) (mAug 2 oIadd (mW 11)) mNx))
  (mRet (mTup (aCons (mV 2) (aCons (mV 3) aNil)))))))))
def M_line_of : List PyData → Option PyData := fnM 2 12 m_line_of
def m_choices_of : MS := (mSeq (mSet 1 (mLst (aCons (mTup aNil) aNil)))
  (mSeq (mFor (iS (mV 0)) (gN 2)
   (mSet 1 (mOp oAdd (mW 1) (mLc (iS (mW 1)) [3] (gN 3) qT (mTup (aStar (mW 3) (aCons (mV 2) aNil)))))))
  (mRet (mV 1))))
def M_choices_of : List PyData → Option PyData := fnM 1 4 m_choices_of
noncomputable def m_all_cuts : MS := (mRet (mCb oSorted (aCons (mCb M_choices_of (aCons (mCb M_names_of (aCons (mV 0) aNil)) aNil)) aNil)))
noncomputable def M_all_cuts : List PyData → Option PyData := fnM 1 1 m_all_cuts
noncomputable def m_cuts_by_line : MS := (mSeq (mSetO 1 (mC (.dict [])))
  (mSeq (mGather 1 3 2 (iS (mCb M_all_cuts (aCons (mV 0) aNil)))
   (mCb M_line_of (aCons (mV 0) (aCons (mV 2) aNil))))
  (mRet (mV 1))))
noncomputable def M_cuts_by_line : List PyData → Option PyData := fnM 1 4 m_cuts_by_line
noncomputable def m_meeting : MS := (mRet (mCb M_fraction (aCons (mOp oSub (mOp oIx (mW 1) (mC (.int 0))) (mOp oIx (mW 0) (mC (.int 0)))) (aCons (mOp oSub (mOp oIx (mW 0) (mC (.int 1))) (mOp oIx (mW 1) (mC (.int 1)))) aNil))))
noncomputable def M_meeting : List PyData → Option PyData := fnM 2 2 m_meeting
noncomputable def m_is_met_first : MS := (mSeq (mSet 3 (mCb M_meeting (aCons (mV 0) (aCons (mV 1) aNil))))
  (mSeq (mSet 4 (mCb M_meeting (aCons (mV 0) (aCons (mV 2) aNil))))
  (mRet (mOr (mCb M_below (aCons (mV 3) (aCons (mV 4) aNil))) (mAnd (mOp oEq (mW 3) (mW 4)) (mOp oLt (mOp oIx (mW 1) (mC (.int 1))) (mOp oIx (mW 2) (mC (.int 1)))))))))
noncomputable def M_is_met_first : List PyData → Option PyData := fnM 3 5 m_is_met_first
noncomputable def m_line_behind : MS := (mSeq (mSet 2 (mC .none))
  (mSeq (mFor (iS (mV 0)) (gN 3)
   (mIfS (qAnd (qV (mOp oLt (mOp oIx (mW 3) (mC (.int 1))) (mOp oIx (mW 1) (mC (.int 1))))) (qOr (qV (mOp oIsNo (mW 2) (mC .none))) (qV (mCb M_is_met_first (aCons (mV 1) (aCons (mV 3) (aCons (mV 2) aNil))))))) (mSet 2 (mV 3)) mNx))
  (mRet (mV 2))))
noncomputable def M_line_behind : List PyData → Option PyData := fnM 2 4 m_line_behind
def m_bit_of : MS := (mRet (mTup (aCons (mBest shorter (mW 0)) (aCons (mBest longer (mW 0)) (aCons (mOp oIx (mW 1) (mC (.int 0))) (aCons (mOp oIx (mW 1) (mC (.int 1))) aNil))))))
def M_bit_of : List PyData → Option PyData := fnM 2 2 m_bit_of
noncomputable def m_stair_of : MS := (mSeq (mSet 1 (mCb M_cuts_by_line (aCons (mV 0) aNil)))
  (mSeq (mSet 2 (mCb oKeysT (aCons (mW 1) aNil)))
  (mSeq (mSet 3 (mCb M_fraction (aCons (mOp oIx (mW 0) (mC (.int 0))) (aCons (mC (.int 1)) aNil))))
  (mSeq (mSet 4 (mCb oMinL (aCons (mW 2) aNil)))
  (mSeq (mSetO 5 (mLst (aCons (mCb M_bit_of (aCons (mOp oGetT (mV 1) (mV 4)) (aCons (mV 4) aNil))) aNil)))
  (mSeq (mSetO 6 (mLst aNil))
  (mSeq (mSet 7 (mCb M_line_behind (aCons (mV 2) (aCons (mV 4) aNil))))
  (mSeq (mWhile (qAnd (qV (mOp oNotNo (mW 7) (mC .none))) (qV (mCb M_below (aCons (mCb M_meeting (aCons (mV 4) (aCons (mV 7) aNil))) (aCons (mV 3) aNil)))))
   (mSeq (mApp 6 (mCb M_meeting (aCons (mV 4) (aCons (mV 7) aNil))))
  (mSeq (mApp 5 (mCb M_bit_of (aCons (mOp oGetT (mV 1) (mV 7)) (aCons (mV 7) aNil))))
  (mSeq (mSet 4 (mV 7))
  (mSet 7 (mCb M_line_behind (aCons (mV 2) (aCons (mV 4) aNil))))))))
  (mRel 6 (mRel 5 (mRet (mTup (aCons (mV 5) (aCons (mV 6) aNil))))))))))))))
noncomputable def M_stair_of : List PyData → Option PyData := fnM 1 8 m_stair_of
def m_is_picture : MS := (mSeq (mIfS (qNot (qAnd (qV (mIs "tuple" (mW 0))) (qV (mAg (iS (mW 0)) [2] (gN 2) qT (mIs "str" (mW 2)))))) (mRet (mC (.bool false))) mNx)
  (mSeq (mSet 1 (mOp oJoin (mC (.str "")) (mW 0)))
  (mSeq (mIfS (qNot (qAnd (qV (mCh oLe oLe (mC (.int 1)) (mCb oLen (aCons (mW 1) aNil)) (mC (.int 8)))) (qV (mAg (iS (mW 1)) [3] (gN 3) qT (mOp oInX (mW 3) (mC (.str "0123456789"))))))) (mRet (mC (.bool false))) mNx)
  (mRet (mAg (iS (mW 0)) [2] (gN 2) qT (mOp oEq (mCb oLen (aCons (mW 2) aNil)) (mCb oLen (aCons (mOp oIx (mW 0) (mC (.int 0))) aNil))))))))
def M_is_picture : List PyData → Option PyData := fnM 1 4 m_is_picture
def m_spots_beside : MS := (mSeq (mSet 1 (mCb oLen (aCons (mOp oIx (mW 0) (mC (.int 0))) aNil)))
  (mSeq (mSet 2 (mOp oMul (mW 1) (mCb oLen (aCons (mW 0) aNil))))
  (mSeq (mSet 3 (mLc (iR (aCons (mV 2) aNil)) [4] (gN 4) (qV (mOp oNe (mOp oMod (mOp oAdd (mW 4) (mC (.int 1))) (mW 1)) (mC (.int 0)))) (mTup (aCons (mV 4) (aCons (mOp oAdd (mW 4) (mC (.int 1))) aNil)))))
  (mRet (mOp oAdd (mW 3) (mLc (iR (aCons (mOp oSub (mW 2) (mW 1)) aNil)) [4] (gN 4) qT (mTup (aCons (mV 4) (aCons (mOp oAdd (mW 4) (mW 1)) aNil)))))))))
def M_spots_beside : List PyData → Option PyData := fnM 1 5 m_spots_beside
noncomputable def m_picture_web : MS := (mSeq (mSet 2 (mTg (iEz (aCons (mOp oJoin (mC (.str "")) (mW 0)) aNil)) [6, 7] (gT [6, 7]) qT (mTup (aCons (mOp oIx (mC (.str "abcdefghijklmnopqrstuvwxyz")) (mW 6)) (aCons (mC (.int 0)) (aCons (mC (.int 1)) (aCons (mCb oIntZ (aCons (mW 7) aNil)) (aCons (mC (.int 0)) aNil))))))))
  (mSeq (mSet 3 (mCb M_spots_beside (aCons (mV 0) aNil)))
  (mSeq (mSet 4 (mCb oSorted (aCons (mOp oAdd (mW 3) (mLc (iS (mW 3)) [8, 9] (gT [8, 9]) qT (mTup (aCons (mV 9) (aCons (mV 8) aNil))))) aNil)))
  (mSeq (mSet 5 (mTg (iS (mW 4)) [8, 9] (gT [8, 9]) qT (mTup (aCons (mOp oIx (mC (.str "abcdefghijklmnopqrstuvwxyz")) (mW 8)) (aCons (mOp oIx (mC (.str "abcdefghijklmnopqrstuvwxyz")) (mW 9)) (aCons (mV 1) aNil))))))
  (mRet (mTup (aCons (mC (.int 9)) (aCons (mV 2) (aCons (mV 5) aNil)))))))))
noncomputable def M_picture_web : List PyData → Option PyData := fnM 2 10 m_picture_web
def m_tones_by : MS := (mSeq (mSet 2 (mCb oLen (aCons (mOp oIx (mW 0) (mC (.int 0))) aNil)))
  (mSeq (mSet 3 (mJg (mC (.str "")) (iS (mSl (mC (.str "abcdefghijklmnopqrstuvwxyz")) pNo (pSo (mOp oMul (mW 2) (mCb oLen (aCons (mW 0) aNil)))))) [4] (gN 4) qT (mIf (qV (mOp oIn (mW 4) (mW 1))) (mC (.str "#")) (mC (.str ".")))))
  (mRet (mTg (iR3 (aCons (mC (.int 0)) (aCons (mCb oLen (aCons (mW 3) aNil)) (aCons (mV 2) aNil)))) [5] (gN 5) qT (mSl (mW 3) (pSo (mV 5)) (pSo (mOp oAdd (mW 5) (mW 2))))))))
def M_tones_by : List PyData → Option PyData := fnM 2 6 m_tones_by
noncomputable def m_tones_of : MS := (mSeq (mIfS (qNot (qV (mCb M_is_between (aCons (mV 1) (aCons (mC (.int 0)) (aCons (mC (.int 99)) aNil)))))) (mEr "NoNumber") mNx)
  (mSeq (mAsg (mCb M_stair_of (aCons (mCb M_picture_web (aCons (mV 0) (aCons (mV 1) aNil))) aNil)) (gT [2, 3]))
  (mRet (mTup (aCons (mLc (iS (mW 2)) [4] (gN 4) qT (mCb M_tones_by (aCons (mV 0) (aCons (mOp oIx (mW 4) (mC (.int 0))) aNil)))) (aCons (mV 3) aNil))))))
noncomputable def M_tones_of : List PyData → Option Rs := fnX 2 5 m_tones_of
def m_L_cell : MS := (mSeq (mIfS (qV (mOp oLt (mW 1) (mCb oLen (aCons (mW 0) aNil)))) (mRet (mOp oIx (mW 0) (mW 1))) mNx)
  (mSeq (mSet 2 (mOp oMod (mOp oMul (mC (.int 48271)) (mOp oAdd (mOp oAdd (mOp oMul (mW 1) (mW 1)) (mOp oMul (mC (.int 7)) (mW 1))) (mC (.int 11)))) (mC (.int 2147483647))))
  (mSeq (mFor (iS (mSl (mW 0) pNo (pSo (mC (.int 3))))) (gN 3)
   (mSet 2 (mOp oMod (mOp oAdd (mOp oMul (mW 2) (mC (.int 69621))) (mW 3)) (mC (.int 2147483647)))))
  (mRet (mV 2)))))
def M_L_cell : List PyData → Option PyData := fnM 2 4 m_L_cell
def m_L_numbers : MS := (mSeq (mSetO 2 (mLst aNil))
  (mSeq (mSet 3 (mOp oMod (mOp oMul (mOp oAdd (mOp oMod (mW 0) (mC (.int 1999999973))) (mC (.int 31))) (mC (.int 765432101))) (mC (.int 1999999973))))
  (mSeq (mSet 4 (mC (.int 0)))
  (mSeq (mIfS (qOr (qV (mOp oLt (mW 0) (mC (.int 0)))) (qV (mOp oGe (mW 0) (mOp oPow (mC (.int 10)) (mC (.int 18)))))) (mSet 4 (mCb oAbs (aCons (mW 0) aNil))) mNx)
  (mSeq (mFor (iR (aCons (mV 1) aNil)) (gN 5)
   (mSeq (mSet 3 (mOp oMod (mOp oAdd (mOp oAdd (mOp oMul (mW 3) (mOp oAdd (mOp oMod (mW 3) (mC (.int 65521))) (mC (.int 40487)))) (mOp oMul (mC (.int 7)) (mW 5))) (mC (.int 5))) (mC (.int 1999999973))))
  (mSeq (mApp 2 (mOp oIx (mLst (aCons (mV 3) (aCons (mOp oMod (mW 4) (mC (.int 1000000))) aNil))) (mCb oInt (aCons (mOp oGt (mW 4) (mC (.int 0))) aNil))))
  (mSet 4 (mOp oFdv (mW 4) (mC (.int 1000000)))))))
  (mRetO 2))))))
def M_L_numbers : List PyData → Option PyData := fnM 2 6 m_L_numbers
def m_L_picture : MS := (mSeq (mSet 1 (mOp oAdd (mC (.int 1)) (mOp oMod (mOp oIx (mW 0) (mC (.int 0))) (mC (.int 4)))))
  (mSeq (mSet 2 (mOp oAdd (mC (.int 1)) (mOp oMod (mOp oIx (mW 0) (mC (.int 1))) (mOp oFdv (mC (.int 8)) (mW 1)))))
  (mSeq (mIfS (qV (mOp oEq (mOp oMod (mOp oIx (mW 0) (mC (.int 2))) (mC (.int 2))) (mC (.int 1)))) (mAsg (mTup (aCons (mV 2) (aCons (mV 1) aNil))) (gT [1, 2])) mNx)
  (mSeq (mSetO 3 (mLst aNil))
  (mSeq (mFor (iR (aCons (mV 1) aNil)) (gN 4)
   (mApp 3 (mOp oJoin (mC (.str "")) (mLc (iR (aCons (mV 2) aNil)) [5] (gN 5) qT (mCb oStrI (aCons (mOp oMod (mOp oIx (mW 0) (mOp oAdd (mOp oAdd (mC (.int 4)) (mOp oMul (mW 4) (mW 2))) (mW 5))) (mOp oIx (mLst (aCons (mC (.int 10)) (aCons (mC (.int 3)) (aCons (mC (.int 10)) (aCons (mC (.int 10)) aNil))))) (mOp oMod (mOp oIx (mW 0) (mC (.int 3))) (mC (.int 4))))) aNil))))))
  (mRet (mCb oTuple (aCons (mW 3) aNil))))))))
def M_L_picture : List PyData → Option PyData := fnM 1 6 m_L_picture
def m_L_due : MS := (mSeq (mIfS (qOr (qNot (qV (mIs "tuple" (mW 0)))) (qV (mOp oEq (mW 0) (mTup aNil)))) (mRet (mC (.bool false))) mNx)
  (mSeq (mSet 1 (mC (.int 0)))
  (mSeq (mFor (iS (mV 0)) (gN 2)
   (mSeq (mIfS (qOr (qNot (qV (mIs "str" (mW 2)))) (qOr (qV (mOp oEq (mW 2) (mC (.str "")))) (qOr (qNot (qV (mIs "str" (mOp oIx (mW 0) (mC (.int 0)))))) (qV (mOp oNe (mCb oLen (aCons (mW 2) aNil)) (mCb oLen (aCons (mOp oIx (mW 0) (mC (.int 0))) aNil))))))) (mRet (mC (.bool false))) mNx)
  (mSeq (mIfS (qNot (qV (mCb oAll (aCons (mLc (iS (mW 2)) [3] (gN 3) qT (mOp oInX (mW 3) (mC (.str "0123456789")))) aNil)))) (mRet (mC (.bool false))) mNx)
  (mSet 1 (mOp oAdd (mW 1) (mCb oLen (aCons (mW 2) aNil)))))))
  (mRet (mOp oLe (mW 1) (mC (.int 8)))))))
def M_L_due : List PyData → Option PyData := fnM 1 4 m_L_due
def m_L_sign : MS := (mSeq (mSet 1 (mC (.str " !#$&'()*+,-./0123456789:;<=>?@ABCDEFGHIJKLMNOPQRSTUVWXYZ[]^_abcdefghijklmnopqrstuvwxyz{|}~")))
  (mSeq (mSet 1 (mOp oAdd (mW 1) (mC (.str "\n\"\\`"))))
  (mRet (mOp oIx (mW 1) (mOp oMod (mW 0) (mCb oLen (aCons (mW 1) aNil)))))))
def M_L_sign : List PyData → Option PyData := fnM 1 2 m_L_sign
def m_L_spoilt : MS := (mSeq (mSet 2 (mOp oMod (mOp oIx (mW 1) (mC (.int 0))) (mCb oLen (aCons (mW 0) aNil))))
  (mSeq (mSet 3 (mOp oIx (mW 0) (mW 2)))
  (mSeq (mSet 4 (mOp oMod (mOp oIx (mW 1) (mC (.int 1))) (mCb oLen (aCons (mW 3) aNil))))
  (mSeq (mSet 5 (mLst (aCons (mOp oAdd (mOp oAdd (mSl (mW 3) pNo (pSo (mV 4))) (mCb M_L_sign (aCons (mOp oIx (mW 1) (mC (.int 2))) aNil))) (mSl (mW 3) (pSo (mOp oAdd (mW 4) (mC (.int 1)))) pNo)) (aCons (mOp oAdd (mW 3) (mC (.str "0"))) (aCons (mSl (mW 3) (pSo (mC (.int 1))) pNo) (aCons (mC (.str "")) aNil))))))
  (mSeq (mSet 5 (mOp oAdd (mW 5) (mLst (aCons (mC .none) (aCons (mC (.int 7)) (aCons (mCb oListS (aCons (mW 3) aNil)) (aCons (mTup (aCons (mV 3) aNil)) aNil)))))))
  (mSeq (mSet 6 (mOp oMod (mOp oIx (mW 1) (mC (.int 3))) (mC (.int 12))))
  (mSeq (mIfS (qV (mOp oLt (mW 6) (mC (.int 8)))) (mRet (mOp oAdd (mOp oAdd (mSl (mW 0) pNo (pSo (mV 2))) (mTup (aCons (mOp oIx (mW 5) (mW 6)) aNil))) (mSl (mW 0) (pSo (mOp oAdd (mW 2) (mC (.int 1)))) pNo))) mNx)
  (mRet (mOp oIx (mLst (aCons (mCb oList (aCons (mW 0) aNil)) (aCons (mOp oAdd (mW 0) (mTup (aCons (mV 3) aNil))) (aCons (mSl (mW 0) (pSo (mC (.int 1))) pNo) (aCons (mOp oIx (mW 0) (mC (.int 0))) aNil))))) (mOp oSub (mW 6) (mC (.int 8))))))))))))
def M_L_spoilt : List PyData → Option PyData := fnM 2 7 m_L_spoilt
noncomputable def m_L_refused : MS := (mSeq (mTryE 2 [("NoNumber", fun a => (mSeq (mIfS (qV (mE 2 a (.bool false))) (mRet (mC (.bool false))) mNx)
  (mSeq (mIfS (qV (mE 2 a (.bool false))) (mRet (mC (.bool false))) mNx)
  (mRet (mAnd (mE 2 a (.bool true)) (mE 2 a (.bool true)))))))] (mDropX (mCbX M_tones_of (aCons (mV 0) (aCons (mV 1) aNil)))))
  (mRet (mC (.bool false))))
noncomputable def M_L_refused : List PyData → Option PyData := fnM 2 3 m_L_refused
noncomputable def m_law : MS := (mSeq (mSet 1 (mLst (aCons (mTup aNil) (aCons (mTup (aCons (mC (.str "012345678")) aNil)) (aCons (mTup (aCons (mC (.str "01234567")) aNil)) (aCons (mOp oRepT (mTup (aCons (mC (.str "0")) aNil)) (mC (.int 8))) (aCons (mOp oRepT (mTup (aCons (mC (.str "0")) aNil)) (mC (.int 9))) (aCons (mTup (aCons (mC (.str "000")) (aCons (mC (.str "000")) (aCons (mC (.str "000")) aNil)))) aNil))))))))
  (mSeq (mSet 1 (mOp oAdd (mW 1) (mLst (aCons (mC (.str "0")) (aCons (mC .none) (aCons (mC (.int 7)) (aCons (mLst aNil) (aCons (mC (.dict [])) (aCons (mTup (aCons (mTup (aCons (mC (.str "0")) aNil)) aNil)) aNil)))))))))
  (mSeq (mFor (iR (aCons (mCb oMax (aCons (mC (.int 1)) (aCons (mCb oMin (aCons (mCb oLen (aCons (mW 0) aNil)) (aCons (mC (.int 12)) aNil))) aNil))) aNil)) (gN 2)
   (mSeq (mSet 5 (mCb M_L_numbers (aCons (mCb M_L_cell (aCons (mV 0) (aCons (mV 2) aNil))) (aCons (mC (.int 20)) aNil))))
  (mSeq (mSet 4 (mCb M_L_picture (aCons (mV 5) aNil)))
  (mSet 1 (mOp oAdd (mW 1) (mLst (aCons (mV 4) (aCons (mCb M_L_spoilt (aCons (mV 4) (aCons (mSl (mW 5) (pSo (mC (.int 12))) pNo) aNil))) (aCons (mCb M_L_spoilt (aCons (mV 4) (aCons (mSl (mW 5) (pSo (mC (.int 16))) pNo) aNil))) aNil)))))))))
  (mSeq (mFor (iS (mV 1)) (gN 3)
   (mSeq (mSet 6 (mCb M_is_picture (aCons (mV 3) aNil)))
  (mIfS (qOr (qNot (qV (mIs "bool" (mW 6)))) (qV (mOp oNe (mW 6) (mCb M_L_due (aCons (mV 3) aNil))))) (mRet (mC (.bool false))) mNx)))
  (mSeq (mSet 4 (mCb M_L_picture (aCons (mCb M_L_numbers (aCons (mCb M_L_cell (aCons (mV 0) (aCons (mC (.int 0)) aNil))) (aCons (mC (.int 20)) aNil))) aNil)))
  (mSeq (mFor (iS (mLst (aCons (mUn oNeg (mC (.int 1))) (aCons (mC (.int 100)) (aCons (mC (.bool true)) (aCons (mC (.bool false)) (aCons (mC .none) (aCons (mC (.str "1")) (aCons (mTup (aCons (mC (.int 1)) (aCons (mC (.int 1)) aNil))) (aCons (mLst aNil) (aCons (mC (.dict [])) (aCons (mOp oPow (mC (.int 10)) (mC (.int 20))) aNil)))))))))))) (gN 3)
   (mIfS (qNot (qV (mCb M_L_refused (aCons (mV 4) (aCons (mV 3) aNil))))) (mRet (mC (.bool false))) mNx))
  (mRet (mAnd (mIs "tuple" (mCb (okF M_tones_of) (aCons (mV 4) (aCons (mC (.int 0)) aNil)))) (mIs "tuple" (mCb (okF M_tones_of) (aCons (mV 4) (aCons (mC (.int 99)) aNil))))))))))))
noncomputable def M_law : List PyData → Option PyData := fnM 1 7 m_law
end K60
namespace K60
open PySem PySem.Spec PyProof.Rows L2 LB
/-- what the top has left -/
structure Txt (K : PySem.W.Frag) (mg : Str → Option Value) : Prop where
  m_StairError : mg "StairError" = some (.ref (He.ga K "StairError"))
  m_NoText : mg "NoText" = some (.ref (He.ga K "NoText"))
  m_NoNumber : mg "NoNumber" = some (.ref (He.ga K "NoNumber"))
  m_NoCut : mg "NoCut" = some (.ref (He.ga K "NoCut"))
  m_NoPrice : mg "NoPrice" = some (.ref (He.ga K "NoPrice"))
  m_NoStream : mg "NoStream" = some (.ref (He.ga K "NoStream"))
  m_NoName : mg "NoName" = some (.ref (He.ga K "NoName"))
  m_NoFall : mg "NoFall" = some (.ref (He.ga K "NoFall"))
  m_NoShare : mg "NoShare" = some (.ref (He.ga K "NoShare"))
  m_NoPart : mg "NoPart" = some (.ref (He.ga K "NoPart"))
  m_NoTop : mg "NoTop" = some (.ref (He.ga K "NoTop"))
  m_NoPlace : mg "NoPlace" = some (.ref (He.ga K "NoPlace"))
  m_NoTie : mg "NoTie" = some (.ref (He.ga K "NoTie"))
  m_NoUndo : mg "NoUndo" = some (.ref (He.ga K "NoUndo"))
  m_NoWeb : mg "NoWeb" = some (.ref (He.ga K "NoWeb"))
  m_NoRow : mg "NoRow" = some (.ref (He.ga K "NoRow"))
  m_is_whole : mg "is_whole" = some (.ref (He.ga K "is_whole"))
  m_is_between : mg "is_between" = some (.ref (He.ga K "is_between"))
  m_common_divisor : mg "common_divisor" = some (.ref (He.ga K "common_divisor"))
  m_fraction : mg "fraction" = some (.ref (He.ga K "fraction"))
  m_below : mg "below" = some (.ref (He.ga K "below"))
  m_is_rising : mg "is_rising" = some (.ref (He.ga K "is_rising"))
  m_names_of : mg "names_of" = some (.ref (He.ga K "names_of"))
  m_is_choice : mg "is_choice" = some (.ref (He.ga K "is_choice"))
  m_is_cut : mg "is_cut" = some (.ref (He.ga K "is_cut"))
  m_line_of : mg "line_of" = some (.ref (He.ga K "line_of"))
  m_choices_of : mg "choices_of" = some (.ref (He.ga K "choices_of"))
  m_all_cuts : mg "all_cuts" = some (.ref (He.ga K "all_cuts"))
  m_cuts_by_line : mg "cuts_by_line" = some (.ref (He.ga K "cuts_by_line"))
  m_meeting : mg "meeting" = some (.ref (He.ga K "meeting"))
  m_is_met_first : mg "is_met_first" = some (.ref (He.ga K "is_met_first"))
  m_line_behind : mg "line_behind" = some (.ref (He.ga K "line_behind"))
  m_bit_of : mg "bit_of" = some (.ref (He.ga K "bit_of"))
  m_stair_of : mg "stair_of" = some (.ref (He.ga K "stair_of"))
  m_is_picture : mg "is_picture" = some (.ref (He.ga K "is_picture"))
  m_spots_beside : mg "spots_beside" = some (.ref (He.ga K "spots_beside"))
  m_picture_web : mg "picture_web" = some (.ref (He.ga K "picture_web"))
  m_tones_by : mg "tones_by" = some (.ref (He.ga K "tones_by"))
  m_tones_of : mg "tones_of" = some (.ref (He.ga K "tones_of"))
  m_L_cell : mg "_law_cell" = some (.ref (He.ga K "_law_cell"))
  m_L_numbers : mg "_law_numbers" = some (.ref (He.ga K "_law_numbers"))
  m_L_picture : mg "_law_picture" = some (.ref (He.ga K "_law_picture"))
  m_L_due : mg "_law_due" = some (.ref (He.ga K "_law_due"))
  m_L_sign : mg "_law_sign" = some (.ref (He.ga K "_law_sign"))
  m_L_spoilt : mg "_law_spoilt" = some (.ref (He.ga K "_law_spoilt"))
  m_L_refused : mg "_law_refused" = some (.ref (He.ga K "_law_refused"))
  m_law : mg "law" = some (.ref (He.ga K "law"))
  f_ValueError : mg "ValueError" = none
  f_abs : mg "abs" = none
  f_all : mg "all" = none
  f_bool : mg "bool" = none
  f_enumerate : mg "enumerate" = none
  f_int : mg "int" = none
  f_isinstance : mg "isinstance" = none
  f_len : mg "len" = none
  f_list : mg "list" = none
  f_max : mg "max" = none
  f_min : mg "min" = none
  f_range : mg "range" = none
  f_sorted : mg "sorted" = none
  f_str : mg "str" = none
  f_super : mg "super" = none
  f_tuple : mg "tuple" = none
  f_zip : mg "zip" = none
  c_LETTERS : ∃ t, mg "LETTERS" = some (.str "abcdefghijklmnopqrstuvwxyz" t)
  c_FIGURES : ∃ t, mg "FIGURES" = some (.str "0123456789" t)
  k_StairError : PySem.W.keepIn K (.ref (He.ga K "StairError")) = true
  k_NoText : PySem.W.keepIn K (.ref (He.ga K "NoText")) = true
  k_NoNumber : PySem.W.keepIn K (.ref (He.ga K "NoNumber")) = true
  k_NoCut : PySem.W.keepIn K (.ref (He.ga K "NoCut")) = true
  k_NoPrice : PySem.W.keepIn K (.ref (He.ga K "NoPrice")) = true
  k_NoStream : PySem.W.keepIn K (.ref (He.ga K "NoStream")) = true
  k_NoName : PySem.W.keepIn K (.ref (He.ga K "NoName")) = true
  k_NoFall : PySem.W.keepIn K (.ref (He.ga K "NoFall")) = true
  k_NoShare : PySem.W.keepIn K (.ref (He.ga K "NoShare")) = true
  k_NoPart : PySem.W.keepIn K (.ref (He.ga K "NoPart")) = true
  k_NoTop : PySem.W.keepIn K (.ref (He.ga K "NoTop")) = true
  k_NoPlace : PySem.W.keepIn K (.ref (He.ga K "NoPlace")) = true
  k_NoTie : PySem.W.keepIn K (.ref (He.ga K "NoTie")) = true
  k_NoUndo : PySem.W.keepIn K (.ref (He.ga K "NoUndo")) = true
  k_NoWeb : PySem.W.keepIn K (.ref (He.ga K "NoWeb")) = true
  k_NoRow : PySem.W.keepIn K (.ref (He.ga K "NoRow")) = true
  x_NoNumber : PySem.W.excIn K (He.ga K "NoNumber") He.veBase "ValueError.__new__" = true
  b_NoNumber : PySem.W.subIn K (.ref (He.ga K "NoNumber")) (.type "BaseException") = some true
  t_NoNumber : PySem.W.typeIn K (.ref (He.ga K "NoNumber")) = some (.type "type")
  e_NoNumber : PySem.W.exmOne K (.ref (He.ga K "NoNumber")) (.ref (He.ga K "StairError")) = some true
  D_is_whole : Df K mg "is_whole" s_is_whole
  D_is_between : Df K mg "is_between" s_is_between
  D_common_divisor : Df K mg "common_divisor" s_common_divisor
  D_fraction : Df K mg "fraction" s_fraction
  D_below : Df K mg "below" s_below
  D_is_rising : Df K mg "is_rising" s_is_rising
  D_names_of : Df K mg "names_of" s_names_of
  D_is_choice : Df K mg "is_choice" s_is_choice
  D_is_cut : Df K mg "is_cut" s_is_cut
  D_line_of : Df K mg "line_of" s_line_of
  D_choices_of : Df K mg "choices_of" s_choices_of
  D_all_cuts : Df K mg "all_cuts" s_all_cuts
  D_cuts_by_line : Df K mg "cuts_by_line" s_cuts_by_line
  D_meeting : Df K mg "meeting" s_meeting
  D_is_met_first : Df K mg "is_met_first" s_is_met_first
  D_line_behind : Df K mg "line_behind" s_line_behind
  D_bit_of : Df K mg "bit_of" s_bit_of
  D_stair_of : Df K mg "stair_of" s_stair_of
  D_is_picture : Df K mg "is_picture" s_is_picture
  D_spots_beside : Df K mg "spots_beside" s_spots_beside
  D_picture_web : Df K mg "picture_web" s_picture_web
  D_tones_by : Df K mg "tones_by" s_tones_by
  D_tones_of : Df K mg "tones_of" s_tones_of
  D_L_cell : Df K mg "_law_cell" s_L_cell
  D_L_numbers : Df K mg "_law_numbers" s_L_numbers
  D_L_picture : Df K mg "_law_picture" s_L_picture
  D_L_due : Df K mg "_law_due" s_L_due
  D_L_sign : Df K mg "_law_sign" s_L_sign
  D_L_spoilt : Df K mg "_law_spoilt" s_L_spoilt
  D_L_refused : Df K mg "_law_refused" s_L_refused
  D_law : Df K mg "law" s_law
end K60
namespace K60
open PySem PySem.Spec PyProof.Rows L2 LB PM
abbrev gens : List Str := ["is_rising", "names_of", "is_choice", "is_picture", "picture_web", "tones_by"]
abbrev tabs (K : PySem.W.Frag) : Tb := tabsOf K gens
def ex (K : PySem.W.Frag) : Bool := decide ((gens.map fun x => (He.cT K (x, none)).2).Nodup) && (excCB K (He.ga K "NoNumber") && (decide (PySem.W.kitOne K (.ref (He.ga K "NoNumber")) (.type "ValueError") = some true) && (decide (PySem.W.kitOne K (.ref (He.ga K "NoNumber")) (.ref (He.ga K "NoNumber")) = some true) && (decide (PySem.W.kitAny K (.ref (He.ga K "NoNumber")) (refs K ["NoCut", "NoFall", "NoName", "NoPart", "NoPlace", "NoPrice", "NoRow", "NoShare", "NoStream", "NoText"]) = some false) && (decide (PySem.W.kitAny K (.ref (He.ga K "NoNumber")) (refs K ["NoTie", "NoTop", "NoUndo", "NoWeb"]) = some false))))))
structure Ext (K : PySem.W.Frag) : Prop where
  nd : (gens.map fun x => (He.cT K (x, none)).2).Nodup
  ec_NoNumber : ExcC K (He.ga K "NoNumber")
  q_NoNumber_ValueError : PySem.W.kitOne K (.ref (He.ga K "NoNumber")) (.type "ValueError") = some true
  q_NoNumber_NoNumber : PySem.W.kitOne K (.ref (He.ga K "NoNumber")) (.ref (He.ga K "NoNumber")) = some true
  kt0_NoNumber : PySem.W.kitAny K (.ref (He.ga K "NoNumber")) (refs K ["NoCut", "NoFall", "NoName", "NoPart", "NoPlace", "NoPrice", "NoRow", "NoShare", "NoStream", "NoText"]) = some false
  kt1_NoNumber : PySem.W.kitAny K (.ref (He.ga K "NoNumber")) (refs K ["NoTie", "NoTop", "NoUndo", "NoWeb"]) = some false
theorem ext_of {K : PySem.W.Frag} (h : ex K = true) : Ext K := by
  obtain ⟨h0, h⟩ := He.ba h
  obtain ⟨h1, h⟩ := He.ba h
  obtain ⟨h2, h⟩ := He.ba h
  obtain ⟨h3, h⟩ := He.ba h
  obtain ⟨h4, h⟩ := He.ba h
  exact ⟨of_decide_eq_true h0, excCB_ok h1, of_decide_eq_true h2, of_decide_eq_true h3, of_decide_eq_true h4, of_decide_eq_true h⟩
end K60
namespace K60
open PySem PySem.Spec PyProof.Rows L2 LB PM
section
variable {P : Program} {w : World} {K : PySem.W.Frag} {mg : Str → Option Value} {base : Heap}
abbrev N_is_whole : List Str := ["thing"]
theorem sc_is_whole : FnScope N_is_whole ["thing"] (defScope s_is_whole) := ⟨rfl, rfl, rfl, by decide +kernel, rfl, by decide +kernel, by decide +kernel⟩
theorem ok_is_whole (T : Txt K mg) : OwnFn P w K mg base 1 "is_whole" ["thing"] (spM K (tabs K) M_is_whole) := by
  exact own_ok (k := 0) T.D_is_whole sc_is_whole (fun _ _ _ _ _ _ us hl => match us, hl with | [_], _ => rfl) (fun vs H Q E h => spM_len h) (fun cdv A outer s H vs Q E hr h => ⟨_, PSs.nox (show PSs _ _ (tS K (tabs K) m_is_whole) from (pss_one (PM.s_ret (ps_ret (c_andV (pe_and (c_is (pe_callB (call_isK K) (by rfl) T.f_isinstance (by decide +kernel) (pa_cons (c_vw (pv 0)) (pa_cons (pe_bltn (v := .ty "int") rfl T.f_int (by decide +kernel) rfl) pa_nil)))) (pe_one (c_notV (pe_not (c_is (pe_callB (call_isK K) (by rfl) T.f_isinstance (by decide +kernel) (pa_cons (c_vw (pv 0)) (pa_cons (pe_bltn (v := .ty "bool") rfl T.f_bool (by decide +kernel) rfl) pa_nil))))))))))))), spM_in (N := N_is_whole) h⟩)
abbrev N_is_between : List Str := ["thing", "least", "most"]
theorem sc_is_between : FnScope N_is_between ["thing", "least", "most"] (defScope s_is_between) := ⟨rfl, rfl, rfl, by decide +kernel, rfl, by decide +kernel, by decide +kernel⟩
theorem ok_is_between (T : Txt K mg) (F_is_whole : OwnFn P w K mg base 1 "is_whole" ["thing"] (spM K (tabs K) M_is_whole)) : OwnFn P w K mg base 2 "is_between" ["thing", "least", "most"] (spM K (tabs K) M_is_between) := by
  exact own_ok (k := 1) T.D_is_between sc_is_between (fun _ _ _ _ _ _ us hl => match us, hl with | [_, _, _], _ => rfl) (fun vs H Q E h => spM_len h) (fun cdv A outer s H vs Q E hr h => ⟨_, PSs.nox (show PSs _ _ (tS K (tabs K) m_is_between) from (pss_one (PM.s_ret (ps_ret (c_andV (pe_and (c_call (pe_own F_is_whole hr passL (a_cons (pa_cons (c_v (pv 0)) (a_nil pa_nil))))) (pe_one (c_ch od_le od_le (pe_chain op_le op_le (c_vw (pv 1)) (c_vw (pv 0)) (c_vw (pv 2))))))))))), spM_in (N := N_is_between) h⟩)
abbrev N_common_divisor : List Str := ["one", "other"]
theorem sc_common_divisor : FnScope N_common_divisor ["one", "other"] (defScope s_common_divisor) := ⟨rfl, rfl, rfl, by decide +kernel, rfl, by decide +kernel, by decide +kernel⟩
theorem ok_common_divisor (T : Txt K mg) : OwnFn P w K mg base 1 "common_divisor" ["one", "other"] (spM K (tabs K) M_common_divisor) := by
  exact own_ok (k := 0) T.D_common_divisor sc_common_divisor (fun _ _ _ _ _ _ us hl => match us, hl with | [_, _], _ => rfl) (fun vs H Q E h => spM_len h) (fun cdv A outer s H vs Q E hr h => ⟨_, PSs.nox (show PSs _ _ (tS K (tabs K) m_common_divisor) from (PM.s_seq (pss_cons (PM.s_while (ps_while PassesOwn.never (c_opT od_ne (pt_cmpR (op_neK (room_u64 hr)) (c_vw (pv 1)) (c_w (c_c pe_int fun _ => .int _)) (nomark _)))
   (pss_one (PM.s_par (ps_par (i := 0) (j := 1) rfl sc_common_divisor.nd rfl rfl (by decide) rfl rfl (a_cons (pa_cons (c_v (pv 1)) (a_cons (pa_cons (c_op od_mod (pe_op op_modN (c_vw (pv 0)) (c_vw (pv 1)))) (a_nil pa_nil))))) (by rfl))))))
  (pss_one (PM.s_ret (ps_ret (c_cb cb_abs (pe_callB call_abs (by rfl) T.f_abs (by decide +kernel) (a_consw (pa_cons (c_vw (pv 0)) (a_nilw pa_nil))))))))))), spM_in (N := N_common_divisor) h⟩)
abbrev N_fraction : List Str := ["top", "bottom", "divisor"]
theorem sc_fraction : FnScope N_fraction ["top", "bottom"] (defScope s_fraction) := ⟨rfl, rfl, rfl, by decide +kernel, rfl, by decide +kernel, by decide +kernel⟩
theorem ok_fraction (T : Txt K mg) (F_common_divisor : OwnFn P w K mg base 1 "common_divisor" ["one", "other"] (spM K (tabs K) M_common_divisor)) : OwnFn P w K mg base 3 "fraction" ["top", "bottom"] (spM K (tabs K) M_fraction) := by
  exact own_ok (k := 2) T.D_fraction sc_fraction (fun _ _ _ _ _ _ us hl => match us, hl with | [_, _], _ => rfl) (fun vs H Q E h => spM_len h) (fun cdv A outer s H vs Q E hr h => ⟨_, PSs.nox (show PSs _ _ (tS K (tabs K) m_fraction) from (PM.s_seq (pss_cons (PM.s_if (ps_if (c_opT od_eq (pt_cmpR (op_eqK (room_u64 hr)) (c_vw (pv 1)) (c_w (c_c pe_int fun _ => .int _)) (nomark _))) (pss_one s_no) (PM.s_nil pss_nil)))
  (PM.s_seq (pss_cons (PM.s_set (ps_set (i := 2) sc_fraction.nd rfl (by first | exact Or.inl rfl | exact Or.inr rfl) (c_call (pe_own F_common_divisor hr passL (a_cons (pa_cons (c_v (pv 0)) (a_cons (pa_cons (c_v (pv 1)) (a_nil pa_nil)))))))))
  (PM.s_seq (pss_cons (PM.s_if (ps_if (c_opT od_lt (pt_cmpR op_uLt (c_vw (pv 1)) (c_w (c_c pe_int fun _ => .int _)) (nomark _))) (pss_one (PM.s_set (ps_set (i := 2) sc_fraction.nd rfl (by first | exact Or.inl rfl | exact Or.inr rfl) (c_neg (pe_un un_neg (c_v (pv 2))))))) (PM.s_nil pss_nil)))
  (pss_one (PM.s_ret (ps_ret (c_tup (pe_tup (a_cons (pa_cons (c_op od_fdv (pe_op op_fdivG (c_vw (pv 0)) (c_vw (pv 2)))) (a_cons (pa_cons (c_op od_fdv (pe_op op_fdivG (c_vw (pv 1)) (c_vw (pv 2)))) (a_nil pa_nil))))))))))))))))), spM_in (N := N_fraction) h⟩)
abbrev N_below : List Str := ["a", "b"]
theorem sc_below : FnScope N_below ["a", "b"] (defScope s_below) := ⟨rfl, rfl, rfl, by decide +kernel, rfl, by decide +kernel, by decide +kernel⟩
theorem ok_below (T : Txt K mg) : OwnFn P w K mg base 1 "below" ["a", "b"] (spM K (tabs K) M_below) := by
  exact own_ok (k := 0) T.D_below sc_below (fun _ _ _ _ _ _ us hl => match us, hl with | [_, _], _ => rfl) (fun vs H Q E h => spM_len h) (fun cdv A outer s H vs Q E hr h => ⟨_, PSs.nox (show PSs _ _ (tS K (tabs K) m_below) from (pss_one (PM.s_ret (ps_ret (c_op od_lt (pe_cmpR op_uLt (c_w (c_op od_mul (pe_op op_uMul (c_w (c_op od_ix (pe_ix ix_u (c_vw (pv 0)) (c_w (c_c pe_int fun _ => .int _)) (fun _ _ => rfl)))) (c_w (c_op od_ix (pe_ix ix_u (c_vw (pv 1)) (c_w (c_c pe_int fun _ => .int _)) (fun _ _ => rfl))))))) (c_w (c_op od_mul (pe_op op_uMul (c_w (c_op od_ix (pe_ix ix_u (c_vw (pv 1)) (c_w (c_c pe_int fun _ => .int _)) (fun _ _ => rfl)))) (c_w (c_op od_ix (pe_ix ix_u (c_vw (pv 0)) (c_w (c_c pe_int fun _ => .int _)) (fun _ _ => rfl))))))) (nomark _))))))), spM_in (N := N_below) h⟩)
abbrev N_is_rising : List Str := ["row", "ahead", "behind"]
theorem sc_is_rising : FnScope N_is_rising ["row"] (defScope s_is_rising) := ⟨rfl, rfl, rfl, by decide +kernel, rfl, by decide +kernel, by decide +kernel⟩
theorem ok_is_rising (T : Txt K mg) (Y : Ext K) (TB : LamX.TabB base mg (He.cT K ("is_rising", none)).1 (He.cT K ("is_rising", none)).2) : OwnFn P w K mg base 3 "is_rising" ["row"] (spM K (tabs K) M_is_rising) := by
  have hmT : ((He.cT K ("is_rising", none)).2, qOf "is_rising") ∈ tabs K := tab_mem (by decide +kernel)
  have hu : ∀ p ∈ tabs K, p.1 = (He.cT K ("is_rising", none)).2 → p.2 = qOf "is_rising" := tab_uniq Y.nd (by decide +kernel)
  exact own_okC (k := 2) T.D_is_rising sc_is_rising (fun _ _ _ _ _ _ us hl => match us, hl with | [_], _ => rfl) (fun vs H Q E h => spM_len h) (fun cdv A outer s H vs Q E hcd hr h => ⟨_, PSs.nox (show PSs _ _ (tS K (tabs K) m_is_rising) from (pss_one (PM.s_ret (ps_ret (c_ag (by refine GX.pe_allG (k := 0) (T := tabs K) (own := [("ahead", 1), ("behind", 2)]) (hr.mono (by decide)) (by rfl) T.f_all TB hcd hmT hu (GX.gx_by (own := [("ahead", 1), ("behind", 2)]) (N := N_is_rising) (sc := defScope s_is_rising) (by decide +kernel)) sc_is_rising.nd ?_ (fun _ => rfl) ?_ ?_ ?_; exact (c_ih (c_izip (pi_zipK (by rfl) T.f_zip (a_cons (pa_cons (c_v (pv 0)) (a_cons (pa_cons (c_sl (pe_slice sl_u (c_vw (pv 0)) (c_pso (po_some (c_c pe_int fun _ => .int _))) (c_pno po_none))) (a_nil pa_nil)))))))); exact (fun _ _ _ _ _ _ _ _ => (c_gt [1, 2] (pg_tupK rfl (pgs_cons (pg_name (i := 1) sc_is_rising.nd rfl (by first | exact Or.inl rfl | exact Or.inr rfl)) (pgs_cons (pg_name (i := 2) sc_is_rising.nd rfl (by first | exact Or.inl rfl | exact Or.inr rfl)) pgs_nil))))); exact (fun _ _ _ _ _ _ _ _ hr => (q_nil pts_nil)); exact (fun _ _ _ _ _ _ _ _ hr => (c_op od_lt (pe_cmpR op_uLt (c_vw (pv 1)) (c_vw (pv 2)) (nomark _)))))))))), spM_in (N := N_is_rising) h⟩)
abbrev N_names_of : List Str := ["web", "place"]
theorem sc_names_of : FnScope N_names_of ["web"] (defScope s_names_of) := ⟨rfl, rfl, rfl, by decide +kernel, rfl, by decide +kernel, by decide +kernel⟩
theorem ok_names_of (T : Txt K mg) (Y : Ext K) (TB : LamX.TabB base mg (He.cT K ("names_of", none)).1 (He.cT K ("names_of", none)).2) : OwnFn P w K mg base 6 "names_of" ["web"] (spM K (tabs K) M_names_of) := by
  have hmT : ((He.cT K ("names_of", none)).2, qOf "names_of") ∈ tabs K := tab_mem (by decide +kernel)
  have hu : ∀ p ∈ tabs K, p.1 = (He.cT K ("names_of", none)).2 → p.2 = qOf "names_of" := tab_uniq Y.nd (by decide +kernel)
  exact own_okC (k := 5) T.D_names_of sc_names_of (fun _ _ _ _ _ _ us hl => match us, hl with | [_], _ => rfl) (fun vs H Q E h => spM_len h) (fun cdv A outer s H vs Q E hcd hr h => ⟨_, PSs.nox (show PSs _ _ (tS K (tabs K) m_names_of) from (pss_one (PM.s_ret (ps_ret (c_tg (by refine GX.pe_tupG (k := 1) ?_ (hr.mono (by decide)) (by rfl) T.f_tuple; refine GX.pgen_gx (k := 0) (T := tabs K) (own := [("place", 1)]) (hr.mono (by decide)) TB hcd hmT hu (GX.gx_by (own := [("place", 1)]) (N := N_names_of) (sc := defScope s_names_of) (by decide +kernel)) sc_names_of.nd ?_ (fun _ => rfl) ?_ ?_ ?_; exact (c_iseqw (pi_seq (c_w (c_op od_ix (pe_ix ix_u (c_vw (pv 0)) (c_w (c_c pe_int fun _ => .int _)) (fun _ _ => rfl)))))); exact (fun _ _ _ _ _ _ _ _ => (c_gn (pg_name (i := 1) sc_names_of.nd rfl (by first | exact Or.inl rfl | exact Or.inr rfl)))); exact (fun _ _ _ _ _ _ _ _ hr => (q_nil pts_nil)); exact (fun _ _ _ _ _ _ _ _ hr => (c_op od_ix (pe_ix ix_u (c_vw (pv 1)) (c_w (c_c pe_int fun _ => .int _)) (fun _ _ => rfl)))))))))), spM_in (N := N_names_of) h⟩)
abbrev N_is_choice : List Str := ["names", "thing", "name"]
theorem sc_is_choice : FnScope N_is_choice ["names", "thing"] (defScope s_is_choice) := ⟨rfl, rfl, rfl, by decide +kernel, rfl, by decide +kernel, by decide +kernel⟩
theorem ok_is_choice (T : Txt K mg) (Y : Ext K) (TB : LamX.TabB base mg (He.cT K ("is_choice", none)).1 (He.cT K ("is_choice", none)).2) (F_is_rising : OwnFn P w K mg base 3 "is_rising" ["row"] (spM K (tabs K) M_is_rising)) : OwnFn P w K mg base 4 "is_choice" ["names", "thing"] (spM K (tabs K) M_is_choice) := by
  have hmT : ((He.cT K ("is_choice", none)).2, qOf "is_choice") ∈ tabs K := tab_mem (by decide +kernel)
  have hu : ∀ p ∈ tabs K, p.1 = (He.cT K ("is_choice", none)).2 → p.2 = qOf "is_choice" := tab_uniq Y.nd (by decide +kernel)
  exact own_okC (k := 3) T.D_is_choice sc_is_choice (fun _ _ _ _ _ _ us hl => match us, hl with | [_, _], _ => rfl) (fun vs H Q E h => spM_len h) (fun cdv A outer s H vs Q E hcd hr h => ⟨_, PSs.nox (show PSs _ _ (tS K (tabs K) m_is_choice) from (PM.s_seq (pss_cons (PM.s_if (ps_if (c_not (pt_not (c_tv (pt_val (c_is (pe_callB (call_isK K) (by rfl) T.f_isinstance (by decide +kernel) (pa_cons (c_vw (pv 1)) (pa_cons (pe_bltn (v := .ty "tuple") rfl T.f_tuple (by decide +kernel) rfl) pa_nil)))))))) (pss_one (PM.s_ret (ps_ret (c_c pe_bl fun _ => .bl _)))) (PM.s_nil pss_nil)))
  (pss_one (PM.s_ret (ps_ret (c_andV (pe_and (c_ag (by refine GX.pe_allG (k := 0) (T := tabs K) (own := [("name", 2)]) (hr.mono (by decide)) (by rfl) T.f_all TB hcd hmT hu (GX.gx_by (own := [("name", 2)]) (N := N_is_choice) (sc := defScope s_is_choice) (by decide +kernel)) sc_is_choice.nd ?_ (fun _ => rfl) ?_ ?_ ?_; exact (c_iseqw (pi_seq (c_vw (pv 1)))); exact (fun _ _ _ _ _ _ _ _ => (c_gn (pg_name (i := 2) sc_is_choice.nd rfl (by first | exact Or.inl rfl | exact Or.inr rfl)))); exact (fun _ _ _ _ _ _ _ _ hr => (q_nil pts_nil)); exact (fun _ _ _ _ _ _ _ _ hr => (c_andV (pe_and (c_is (pe_callB (call_isK K) (by rfl) T.f_isinstance (by decide +kernel) (pa_cons (c_vw (pv 2)) (pa_cons (pe_bltn (v := .ty "str") rfl T.f_str (by decide +kernel) rfl) pa_nil)))) (pe_one (c_op od_in (pe_cmpR (op_inK K) (c_vw (pv 2)) (c_vw (pv 0)) (by rfl))))))))) (pe_one (c_call (pe_own F_is_rising hr passL (a_cons (pa_cons (c_v (pv 1)) (a_nil pa_nil)))))))))))))), spM_in (N := N_is_choice) h⟩)
abbrev N_is_cut : List Str := ["web", "thing"]
theorem sc_is_cut : FnScope N_is_cut ["web", "thing"] (defScope s_is_cut) := ⟨rfl, rfl, rfl, by decide +kernel, rfl, by decide +kernel, by decide +kernel⟩
theorem ok_is_cut (T : Txt K mg) (F_names_of : OwnFn P w K mg base 6 "names_of" ["web"] (spM K (tabs K) M_names_of)) (F_is_choice : OwnFn P w K mg base 4 "is_choice" ["names", "thing"] (spM K (tabs K) M_is_choice)) : OwnFn P w K mg base 7 "is_cut" ["web", "thing"] (spM K (tabs K) M_is_cut) := by
  exact own_ok (k := 6) T.D_is_cut sc_is_cut (fun _ _ _ _ _ _ us hl => match us, hl with | [_, _], _ => rfl) (fun vs H Q E h => spM_len h) (fun cdv A outer s H vs Q E hr h => ⟨_, PSs.nox (show PSs _ _ (tS K (tabs K) m_is_cut) from (pss_one (PM.s_ret (ps_ret (c_call (pe_own F_is_choice hr passL (a_cons (pa_cons (c_call (pe_own F_names_of hr passL (a_cons (pa_cons (c_v (pv 0)) (a_nil pa_nil))))) (a_cons (pa_cons (c_v (pv 1)) (a_nil pa_nil))))))))))), spM_in (N := N_is_cut) h⟩)
abbrev N_line_of : List Str := ["web", "cut", "base", "lean", "name", "a", "b", "c", "d", "one", "other", "size"]
theorem sc_line_of : FnScope N_line_of ["web", "cut"] (defScope s_line_of) := ⟨rfl, rfl, rfl, by decide +kernel, rfl, by decide +kernel, by decide +kernel⟩
theorem ok_line_of (T : Txt K mg) (F_is_cut : OwnFn P w K mg base 7 "is_cut" ["web", "thing"] (spM K (tabs K) M_is_cut)) : OwnFn P w K mg base 8 "line_of" ["web", "cut"] (spM K (tabs K) M_line_of) := by
  exact own_ok (k := 7) T.D_line_of sc_line_of (fun _ _ _ _ _ _ us hl => match us, hl with | [_, _], _ => rfl) (fun vs H Q E h => spM_len h) (fun cdv A outer s H vs Q E hr h => ⟨_, PSs.nox (show PSs _ _ (tS K (tabs K) m_line_of) from (PM.s_seq (pss_cons (PM.s_if (ps_if (c_not (pt_not (c_tv (pt_val (c_call (pe_own F_is_cut hr passL (a_cons (pa_cons (c_v (pv 0)) (a_cons (pa_cons (c_v (pv 1)) (a_nil pa_nil))))))))))) (pss_one s_no) (PM.s_nil pss_nil)))
  (PM.s_seq (pss_cons (PM.s_set (ps_set (i := 2) sc_line_of.nd rfl (by first | exact Or.inl rfl | exact Or.inr rfl) (c_c pe_int fun _ => .int _)))
  (PM.s_seq (pss_cons (PM.s_set (ps_set (i := 3) sc_line_of.nd rfl (by first | exact Or.inl rfl | exact Or.inr rfl) (c_c pe_int fun _ => .int _)))
  (PM.s_seq (pss_cons (PM.s_for (ps_for PassesOwn.never rfl (c_iseq (pi_seq (c_op od_ix (pe_ix ix_u (c_vw (pv 0)) (c_w (c_c pe_int fun _ => .int _)) (fun _ _ => rfl))))) (c_gt [4, 5, 6, 7, 8] (pg_tupK rfl (pgs_cons (pg_name (i := 4) sc_line_of.nd rfl (by first | exact Or.inl rfl | exact Or.inr rfl)) (pgs_cons (pg_name (i := 5) sc_line_of.nd rfl (by first | exact Or.inl rfl | exact Or.inr rfl)) (pgs_cons (pg_name (i := 6) sc_line_of.nd rfl (by first | exact Or.inl rfl | exact Or.inr rfl)) (pgs_cons (pg_name (i := 7) sc_line_of.nd rfl (by first | exact Or.inl rfl | exact Or.inr rfl)) (pgs_cons (pg_name (i := 8) sc_line_of.nd rfl (by first | exact Or.inl rfl | exact Or.inr rfl)) pgs_nil)))))))
   (pss_one (PM.s_if (ps_if (c_opT od_in (pt_cmpR (op_inK K) (c_vw (pv 4)) (c_vw (pv 1)) (by rfl))) (PM.s_seq (pss_cons (PM.s_aug od_iadd (ps_aug (i := 2) sc_line_of.nd rfl (Or.inl rfl) (c_vw (pv 7)) ip_add))
  (pss_one (PM.s_aug od_isub (ps_aug (i := 3) sc_line_of.nd rfl (Or.inl rfl) (c_vw (pv 8)) ip_sub))))) (PM.s_seq (pss_cons (PM.s_aug od_iadd (ps_aug (i := 2) sc_line_of.nd rfl (Or.inl rfl) (c_vw (pv 5)) ip_add))
  (pss_one (PM.s_aug od_iadd (ps_aug (i := 3) sc_line_of.nd rfl (Or.inl rfl) (c_vw (pv 6)) ip_add))))))))))
  (PM.s_seq (pss_cons (PM.s_for (ps_for PassesOwn.never rfl (c_iseq (pi_seq (c_op od_ix (pe_ix ix_u (c_vw (pv 0)) (c_w (c_c pe_int fun _ => .int _)) (fun _ _ => rfl))))) (c_gt [9, 10, 11] (pg_tupK rfl (pgs_cons (pg_name (i := 9) sc_line_of.nd rfl (by first | exact Or.inl rfl | exact Or.inr rfl)) (pgs_cons (pg_name (i := 10) sc_line_of.nd rfl (by first | exact Or.inl rfl | exact Or.inr rfl)) (pgs_cons (pg_name (i := 11) sc_line_of.nd rfl (by first | exact Or.inl rfl | exact Or.inr rfl)) pgs_nil)))))
   (pss_one (PM.s_if (ps_if (PW.pt (c_and (pw_and (c_opT od_in (pt_cmpR (op_inK K) (c_vw (pv 9)) (c_vw (pv 1)) (by rfl))) (pw_and1 (c_opT od_nin (pt_cmpR (op_notInK K) (c_vw (pv 10)) (c_vw (pv 1)) (by rfl))))))) (pss_one (PM.s_aug od_iadd (ps_aug (i := 2) sc_line_of.nd rfl (Or.inl rfl) (c_vw (pv 11)) ip_add))) (PM.s_nil pss_nil))))))
  (pss_one (PM.s_ret (ps_ret (c_tup (pe_tup (a_cons (pa_cons (c_v (pv 2)) (a_cons (pa_cons (c_v (pv 3)) (a_nil pa_nil))))))))))))))))))))), spM_in (N := N_line_of) h⟩)
abbrev N_choices_of : List Str := ["things", "choices", "thing", "choice"]
theorem sc_choices_of : FnScope N_choices_of ["things"] (defScope s_choices_of) := ⟨rfl, rfl, rfl, by decide +kernel, rfl, by decide +kernel, by decide +kernel⟩
theorem ok_choices_of (T : Txt K mg) : OwnFn P w K mg base 1 "choices_of" ["things"] (spM K (tabs K) M_choices_of) := by
  exact own_ok (k := 0) T.D_choices_of sc_choices_of (fun _ _ _ _ _ _ us hl => match us, hl with | [_], _ => rfl) (fun vs H Q E h => spM_len h) (fun cdv A outer s H vs Q E hr h => ⟨_, PSs.nox (show PSs _ _ (tS K (tabs K) m_choices_of) from (PM.s_seq (pss_cons (PM.s_set (ps_set (i := 1) sc_choices_of.nd rfl (by first | exact Or.inl rfl | exact Or.inr rfl) (c_f (c_lst (pe_lst (a_cons (pa_cons (c_tup (pe_tup (a_nil pa_nil))) (a_nil pa_nil))))) mLst_is)))
  (PM.s_seq (pss_cons (PM.s_for (ps_for PassesOwn.never rfl (c_iseq (pi_seq (c_v (pv 0)))) (c_gn (pg_name (i := 2) sc_choices_of.nd rfl (by first | exact Or.inl rfl | exact Or.inr rfl)))
   (pss_one (PM.s_set (ps_set (i := 1) sc_choices_of.nd rfl (by first | exact Or.inl rfl | exact Or.inr rfl) (c_op od_add (pe_op op_uAdd (c_vw (pv 1)) (c_fw (c_lc (pe_lc (own := [("choice", 3)]) (by rfl) sc_choices_of.nd (c_iseqw (pi_seq (c_vw (pv 1)))) (blkOk_by (own := [("choice", 3)]) (N := N_choices_of) (sc := defScope s_choices_of) (by decide +kernel)) (fun _ _ _ _ _ => (c_gn (pg_name (i := 3) sc_choices_of.nd rfl (by first | exact Or.inl rfl | exact Or.inr rfl)))) (fun _ _ _ _ _ => (q_nil pts_nil)) (fun _ _ _ _ _ => (c_tup (pe_tup (a_star (pa_starK K (c_vw (pv 3)) (a_cons (pa_cons (c_v (pv 2)) (a_nil pa_nil))))))))))))))))))
  (pss_one (PM.s_ret (ps_ret (c_v (pv 1)))))))))), spM_in (N := N_choices_of) h⟩)
abbrev N_all_cuts : List Str := ["web"]
theorem sc_all_cuts : FnScope N_all_cuts ["web"] (defScope s_all_cuts) := ⟨rfl, rfl, rfl, by decide +kernel, rfl, by decide +kernel, by decide +kernel⟩
theorem ok_all_cuts (T : Txt K mg) (F_names_of : OwnFn P w K mg base 6 "names_of" ["web"] (spM K (tabs K) M_names_of)) (F_choices_of : OwnFn P w K mg base 1 "choices_of" ["things"] (spM K (tabs K) M_choices_of)) : OwnFn P w K mg base 7 "all_cuts" ["web"] (spM K (tabs K) M_all_cuts) := by
  exact own_ok (k := 6) T.D_all_cuts sc_all_cuts (fun _ _ _ _ _ _ us hl => match us, hl with | [_], _ => rfl) (fun vs H Q E h => spM_len h) (fun cdv A outer s H vs Q E hr h => ⟨_, PSs.nox (show PSs _ _ (tS K (tabs K) m_all_cuts) from (pss_one (PM.s_ret (ps_ret (c_f (c_cbF cb_sorted (pe_callB (cr_sortM (room_u64 hr)) (by rfl) T.f_sorted (by decide +kernel) (a_consw (pa_cons (c_w (c_call (pe_own F_choices_of hr passL (a_cons (pa_cons (c_call (pe_own F_names_of hr passL (a_cons (pa_cons (c_v (pv 0)) (a_nil pa_nil))))) (a_nil pa_nil)))))) (a_nilw pa_nil))))) mSorted_is))))), spM_in (N := N_all_cuts) h⟩)
abbrev N_cuts_by_line : List Str := ["web", "cuts", "cut", "line"]
theorem sc_cuts_by_line : FnScope N_cuts_by_line ["web"] (defScope s_cuts_by_line) := ⟨rfl, rfl, rfl, by decide +kernel, rfl, by decide +kernel, by decide +kernel⟩
theorem ok_cuts_by_line (T : Txt K mg) (F_all_cuts : OwnFn P w K mg base 7 "all_cuts" ["web"] (spM K (tabs K) M_all_cuts)) (F_line_of : OwnFn P w K mg base 8 "line_of" ["web", "cut"] (spM K (tabs K) M_line_of)) : OwnFn P w K mg base 9 "cuts_by_line" ["web"] (spM K (tabs K) M_cuts_by_line) := by
  exact own_ok (k := 8) T.D_cuts_by_line sc_cuts_by_line (fun _ _ _ _ _ _ us hl => match us, hl with | [_], _ => rfl) (fun vs H Q E h => spM_len h) (fun cdv A outer s H vs Q E hr h => ⟨_, PSs.nox (show PSs _ _ (tS K (tabs K) m_cuts_by_line) from (PM.s_seq (pss_cons (PM.s_setO (ps_set (i := 1) sc_cuts_by_line.nd rfl (by first | exact Or.inl rfl | exact Or.inr rfl) (c_dnew pe_dnewT)))
  (PM.s_seq (pss_cons (PM.s_gather (by decide) (by decide) (by decide) (ps_frz (ps_for PassesOwn.never rfl (c_iseq (pi_seq (c_call (pe_own F_all_cuts hr passL (a_cons (pa_cons (c_v (pv 0)) (a_nil pa_nil))))))) (c_gn (pg_name (i := 2) sc_cuts_by_line.nd rfl (by first | exact Or.inl rfl | exact Or.inr rfl)))
   (pss_cons (ps_asg (c_call (pe_own F_line_of hr passL (a_cons (pa_cons (c_v (pv 0)) (a_cons (pa_cons (c_v (pv 2)) (a_nil pa_nil))))))) (pg_name (i := 3) sc_cuts_by_line.nd rfl (by first | exact Or.inl rfl | exact Or.inr rfl))) (pss_cons (ps_if (pt_cmp (pc_dnotin (room_u hr) (pv 3) (pv 1))) (pss_cons (ps_dput (room_u hr) (pv 1) (pv 3) (pe_lst pa_nil) (by rfl)) pss_nil) pss_nil) (pss_cons (ps_expr (pe_bm PySem.F.plainAttrs_list PySem.F.slot_list_append PySem.F.type_list_append mt_append (pe_dget (room_u hr) (pv 1) (pv 3) (fun _ _ => rfl)) (pa_cons (pv 2) pa_nil))) pss_nil))))))
  (pss_one (PM.s_ret (ps_ret (c_v (pv 1)))))))))), spM_in (N := N_cuts_by_line) h⟩)
abbrev N_meeting : List Str := ["line", "other"]
theorem sc_meeting : FnScope N_meeting ["line", "other"] (defScope s_meeting) := ⟨rfl, rfl, rfl, by decide +kernel, rfl, by decide +kernel, by decide +kernel⟩
theorem ok_meeting (T : Txt K mg) (F_fraction : OwnFn P w K mg base 3 "fraction" ["top", "bottom"] (spM K (tabs K) M_fraction)) : OwnFn P w K mg base 4 "meeting" ["line", "other"] (spM K (tabs K) M_meeting) := by
  exact own_ok (k := 3) T.D_meeting sc_meeting (fun _ _ _ _ _ _ us hl => match us, hl with | [_, _], _ => rfl) (fun vs H Q E h => spM_len h) (fun cdv A outer s H vs Q E hr h => ⟨_, PSs.nox (show PSs _ _ (tS K (tabs K) m_meeting) from (pss_one (PM.s_ret (ps_ret (c_call (pe_own F_fraction hr passL (a_cons (pa_cons (c_op od_sub (pe_op op_sub (c_w (c_op od_ix (pe_ix ix_u (c_vw (pv 1)) (c_w (c_c pe_int fun _ => .int _)) (fun _ _ => rfl)))) (c_w (c_op od_ix (pe_ix ix_u (c_vw (pv 0)) (c_w (c_c pe_int fun _ => .int _)) (fun _ _ => rfl)))))) (a_cons (pa_cons (c_op od_sub (pe_op op_sub (c_w (c_op od_ix (pe_ix ix_u (c_vw (pv 0)) (c_w (c_c pe_int fun _ => .int _)) (fun _ _ => rfl)))) (c_w (c_op od_ix (pe_ix ix_u (c_vw (pv 1)) (c_w (c_c pe_int fun _ => .int _)) (fun _ _ => rfl)))))) (a_nil pa_nil))))))))))), spM_in (N := N_meeting) h⟩)
abbrev N_is_met_first : List Str := ["line", "one", "other", "at", "limit"]
theorem sc_is_met_first : FnScope N_is_met_first ["line", "one", "other"] (defScope s_is_met_first) := ⟨rfl, rfl, rfl, by decide +kernel, rfl, by decide +kernel, by decide +kernel⟩
theorem ok_is_met_first (T : Txt K mg) (F_meeting : OwnFn P w K mg base 4 "meeting" ["line", "other"] (spM K (tabs K) M_meeting)) (F_below : OwnFn P w K mg base 1 "below" ["a", "b"] (spM K (tabs K) M_below)) : OwnFn P w K mg base 5 "is_met_first" ["line", "one", "other"] (spM K (tabs K) M_is_met_first) := by
  exact own_ok (k := 4) T.D_is_met_first sc_is_met_first (fun _ _ _ _ _ _ us hl => match us, hl with | [_, _, _], _ => rfl) (fun vs H Q E h => spM_len h) (fun cdv A outer s H vs Q E hr h => ⟨_, PSs.nox (show PSs _ _ (tS K (tabs K) m_is_met_first) from (PM.s_seq (pss_cons (PM.s_set (ps_set (i := 3) sc_is_met_first.nd rfl (by first | exact Or.inl rfl | exact Or.inr rfl) (c_call (pe_own F_meeting hr passL (a_cons (pa_cons (c_v (pv 0)) (a_cons (pa_cons (c_v (pv 1)) (a_nil pa_nil)))))))))
  (PM.s_seq (pss_cons (PM.s_set (ps_set (i := 4) sc_is_met_first.nd rfl (by first | exact Or.inl rfl | exact Or.inr rfl) (c_call (pe_own F_meeting hr passL (a_cons (pa_cons (c_v (pv 0)) (a_cons (pa_cons (c_v (pv 2)) (a_nil pa_nil)))))))))
  (pss_one (PM.s_ret (ps_ret (c_orV (pe_or (c_call (pe_own F_below hr passL (a_cons (pa_cons (c_v (pv 3)) (a_cons (pa_cons (c_v (pv 4)) (a_nil pa_nil))))))) (pe_one (c_andV (pe_and (c_op od_eq (pe_cmpR (op_eqK (room_u64 hr)) (c_vw (pv 3)) (c_vw (pv 4)) (nomark _))) (pe_one (c_op od_lt (pe_cmpR op_uLt (c_w (c_op od_ix (pe_ix ix_u (c_vw (pv 1)) (c_w (c_c pe_int fun _ => .int _)) (fun _ _ => rfl)))) (c_w (c_op od_ix (pe_ix ix_u (c_vw (pv 2)) (c_w (c_c pe_int fun _ => .int _)) (fun _ _ => rfl)))) (nomark _))))))))))))))))), spM_in (N := N_is_met_first) h⟩)
abbrev N_line_behind : List Str := ["lines", "line", "first", "other"]
theorem sc_line_behind : FnScope N_line_behind ["lines", "line"] (defScope s_line_behind) := ⟨rfl, rfl, rfl, by decide +kernel, rfl, by decide +kernel, by decide +kernel⟩
theorem ok_line_behind (T : Txt K mg) (F_is_met_first : OwnFn P w K mg base 5 "is_met_first" ["line", "one", "other"] (spM K (tabs K) M_is_met_first)) : OwnFn P w K mg base 6 "line_behind" ["lines", "line"] (spM K (tabs K) M_line_behind) := by
  exact own_ok (k := 5) T.D_line_behind sc_line_behind (fun _ _ _ _ _ _ us hl => match us, hl with | [_, _], _ => rfl) (fun vs H Q E h => spM_len h) (fun cdv A outer s H vs Q E hr h => ⟨_, PSs.nox (show PSs _ _ (tS K (tabs K) m_line_behind) from (PM.s_seq (pss_cons (PM.s_set (ps_set (i := 2) sc_line_behind.nd rfl (by first | exact Or.inl rfl | exact Or.inr rfl) (c_c pe_non fun _ => .non)))
  (PM.s_seq (pss_cons (PM.s_for (ps_for PassesOwn.never rfl (c_iseq (pi_seq (c_v (pv 0)))) (c_gn (pg_name (i := 3) sc_line_behind.nd rfl (by first | exact Or.inl rfl | exact Or.inr rfl)))
   (pss_one (PM.s_if (ps_if (PW.pt (c_and (pw_and (c_opT od_lt (pt_cmpR op_uLt (c_w (c_op od_ix (pe_ix ix_u (c_vw (pv 3)) (c_w (c_c pe_int fun _ => .int _)) (fun _ _ => rfl)))) (c_w (c_op od_ix (pe_ix ix_u (c_vw (pv 1)) (c_w (c_c pe_int fun _ => .int _)) (fun _ _ => rfl)))) (nomark _))) (pw_and1 (PW.pt (c_or (pw_or (c_opT od_isNo (pt_cmpR op_isN (c_vw (pv 2)) (c_w (c_c pe_non fun _ => .non)) (nomark _))) (pw_or1 (c_tv (pt_val (c_call (pe_own F_is_met_first hr passL (a_cons (pa_cons (c_v (pv 1)) (a_cons (pa_cons (c_v (pv 3)) (a_cons (pa_cons (c_v (pv 2)) (a_nil pa_nil))))))))))))))))))) (pss_one (PM.s_set (ps_set (i := 2) sc_line_behind.nd rfl (by first | exact Or.inl rfl | exact Or.inr rfl) (c_v (pv 3))))) (PM.s_nil pss_nil))))))
  (pss_one (PM.s_ret (ps_ret (c_v (pv 2)))))))))), spM_in (N := N_line_behind) h⟩)
abbrev N_bit_of : List Str := ["cuts", "line"]
theorem sc_bit_of : FnScope N_bit_of ["cuts", "line"] (defScope s_bit_of) := ⟨rfl, rfl, rfl, by decide +kernel, rfl, by decide +kernel, by decide +kernel⟩
theorem ok_bit_of (T : Txt K mg) : OwnFn P w K mg base 1 "bit_of" ["cuts", "line"] (spM K (tabs K) M_bit_of) := by
  exact own_ok (k := 0) T.D_bit_of sc_bit_of (fun _ _ _ _ _ _ us hl => match us, hl with | [_, _], _ => rfl) (fun vs H Q E h => spM_len h) (fun cdv A outer s H vs Q E hr h => ⟨_, PSs.nox (show PSs _ _ (tS K (tabs K) m_bit_of) from (pss_one (PM.s_ret (ps_ret (c_tup (pe_tup (a_cons (pa_cons (c_best (pe_minLen rfl (by rfl) T.f_min (by rfl) T.f_len (a_consw (pa_cons (c_vw (pv 0)) (a_nilw pa_nil))))) (a_cons (pa_cons (c_best (pe_maxLen rfl (by rfl) T.f_max (by rfl) T.f_len (a_consw (pa_cons (c_vw (pv 0)) (a_nilw pa_nil))))) (a_cons (pa_cons (c_op od_ix (pe_ix ix_u (c_vw (pv 1)) (c_w (c_c pe_int fun _ => .int _)) (fun _ _ => rfl))) (a_cons (pa_cons (c_op od_ix (pe_ix ix_u (c_vw (pv 1)) (c_w (c_c pe_int fun _ => .int _)) (fun _ _ => rfl))) (a_nil pa_nil))))))))))))))), spM_in (N := N_bit_of) h⟩)
abbrev N_stair_of : List Str := ["web", "cuts", "lines", "top", "line", "bits", "breaks", "behind"]
theorem sc_stair_of : FnScope N_stair_of ["web"] (defScope s_stair_of) := ⟨rfl, rfl, rfl, by decide +kernel, rfl, by decide +kernel, by decide +kernel⟩
theorem ok_stair_of (T : Txt K mg) (F_cuts_by_line : OwnFn P w K mg base 9 "cuts_by_line" ["web"] (spM K (tabs K) M_cuts_by_line)) (F_fraction : OwnFn P w K mg base 3 "fraction" ["top", "bottom"] (spM K (tabs K) M_fraction)) (F_bit_of : OwnFn P w K mg base 1 "bit_of" ["cuts", "line"] (spM K (tabs K) M_bit_of)) (F_line_behind : OwnFn P w K mg base 6 "line_behind" ["lines", "line"] (spM K (tabs K) M_line_behind)) (F_meeting : OwnFn P w K mg base 4 "meeting" ["line", "other"] (spM K (tabs K) M_meeting)) (F_below : OwnFn P w K mg base 1 "below" ["a", "b"] (spM K (tabs K) M_below)) : OwnFn P w K mg base 10 "stair_of" ["web"] (spM K (tabs K) M_stair_of) := by
  exact own_ok (k := 9) T.D_stair_of sc_stair_of (fun _ _ _ _ _ _ us hl => match us, hl with | [_], _ => rfl) (fun vs H Q E h => spM_len h) (fun cdv A outer s H vs Q E hr h => ⟨_, PSs.nox (show PSs _ _ (tS K (tabs K) m_stair_of) from (PM.s_seq (pss_cons (PM.s_set (ps_set (i := 1) sc_stair_of.nd rfl (by first | exact Or.inl rfl | exact Or.inr rfl) (c_call (pe_own F_cuts_by_line hr passL (a_cons (pa_cons (c_v (pv 0)) (a_nil pa_nil)))))))
  (PM.s_seq (pss_cons (PM.s_set (ps_set (i := 2) sc_stair_of.nd rfl (by first | exact Or.inl rfl | exact Or.inr rfl) (c_f (c_cbF cb_keysT (pe_callTy (call_list_dT rfl) (by rfl) T.f_list (by decide +kernel) (a_consw (pa_cons (c_vw (pv 1)) (a_nilw pa_nil))))) mKeysT_is)))
  (PM.s_seq (pss_cons (PM.s_set (ps_set (i := 3) sc_stair_of.nd rfl (by first | exact Or.inl rfl | exact Or.inr rfl) (c_call (pe_own F_fraction hr passL (a_cons (pa_cons (c_op od_ix (pe_ix ix_u (c_vw (pv 0)) (c_w (c_c pe_int fun _ => .int _)) (fun _ _ => rfl))) (a_cons (pa_cons (c_c pe_int fun _ => .int _) (a_nil pa_nil)))))))))
  (PM.s_seq (pss_cons (PM.s_set (ps_set (i := 4) sc_stair_of.nd rfl (by first | exact Or.inl rfl | exact Or.inr rfl) (c_cb cb_minL (pe_callB (cr_minL rfl (room_u64 hr)) (by rfl) T.f_min (by decide +kernel) (a_consw (pa_cons (c_vw (pv 2)) (a_nilw pa_nil)))))))
  (PM.s_seq (pss_cons (PM.s_setO (ps_set (i := 5) sc_stair_of.nd rfl (by first | exact Or.inl rfl | exact Or.inr rfl) (c_lst (pe_lst (a_cons (pa_cons (c_call (pe_own F_bit_of hr passL (a_cons (pa_cons (c_dgetT (pe_dget (room_u hr) (c_v (pv 1)) (c_v (pv 4)) (fun _ _ => rfl))) (a_cons (pa_cons (c_v (pv 4)) (a_nil pa_nil))))))) (a_nil pa_nil)))))))
  (PM.s_seq (pss_cons (PM.s_setO (ps_set (i := 6) sc_stair_of.nd rfl (by first | exact Or.inl rfl | exact Or.inr rfl) (c_lst (pe_lst (a_nil pa_nil)))))
  (PM.s_seq (pss_cons (PM.s_set (ps_set (i := 7) sc_stair_of.nd rfl (by first | exact Or.inl rfl | exact Or.inr rfl) (c_call (pe_own F_line_behind hr passL (a_cons (pa_cons (c_v (pv 2)) (a_cons (pa_cons (c_v (pv 4)) (a_nil pa_nil)))))))))
  (PM.s_seq (pss_cons (PM.s_while (ps_while PassesOwn.never (PW.pt (c_and (pw_and (c_opT od_notNo (pt_cmpR op_notN (c_vw (pv 7)) (c_w (c_c pe_non fun _ => .non)) (nomark _))) (pw_and1 (c_tv (pt_val (c_call (pe_own F_below hr passL (a_cons (pa_cons (c_call (pe_own F_meeting hr passL (a_cons (pa_cons (c_v (pv 4)) (a_cons (pa_cons (c_v (pv 7)) (a_nil pa_nil))))))) (a_cons (pa_cons (c_v (pv 3)) (a_nil pa_nil)))))))))))))
   (PM.s_seq (pss_cons (PM.s_app (ps_expr (pe_bm PySem.F.plainAttrs_list PySem.F.slot_list_append PySem.F.type_list_append mt_append (pv 6) (pa_cons (c_call (pe_own F_meeting hr passL (a_cons (pa_cons (c_v (pv 4)) (a_cons (pa_cons (c_v (pv 7)) (a_nil pa_nil))))))) pa_nil))))
  (PM.s_seq (pss_cons (PM.s_app (ps_expr (pe_bm PySem.F.plainAttrs_list PySem.F.slot_list_append PySem.F.type_list_append mt_append (pv 5) (pa_cons (c_call (pe_own F_bit_of hr passL (a_cons (pa_cons (c_dgetT (pe_dget (room_u hr) (c_v (pv 1)) (c_v (pv 7)) (fun _ _ => rfl))) (a_cons (pa_cons (c_v (pv 7)) (a_nil pa_nil))))))) pa_nil))))
  (PM.s_seq (pss_cons (PM.s_set (ps_set (i := 4) sc_stair_of.nd rfl (by first | exact Or.inl rfl | exact Or.inr rfl) (c_v (pv 7))))
  (pss_one (PM.s_set (ps_set (i := 7) sc_stair_of.nd rfl (by first | exact Or.inl rfl | exact Or.inr rfl) (c_call (pe_own F_line_behind hr passL (a_cons (pa_cons (c_v (pv 2)) (a_cons (pa_cons (c_v (pv 4)) (a_nil pa_nil))))))))))))))))))
  (pss_one (PM.s_rel 6 (PM.s_rel 5 (PM.s_ret (ps_ret (c_tup (pe_tup (a_cons (pa_cons (c_v (pv 5)) (a_cons (pa_cons (c_v (pv 6)) (a_nil pa_nil))))))))))))))))))))))))))))), spM_in (N := N_stair_of) h⟩)
abbrev N_is_picture : List Str := ["thing", "figures", "row", "sign"]
theorem sc_is_picture : FnScope N_is_picture ["thing"] (defScope s_is_picture) := ⟨rfl, rfl, rfl, by decide +kernel, rfl, by decide +kernel, by decide +kernel⟩
theorem ok_is_picture (T : Txt K mg) (Y : Ext K) (TB : LamX.TabB base mg (He.cT K ("is_picture", none)).1 (He.cT K ("is_picture", none)).2) : OwnFn P w K mg base 3 "is_picture" ["thing"] (spM K (tabs K) M_is_picture) := by
  have hmT : ((He.cT K ("is_picture", none)).2, qOf "is_picture") ∈ tabs K := tab_mem (by decide +kernel)
  have hu : ∀ p ∈ tabs K, p.1 = (He.cT K ("is_picture", none)).2 → p.2 = qOf "is_picture" := tab_uniq Y.nd (by decide +kernel)
  exact own_okC (k := 2) T.D_is_picture sc_is_picture (fun _ _ _ _ _ _ us hl => match us, hl with | [_], _ => rfl) (fun vs H Q E h => spM_len h) (fun cdv A outer s H vs Q E hcd hr h => ⟨_, PSs.nox (show PSs _ _ (tS K (tabs K) m_is_picture) from (PM.s_seq (pss_cons (PM.s_if (ps_if (c_not (pt_not (PW.pt (c_and (pw_and (c_tv (pt_val (c_is (pe_callB (call_isK K) (by rfl) T.f_isinstance (by decide +kernel) (pa_cons (c_vw (pv 0)) (pa_cons (pe_bltn (v := .ty "tuple") rfl T.f_tuple (by decide +kernel) rfl) pa_nil)))))) (pw_and1 (c_tv (pt_val (c_ag (by refine GX.pe_allG (k := 0) (T := tabs K) (own := [("row", 2)]) (hr.mono (by decide)) (by rfl) T.f_all TB hcd hmT hu (GX.gx_by (own := [("row", 2)]) (N := N_is_picture) (sc := defScope s_is_picture) (by decide +kernel)) sc_is_picture.nd ?_ (fun _ => rfl) ?_ ?_ ?_; exact (c_iseqw (pi_seq (c_vw (pv 0)))); exact (fun _ _ _ _ _ _ _ _ => (c_gn (pg_name (i := 2) sc_is_picture.nd rfl (by first | exact Or.inl rfl | exact Or.inr rfl)))); exact (fun _ _ _ _ _ _ _ _ hr => (q_nil pts_nil)); exact (fun _ _ _ _ _ _ _ _ hr => (c_is (pe_callB (call_isK K) (by rfl) T.f_isinstance (by decide +kernel) (pa_cons (c_vw (pv 2)) (pa_cons (pe_bltn (v := .ty "str") rfl T.f_str (by decide +kernel) rfl) pa_nil))))))))))))))) (pss_one (PM.s_ret (ps_ret (c_c pe_bl fun _ => .bl _)))) (PM.s_nil pss_nil)))
  (PM.s_seq (pss_cons (PM.s_set (ps_set (i := 1) sc_is_picture.nd rfl (by first | exact Or.inl rfl | exact Or.inr rfl) (c_join (pe_join (c_c pe_str fun _ => .str _) (c_vw (pv 0))))))
  (PM.s_seq (pss_cons (PM.s_if (ps_if (c_not (pt_not (PW.pt (c_and (pw_and (c_chT od_le od_le (pt_chain op_le op_le (c_w (c_c pe_int fun _ => .int _)) (c_w (c_cb cb_len (pe_callB (call_lenK K) (by rfl) T.f_len (by decide +kernel) (a_consw (pa_cons (c_vw (pv 1)) (a_nilw pa_nil)))))) (c_w (c_c pe_int fun _ => .int _)))) (pw_and1 (c_tv (pt_val (c_ag (by refine GX.pe_allG (k := 0) (T := tabs K) (own := [("sign", 3)]) (hr.mono (by decide)) (by rfl) T.f_all TB hcd hmT hu (GX.gx_by (own := [("sign", 3)]) (N := N_is_picture) (sc := defScope s_is_picture) (by decide +kernel)) sc_is_picture.nd ?_ (fun _ => rfl) ?_ ?_ ?_; exact (c_iseqw (pi_seq (c_vw (pv 1)))); exact (fun _ _ _ _ _ _ _ _ => (c_gn (pg_name (i := 3) sc_is_picture.nd rfl (by first | exact Or.inl rfl | exact Or.inr rfl)))); exact (fun _ _ _ _ _ _ _ _ hr => (q_nil pts_nil)); exact (fun _ _ _ _ _ _ _ _ hr => (c_op od_inX (pe_cmpR op_uInX (c_vw (pv 3)) (c_w (c_c (pe_glob (v := .str "0123456789") rfl T.c_FIGURES.choose_spec ⟨_, rfl⟩) fun _ => .str _)) (by rfl)))))))))))))) (pss_one (PM.s_ret (ps_ret (c_c pe_bl fun _ => .bl _)))) (PM.s_nil pss_nil)))
  (pss_one (PM.s_ret (ps_ret (c_ag (by refine GX.pe_allG (k := 0) (T := tabs K) (own := [("row", 2)]) (hr.mono (by decide)) (by rfl) T.f_all TB hcd hmT hu (GX.gx_by (own := [("row", 2)]) (N := N_is_picture) (sc := defScope s_is_picture) (by decide +kernel)) sc_is_picture.nd ?_ (fun _ => rfl) ?_ ?_ ?_; exact (c_iseqw (pi_seq (c_vw (pv 0)))); exact (fun _ _ _ _ _ _ _ _ => (c_gn (pg_name (i := 2) sc_is_picture.nd rfl (by first | exact Or.inl rfl | exact Or.inr rfl)))); exact (fun _ _ _ _ _ _ _ _ hr => (q_nil pts_nil)); exact (fun _ _ _ _ _ _ _ _ hr => (c_op od_eq (pe_cmpR (op_eqK (room_u64 hr)) (c_w (c_cb cb_len (pe_callB (call_lenK K) (by rfl) T.f_len (by decide +kernel) (a_consw (pa_cons (c_vw (pv 2)) (a_nilw pa_nil)))))) (c_w (c_cb cb_len (pe_callB (call_lenK K) (by rfl) T.f_len (by decide +kernel) (a_consw (pa_cons (c_w (c_op od_ix (pe_ix ix_u (c_vw (pv 0)) (c_w (c_c pe_int fun _ => .int _)) (fun _ _ => rfl)))) (a_nilw pa_nil)))))) (nomark _)))))))))))))))), spM_in (N := N_is_picture) h⟩)
abbrev N_spots_beside : List Str := ["picture", "wide", "many", "level", "at"]
theorem sc_spots_beside : FnScope N_spots_beside ["picture"] (defScope s_spots_beside) := ⟨rfl, rfl, rfl, by decide +kernel, rfl, by decide +kernel, by decide +kernel⟩
theorem ok_spots_beside (T : Txt K mg) : OwnFn P w K mg base 1 "spots_beside" ["picture"] (spM K (tabs K) M_spots_beside) := by
  exact own_ok (k := 0) T.D_spots_beside sc_spots_beside (fun _ _ _ _ _ _ us hl => match us, hl with | [_], _ => rfl) (fun vs H Q E h => spM_len h) (fun cdv A outer s H vs Q E hr h => ⟨_, PSs.nox (show PSs _ _ (tS K (tabs K) m_spots_beside) from (PM.s_seq (pss_cons (PM.s_set (ps_set (i := 1) sc_spots_beside.nd rfl (by first | exact Or.inl rfl | exact Or.inr rfl) (c_cb cb_len (pe_callB (call_lenK K) (by rfl) T.f_len (by decide +kernel) (a_consw (pa_cons (c_w (c_op od_ix (pe_ix ix_u (c_vw (pv 0)) (c_w (c_c pe_int fun _ => .int _)) (fun _ _ => rfl)))) (a_nilw pa_nil)))))))
  (PM.s_seq (pss_cons (PM.s_set (ps_set (i := 2) sc_spots_beside.nd rfl (by first | exact Or.inl rfl | exact Or.inr rfl) (c_op od_mul (pe_op op_uMul (c_vw (pv 1)) (c_w (c_cb cb_len (pe_callB (call_lenK K) (by rfl) T.f_len (by decide +kernel) (a_consw (pa_cons (c_vw (pv 0)) (a_nilw pa_nil))))))))))
  (PM.s_seq (pss_cons (PM.s_set (PM.s_fd (PM.s_lc (ps_setLc (i := 3) (own := [("at", 4)]) (by rfl) sc_spots_beside.nd rfl rfl (sw_true rfl rfl rfl (by decide +kernel)) (c_ih (c_irng (pi_range1 (by rfl) T.f_range (a_cons (pa_cons (c_v (pv 2)) (a_nil pa_nil)))))) (blkOk_by (own := [("at", 4)]) (N := N_spots_beside) (sc := defScope s_spots_beside) (by decide +kernel)) (fun _ _ _ _ _ => (c_gn (pg_name (i := 4) sc_spots_beside.nd rfl (by first | exact Or.inl rfl | exact Or.inr rfl)))) (fun _ _ _ _ _ => (pts_one (c_opT od_ne (pt_cmpR (op_neK (room_u64 hr)) (c_w (c_op od_mod (pe_op op_modN (c_w (c_op od_add (pe_op op_uAdd (c_vw (pv 4)) (c_w (c_c pe_int fun _ => .int _))))) (c_vw (pv 1))))) (c_w (c_c pe_int fun _ => .int _)) (nomark _))))) (fun _ _ _ _ _ => (c_tup (pe_tup (a_cons (pa_cons (c_v (pv 4)) (a_cons (pa_cons (c_op od_add (pe_op op_uAdd (c_vw (pv 4)) (c_w (c_c pe_int fun _ => .int _)))) (a_nil pa_nil)))))))))) mLc_is))
  (pss_one (PM.s_ret (ps_ret (c_op od_add (pe_op op_uAdd (c_vw (pv 3)) (c_fw (c_lc (pe_lc (own := [("at", 4)]) (by rfl) sc_spots_beside.nd (c_ih (c_irng (pi_range1 (by rfl) T.f_range (a_cons (pa_cons (c_op od_sub (pe_op op_sub (c_vw (pv 2)) (c_vw (pv 1)))) (a_nil pa_nil)))))) (blkOk_by (own := [("at", 4)]) (N := N_spots_beside) (sc := defScope s_spots_beside) (by decide +kernel)) (fun _ _ _ _ _ => (c_gn (pg_name (i := 4) sc_spots_beside.nd rfl (by first | exact Or.inl rfl | exact Or.inr rfl)))) (fun _ _ _ _ _ => (q_nil pts_nil)) (fun _ _ _ _ _ => (c_tup (pe_tup (a_cons (pa_cons (c_v (pv 4)) (a_cons (pa_cons (c_op od_add (pe_op op_uAdd (c_vw (pv 4)) (c_vw (pv 1)))) (a_nil pa_nil))))))))))))))))))))))), spM_in (N := N_spots_beside) h⟩)
abbrev N_picture_web : List Str := ["picture", "smooth", "places", "ends", "both", "ties", "at", "figure", "one", "other"]
theorem sc_picture_web : FnScope N_picture_web ["picture", "smooth"] (defScope s_picture_web) := ⟨rfl, rfl, rfl, by decide +kernel, rfl, by decide +kernel, by decide +kernel⟩
theorem ok_picture_web (T : Txt K mg) (Y : Ext K) (TB : LamX.TabB base mg (He.cT K ("picture_web", none)).1 (He.cT K ("picture_web", none)).2) (F_spots_beside : OwnFn P w K mg base 1 "spots_beside" ["picture"] (spM K (tabs K) M_spots_beside)) : OwnFn P w K mg base 6 "picture_web" ["picture", "smooth"] (spM K (tabs K) M_picture_web) := by
  have hmT : ((He.cT K ("picture_web", none)).2, qOf "picture_web") ∈ tabs K := tab_mem (by decide +kernel)
  have hu : ∀ p ∈ tabs K, p.1 = (He.cT K ("picture_web", none)).2 → p.2 = qOf "picture_web" := tab_uniq Y.nd (by decide +kernel)
  exact own_okC (k := 5) T.D_picture_web sc_picture_web (fun _ _ _ _ _ _ us hl => match us, hl with | [_, _], _ => rfl) (fun vs H Q E h => spM_len h) (fun cdv A outer s H vs Q E hcd hr h => ⟨_, PSs.nox (show PSs _ _ (tS K (tabs K) m_picture_web) from (PM.s_seq (pss_cons (PM.s_set (ps_set (i := 2) sc_picture_web.nd rfl (by first | exact Or.inl rfl | exact Or.inr rfl) (c_tg (by refine GX.pe_tupG (k := 1) ?_ (hr.mono (by decide)) (by rfl) T.f_tuple; refine GX.pgen_gx (k := 0) (T := tabs K) (own := [("at", 6), ("figure", 7)]) (hr.mono (by decide)) TB hcd hmT hu (GX.gx_by (own := [("at", 6), ("figure", 7)]) (N := N_picture_web) (sc := defScope s_picture_web) (by decide +kernel)) sc_picture_web.nd ?_ (fun _ => rfl) ?_ ?_ ?_; exact (c_ih (c_iez (EN.pi_enZ (by rfl) T.f_enumerate (a_cons (pa_cons (c_join (pe_join (c_c pe_str fun _ => .str _) (c_vw (pv 0)))) (a_nil pa_nil)))))); exact (fun _ _ _ _ _ _ _ _ => (c_gt [6, 7] (pg_tupK rfl (pgs_cons (pg_name (i := 6) sc_picture_web.nd rfl (by first | exact Or.inl rfl | exact Or.inr rfl)) (pgs_cons (pg_name (i := 7) sc_picture_web.nd rfl (by first | exact Or.inl rfl | exact Or.inr rfl)) pgs_nil))))); exact (fun _ _ _ _ _ _ _ _ hr => (q_nil pts_nil)); exact (fun _ _ _ _ _ _ _ _ hr => (c_tup (pe_tup (a_cons (pa_cons (c_op od_ix (pe_ix ix_u (c_w (c_c (pe_glob (v := .str "abcdefghijklmnopqrstuvwxyz") rfl T.c_LETTERS.choose_spec ⟨_, rfl⟩) fun _ => .str _)) (c_vw (pv 6)) (fun _ _ => rfl))) (a_cons (pa_cons (c_c pe_int fun _ => .int _) (a_cons (pa_cons (c_c pe_int fun _ => .int _) (a_cons (pa_cons (c_cb cb_intZ (pe_callTy call_int_str (by rfl) T.f_int (by decide +kernel) (a_consw (pa_cons (c_vw (pv 7)) (a_nilw pa_nil))))) (a_cons (pa_cons (c_c pe_int fun _ => .int _) (a_nil pa_nil))))))))))))))))))
  (PM.s_seq (pss_cons (PM.s_set (ps_set (i := 3) sc_picture_web.nd rfl (by first | exact Or.inl rfl | exact Or.inr rfl) (c_call (pe_own F_spots_beside hr passL (a_cons (pa_cons (c_v (pv 0)) (a_nil pa_nil)))))))
  (PM.s_seq (pss_cons (PM.s_set (ps_set (i := 4) sc_picture_web.nd rfl (by first | exact Or.inl rfl | exact Or.inr rfl) (c_f (c_cbF cb_sorted (pe_callB (cr_sortM (room_u64 hr)) (by rfl) T.f_sorted (by decide +kernel) (a_consw (pa_cons (c_w (c_op od_add (pe_op op_uAdd (c_vw (pv 3)) (c_fw (c_lc (pe_lc (own := [("one", 8), ("other", 9)]) (by rfl) sc_picture_web.nd (c_iseqw (pi_seq (c_vw (pv 3)))) (blkOk_by (own := [("one", 8), ("other", 9)]) (N := N_picture_web) (sc := defScope s_picture_web) (by decide +kernel)) (fun _ _ _ _ _ => (c_gt [8, 9] (pg_tupK rfl (pgs_cons (pg_name (i := 8) sc_picture_web.nd rfl (by first | exact Or.inl rfl | exact Or.inr rfl)) (pgs_cons (pg_name (i := 9) sc_picture_web.nd rfl (by first | exact Or.inl rfl | exact Or.inr rfl)) pgs_nil))))) (fun _ _ _ _ _ => (q_nil pts_nil)) (fun _ _ _ _ _ => (c_tup (pe_tup (a_cons (pa_cons (c_v (pv 9)) (a_cons (pa_cons (c_v (pv 8)) (a_nil pa_nil)))))))))))))) (a_nilw pa_nil))))) mSorted_is)))
  (PM.s_seq (pss_cons (PM.s_set (ps_set (i := 5) sc_picture_web.nd rfl (by first | exact Or.inl rfl | exact Or.inr rfl) (c_tg (by refine GX.pe_tupG (k := 1) ?_ (hr.mono (by decide)) (by rfl) T.f_tuple; refine GX.pgen_gx (k := 0) (T := tabs K) (own := [("one", 8), ("other", 9)]) (hr.mono (by decide)) TB hcd hmT hu (GX.gx_by (own := [("one", 8), ("other", 9)]) (N := N_picture_web) (sc := defScope s_picture_web) (by decide +kernel)) sc_picture_web.nd ?_ (fun _ => rfl) ?_ ?_ ?_; exact (c_iseqw (pi_seq (c_vw (pv 4)))); exact (fun _ _ _ _ _ _ _ _ => (c_gt [8, 9] (pg_tupK rfl (pgs_cons (pg_name (i := 8) sc_picture_web.nd rfl (by first | exact Or.inl rfl | exact Or.inr rfl)) (pgs_cons (pg_name (i := 9) sc_picture_web.nd rfl (by first | exact Or.inl rfl | exact Or.inr rfl)) pgs_nil))))); exact (fun _ _ _ _ _ _ _ _ hr => (q_nil pts_nil)); exact (fun _ _ _ _ _ _ _ _ hr => (c_tup (pe_tup (a_cons (pa_cons (c_op od_ix (pe_ix ix_u (c_w (c_c (pe_glob (v := .str "abcdefghijklmnopqrstuvwxyz") rfl T.c_LETTERS.choose_spec ⟨_, rfl⟩) fun _ => .str _)) (c_vw (pv 8)) (fun _ _ => rfl))) (a_cons (pa_cons (c_op od_ix (pe_ix ix_u (c_w (c_c (pe_glob (v := .str "abcdefghijklmnopqrstuvwxyz") rfl T.c_LETTERS.choose_spec ⟨_, rfl⟩) fun _ => .str _)) (c_vw (pv 9)) (fun _ _ => rfl))) (a_cons (pa_cons (c_v (pv 1)) (a_nil pa_nil))))))))))))))
  (pss_one (PM.s_ret (ps_ret (c_tup (pe_tup (a_cons (pa_cons (c_c pe_int fun _ => .int _) (a_cons (pa_cons (c_v (pv 2)) (a_cons (pa_cons (c_v (pv 5)) (a_nil pa_nil))))))))))))))))))))), spM_in (N := N_picture_web) h⟩)
abbrev N_tones_by : List Str := ["picture", "cut", "wide", "signs", "letter", "at"]
theorem sc_tones_by : FnScope N_tones_by ["picture", "cut"] (defScope s_tones_by) := ⟨rfl, rfl, rfl, by decide +kernel, rfl, by decide +kernel, by decide +kernel⟩
theorem ok_tones_by (T : Txt K mg) (Y : Ext K) (TB : LamX.TabB base mg (He.cT K ("tones_by", none)).1 (He.cT K ("tones_by", none)).2) : OwnFn P w K mg base 6 "tones_by" ["picture", "cut"] (spM K (tabs K) M_tones_by) := by
  have hmT : ((He.cT K ("tones_by", none)).2, qOf "tones_by") ∈ tabs K := tab_mem (by decide +kernel)
  have hu : ∀ p ∈ tabs K, p.1 = (He.cT K ("tones_by", none)).2 → p.2 = qOf "tones_by" := tab_uniq Y.nd (by decide +kernel)
  exact own_okC (k := 5) T.D_tones_by sc_tones_by (fun _ _ _ _ _ _ us hl => match us, hl with | [_, _], _ => rfl) (fun vs H Q E h => spM_len h) (fun cdv A outer s H vs Q E hcd hr h => ⟨_, PSs.nox (show PSs _ _ (tS K (tabs K) m_tones_by) from (PM.s_seq (pss_cons (PM.s_set (ps_set (i := 2) sc_tones_by.nd rfl (by first | exact Or.inl rfl | exact Or.inr rfl) (c_cb cb_len (pe_callB (call_lenK K) (by rfl) T.f_len (by decide +kernel) (a_consw (pa_cons (c_w (c_op od_ix (pe_ix ix_u (c_vw (pv 0)) (c_w (c_c pe_int fun _ => .int _)) (fun _ _ => rfl)))) (a_nilw pa_nil)))))))
  (PM.s_seq (pss_cons (PM.s_set (ps_set (i := 3) sc_tones_by.nd rfl (by first | exact Or.inl rfl | exact Or.inr rfl) (c_jg (by refine GX.pe_joinG (k := 1) (c_c pe_str fun _ => .str _) ?_ (hr.mono (by decide)); refine GX.pgen_gx (k := 0) (T := tabs K) (own := [("letter", 4)]) (hr.mono (by decide)) TB hcd hmT hu (GX.gx_by (own := [("letter", 4)]) (N := N_tones_by) (sc := defScope s_tones_by) (by decide +kernel)) sc_tones_by.nd ?_ (fun _ => rfl) ?_ ?_ ?_; exact (c_iseqw (pi_seq (c_w (c_sl (pe_slice sl_u (c_w (c_c (pe_glob (v := .str "abcdefghijklmnopqrstuvwxyz") rfl T.c_LETTERS.choose_spec ⟨_, rfl⟩) fun _ => .str _)) (c_pno po_none) (c_pso (po_some (c_op od_mul (pe_op op_uMul (c_vw (pv 2)) (c_w (c_cb cb_len (pe_callB (call_lenK K) (by rfl) T.f_len (by decide +kernel) (a_consw (pa_cons (c_vw (pv 0)) (a_nilw pa_nil))))))))))))))); exact (fun _ _ _ _ _ _ _ _ => (c_gn (pg_name (i := 4) sc_tones_by.nd rfl (by first | exact Or.inl rfl | exact Or.inr rfl)))); exact (fun _ _ _ _ _ _ _ _ hr => (q_nil pts_nil)); exact (fun _ _ _ _ _ _ _ _ hr => (c_if (pe_ifExp (c_opT od_in (pt_cmpR (op_inK K) (c_vw (pv 4)) (c_vw (pv 1)) (by rfl))) (c_c pe_str fun _ => .str _) (c_c pe_str fun _ => .str _))))))))
  (pss_one (PM.s_ret (ps_ret (c_tg (by refine GX.pe_tupG (k := 1) ?_ (hr.mono (by decide)) (by rfl) T.f_tuple; refine GX.pgen_gx (k := 0) (T := tabs K) (own := [("at", 5)]) (hr.mono (by decide)) TB hcd hmT hu (GX.gx_by (own := [("at", 5)]) (N := N_tones_by) (sc := defScope s_tones_by) (by decide +kernel)) sc_tones_by.nd ?_ (fun _ => rfl) ?_ ?_ ?_; exact (c_ih (c_irng3 (pi_range3 (by rfl) T.f_range (a_cons (pa_cons (c_c pe_int fun _ => .int _) (a_cons (pa_cons (c_cb cb_len (pe_callB (call_lenK K) (by rfl) T.f_len (by decide +kernel) (a_consw (pa_cons (c_vw (pv 3)) (a_nilw pa_nil))))) (a_cons (pa_cons (c_v (pv 2)) (a_nil pa_nil)))))))))); exact (fun _ _ _ _ _ _ _ _ => (c_gn (pg_name (i := 5) sc_tones_by.nd rfl (by first | exact Or.inl rfl | exact Or.inr rfl)))); exact (fun _ _ _ _ _ _ _ _ hr => (q_nil pts_nil)); exact (fun _ _ _ _ _ _ _ _ hr => (c_sl (pe_slice sl_u (c_vw (pv 3)) (c_pso (po_some (c_v (pv 5)))) (c_pso (po_some (c_op od_add (pe_op op_uAdd (c_vw (pv 5)) (c_vw (pv 2))))))))))))))))))), spM_in (N := N_tones_by) h⟩)
abbrev N_tones_of : List Str := ["picture", "smooth", "bits", "breaks", "bit"]
theorem sc_tones_of : FnScope N_tones_of ["picture", "smooth"] (defScope s_tones_of) := ⟨rfl, rfl, rfl, by decide +kernel, rfl, by decide +kernel, by decide +kernel⟩
theorem ok_tones_of (T : Txt K mg) (F_is_between : OwnFn P w K mg base 2 "is_between" ["thing", "least", "most"] (spM K (tabs K) M_is_between)) (F_picture_web : OwnFn P w K mg base 6 "picture_web" ["picture", "smooth"] (spM K (tabs K) M_picture_web)) (F_stair_of : OwnFn P w K mg base 10 "stair_of" ["web"] (spM K (tabs K) M_stair_of)) (F_tones_by : OwnFn P w K mg base 6 "tones_by" ["picture", "cut"] (spM K (tabs K) M_tones_by)) : OwnFn P w K mg base 11 "tones_of" ["picture", "smooth"] (spX K (tabs K) M_tones_of) := by
  exact own_ok (k := 10) T.D_tones_of sc_tones_of (fun _ _ _ _ _ _ us hl => match us, hl with | [_, _], _ => rfl) (fun vs H Q E h => spX_len h) (fun cdv A outer s H vs Q E hr h => ⟨_, (show PSs _ _ (tSR K (tabs K) (erE K E) m_tones_of) from (PM.s_seq (pss_cons (PM.s_if (ps_if (c_not (pt_not (c_tv (pt_val (c_call (pe_own F_is_between hr passL (a_cons (pa_cons (c_v (pv 1)) (a_cons (pa_cons (c_c pe_int fun _ => .int _) (a_cons (pa_cons (c_c pe_int fun _ => .int _) (a_nil pa_nil))))))))))))) (pss_one (PM.s_er (E := E) "NoNumber" (ps_raise rfl (takes_of rfl rfl rfl rfl) (pmk_own PySem.F.excBase_ValueError T.x_NoNumber T.m_NoNumber T.k_NoNumber (raises_own T.b_NoNumber T.t_NoNumber) (by rfl))))) (PM.s_nil pss_nil)))
  (PM.s_seq (pss_cons (PM.s_asg (ps_asg (c_call (pe_own F_stair_of hr passL (a_cons (pa_cons (c_call (pe_own F_picture_web hr passL (a_cons (pa_cons (c_v (pv 0)) (a_cons (pa_cons (c_v (pv 1)) (a_nil pa_nil))))))) (a_nil pa_nil))))) (c_gt [2, 3] (pg_tupK rfl (pgs_cons (pg_name (i := 2) sc_tones_of.nd rfl (by first | exact Or.inl rfl | exact Or.inr rfl)) (pgs_cons (pg_name (i := 3) sc_tones_of.nd rfl (by first | exact Or.inl rfl | exact Or.inr rfl)) pgs_nil))))))
  (pss_one (PM.s_ret (ps_ret (c_tup (pe_tup (a_cons (pa_cons (c_f (c_lc (pe_lc (own := [("bit", 4)]) (by rfl) sc_tones_of.nd (c_iseqw (pi_seq (c_vw (pv 2)))) (blkOk_by (own := [("bit", 4)]) (N := N_tones_of) (sc := defScope s_tones_of) (by decide +kernel)) (fun _ _ _ _ _ => (c_gn (pg_name (i := 4) sc_tones_of.nd rfl (by first | exact Or.inl rfl | exact Or.inr rfl)))) (fun _ _ _ _ _ => (q_nil pts_nil)) (fun _ _ _ _ _ => (c_call (pe_own F_tones_by hr passL (a_cons (pa_cons (c_v (pv 0)) (a_cons (pa_cons (c_op od_ix (pe_ix ix_u (c_vw (pv 4)) (c_w (c_c pe_int fun _ => .int _)) (fun _ _ => rfl))) (a_nil pa_nil)))))))))) mLc_is) (a_cons (pa_cons (c_v (pv 3)) (a_nil pa_nil))))))))))))))), spX_in (N := N_tones_of) h⟩)
abbrev N_L_cell : List Str := ["_law_script", "_law_k", "_law_state", "_law_cell_here"]
theorem sc_L_cell : FnScope N_L_cell ["_law_script", "_law_k"] (defScope s_L_cell) := ⟨rfl, rfl, rfl, by decide +kernel, rfl, by decide +kernel, by decide +kernel⟩
theorem ok_L_cell (T : Txt K mg) : OwnFn P w K mg base 1 "_law_cell" ["_law_script", "_law_k"] (spM K (tabs K) M_L_cell) := by
  exact own_ok (k := 0) T.D_L_cell sc_L_cell (fun _ _ _ _ _ _ us hl => match us, hl with | [_, _], _ => rfl) (fun vs H Q E h => spM_len h) (fun cdv A outer s H vs Q E hr h => ⟨_, PSs.nox (show PSs _ _ (tS K (tabs K) m_L_cell) from (PM.s_seq (pss_cons (PM.s_if (ps_if (c_opT od_lt (pt_cmpR op_uLt (c_vw (pv 1)) (c_w (c_cb cb_len (pe_callB (call_lenK K) (by rfl) T.f_len (by decide +kernel) (a_consw (pa_cons (c_vw (pv 0)) (a_nilw pa_nil)))))) (nomark _))) (pss_one (PM.s_ret (ps_ret (c_op od_ix (pe_ix ix_u (c_vw (pv 0)) (c_vw (pv 1)) (fun _ _ => rfl)))))) (PM.s_nil pss_nil)))
  (PM.s_seq (pss_cons (PM.s_set (ps_set (i := 2) sc_L_cell.nd rfl (by first | exact Or.inl rfl | exact Or.inr rfl) (c_op od_mod (pe_op op_modN (c_w (c_op od_mul (pe_op op_uMul (c_w (c_c pe_int fun _ => .int _)) (c_w (c_op od_add (pe_op op_uAdd (c_w (c_op od_add (pe_op op_uAdd (c_w (c_op od_mul (pe_op op_uMul (c_vw (pv 1)) (c_vw (pv 1))))) (c_w (c_op od_mul (pe_op op_uMul (c_w (c_c pe_int fun _ => .int _)) (c_vw (pv 1)))))))) (c_w (c_c pe_int fun _ => .int _)))))))) (c_w (c_c pe_int fun _ => .int _))))))
  (PM.s_seq (pss_cons (PM.s_for (ps_for PassesOwn.never rfl (c_iseq (pi_seq (c_sl (pe_slice sl_u (c_vw (pv 0)) (c_pno po_none) (c_pso (po_some (c_c pe_int fun _ => .int _))))))) (c_gn (pg_name (i := 3) sc_L_cell.nd rfl (by first | exact Or.inl rfl | exact Or.inr rfl)))
   (pss_one (PM.s_set (ps_set (i := 2) sc_L_cell.nd rfl (by first | exact Or.inl rfl | exact Or.inr rfl) (c_op od_mod (pe_op op_modN (c_w (c_op od_add (pe_op op_uAdd (c_w (c_op od_mul (pe_op op_uMul (c_vw (pv 2)) (c_w (c_c pe_int fun _ => .int _))))) (c_vw (pv 3))))) (c_w (c_c pe_int fun _ => .int _)))))))))
  (pss_one (PM.s_ret (ps_ret (c_v (pv 2)))))))))))), spM_in (N := N_L_cell) h⟩)
abbrev N_L_numbers : List Str := ["_law_cell_here", "_law_many", "_law_found", "_law_state", "_law_digits", "_law_k"]
theorem sc_L_numbers : FnScope N_L_numbers ["_law_cell_here", "_law_many"] (defScope s_L_numbers) := ⟨rfl, rfl, rfl, by decide +kernel, rfl, by decide +kernel, by decide +kernel⟩
theorem ok_L_numbers (T : Txt K mg) : OwnFn P w K mg base 1 "_law_numbers" ["_law_cell_here", "_law_many"] (spM K (tabs K) M_L_numbers) := by
  exact own_ok (k := 0) T.D_L_numbers sc_L_numbers (fun _ _ _ _ _ _ us hl => match us, hl with | [_, _], _ => rfl) (fun vs H Q E h => spM_len h) (fun cdv A outer s H vs Q E hr h => ⟨_, PSs.nox (show PSs _ _ (tS K (tabs K) m_L_numbers) from (PM.s_seq (pss_cons (PM.s_setO (ps_set (i := 2) sc_L_numbers.nd rfl (by first | exact Or.inl rfl | exact Or.inr rfl) (c_lst (pe_lst (a_nil pa_nil)))))
  (PM.s_seq (pss_cons (PM.s_set (ps_set (i := 3) sc_L_numbers.nd rfl (by first | exact Or.inl rfl | exact Or.inr rfl) (c_op od_mod (pe_op op_modN (c_w (c_op od_mul (pe_op op_uMul (c_w (c_op od_add (pe_op op_uAdd (c_w (c_op od_mod (pe_op op_modN (c_vw (pv 0)) (c_w (c_c pe_int fun _ => .int _))))) (c_w (c_c pe_int fun _ => .int _))))) (c_w (c_c pe_int fun _ => .int _))))) (c_w (c_c pe_int fun _ => .int _))))))
  (PM.s_seq (pss_cons (PM.s_set (ps_set (i := 4) sc_L_numbers.nd rfl (by first | exact Or.inl rfl | exact Or.inr rfl) (c_c pe_int fun _ => .int _)))
  (PM.s_seq (pss_cons (PM.s_if (ps_if (PW.pt (c_or (pw_or (c_opT od_lt (pt_cmpR op_uLt (c_vw (pv 0)) (c_w (c_c pe_int fun _ => .int _)) (nomark _))) (pw_or1 (c_opT od_ge (pt_cmpR op_ge (c_vw (pv 0)) (c_w (c_op od_pow (pe_op op_pow (c_w (c_c pe_int fun _ => .int _)) (c_w (c_c pe_int fun _ => .int _))))) (nomark _))))))) (pss_one (PM.s_set (ps_set (i := 4) sc_L_numbers.nd rfl (by first | exact Or.inl rfl | exact Or.inr rfl) (c_cb cb_abs (pe_callB call_abs (by rfl) T.f_abs (by decide +kernel) (a_consw (pa_cons (c_vw (pv 0)) (a_nilw pa_nil)))))))) (PM.s_nil pss_nil)))
  (PM.s_seq (pss_cons (PM.s_for (ps_for PassesOwn.never rfl (c_irng (pi_range1 (by rfl) T.f_range (a_cons (pa_cons (c_v (pv 1)) (a_nil pa_nil))))) (c_gn (pg_name (i := 5) sc_L_numbers.nd rfl (by first | exact Or.inl rfl | exact Or.inr rfl)))
   (PM.s_seq (pss_cons (PM.s_set (ps_set (i := 3) sc_L_numbers.nd rfl (by first | exact Or.inl rfl | exact Or.inr rfl) (c_op od_mod (pe_op op_modN (c_w (c_op od_add (pe_op op_uAdd (c_w (c_op od_add (pe_op op_uAdd (c_w (c_op od_mul (pe_op op_uMul (c_vw (pv 3)) (c_w (c_op od_add (pe_op op_uAdd (c_w (c_op od_mod (pe_op op_modN (c_vw (pv 3)) (c_w (c_c pe_int fun _ => .int _))))) (c_w (c_c pe_int fun _ => .int _)))))))) (c_w (c_op od_mul (pe_op op_uMul (c_w (c_c pe_int fun _ => .int _)) (c_vw (pv 5)))))))) (c_w (c_c pe_int fun _ => .int _))))) (c_w (c_c pe_int fun _ => .int _))))))
  (PM.s_seq (pss_cons (PM.s_app (ps_expr (pe_bm PySem.F.plainAttrs_list PySem.F.slot_list_append PySem.F.type_list_append mt_append (pv 2) (pa_cons (c_op od_ix (pe_ix ix_u (c_fw (c_lst (pe_lst (a_cons (pa_cons (c_v (pv 3)) (a_cons (pa_cons (c_op od_mod (pe_op op_modN (c_vw (pv 4)) (c_w (c_c pe_int fun _ => .int _)))) (a_nil pa_nil)))))))) (c_w (c_cb cb_int (pe_callTy call_int1 (by rfl) T.f_int (by decide +kernel) (a_consw (pa_cons (c_w (c_op od_gt (pe_cmpR op_gt (c_vw (pv 4)) (c_w (c_c pe_int fun _ => .int _)) (nomark _)))) (a_nilw pa_nil)))))) (fun _ _ => rfl))) pa_nil))))
  (pss_one (PM.s_set (ps_set (i := 4) sc_L_numbers.nd rfl (by first | exact Or.inl rfl | exact Or.inr rfl) (c_op od_fdv (pe_op op_fdivG (c_vw (pv 4)) (c_w (c_c pe_int fun _ => .int _)))))))))))))
  (pss_one (PM.s_retO (ps_ret (pv 2))))))))))))))), spM_in (N := N_L_numbers) h⟩)
abbrev N_L_picture : List Str := ["_law_xs", "_law_high", "_law_wide", "_law_found", "_law_row", "_law_k"]
theorem sc_L_picture : FnScope N_L_picture ["_law_xs"] (defScope s_L_picture) := ⟨rfl, rfl, rfl, by decide +kernel, rfl, by decide +kernel, by decide +kernel⟩
theorem ok_L_picture (T : Txt K mg) : OwnFn P w K mg base 1 "_law_picture" ["_law_xs"] (spM K (tabs K) M_L_picture) := by
  exact own_ok (k := 0) T.D_L_picture sc_L_picture (fun _ _ _ _ _ _ us hl => match us, hl with | [_], _ => rfl) (fun vs H Q E h => spM_len h) (fun cdv A outer s H vs Q E hr h => ⟨_, PSs.nox (show PSs _ _ (tS K (tabs K) m_L_picture) from (PM.s_seq (pss_cons (PM.s_set (ps_set (i := 1) sc_L_picture.nd rfl (by first | exact Or.inl rfl | exact Or.inr rfl) (c_op od_add (pe_op op_uAdd (c_w (c_c pe_int fun _ => .int _)) (c_w (c_op od_mod (pe_op op_modN (c_w (c_op od_ix (pe_ix ix_u (c_vw (pv 0)) (c_w (c_c pe_int fun _ => .int _)) (fun _ _ => rfl)))) (c_w (c_c pe_int fun _ => .int _)))))))))
  (PM.s_seq (pss_cons (PM.s_set (ps_set (i := 2) sc_L_picture.nd rfl (by first | exact Or.inl rfl | exact Or.inr rfl) (c_op od_add (pe_op op_uAdd (c_w (c_c pe_int fun _ => .int _)) (c_w (c_op od_mod (pe_op op_modN (c_w (c_op od_ix (pe_ix ix_u (c_vw (pv 0)) (c_w (c_c pe_int fun _ => .int _)) (fun _ _ => rfl)))) (c_w (c_op od_fdv (pe_op op_fdivG (c_w (c_c pe_int fun _ => .int _)) (c_vw (pv 1))))))))))))
  (PM.s_seq (pss_cons (PM.s_if (ps_if (c_opT od_eq (pt_cmpR (op_eqK (room_u64 hr)) (c_w (c_op od_mod (pe_op op_modN (c_w (c_op od_ix (pe_ix ix_u (c_vw (pv 0)) (c_w (c_c pe_int fun _ => .int _)) (fun _ _ => rfl)))) (c_w (c_c pe_int fun _ => .int _))))) (c_w (c_c pe_int fun _ => .int _)) (nomark _))) (pss_one (PM.s_asg (ps_asg (c_tup (pe_tup (a_cons (pa_cons (c_v (pv 2)) (a_cons (pa_cons (c_v (pv 1)) (a_nil pa_nil))))))) (c_gt [1, 2] (pg_tupK rfl (pgs_cons (pg_name (i := 1) sc_L_picture.nd rfl (by first | exact Or.inl rfl | exact Or.inr rfl)) (pgs_cons (pg_name (i := 2) sc_L_picture.nd rfl (by first | exact Or.inl rfl | exact Or.inr rfl)) pgs_nil))))))) (PM.s_nil pss_nil)))
  (PM.s_seq (pss_cons (PM.s_setO (ps_set (i := 3) sc_L_picture.nd rfl (by first | exact Or.inl rfl | exact Or.inr rfl) (c_lst (pe_lst (a_nil pa_nil)))))
  (PM.s_seq (pss_cons (PM.s_for (ps_for PassesOwn.never rfl (c_irng (pi_range1 (by rfl) T.f_range (a_cons (pa_cons (c_v (pv 1)) (a_nil pa_nil))))) (c_gn (pg_name (i := 4) sc_L_picture.nd rfl (by first | exact Or.inl rfl | exact Or.inr rfl)))
   (pss_one (PM.s_app (ps_expr (pe_bm PySem.F.plainAttrs_list PySem.F.slot_list_append PySem.F.type_list_append mt_append (pv 3) (pa_cons (c_join (pe_join (c_c pe_str fun _ => .str _) (c_fw (c_lc (pe_lc (own := [("_law_k", 5)]) (by rfl) sc_L_picture.nd (c_ih (c_irng (pi_range1 (by rfl) T.f_range (a_cons (pa_cons (c_v (pv 2)) (a_nil pa_nil)))))) (blkOk_by (own := [("_law_k", 5)]) (N := N_L_picture) (sc := defScope s_L_picture) (by decide +kernel)) (fun _ _ _ _ _ => (c_gn (pg_name (i := 5) sc_L_picture.nd rfl (by first | exact Or.inl rfl | exact Or.inr rfl)))) (fun _ _ _ _ _ => (q_nil pts_nil)) (fun _ _ _ _ _ => (c_cb cb_strI (pe_callTy call_str_int (by rfl) T.f_str (by decide +kernel) (a_consw (pa_cons (c_w (c_op od_mod (pe_op op_modN (c_w (c_op od_ix (pe_ix ix_u (c_vw (pv 0)) (c_w (c_op od_add (pe_op op_uAdd (c_w (c_op od_add (pe_op op_uAdd (c_w (c_c pe_int fun _ => .int _)) (c_w (c_op od_mul (pe_op op_uMul (c_vw (pv 4)) (c_vw (pv 2)))))))) (c_vw (pv 5))))) (fun _ _ => rfl)))) (c_w (c_op od_ix (pe_ix ix_u (c_fw (c_lst (pe_lst (a_cons (pa_cons (c_c pe_int fun _ => .int _) (a_cons (pa_cons (c_c pe_int fun _ => .int _) (a_cons (pa_cons (c_c pe_int fun _ => .int _) (a_cons (pa_cons (c_c pe_int fun _ => .int _) (a_nil pa_nil)))))))))))) (c_w (c_op od_mod (pe_op op_modN (c_w (c_op od_ix (pe_ix ix_u (c_vw (pv 0)) (c_w (c_c pe_int fun _ => .int _)) (fun _ _ => rfl)))) (c_w (c_c pe_int fun _ => .int _))))) (fun _ _ => rfl))))))) (a_nilw pa_nil))))))))))) pa_nil)))))))
  (pss_one (PM.s_ret (ps_ret (c_cb cb_tuple (pe_callTy (call_tupK K) (by rfl) T.f_tuple (by decide +kernel) (a_consw (pa_cons (c_vw (pv 3)) (a_nilw pa_nil))))))))))))))))))), spM_in (N := N_L_picture) h⟩)
abbrev N_L_due : List Str := ["_law_thing", "_law_many", "_law_row", "_law_sign_here"]
theorem sc_L_due : FnScope N_L_due ["_law_thing"] (defScope s_L_due) := ⟨rfl, rfl, rfl, by decide +kernel, rfl, by decide +kernel, by decide +kernel⟩
theorem ok_L_due (T : Txt K mg) : OwnFn P w K mg base 1 "_law_due" ["_law_thing"] (spM K (tabs K) M_L_due) := by
  exact own_ok (k := 0) T.D_L_due sc_L_due (fun _ _ _ _ _ _ us hl => match us, hl with | [_], _ => rfl) (fun vs H Q E h => spM_len h) (fun cdv A outer s H vs Q E hr h => ⟨_, PSs.nox (show PSs _ _ (tS K (tabs K) m_L_due) from (PM.s_seq (pss_cons (PM.s_if (ps_if (PW.pt (c_or (pw_or (c_not (pt_not (c_tv (pt_val (c_is (pe_callB (call_isK K) (by rfl) T.f_isinstance (by decide +kernel) (pa_cons (c_vw (pv 0)) (pa_cons (pe_bltn (v := .ty "tuple") rfl T.f_tuple (by decide +kernel) rfl) pa_nil)))))))) (pw_or1 (c_opT od_eq (pt_cmpR (op_eqK (room_u64 hr)) (c_vw (pv 0)) (c_w (c_tup (pe_tup (a_nil pa_nil)))) (nomark _))))))) (pss_one (PM.s_ret (ps_ret (c_c pe_bl fun _ => .bl _)))) (PM.s_nil pss_nil)))
  (PM.s_seq (pss_cons (PM.s_set (ps_set (i := 1) sc_L_due.nd rfl (by first | exact Or.inl rfl | exact Or.inr rfl) (c_c pe_int fun _ => .int _)))
  (PM.s_seq (pss_cons (PM.s_for (ps_for PassesOwn.never rfl (c_iseq (pi_seq (c_v (pv 0)))) (c_gn (pg_name (i := 2) sc_L_due.nd rfl (by first | exact Or.inl rfl | exact Or.inr rfl)))
   (PM.s_seq (pss_cons (PM.s_if (ps_if (PW.pt (c_or (pw_or (c_not (pt_not (c_tv (pt_val (c_is (pe_callB (call_isK K) (by rfl) T.f_isinstance (by decide +kernel) (pa_cons (c_vw (pv 2)) (pa_cons (pe_bltn (v := .ty "str") rfl T.f_str (by decide +kernel) rfl) pa_nil)))))))) (c_or (pw_or (c_opT od_eq (pt_cmpR (op_eqK (room_u64 hr)) (c_vw (pv 2)) (c_w (c_c pe_str fun _ => .str _)) (nomark _))) (c_or (pw_or (c_not (pt_not (c_tv (pt_val (c_is (pe_callB (call_isK K) (by rfl) T.f_isinstance (by decide +kernel) (pa_cons (c_w (c_op od_ix (pe_ix ix_u (c_vw (pv 0)) (c_w (c_c pe_int fun _ => .int _)) (fun _ _ => rfl)))) (pa_cons (pe_bltn (v := .ty "str") rfl T.f_str (by decide +kernel) rfl) pa_nil)))))))) (pw_or1 (c_opT od_ne (pt_cmpR (op_neK (room_u64 hr)) (c_w (c_cb cb_len (pe_callB (call_lenK K) (by rfl) T.f_len (by decide +kernel) (a_consw (pa_cons (c_vw (pv 2)) (a_nilw pa_nil)))))) (c_w (c_cb cb_len (pe_callB (call_lenK K) (by rfl) T.f_len (by decide +kernel) (a_consw (pa_cons (c_w (c_op od_ix (pe_ix ix_u (c_vw (pv 0)) (c_w (c_c pe_int fun _ => .int _)) (fun _ _ => rfl)))) (a_nilw pa_nil)))))) (nomark _))))))))))) (pss_one (PM.s_ret (ps_ret (c_c pe_bl fun _ => .bl _)))) (PM.s_nil pss_nil)))
  (PM.s_seq (pss_cons (PM.s_if (ps_if (c_not (pt_not (c_tv (pt_val (c_cb cb_all (pe_callB (cr_allK rfl) (by rfl) T.f_all (by decide +kernel) (a_consw (pa_cons (c_fw (c_lc (pe_lc (own := [("_law_sign_here", 3)]) (by rfl) sc_L_due.nd (c_iseqw (pi_seq (c_vw (pv 2)))) (blkOk_by (own := [("_law_sign_here", 3)]) (N := N_L_due) (sc := defScope s_L_due) (by decide +kernel)) (fun _ _ _ _ _ => (c_gn (pg_name (i := 3) sc_L_due.nd rfl (by first | exact Or.inl rfl | exact Or.inr rfl)))) (fun _ _ _ _ _ => (q_nil pts_nil)) (fun _ _ _ _ _ => (c_op od_inX (pe_cmpR op_uInX (c_vw (pv 3)) (c_w (c_c pe_str fun _ => .str _)) (by rfl))))))) (a_nilw pa_nil))))))))) (pss_one (PM.s_ret (ps_ret (c_c pe_bl fun _ => .bl _)))) (PM.s_nil pss_nil)))
  (pss_one (PM.s_set (ps_set (i := 1) sc_L_due.nd rfl (by first | exact Or.inl rfl | exact Or.inr rfl) (c_op od_add (pe_op op_uAdd (c_vw (pv 1)) (c_w (c_cb cb_len (pe_callB (call_lenK K) (by rfl) T.f_len (by decide +kernel) (a_consw (pa_cons (c_vw (pv 2)) (a_nilw pa_nil)))))))))))))))))
  (pss_one (PM.s_ret (ps_ret (c_op od_le (pe_cmpR op_le (c_vw (pv 1)) (c_w (c_c pe_int fun _ => .int _)) (nomark _))))))))))))), spM_in (N := N_L_due) h⟩)
abbrev N_L_sign : List Str := ["_law_x", "_law_signs"]
theorem sc_L_sign : FnScope N_L_sign ["_law_x"] (defScope s_L_sign) := ⟨rfl, rfl, rfl, by decide +kernel, rfl, by decide +kernel, by decide +kernel⟩
theorem ok_L_sign (T : Txt K mg) : OwnFn P w K mg base 1 "_law_sign" ["_law_x"] (spM K (tabs K) M_L_sign) := by
  exact own_ok (k := 0) T.D_L_sign sc_L_sign (fun _ _ _ _ _ _ us hl => match us, hl with | [_], _ => rfl) (fun vs H Q E h => spM_len h) (fun cdv A outer s H vs Q E hr h => ⟨_, PSs.nox (show PSs _ _ (tS K (tabs K) m_L_sign) from (PM.s_seq (pss_cons (PM.s_set (ps_set (i := 1) sc_L_sign.nd rfl (by first | exact Or.inl rfl | exact Or.inr rfl) (c_c pe_str fun _ => .str _)))
  (PM.s_seq (pss_cons (PM.s_set (ps_set (i := 1) sc_L_sign.nd rfl (by first | exact Or.inl rfl | exact Or.inr rfl) (c_op od_add (pe_op op_uAdd (c_vw (pv 1)) (c_w (c_c pe_str fun _ => .str _))))))
  (pss_one (PM.s_ret (ps_ret (c_op od_ix (pe_ix ix_u (c_vw (pv 1)) (c_w (c_op od_mod (pe_op op_modN (c_vw (pv 0)) (c_w (c_cb cb_len (pe_callB (call_lenK K) (by rfl) T.f_len (by decide +kernel) (a_consw (pa_cons (c_vw (pv 1)) (a_nilw pa_nil))))))))) (fun _ _ => rfl))))))))))), spM_in (N := N_L_sign) h⟩)
abbrev N_L_spoilt : List Str := ["_law_picture_here", "_law_xs", "_law_row", "_law_text", "_law_at", "_law_odd", "_law_way"]
theorem sc_L_spoilt : FnScope N_L_spoilt ["_law_picture_here", "_law_xs"] (defScope s_L_spoilt) := ⟨rfl, rfl, rfl, by decide +kernel, rfl, by decide +kernel, by decide +kernel⟩
theorem ok_L_spoilt (T : Txt K mg) (F_L_sign : OwnFn P w K mg base 1 "_law_sign" ["_law_x"] (spM K (tabs K) M_L_sign)) : OwnFn P w K mg base 2 "_law_spoilt" ["_law_picture_here", "_law_xs"] (spM K (tabs K) M_L_spoilt) := by
  exact own_ok (k := 1) T.D_L_spoilt sc_L_spoilt (fun _ _ _ _ _ _ us hl => match us, hl with | [_, _], _ => rfl) (fun vs H Q E h => spM_len h) (fun cdv A outer s H vs Q E hr h => ⟨_, PSs.nox (show PSs _ _ (tS K (tabs K) m_L_spoilt) from (PM.s_seq (pss_cons (PM.s_set (ps_set (i := 2) sc_L_spoilt.nd rfl (by first | exact Or.inl rfl | exact Or.inr rfl) (c_op od_mod (pe_op op_modN (c_w (c_op od_ix (pe_ix ix_u (c_vw (pv 1)) (c_w (c_c pe_int fun _ => .int _)) (fun _ _ => rfl)))) (c_w (c_cb cb_len (pe_callB (call_lenK K) (by rfl) T.f_len (by decide +kernel) (a_consw (pa_cons (c_vw (pv 0)) (a_nilw pa_nil))))))))))
  (PM.s_seq (pss_cons (PM.s_set (ps_set (i := 3) sc_L_spoilt.nd rfl (by first | exact Or.inl rfl | exact Or.inr rfl) (c_op od_ix (pe_ix ix_u (c_vw (pv 0)) (c_vw (pv 2)) (fun _ _ => rfl)))))
  (PM.s_seq (pss_cons (PM.s_set (ps_set (i := 4) sc_L_spoilt.nd rfl (by first | exact Or.inl rfl | exact Or.inr rfl) (c_op od_mod (pe_op op_modN (c_w (c_op od_ix (pe_ix ix_u (c_vw (pv 1)) (c_w (c_c pe_int fun _ => .int _)) (fun _ _ => rfl)))) (c_w (c_cb cb_len (pe_callB (call_lenK K) (by rfl) T.f_len (by decide +kernel) (a_consw (pa_cons (c_vw (pv 3)) (a_nilw pa_nil))))))))))
  (PM.s_seq (pss_cons (PM.s_set (ps_set (i := 5) sc_L_spoilt.nd rfl (by first | exact Or.inl rfl | exact Or.inr rfl) (c_f (c_lst (pe_lst (a_cons (pa_cons (c_op od_add (pe_op op_uAdd (c_w (c_op od_add (pe_op op_uAdd (c_w (c_sl (pe_slice sl_u (c_vw (pv 3)) (c_pno po_none) (c_pso (po_some (c_v (pv 4))))))) (c_w (c_call (pe_own F_L_sign hr passL (a_cons (pa_cons (c_op od_ix (pe_ix ix_u (c_vw (pv 1)) (c_w (c_c pe_int fun _ => .int _)) (fun _ _ => rfl))) (a_nil pa_nil))))))))) (c_w (c_sl (pe_slice sl_u (c_vw (pv 3)) (c_pso (po_some (c_op od_add (pe_op op_uAdd (c_vw (pv 4)) (c_w (c_c pe_int fun _ => .int _)))))) (c_pno po_none)))))) (a_cons (pa_cons (c_op od_add (pe_op op_uAdd (c_vw (pv 3)) (c_w (c_c pe_str fun _ => .str _)))) (a_cons (pa_cons (c_sl (pe_slice sl_u (c_vw (pv 3)) (c_pso (po_some (c_c pe_int fun _ => .int _))) (c_pno po_none))) (a_cons (pa_cons (c_c pe_str fun _ => .str _) (a_nil pa_nil))))))))))) mLst_is)))
  (PM.s_seq (pss_cons (PM.s_set (ps_set (i := 5) sc_L_spoilt.nd rfl (by first | exact Or.inl rfl | exact Or.inr rfl) (c_op od_add (pe_op op_uAdd (c_vw (pv 5)) (c_fw (c_lst (pe_lst (a_cons (pa_cons (c_c pe_non fun _ => .non) (a_cons (pa_cons (c_c pe_int fun _ => .int _) (a_cons (pa_cons (c_f (c_cbF cb_listS (pe_callTy (call_listS rfl) (by rfl) T.f_list (by decide +kernel) (a_consw (pa_cons (c_vw (pv 3)) (a_nilw pa_nil))))) mListS_is) (a_cons (pa_cons (c_tup (pe_tup (a_cons (pa_cons (c_v (pv 3)) (a_nil pa_nil))))) (a_nil pa_nil))))))))))))))))
  (PM.s_seq (pss_cons (PM.s_set (ps_set (i := 6) sc_L_spoilt.nd rfl (by first | exact Or.inl rfl | exact Or.inr rfl) (c_op od_mod (pe_op op_modN (c_w (c_op od_ix (pe_ix ix_u (c_vw (pv 1)) (c_w (c_c pe_int fun _ => .int _)) (fun _ _ => rfl)))) (c_w (c_c pe_int fun _ => .int _))))))
  (PM.s_seq (pss_cons (PM.s_if (ps_if (c_opT od_lt (pt_cmpR op_uLt (c_vw (pv 6)) (c_w (c_c pe_int fun _ => .int _)) (nomark _))) (pss_one (PM.s_ret (ps_ret (c_op od_add (pe_op op_uAdd (c_w (c_op od_add (pe_op op_uAdd (c_w (c_sl (pe_slice sl_u (c_vw (pv 0)) (c_pno po_none) (c_pso (po_some (c_v (pv 2))))))) (c_w (c_tup (pe_tup (a_cons (pa_cons (c_op od_ix (pe_ix ix_u (c_vw (pv 5)) (c_vw (pv 6)) (fun _ _ => rfl))) (a_nil pa_nil))))))))) (c_w (c_sl (pe_slice sl_u (c_vw (pv 0)) (c_pso (po_some (c_op od_add (pe_op op_uAdd (c_vw (pv 2)) (c_w (c_c pe_int fun _ => .int _)))))) (c_pno po_none))))))))) (PM.s_nil pss_nil)))
  (pss_one (PM.s_ret (ps_ret (c_op od_ix (pe_ix ix_u (c_fw (c_lst (pe_lst (a_cons (pa_cons (c_f (c_cbF cb_list (pe_callTy call_listK (by rfl) T.f_list (by decide +kernel) (a_consw (pa_cons (c_vw (pv 0)) (a_nilw pa_nil))))) mList_is) (a_cons (pa_cons (c_op od_add (pe_op op_uAdd (c_vw (pv 0)) (c_w (c_tup (pe_tup (a_cons (pa_cons (c_v (pv 3)) (a_nil pa_nil)))))))) (a_cons (pa_cons (c_sl (pe_slice sl_u (c_vw (pv 0)) (c_pso (po_some (c_c pe_int fun _ => .int _))) (c_pno po_none))) (a_cons (pa_cons (c_op od_ix (pe_ix ix_u (c_vw (pv 0)) (c_w (c_c pe_int fun _ => .int _)) (fun _ _ => rfl))) (a_nil pa_nil)))))))))))) (c_w (c_op od_sub (pe_op op_sub (c_vw (pv 6)) (c_w (c_c pe_int fun _ => .int _))))) (fun _ _ => rfl))))))))))))))))))))), spM_in (N := N_L_spoilt) h⟩)
abbrev N_L_refused : List Str := ["_law_picture_here", "_law_thing", "e"]
theorem sc_L_refused : FnScope N_L_refused ["_law_picture_here", "_law_thing"] (defScope s_L_refused) := ⟨rfl, rfl, rfl, by decide +kernel, rfl, by decide +kernel, by decide +kernel⟩
theorem ok_L_refused (T : Txt K mg) (Y : Ext K) (F_tones_of : OwnFn P w K mg base 11 "tones_of" ["picture", "smooth"] (spX K (tabs K) M_tones_of)) : OwnFn P w K mg base 12 "_law_refused" ["_law_picture_here", "_law_thing"] (spM K (tabs K) M_L_refused) := by
  exact own_ok (k := 11) T.D_L_refused sc_L_refused (fun _ _ _ _ _ _ us hl => match us, hl with | [_, _], _ => rfl) (fun vs H Q E h => spM_len h) (fun cdv A outer s H vs Q E hr h => ⟨_, PSs.nox (t := tS K (tabs K) m_L_refused) (by exact (PM.s_seq (pss_cons (PM.s_tryE (C := "StairError") (l := [("NoNumber", fun a => (mSeq (mIfS (qV (mE 2 a (.bool false))) (mRet (mC (.bool false))) mNx)
  (mSeq (mIfS (qV (mE 2 a (.bool false))) (mRet (mC (.bool false))) mNx)
  (mRet (mAnd (mE 2 a (.bool true)) (mE 2 a (.bool true)))))))]) (by rfl) (by rfl) sc_L_refused.nd (i := 2) (by rfl) (by rfl) ⟨by rfl, by decide, .inl T.m_StairError⟩ (fun c hc => by simp only [List.map_cons, List.map_nil, List.mem_cons, List.not_mem_nil, or_false] at hc; rcases hc with rfl; exact T.e_NoNumber) (fun W pn xe tk => (pss_one (PM.s_dropX (ps_expr (c_callW (pe_ownS F_tones_of hr tk (a_cons (pa_cons (c_v (pv 0)) (a_cons (pa_cons (c_v (pv 1)) (a_nil pa_nil)))))))))))
   (su_cons (fun a oe pn hz hfl => (PM.s_seq (pss_cons (PM.s_if (ps_if (c_tv (pt_val (c_isET (l := ["NoCut", "NoFall", "NoName", "NoPart", "NoPlace", "NoPrice", "NoRow", "NoShare", "NoStream", "NoText"]) (by decide) Y.kt0_NoNumber (pe_callB (call_isPT Y.ec_NoNumber List.mem_cons_self hz hfl) (by rfl) T.f_isinstance (by decide +kernel) (pa_cons (pv 2) (pa_cons (pe_tup (pa_cons (pe_glob (v := .ref (He.ga _ "NoCut")) rfl T.m_NoCut rfl) (pa_cons (pe_glob (v := .ref (He.ga _ "NoFall")) rfl T.m_NoFall rfl) (pa_cons (pe_glob (v := .ref (He.ga _ "NoName")) rfl T.m_NoName rfl) (pa_cons (pe_glob (v := .ref (He.ga _ "NoPart")) rfl T.m_NoPart rfl) (pa_cons (pe_glob (v := .ref (He.ga _ "NoPlace")) rfl T.m_NoPlace rfl) (pa_cons (pe_glob (v := .ref (He.ga _ "NoPrice")) rfl T.m_NoPrice rfl) (pa_cons (pe_glob (v := .ref (He.ga _ "NoRow")) rfl T.m_NoRow rfl) (pa_cons (pe_glob (v := .ref (He.ga _ "NoShare")) rfl T.m_NoShare rfl) (pa_cons (pe_glob (v := .ref (He.ga _ "NoStream")) rfl T.m_NoStream rfl) (pa_cons (pe_glob (v := .ref (He.ga _ "NoText")) rfl T.m_NoText rfl) pa_nil))))))))))) pa_nil)))))) (pss_one (PM.s_ret (ps_ret (c_c pe_bl fun _ => .bl _)))) (PM.s_nil pss_nil)))
  (PM.s_seq (pss_cons (PM.s_if (ps_if (c_tv (pt_val (c_isET (l := ["NoTie", "NoTop", "NoUndo", "NoWeb"]) (by decide) Y.kt1_NoNumber (pe_callB (call_isPT Y.ec_NoNumber List.mem_cons_self hz hfl) (by rfl) T.f_isinstance (by decide +kernel) (pa_cons (pv 2) (pa_cons (pe_tup (pa_cons (pe_glob (v := .ref (He.ga _ "NoTie")) rfl T.m_NoTie rfl) (pa_cons (pe_glob (v := .ref (He.ga _ "NoTop")) rfl T.m_NoTop rfl) (pa_cons (pe_glob (v := .ref (He.ga _ "NoUndo")) rfl T.m_NoUndo rfl) (pa_cons (pe_glob (v := .ref (He.ga _ "NoWeb")) rfl T.m_NoWeb rfl) pa_nil))))) pa_nil)))))) (pss_one (PM.s_ret (ps_ret (c_c pe_bl fun _ => .bl _)))) (PM.s_nil pss_nil)))
  (pss_one (PM.s_ret (ps_ret (c_andV (pe_and (c_isE (c := .ref (He.ga K "NoNumber")) (cv := .ref (He.ga K "NoNumber")) (fun _ hu => hu) Y.q_NoNumber_NoNumber (pe_callB (call_isP Y.ec_NoNumber List.mem_cons_self hz hfl) (by rfl) T.f_isinstance (by decide +kernel) (pa_cons (pv 2) (pa_cons (pe_glob (v := .ref (He.ga _ "NoNumber")) rfl T.m_NoNumber rfl) pa_nil)))) (pe_one (c_isE (c := .ty "ValueError") (cv := .type "ValueError") (fun _ hu => hu) Y.q_NoNumber_ValueError (pe_callB (call_isP Y.ec_NoNumber List.mem_cons_self hz hfl) (by rfl) T.f_isinstance (by decide +kernel) (pa_cons (pv 2) (pa_cons (pe_bltn (v := .ty "ValueError") rfl T.f_ValueError (by decide +kernel) rfl) pa_nil)))))))))))))))
   su_nil))
  (pss_one (PM.s_ret (ps_ret (c_c pe_bl fun _ => .bl _))))))), spM_in (N := N_L_refused) h⟩)
abbrev N_law : List Str := ["_law_script", "_law_things", "_law_at", "_law_thing", "_law_picture_here", "_law_xs", "_law_found"]
theorem sc_law : FnScope N_law ["_law_script"] (defScope s_law) := ⟨rfl, rfl, rfl, by decide +kernel, rfl, by decide +kernel, by decide +kernel⟩
theorem ok_law (T : Txt K mg) (F_L_cell : OwnFn P w K mg base 1 "_law_cell" ["_law_script", "_law_k"] (spM K (tabs K) M_L_cell)) (F_L_numbers : OwnFn P w K mg base 1 "_law_numbers" ["_law_cell_here", "_law_many"] (spM K (tabs K) M_L_numbers)) (F_L_picture : OwnFn P w K mg base 1 "_law_picture" ["_law_xs"] (spM K (tabs K) M_L_picture)) (F_L_spoilt : OwnFn P w K mg base 2 "_law_spoilt" ["_law_picture_here", "_law_xs"] (spM K (tabs K) M_L_spoilt)) (F_is_picture : OwnFn P w K mg base 3 "is_picture" ["thing"] (spM K (tabs K) M_is_picture)) (F_L_due : OwnFn P w K mg base 1 "_law_due" ["_law_thing"] (spM K (tabs K) M_L_due)) (F_L_refused : OwnFn P w K mg base 12 "_law_refused" ["_law_picture_here", "_law_thing"] (spM K (tabs K) M_L_refused)) (F_tones_of : OwnFn P w K mg base 11 "tones_of" ["picture", "smooth"] (spX K (tabs K) M_tones_of)) : OwnFn P w K mg base 13 "law" ["_law_script"] (spM K (tabs K) M_law) := by
  exact own_ok (k := 12) T.D_law sc_law (fun _ _ _ _ _ _ us hl => match us, hl with | [_], _ => rfl) (fun vs H Q E h => spM_len h) (fun cdv A outer s H vs Q E hr h => ⟨_, PSs.nox (show PSs _ _ (tS K (tabs K) m_law) from (PM.s_seq (pss_cons (PM.s_set (ps_set (i := 1) sc_law.nd rfl (by first | exact Or.inl rfl | exact Or.inr rfl) (c_f (c_lst (pe_lst (a_cons (pa_cons (c_tup (pe_tup (a_nil pa_nil))) (a_cons (pa_cons (c_tup (pe_tup (a_cons (pa_cons (c_c pe_str fun _ => .str _) (a_nil pa_nil))))) (a_cons (pa_cons (c_tup (pe_tup (a_cons (pa_cons (c_c pe_str fun _ => .str _) (a_nil pa_nil))))) (a_cons (pa_cons (c_op od_repT (pe_op (op_uRepT) (c_w (c_tup (pe_tup (a_cons (pa_cons (c_c pe_str fun _ => .str _) (a_nil pa_nil)))))) (c_w (c_c pe_int fun _ => .int _)))) (a_cons (pa_cons (c_op od_repT (pe_op (op_uRepT) (c_w (c_tup (pe_tup (a_cons (pa_cons (c_c pe_str fun _ => .str _) (a_nil pa_nil)))))) (c_w (c_c pe_int fun _ => .int _)))) (a_cons (pa_cons (c_tup (pe_tup (a_cons (pa_cons (c_c pe_str fun _ => .str _) (a_cons (pa_cons (c_c pe_str fun _ => .str _) (a_cons (pa_cons (c_c pe_str fun _ => .str _) (a_nil pa_nil))))))))) (a_nil pa_nil))))))))))))))) mLst_is)))
  (PM.s_seq (pss_cons (PM.s_set (ps_set (i := 1) sc_law.nd rfl (by first | exact Or.inl rfl | exact Or.inr rfl) (c_op od_add (pe_op op_uAdd (c_vw (pv 1)) (c_fw (c_lst (pe_lst (a_cons (pa_cons (c_c pe_str fun _ => .str _) (a_cons (pa_cons (c_c pe_non fun _ => .non) (a_cons (pa_cons (c_c pe_int fun _ => .int _) (a_cons (pa_cons (c_f (c_lst (pe_lst (a_nil pa_nil))) mLst_is) (a_cons (pa_cons (c_dct (pe_frz pe_dnewK)) (a_cons (pa_cons (c_tup (pe_tup (a_cons (pa_cons (c_tup (pe_tup (a_cons (pa_cons (c_c pe_str fun _ => .str _) (a_nil pa_nil))))) (a_nil pa_nil))))) (a_nil pa_nil))))))))))))))))))))
  (PM.s_seq (pss_cons (PM.s_for (ps_for PassesOwn.never rfl (c_irng (pi_range1 (by rfl) T.f_range (a_cons (pa_cons (c_cb cb_max (pe_callB (call_max2 rfl) (by rfl) T.f_max (by decide +kernel) (a_consw (pa_cons (c_w (c_c pe_int fun _ => .int _)) (a_consw (pa_cons (c_w (c_cb cb_min (pe_callB (call_min2 rfl) (by rfl) T.f_min (by decide +kernel) (a_consw (pa_cons (c_w (c_cb cb_len (pe_callB (call_lenK K) (by rfl) T.f_len (by decide +kernel) (a_consw (pa_cons (c_vw (pv 0)) (a_nilw pa_nil)))))) (a_consw (pa_cons (c_w (c_c pe_int fun _ => .int _)) (a_nilw pa_nil)))))))) (a_nilw pa_nil))))))) (a_nil pa_nil))))) (c_gn (pg_name (i := 2) sc_law.nd rfl (by first | exact Or.inl rfl | exact Or.inr rfl)))
   (PM.s_seq (pss_cons (PM.s_set (ps_set (i := 5) sc_law.nd rfl (by first | exact Or.inl rfl | exact Or.inr rfl) (c_call (pe_own F_L_numbers hr passL (a_cons (pa_cons (c_call (pe_own F_L_cell hr passL (a_cons (pa_cons (c_v (pv 0)) (a_cons (pa_cons (c_v (pv 2)) (a_nil pa_nil))))))) (a_cons (pa_cons (c_c pe_int fun _ => .int _) (a_nil pa_nil)))))))))
  (PM.s_seq (pss_cons (PM.s_set (ps_set (i := 4) sc_law.nd rfl (by first | exact Or.inl rfl | exact Or.inr rfl) (c_call (pe_own F_L_picture hr passL (a_cons (pa_cons (c_v (pv 5)) (a_nil pa_nil)))))))
  (pss_one (PM.s_set (ps_set (i := 1) sc_law.nd rfl (by first | exact Or.inl rfl | exact Or.inr rfl) (c_op od_add (pe_op op_uAdd (c_vw (pv 1)) (c_fw (c_lst (pe_lst (a_cons (pa_cons (c_v (pv 4)) (a_cons (pa_cons (c_call (pe_own F_L_spoilt hr passL (a_cons (pa_cons (c_v (pv 4)) (a_cons (pa_cons (c_sl (pe_slice sl_u (c_vw (pv 5)) (c_pso (po_some (c_c pe_int fun _ => .int _))) (c_pno po_none))) (a_nil pa_nil))))))) (a_cons (pa_cons (c_call (pe_own F_L_spoilt hr passL (a_cons (pa_cons (c_v (pv 4)) (a_cons (pa_cons (c_sl (pe_slice sl_u (c_vw (pv 5)) (c_pso (po_some (c_c pe_int fun _ => .int _))) (c_pno po_none))) (a_nil pa_nil))))))) (a_nil pa_nil)))))))))))))))))))))
  (PM.s_seq (pss_cons (PM.s_for (ps_for PassesOwn.never rfl (c_iseq (pi_seq (c_v (pv 1)))) (c_gn (pg_name (i := 3) sc_law.nd rfl (by first | exact Or.inl rfl | exact Or.inr rfl)))
   (PM.s_seq (pss_cons (PM.s_set (ps_set (i := 6) sc_law.nd rfl (by first | exact Or.inl rfl | exact Or.inr rfl) (c_call (pe_own F_is_picture hr passL (a_cons (pa_cons (c_v (pv 3)) (a_nil pa_nil)))))))
  (pss_one (PM.s_if (ps_if (PW.pt (c_or (pw_or (c_not (pt_not (c_tv (pt_val (c_is (pe_callB (call_isK K) (by rfl) T.f_isinstance (by decide +kernel) (pa_cons (c_vw (pv 6)) (pa_cons (pe_bltn (v := .ty "bool") rfl T.f_bool (by decide +kernel) rfl) pa_nil)))))))) (pw_or1 (c_opT od_ne (pt_cmpR (op_neK (room_u64 hr)) (c_vw (pv 6)) (c_w (c_call (pe_own F_L_due hr passL (a_cons (pa_cons (c_v (pv 3)) (a_nil pa_nil)))))) (nomark _))))))) (pss_one (PM.s_ret (ps_ret (c_c pe_bl fun _ => .bl _)))) (PM.s_nil pss_nil))))))))
  (PM.s_seq (pss_cons (PM.s_set (ps_set (i := 4) sc_law.nd rfl (by first | exact Or.inl rfl | exact Or.inr rfl) (c_call (pe_own F_L_picture hr passL (a_cons (pa_cons (c_call (pe_own F_L_numbers hr passL (a_cons (pa_cons (c_call (pe_own F_L_cell hr passL (a_cons (pa_cons (c_v (pv 0)) (a_cons (pa_cons (c_c pe_int fun _ => .int _) (a_nil pa_nil))))))) (a_cons (pa_cons (c_c pe_int fun _ => .int _) (a_nil pa_nil))))))) (a_nil pa_nil)))))))
  (PM.s_seq (pss_cons (PM.s_for (ps_for PassesOwn.never rfl (c_iseq (pi_seq (c_f (c_lst (pe_lst (a_cons (pa_cons (c_neg (pe_un un_neg (c_c pe_int fun _ => .int _))) (a_cons (pa_cons (c_c pe_int fun _ => .int _) (a_cons (pa_cons (c_c pe_bl fun _ => .bl _) (a_cons (pa_cons (c_c pe_bl fun _ => .bl _) (a_cons (pa_cons (c_c pe_non fun _ => .non) (a_cons (pa_cons (c_c pe_str fun _ => .str _) (a_cons (pa_cons (c_tup (pe_tup (a_cons (pa_cons (c_c pe_int fun _ => .int _) (a_cons (pa_cons (c_c pe_int fun _ => .int _) (a_nil pa_nil))))))) (a_cons (pa_cons (c_f (c_lst (pe_lst (a_nil pa_nil))) mLst_is) (a_cons (pa_cons (c_dct (pe_frz pe_dnewK)) (a_cons (pa_cons (c_op od_pow (pe_op op_pow (c_w (c_c pe_int fun _ => .int _)) (c_w (c_c pe_int fun _ => .int _)))) (a_nil pa_nil))))))))))))))))))))))) mLst_is))) (c_gn (pg_name (i := 3) sc_law.nd rfl (by first | exact Or.inl rfl | exact Or.inr rfl)))
   (pss_one (PM.s_if (ps_if (c_not (pt_not (c_tv (pt_val (c_call (pe_own F_L_refused hr passL (a_cons (pa_cons (c_v (pv 4)) (a_cons (pa_cons (c_v (pv 3)) (a_nil pa_nil))))))))))) (pss_one (PM.s_ret (ps_ret (c_c pe_bl fun _ => .bl _)))) (PM.s_nil pss_nil))))))
  (pss_one (PM.s_ret (ps_ret (c_andV (pe_and (c_is (pe_callB (call_isK K) (by rfl) T.f_isinstance (by decide +kernel) (pa_cons (c_w (c_callOk (pe_own F_tones_of hr passL (a_cons (pa_cons (c_v (pv 4)) (a_cons (pa_cons (c_c pe_int fun _ => .int _) (a_nil pa_nil)))))))) (pa_cons (pe_bltn (v := .ty "tuple") rfl T.f_tuple (by decide +kernel) rfl) pa_nil)))) (pe_one (c_is (pe_callB (call_isK K) (by rfl) T.f_isinstance (by decide +kernel) (pa_cons (c_w (c_callOk (pe_own F_tones_of hr passL (a_cons (pa_cons (c_v (pv 4)) (a_cons (pa_cons (c_c pe_int fun _ => .int _) (a_nil pa_nil)))))))) (pa_cons (pe_bltn (v := .ty "tuple") rfl T.f_tuple (by decide +kernel) rfl) pa_nil))))))))))))))))))))))), spM_in (N := N_law) h⟩)
end
end K60
namespace K60
open PySem PySem.Spec PyProof.Rows L2 LB PM
section
variable {P : Program} {w : World} {K : PySem.W.Frag} {mg : Str → Option Value} {base : Heap}
theorem all_ok (T : Txt K mg) (Y : Ext K) (TB : ∀ x, x ∈ gens → LamX.TabB base mg (He.cT K (x, none)).1 (He.cT K (x, none)).2) : OwnFn P w K mg base 13 "law" ["_law_script"] (spM K (tabs K) M_law) := by
  have F_is_whole : OwnFn P w K mg base 1 "is_whole" _ _ := ok_is_whole T
  have F_is_between : OwnFn P w K mg base 2 "is_between" _ _ := ok_is_between T F_is_whole
  have F_common_divisor : OwnFn P w K mg base 1 "common_divisor" _ _ := ok_common_divisor T
  have F_fraction : OwnFn P w K mg base 3 "fraction" _ _ := ok_fraction T F_common_divisor
  have F_below : OwnFn P w K mg base 1 "below" _ _ := ok_below T
  have F_is_rising : OwnFn P w K mg base 3 "is_rising" _ _ := ok_is_rising T Y (TB "is_rising" (by decide +kernel))
  have F_names_of : OwnFn P w K mg base 6 "names_of" _ _ := ok_names_of T Y (TB "names_of" (by decide +kernel))
  have F_is_choice : OwnFn P w K mg base 4 "is_choice" _ _ := ok_is_choice T Y (TB "is_choice" (by decide +kernel)) F_is_rising
  have F_is_cut : OwnFn P w K mg base 7 "is_cut" _ _ := ok_is_cut T F_names_of F_is_choice
  have F_line_of : OwnFn P w K mg base 8 "line_of" _ _ := ok_line_of T F_is_cut
  have F_choices_of : OwnFn P w K mg base 1 "choices_of" _ _ := ok_choices_of T
  have F_all_cuts : OwnFn P w K mg base 7 "all_cuts" _ _ := ok_all_cuts T F_names_of F_choices_of
  have F_cuts_by_line : OwnFn P w K mg base 9 "cuts_by_line" _ _ := ok_cuts_by_line T F_all_cuts F_line_of
  have F_meeting : OwnFn P w K mg base 4 "meeting" _ _ := ok_meeting T F_fraction
  have F_is_met_first : OwnFn P w K mg base 5 "is_met_first" _ _ := ok_is_met_first T F_meeting F_below
  have F_line_behind : OwnFn P w K mg base 6 "line_behind" _ _ := ok_line_behind T F_is_met_first
  have F_bit_of : OwnFn P w K mg base 1 "bit_of" _ _ := ok_bit_of T
  have F_stair_of : OwnFn P w K mg base 10 "stair_of" _ _ := ok_stair_of T F_cuts_by_line F_fraction F_bit_of F_line_behind F_meeting F_below
  have F_is_picture : OwnFn P w K mg base 3 "is_picture" _ _ := ok_is_picture T Y (TB "is_picture" (by decide +kernel))
  have F_spots_beside : OwnFn P w K mg base 1 "spots_beside" _ _ := ok_spots_beside T
  have F_picture_web : OwnFn P w K mg base 6 "picture_web" _ _ := ok_picture_web T Y (TB "picture_web" (by decide +kernel)) F_spots_beside
  have F_tones_by : OwnFn P w K mg base 6 "tones_by" _ _ := ok_tones_by T Y (TB "tones_by" (by decide +kernel))
  have F_tones_of : OwnFn P w K mg base 11 "tones_of" _ _ := ok_tones_of T F_is_between F_picture_web F_stair_of F_tones_by
  have F_L_cell : OwnFn P w K mg base 1 "_law_cell" _ _ := ok_L_cell T
  have F_L_numbers : OwnFn P w K mg base 1 "_law_numbers" _ _ := ok_L_numbers T
  have F_L_picture : OwnFn P w K mg base 1 "_law_picture" _ _ := ok_L_picture T
  have F_L_due : OwnFn P w K mg base 1 "_law_due" _ _ := ok_L_due T
  have F_L_sign : OwnFn P w K mg base 1 "_law_sign" _ _ := ok_L_sign T
  have F_L_spoilt : OwnFn P w K mg base 2 "_law_spoilt" _ _ := ok_L_spoilt T F_L_sign
  have F_L_refused : OwnFn P w K mg base 12 "_law_refused" _ _ := ok_L_refused T Y F_tones_of
  have F_law : OwnFn P w K mg base 13 "law" _ _ := ok_law T F_L_cell F_L_numbers F_L_picture F_L_spoilt F_is_picture F_L_due F_L_refused F_tones_of
  exact F_law
end
end K60
namespace K60
open PySem PySem.Spec PyProof.Rows L2 LB PM
/-! ### what is drawn -/
theorem cell_ok (ns : List Int) {j : Nat} (hj : j ≤ 1000) : ∃ n, M_L_cell [.list (ns.map .int), .int (j : Int)] = some (.int n) := by
  by_cases hl : j < ns.length
  · refine ⟨ns[j], x_fn (q := .rt (.int ns[j])) rfl (x_ret (x_ifT (x_qv ?_) (x_rt ?_))) rfl⟩
    · show some (PyData.bool (decide ((j : Int) < (((ns.map PyData.int).length : Nat) : Int)))) = _
      rw [decide_eq_true (by rw [List.length_map]; omega)]
    · refine x_op rfl rfl (ix_l (atI_nat ?_))
      rw [List.getElem?_map, List.getElem?_eq_getElem hl] <;> rfl
  · obtain ⟨ρ', h1, z, kv, rfl, _⟩ := x_for (mi := iS (mSl (mW 0) pNo (pSo (mC (.int 3))))) (gm := gN 3) (mb := mSet 2 (mOp oMod (mOp oAdd (mOp oMul (mW 2) (mC (.int 69621))) (mW 3)) (mC (.int 2147483647))))
      (ρ := [.val (.list (ns.map PyData.int)), .val (.int (j : Int)), .val (.int ((48271 * ((j : Int) * (j : Int) + 7 * (j : Int) + 11)).fmod 2147483647)), .no]) (ds := LB.cutD (ns.map PyData.int) none (some 3))
      (fun i ρ => ∃ (z : Int) (kv : Sl), ρ = [.val (.list (ns.map PyData.int)), .val (.int (j : Int)), .val (.int z), kv] ∧ 0 ≤ z ∧ z < 2147483647) rfl ⟨_, _, rfl, fm _ (by decide)⟩ (by
        rintro i d ρ hd ⟨z, kv, rfl, z0, z1⟩
        obtain ⟨c, _, rfl⟩ := List.mem_map.mp (cut_mem (List.mem_of_getElem? hd))
        exact ⟨_, _, rfl, x_set (x_op (x_op (x_op rfl rfl (mul_ii (by omega) (by omega))) rfl rfl) rfl rfl), _, _, rfl, fm _ (by decide)⟩)
    have jj : (j : Int) * (j : Int) ≤ 1000 * 1000 := Int.mul_le_mul (by omega) (by omega) (by omega) (by omega)
    have j0 : (0 : Int) ≤ (j : Int) * (j : Int) := Int.mul_nonneg (by omega) (by omega)
    refine ⟨z, x_fn (q := .rt (.int z)) rfl (x_seq (x_ifF (x_qv ?_) rfl) (x_seq (x_set (x_op (x_op rfl (x_op (x_op (x_op rfl rfl (mul_ii (by omega) (by omega))) (x_op rfl rfl (mul_ii (by omega) (by omega))) rfl) rfl rfl) (mul_ii (by omega) (by omega))) rfl rfl)) (x_seq h1 (x_rt rfl)))) rfl⟩
    show some (PyData.bool (decide ((j : Int) < (((ns.map PyData.int).length : Nat) : Int)))) = _
    rw [decide_eq_false (by rw [List.length_map]; omega)]
theorem nums_ok (c : Int) {m : Nat} (hm : m ≤ 1000) : ∃ xs, NumsOk m xs ∧ M_L_numbers [.int c, .int (m : Int)] = some (.list (xs.map .int)) := by
  have c1 := fm c (b := 1999999973) (by decide)
  have mid : ∃ dg : Int, 0 ≤ dg ∧ mIfS (qOr (qV (mOp oLt (mW 0) (mC (.int 0)))) (qV (mOp oGe (mW 0) (mOp oPow (mC (.int 10)) (mC (.int 18)))))) (mSet 4 (mCb oAbs (aCons (mW 0) aNil))) mNx [.val (.int c), .val (.int (m : Int)), .own (.list []), .val (.int (((c.fmod 1999999973 + 31) * 765432101).fmod 1999999973)), .val (.int 0), .no] = some (.nx [.val (.int c), .val (.int (m : Int)), .own (.list []), .val (.int (((c.fmod 1999999973 + 31) * 765432101).fmod 1999999973)), .val (.int dg), .no]) := by
    have ab : 0 ≤ (if c < 0 then -c else c) := by split <;> omega
    have p1 : ∀ b : Bool, decide (c < 0) = b → qV (mOp oLt (mW 0) (mC (.int 0))) [.val (.int c), .val (.int (m : Int)), .own (.list []), .val (.int (((c.fmod 1999999973 + 31) * 765432101).fmod 1999999973)), .val (.int 0), .no] = some b := fun b h => x_qv (x_op rfl rfl (by show some (PyData.bool (decide (c < 0))) = _; rw [h]))
    have p2 : ∀ b : Bool, decide ((10 : Int) ^ (18 : Int).toNat ≤ c) = b → qV (mOp oGe (mW 0) (mOp oPow (mC (.int 10)) (mC (.int 18)))) [.val (.int c), .val (.int (m : Int)), .own (.list []), .val (.int (((c.fmod 1999999973 + 31) * 765432101).fmod 1999999973)), .val (.int 0), .no] = some b := fun b h => x_qv (x_op rfl (x_op rfl rfl rfl) (by show some (PyData.bool (decide ((10 : Int) ^ (18 : Int).toNat ≤ c))) = _; rw [h]))
    by_cases h1 : c < 0
    · exact ⟨_, ab, x_ifT (x_orT (p1 true (decide_eq_true h1))) (x_set rfl)⟩
    · by_cases h2 : (10 : Int) ^ (18 : Int).toNat ≤ c
      · exact ⟨_, ab, x_ifT (x_orF (p1 false (decide_eq_false h1)) (p2 true (decide_eq_true h2))) (x_set rfl)⟩
      · exact ⟨0, Int.le_refl _, x_ifF (x_orF (p1 false (decide_eq_false h1)) (p2 false (decide_eq_false h2))) rfl⟩
  obtain ⟨dg, dg0, hmid⟩ := mid
  obtain ⟨ρ', h1, xs, st, dg', kv, rfl, hl, hb, _⟩ := x_for (mi := iR (aCons (mV 1) aNil)) (gm := gN 5) (mb := mSeq (mSet 3 (mOp oMod (mOp oAdd (mOp oAdd (mOp oMul (mW 3) (mOp oAdd (mOp oMod (mW 3) (mC (.int 65521))) (mC (.int 40487)))) (mOp oMul (mC (.int 7)) (mW 5))) (mC (.int 5))) (mC (.int 1999999973))))
    (mSeq (mApp 2 (mOp oIx (mLst (aCons (mV 3) (aCons (mOp oMod (mW 4) (mC (.int 1000000))) aNil))) (mCb oInt (aCons (mOp oGt (mW 4) (mC (.int 0))) aNil)))) (mSet 4 (mOp oFdv (mW 4) (mC (.int 1000000))))))
    (ρ := [.val (.int c), .val (.int (m : Int)), .own (.list []), .val (.int (((c.fmod 1999999973 + 31) * 765432101).fmod 1999999973)), .val (.int dg), .no]) (ds := rngD m)
    (fun i ρ => ∃ (xs : List Int) (st dg : Int) (kv : Sl), ρ = [.val (.int c), .val (.int (m : Int)), .own (.list (xs.map PyData.int)), .val (.int st), .val (.int dg), kv] ∧ xs.length = i ∧ (∀ x ∈ xs, 0 ≤ x ∧ x < 2000000000) ∧ 0 ≤ st ∧ st < 1999999973 ∧ 0 ≤ dg)
    (x_rng rfl (by omega)) ⟨[], _, dg, .no, rfl, rfl, fun x hx => (List.not_mem_nil hx).elim, (fm _ (by decide)).1, (fm _ (by decide)).2, dg0⟩ (by
      rintro i d ρ hd ⟨xs, st, dg, kv, rfl, hl, hb, s0, s1, d0⟩
      obtain ⟨i', hi', rfl⟩ := List.mem_map.mp (List.mem_of_getElem? hd)
      have hi2 := List.mem_range.mp hi'
      have il : i < m := by
        have := (List.getElem?_eq_some_iff.mp hd).1
        rw [rngD_length] at this
        exact this
      have f1 := fm st (b := 65521) (by decide)
      have ev : ∀ b : Bool, ∃ v : Int, atI [PyData.int ((st * (st.fmod 65521 + 40487) + 7 * (i' : Int) + 5).fmod 1999999973), PyData.int (dg.fmod 1000000)] (if b = true then 1 else 0) = some (.int v) ∧ 0 ≤ v ∧ v < 2000000000 := fun b => by
        have g1 := fm dg (b := 1000000) (by decide)
        have g2 := fm (st * (st.fmod 65521 + 40487) + 7 * (i' : Int) + 5) (b := 1999999973) (by decide)
        cases b
        · exact ⟨_, at0, g2.1, by omega⟩
        · exact ⟨_, at1, g1.1, by omega⟩
      obtain ⟨v, hv, v0, v1⟩ := ev (decide (0 < dg))
      refine ⟨_, _, rfl, x_seq (x_set (x_op (x_op (x_op (x_op rfl (x_op (x_op rfl rfl rfl) rfl rfl) (mul_ii (by omega) (by omega))) (x_op rfl rfl (mul_ii (by omega) (by omega))) rfl) rfl rfl) rfl rfl)) (x_seq (x_app (d := .int v) (x_op rfl rfl (ix_l hv)) rfl (by rw [List.length_map]; omega)) (x_set rfl)), xs ++ [v], _, _, _, by rw [List.map_append]; rfl, by rw [List.length_append, hl]; rfl, ?_, (fm _ (by decide)).1, (fm _ (by decide)).2, ?_⟩
      · intro x hx
        rcases List.mem_append.mp hx with h | h
        · exact hb x h
        · rw [List.mem_singleton.mp h]
          exact ⟨v0, v1⟩
      · rw [Int.fdiv_eq_ediv_of_nonneg _ (by decide)]
        exact Int.ediv_nonneg d0 (by decide))
  rw [rngD_length] at hl
  exact ⟨xs, ⟨hl, hb⟩, x_fn (q := .rf (.list (xs.map .int))) rfl (x_seq (x_setO rfl) (x_seq (x_set (x_op (x_op (x_op (x_op rfl rfl rfl) rfl rfl) rfl (mul_ii (by omega) (by omega))) rfl rfl)) (x_seq (x_set rfl) (x_seq hmid (x_seq h1 rfl))))) rfl⟩
theorem eight : ∀ {xs : List Int}, 8 ≤ xs.length → ∃ x0 x1 x2 x3 x4 x5 x6 x7 r, xs = x0 :: x1 :: x2 :: x3 :: x4 :: x5 :: x6 :: x7 :: r
  | x0 :: x1 :: x2 :: x3 :: x4 :: x5 :: x6 :: x7 :: r, _ => ⟨x0, x1, x2, x3, x4, x5, x6, x7, r, rfl⟩
/-- a web of a picture: ties of nothing too, and more of them -/
def TieP (ns : List Str) (d : PyData) : Prop := ∃ (a b : Str) (s : Int), d = .tuple [.str a, .str b, .int s] ∧ a ∈ ns ∧ b ∈ ns ∧ a ≠ b ∧ 0 ≤ s ∧ s ≤ 999
structure WebP (top : Int) (ns : List Str) (ps ts : List PyData) : Prop where
  t1 : 1 ≤ top
  t9 : top ≤ 9
  n1 : 1 ≤ ns.length
  n8 : ns.length ≤ 8
  rise : Rise ns
  each : ∀ x ∈ ns, NameOk x
  pl : PySem.W.EachIs (PlaceOk top) ns ps
  tl : ts.length ≤ 32
  ti : ∀ t ∈ ts, TieP ns t
end K60
namespace K60
open PySem PySem.Spec PyProof.Rows L2 LB PM
section
variable {top : Int} {ns : List Str} {ps ts : List PyData}
theorem few_ps (W : WebP top ns ps ts) : ps.length ≤ 8 := by
  rw [← W.pl.length]
  exact W.n8
theorem map_true {f : PyData → PyData} (l : List PyData) : (l.filter fun _ => true).map f = l.map f := by rw [List.filter_eq_self.mpr fun _ _ => rfl]
theorem names_of_ok (W : WebP top ns ps ts) : M_names_of [webD top ps ts] = some (.tuple (ns.map .str)) := by
  refine r_eq rfl (r_ret (d := .tuple (ns.map .str)) (x_tg (ds := ps) rfl (by have := few_ps W; omega) ?_) rfl)
  rw [x_lcGo (fun _ => true) nmD ps fun d hd => ?_, map_true, nmD_all W.pl]
  obtain ⟨x, a, b, c, e, hx, rfl, _⟩ := nmD_at W.pl d hd
  exact ⟨_, rfl, rfl, fun _ => rfl⟩
theorem is_rising_ok (xs : List Str) : M_is_rising [.tuple (xs.map .str)] = some (.bool (riseB xs)) := by
  refine r_eq rfl (r_ret (d := .bool (riseB xs)) (x_ag (ds := zipD (xs.map .str) ((xs.map PyData.str).drop 1)) ?_ ?_) rfl)
  · show some (zipD (xs.map .str) (LB.cutD (xs.map .str) (some 1) none)) = _
    rw [cut_tail]
  · rw [x_agGo ltD _ fun d hd => ?_, rise_zip]
    obtain ⟨a, b, rfl⟩ := zip_strs hd
    exact ⟨_, rfl, rfl, rfl⟩
theorem is_tup (d : PyData) (ρ : Ev) {i : Nat} (h : ρ[i]? = some (.val d)) : qNot (qV (mIs "tuple" (mW i))) ρ = some (!isU d) := by
  refine x_not (x_qv ?_)
  unfold mIs mW
  rw [h]
  show (kitB (tyN d) "tuple").map _ = _
  rw [kit_tuple]
  rfl
theorem is_str (d : PyData) (ρ : Ev) {i : Nat} (h : ρ[i]? = some (.val d)) : mIs "str" (mW i) ρ = some (.bool (isS d)) := by
  unfold mIs mW
  rw [h]
  show (kitB (tyN d) "str").map _ = _
  rw [kit_str]
  rfl
theorem is_choice_ok (ns : List Str) (d : PyData) : M_is_choice [.tuple (ns.map .str), d] = some (.bool (cutB ns d)) := by
  refine r_eq rfl ?_
  by_cases hu : isU d = true
  · match d, hu with
    | .tuple es, _ =>
      refine r_seq (ρ' := [.val (.tuple (ns.map .str)), .val (.tuple es), .no]) (x_ifF (is_tup (.tuple es) _ rfl) rfl) ?_
      have hag : mAg (iS (mW 1)) [2] (gN 2) qT (mAnd (mIs "str" (mW 2)) (mOp oIn (mW 2) (mW 0))) [.val (.tuple (ns.map .str)), .val (.tuple es), .no] = some (.bool (es.all (inN ns))) := by
        refine x_ag (ds := es) rfl (x_agGo (inN ns) es fun e he => ⟨_, rfl, rfl, ?_⟩)
        cases e with
        | str x =>
          exact x_mandT (is_str (.str x) _ rfl) (x_op rfl rfl (in_strs rfl))
        | none => exact x_mandF (is_str .none _ rfl)
        | bool b => exact x_mandF (is_str (.bool b) _ rfl)
        | int b => exact x_mandF (is_str (.int b) _ rfl)
        | list b => exact x_mandF (is_str (.list b) _ rfl)
        | tuple b => exact x_mandF (is_str (.tuple b) _ rfl)
        | dict b => exact x_mandF (is_str (.dict b) _ rfl)
      show Run (mRet _) [.val (.tuple (ns.map .str)), .val (.tuple es), .no] _
      cases ha : es.all (inN ns) with
      | false =>
        rw [ha] at hag
        refine r_ret (x_mandF hag) ?_
        show some (PyData.bool false) = some (.bool (es.all (inN ns) && _))
        rw [ha]
        rfl
      | true =>
        rw [ha] at hag
        obtain ⟨e1, _⟩ := strs_all ha
        have hr : M_is_rising [.tuple es] = some (.bool (riseB (txs es))) := by
          have := is_rising_ok (txs es)
          rw [← e1] at this
          exact this
        refine r_ret (x_mandT hag (x_cb rfl hr)) ?_
        show some (PyData.bool (riseB (txs es))) = some (.bool (es.all (inN ns) && riseB (txs es)))
        rw [ha]
        rfl
  · have hf : isU d = false := by simpa using hu
    have ht := is_tup d [.val (.tuple (ns.map .str)), .val d, .no] (i := 1) rfl
    rw [hf] at ht
    refine ⟨.rt (.bool false), x_ret (x_ifT ht rfl), ?_⟩
    show some (PyData.bool false) = _
    cases d with
    | tuple es => exact absurd hf (by simp [isU])
    | _ => rfl
theorem is_cut_ok (W : WebP top ns ps ts) (d : PyData) : M_is_cut [webD top ps ts, d] = some (.bool (cutB ns d)) :=
  r_eq rfl (r_ret (x_cb (x_cons (x_cb rfl (names_of_ok W)) rfl) (is_choice_ok ns d)) rfl)
end
end K60
namespace K60
open PySem PySem.Spec PyProof.Rows L2 LB PM
section
variable {top : Int} {ns : List Str} {ps ts : List PyData}
theorem star_tup {x : List PyData} {y : PyData} {ρ : Ev} (h3 : ρ[3]? = some (.val (.tuple x))) (h2 : ρ[2]? = some (.val y)) (hl : x.length < 1000) : mTup (aStar (mW 3) (aCons (mV 2) aNil)) ρ = some (.tuple (x ++ [y])) := by
  refine x_tup ?_ (by rw [List.length_append]; show _ + 1 ≤ 100000; omega)
  unfold aStar aCons mW mV aNil
  rw [h3, h2]
  rfl
def snocD (y : PyData) : PyData → PyData
  | .tuple x => .tuple (x ++ [y])
  | d => d
theorem cutsF_short (ns : List Str) : ∀ c ∈ cutsF ns, c.length ≤ ns.length := by
  refine snoc_ind (P := fun l => ∀ c ∈ cutsF l, c.length ≤ l.length) (fun c hc => ?_) (fun l a ih c hc => ?_) ns
  · rw [List.mem_singleton.mp (show c ∈ [[]] from hc)]
    exact Nat.le_refl _
  · rw [cutsF_snoc] at hc
    rcases List.mem_append.mp hc with hc | hc
    · have := ih c hc
      rw [List.length_append]
      omega
    · obtain ⟨c', hc', rfl⟩ := List.mem_map.mp hc
      have := ih c' hc'
      rw [List.length_append, List.length_append]
      show c'.length + 1 ≤ l.length + 1
      omega
theorem choices_ok {ns : List Str} (n8 : ns.length ≤ 8) : M_choices_of [.tuple (ns.map .str)] = some (.list ((cutsF ns).map tupS)) := by
  refine r_eq rfl (r_seq (x_set rfl) (r_for (ds := ns.map .str) (fun i ρ => ∃ a b, ρ = [.val (.tuple (ns.map .str)), .val (.list ((cutsF (ns.take i)).map tupS)), a, b] ∧ i ≤ ns.length) rfl ⟨_, _, rfl, Nat.zero_le _⟩ ?_ ?_))
  · rintro i d ρ hd ⟨a, b, rfl, hi⟩
    rw [List.getElem?_map] at hd
    have hin : i < ns.length := by
      rcases Nat.lt_or_ge i ns.length with h | h
      · exact h
      · rw [List.getElem?_eq_none h] at hd
        cases hd
    rw [List.getElem?_eq_getElem hin] at hd
    cases hd
    have l1 : (cutsF (ns.take i)).length ≤ 256 := by
      rw [cutsF_len, List.length_take]
      have : 2 ^ min i ns.length ≤ 2 ^ 8 := Nat.pow_le_pow_right (by decide) (by omega)
      omega
    refine ⟨_, rfl, r_end (x_set (x_op rfl (x_lc (ds := (cutsF (ns.take i)).map tupS) (es := (cutsF (ns.take i)).map fun c => tupS (c ++ [ns[i]])) rfl (by rw [List.length_map]; omega) ?_) (add_ll (by rw [List.length_map, List.length_map]; omega)))) ⟨.val (.str ns[i]), b, ?_, hin⟩⟩
    · rw [x_lcGo (fun _ => true) (snocD (.str ns[i])) _ fun d hd => ?_, map_true, List.map_map]
      · refine congrArg some (List.map_congr_left fun c _ => ?_)
        show PyData.tuple (c.map .str ++ [.str ns[i]]) = .tuple ((c ++ [ns[i]]).map .str)
        rw [List.map_append]
        rfl
      · obtain ⟨c, hc, rfl⟩ := List.mem_map.mp hd
        have hs := cutsF_short _ c hc
        rw [List.length_take] at hs
        exact ⟨_, rfl, rfl, fun _ => star_tup rfl rfl (by rw [List.length_map]; omega)⟩
    · rw [List.take_succ_eq_append_getElem hin, cutsF_snoc, List.map_append, List.map_map]
      rfl
  · rintro ρ ⟨a, b, rfl, _⟩
    rw [List.length_map, List.take_length]
    exact r_ret rfl rfl
theorem all_cuts_ok (W : WebP top ns ps ts) : M_all_cuts [webD top ps ts] = some (.list (sortD ((cutsF ns).map tupS))) :=
  x_fn rfl (x_rt (x_cb (x_cons (x_cb (x_cons (x_cb rfl (names_of_ok W)) rfl) (choices_ok W.n8)) rfl) (x_sorted (srt_cuts W.n8)))) rfl
end
end K60
namespace K60
open PySem PySem.Spec PyProof.Rows L2 LB PM
open K01 (lowT lowB dvs gcd_fmod fmod_small gcd_pos dvs_ne dvs_nat gcd_le lowB_mul lowT_mul lowB_pos low_gcd low_id low_natAbs_t low_natAbs_b)
theorem cd_loop : ∀ (k : Nat) (a b : Int), b.natAbs ≤ k → ∃ n c, whGo (qV (mOp oNe (mW 1) (mC (.int 0)))) (mPar 0 1 (aCons (mV 1) (aCons (mOp oMod (mW 0) (mW 1)) aNil))) n [.val (.int a), .val (.int b)] = some (.nx [.val (.int c), .val (.int 0)]) ∧ c.natAbs = Int.gcd a b
  | k, a, b, hk => by
    have ht : qV (mOp oNe (mW 1) (mC (.int 0))) [.val (.int a), .val (.int b)] = some (!decide (b = 0)) := x_qv (x_op rfl rfl (ne_ii _ _))
    by_cases hb : b = 0
    · rw [decide_eq_true hb] at ht
      subst hb
      exact ⟨1, a, wh_stop ht, by rw [Int.gcd_zero_right]⟩
    · rw [decide_eq_false hb] at ht
      have hs := fmod_small a b hb
      match k, hk with
      | 0, hk => exact absurd (Int.natAbs_eq_zero.mp (Nat.le_zero.mp hk)) hb
      | k + 1, hk =>
        obtain ⟨n, c, h1, h2⟩ := cd_loop k b (a.fmod b) (by omega)
        refine ⟨n + 1, c, wh_step ht (x_par (x_cons rfl (x_cons (x_op rfl rfl (mod_ii hb)) rfl))) h1, ?_⟩
        rw [h2, gcd_fmod]
theorem abs_nat (c : Int) : (if c < 0 then -c else c) = (c.natAbs : Int) := by split <;> omega
theorem cd_ok (a b : Int) : M_common_divisor [.int a, .int b] = some (.int (Int.gcd a b : Int)) := by
  obtain ⟨n, c, h1, h2⟩ := cd_loop b.natAbs a b (Nat.le_refl _)
  refine r_eq rfl (r_seq (x_while h1) (r_ret (d := .int (Int.gcd a b : Int)) ?_ rfl))
  show some (PyData.int (if c < 0 then -c else c)) = _
  rw [abs_nat, h2]
theorem fraction_ok {t b : Int} (hb : b ≠ 0) (h2 : b.natAbs < 2 ^ 200) : M_fraction [.int t, .int b] = some (frD t b) := by
  have g := gcd_le t hb
  have dn := dvs_nat t b
  refine r_eq rfl (r_seq (x_ifF (x_qv (x_op rfl rfl (by rw [eq_ii, decide_eq_false hb]))) rfl) (r_seq (x_set (x_cb rfl (cd_ok t b))) (r_mid (fun ρ => ρ = [.val (.int t), .val (.int b), .val (.int (dvs t b))]) ?_ ?_)))
  · refine r_if (c := decide (b < 0)) (x_qv (x_op rfl rfl rfl)) (fun h => r_end (x_set (x_neg rfl)) ?_) (fun h => r_end rfl ?_)
    · show _ = _
      unfold dvs
      rw [if_pos (of_decide_eq_true h)]
      rfl
    · show _ = _
      unfold dvs
      rw [if_neg (of_decide_eq_false h)]
      rfl
  · rintro ρ rfl
    exact r_ret (d := frD t b) (x_tup (x_cons (x_op rfl rfl (fdv_ii (dvs_ne t hb) (by omega))) (x_cons (x_op rfl rfl (fdv_ii (dvs_ne t hb) (by omega))) rfl)) (by show 2 ≤ 100000; decide)) rfl
end K60
namespace K60
open PySem PySem.Spec PyProof.Rows L2 LB PM
open K01 (lowT lowB dvs gcd_fmod fmod_small gcd_pos dvs_ne dvs_nat gcd_le lowB_mul lowT_mul lowB_pos low_gcd low_id low_natAbs_t low_natAbs_b)
section
/-! ### which fraction is less, the same -/
theorem lt_low {a b c d : Int} (hb : 0 < b) (hd : 0 < d) : (lowT a b * lowB c d < lowT c d * lowB a b) ↔ a * d < c * b := by
  have c1 := low_cross a (b := b) (by omega)
  have c2 := low_cross c (b := d) (by omega)
  have y0 := lowB_pos a (b := b) (by omega)
  have v0 := lowB_pos c (b := d) (by omega)
  generalize lowT a b = x at *
  generalize lowB a b = y at *
  generalize lowT c d = u at *
  generalize lowB c d = v at *
  have p1 : 0 < b * d := Int.mul_pos hb hd
  have p2 : 0 < y * v := Int.mul_pos y0 v0
  have e1 : x * v * (b * d) = a * d * (y * v) := by
    calc x * v * (b * d) = (x * b) * (v * d) := by ac_rfl
      _ = (a * y) * (v * d) := by rw [c1]
      _ = a * d * (y * v) := by ac_rfl
  have e2 : u * y * (b * d) = c * b * (y * v) := by
    calc u * y * (b * d) = (u * d) * (y * b) := by ac_rfl
      _ = (c * v) * (y * b) := by rw [c2]
      _ = c * b * (y * v) := by ac_rfl
  constructor
  · intro h
    have := Int.mul_lt_mul_of_pos_right h p1
    rw [e1, e2] at this
    exact Int.lt_of_mul_lt_mul_right this (Int.le_of_lt p2)
  · intro h
    have := Int.mul_lt_mul_of_pos_right h p2
    rw [← e1, ← e2] at this
    exact Int.lt_of_mul_lt_mul_right this (Int.le_of_lt p1)
theorem frD_inj {a b c d : Int} (hb : 0 < b) (hd : 0 < d) (h : frD a b = frD c d) : a * d = c * b := by
  have c1 := low_cross a (b := b) (by omega)
  have c2 := low_cross c (b := d) (by omega)
  have y0 := lowB_pos a (b := b) (by omega)
  have h1 : lowT a b = lowT c d := by
    have : PyData.tuple [.int (lowT a b), .int (lowB a b)] = .tuple [.int (lowT c d), .int (lowB c d)] := h
    injection this with this
    injection this with h1 _
    injection h1
  have h2 : lowB a b = lowB c d := by
    have : PyData.tuple [.int (lowT a b), .int (lowB a b)] = .tuple [.int (lowT c d), .int (lowB c d)] := h
    injection this with this
    injection this with _ h2
    injection h2 with h2 _
    injection h2
  rw [← h1, ← h2] at c2
  have : a * d * lowB a b = c * b * lowB a b := by
    calc a * d * lowB a b = (a * lowB a b) * d := by ac_rfl
      _ = (lowT a b * b) * d := by rw [c1]
      _ = (lowT a b * d) * b := by ac_rfl
      _ = (c * lowB a b) * b := by rw [c2]
      _ = c * b * lowB a b := by ac_rfl
  exact Int.eq_of_mul_eq_mul_right (by omega) this
theorem eq_fr2 {a b c d : Int} (hb : 0 < b) (hd : 0 < d) : oEq (frD a b) (frD c d) = some (.bool (decide (a * d = c * b))) := by
  unfold oEq
  rw [if_pos ⟨rfl, rfl⟩]
  by_cases h : a * d = c * b
  · rw [decide_eq_true h, frD_eq (by omega) (by omega) h]
    rw [PySem.SeqAt.eqv_refl _ (SeqAt.canLay_of_shaped (show SeqAt.shaped (frD c d) = true from rfl))]
  · rw [decide_eq_false h]
    have e : PyData.eqv (frD a b) (frD c d) = (decide (lowT a b = lowT c d) && (decide (lowB a b = lowB c d) && true)) := by
      unfold frD
      simp [PyData.eqv, PyData.eqvAll]
      rfl
    rw [e]
    by_cases h1 : lowT a b = lowT c d
    · by_cases h2 : lowB a b = lowB c d
      · refine absurd (frD_inj hb hd ?_) h
        unfold frD
        rw [h1, h2]
      · rw [decide_eq_false h2, Bool.false_and, Bool.and_false]
    · rw [decide_eq_false h1, Bool.false_and]
theorem below_ok {a b c d : Int} (hb : 0 < b) (hd : 0 < d) (h1 : a.natAbs < 2 ^ 99) (h2 : b.natAbs < 2 ^ 99) (h3 : c.natAbs < 2 ^ 99) (h4 : d.natAbs < 2 ^ 99) : M_below [frD a b, frD c d] = some (.bool (decide (a * d < c * b))) := by
  have a1 := low_natAbs_t a (b := b) (by omega)
  have a2 := low_natAbs_b a (b := b) (by omega)
  have a3 := low_natAbs_t c (b := d) (by omega)
  have a4 := low_natAbs_b c (b := d) (by omega)
  rw [decide_eq_decide.mpr (lt_low hb hd).symm]
  exact r_eq rfl (r_ret (x_op (x_op (x_op rfl rfl (ix_t at0)) (x_op rfl rfl (ix_t at1)) (mul_ii (lt200 (by omega)) (lt200 (by omega)))) (x_op (x_op rfl rfl (ix_t at0)) (x_op rfl rfl (ix_t at1)) (mul_ii (lt200 (by omega)) (lt200 (by omega)))) rfl) rfl)
theorem tlen_S (c : List Str) : tlen (tupS c) = c.length := by
  show (c.map PyData.str).length = _
  rw [List.length_map]
end
end K60
namespace K60
open PySem PySem.Spec PyProof.Rows L2 LB PM
open K01 (lowT lowB dvs gcd_fmod fmod_small gcd_pos dvs_ne dvs_nat gcd_le lowB_mul lowT_mul lowB_pos low_gcd low_id low_natAbs_t low_natAbs_b)
section
variable {top : Int} {ns cs : List Str} {ps ts : List PyData} {p q : Int}
theorem pl_b (W : WebP top ns ps ts) {d : PyData} (hd : d ∈ ps) : ∃ (x : Str) (a b c e : Int), x ∈ ns ∧ d = .tuple [.str x, .int a, .int b, .int c, .int e] ∧ a.natAbs ≤ 999 ∧ b.natAbs ≤ 999 ∧ c.natAbs ≤ 999 ∧ e.natAbs ≤ 999 := by
  obtain ⟨x, a, b, c, e, hx, rfl, ha, hb, he, h1, h2⟩ := nmD_at W.pl d hd
  have : 0 ≤ e * top := Int.mul_nonneg (by omega) (by have := W.t1; omega)
  exact ⟨x, a, b, c, e, hx, rfl, by omega, by omega, by omega, by omega⟩
end
end K60
namespace K60
open PySem PySem.Spec PyProof.Rows L2 LB PM
open K01 (lowT lowB dvs gcd_fmod fmod_small gcd_pos dvs_ne dvs_nat gcd_le lowB_mul lowT_mul lowB_pos low_gcd low_id low_natAbs_t low_natAbs_b)
section
variable {top : Int} {ns cs : List Str} {ps ts : List PyData} {p q : Int}
theorem line_ok (W : WebP top ns ps ts) (hc : cutB ns (.tuple (cs.map .str)) = true) : M_line_of [webD top ps ts, .tuple (cs.map .str)] = some (.tuple [.int (sumOf (bP cs) ps + sumOf (bT cs) ts), .int (sumOf (lP cs) ps)]) := by
  have hcut := is_cut_ok W (.tuple (cs.map .str))
  rw [hc] at hcut
  refine r_eq rfl (r_seq (x_ifF (x_not (x_qv (c := true) (x_cb rfl hcut))) rfl) (r_seq (x_set rfl) (r_seq (x_set rfl) (r_for (ds := ps) (fun i ρ => ∃ s1 s2 s3 s4 s5, ρ = [.val (webD top ps ts), .val (.tuple (cs.map .str)), .val (.int (sumOf (bP cs) (ps.take i))), .val (.int (sumOf (lP cs) (ps.take i))), s1, s2, s3, s4, s5, .no, .no, .no]) rfl ⟨_, _, _, _, _, rfl⟩ ?_ ?_))))
  · rintro i d ρ hd ⟨s1, s2, s3, s4, s5, rfl⟩
    obtain ⟨x, a, b, c, e, hx, rfl, _⟩ := nmD_at W.pl d (List.mem_of_getElem? hd)
    refine ⟨_, rfl, r_if (c := decide (x ∈ cs)) (x_qv (x_op rfl rfl (in_strs rfl))) (fun h => r_seq (x_aug rfl rfl rfl) (r_end (x_aug rfl rfl rfl) ⟨.val (.str x), .val (.int a), .val (.int b), .val (.int c), .val (.int e), ?_⟩)) (fun h => r_seq (x_aug rfl rfl rfl) (r_end (x_aug rfl rfl rfl) ⟨.val (.str x), .val (.int a), .val (.int b), .val (.int c), .val (.int e), ?_⟩))⟩
    · have hx := of_decide_eq_true h
      rw [take_snoc hd, sum_snoc, sum_snoc]
      rw [show bP cs (.tuple [.str x, .int a, .int b, .int c, .int e]) = c from if_pos hx, show lP cs (.tuple [.str x, .int a, .int b, .int c, .int e]) = -e from if_pos hx]
      rfl
    · have hx := of_decide_eq_false h
      rw [take_snoc hd, sum_snoc, sum_snoc]
      rw [show bP cs (.tuple [.str x, .int a, .int b, .int c, .int e]) = a from if_neg hx, show lP cs (.tuple [.str x, .int a, .int b, .int c, .int e]) = b from if_neg hx]
      rfl
  · rintro ρ ⟨s1, s2, s3, s4, s5, rfl⟩
    rw [List.take_length]
    refine r_for (ds := ts) (fun i ρ => ∃ s6 s7 s8, ρ = [.val (webD top ps ts), .val (.tuple (cs.map .str)), .val (.int (sumOf (bP cs) ps + sumOf (bT cs) (ts.take i))), .val (.int (sumOf (lP cs) ps)), s1, s2, s3, s4, s5, s6, s7, s8]) rfl ⟨_, _, _, by rw [List.take_zero, show sumOf (bT cs) [] = 0 from rfl, Int.add_zero]⟩ ?_ ?_
    · rintro i d ρ hd ⟨s6, s7, s8, rfl⟩
      obtain ⟨x, y, s, rfl, _⟩ := W.ti d (List.mem_of_getElem? hd)
      have t1 : qV (mOp oIn (mW 9) (mW 1)) [.val (webD top ps ts), .val (.tuple (cs.map .str)), .val (.int (sumOf (bP cs) ps + sumOf (bT cs) (ts.take i))), .val (.int (sumOf (lP cs) ps)), s1, s2, s3, s4, s5, .val (.str x), .val (.str y), .val (.int s)] = some (decide (x ∈ cs)) := x_qv (x_op rfl rfl (in_strs rfl))
      have t2 : qV (mOp oNin (mW 10) (mW 1)) [.val (webD top ps ts), .val (.tuple (cs.map .str)), .val (.int (sumOf (bP cs) ps + sumOf (bT cs) (ts.take i))), .val (.int (sumOf (lP cs) ps)), s1, s2, s3, s4, s5, .val (.str x), .val (.str y), .val (.int s)] = some (!decide (y ∈ cs)) := x_qv (x_op rfl rfl (nin_strs rfl))
      have tt : qAnd (qV (mOp oIn (mW 9) (mW 1))) (qV (mOp oNin (mW 10) (mW 1))) [.val (webD top ps ts), .val (.tuple (cs.map .str)), .val (.int (sumOf (bP cs) ps + sumOf (bT cs) (ts.take i))), .val (.int (sumOf (lP cs) ps)), s1, s2, s3, s4, s5, .val (.str x), .val (.str y), .val (.int s)] = some (decide (x ∈ cs ∧ y ∉ cs)) := by
        by_cases hx : x ∈ cs
        · rw [decide_eq_true hx] at t1
          rw [x_andT t1 t2]
          congr 1
          by_cases hy : y ∈ cs <;> simp [hx, hy]
        · rw [decide_eq_false hx] at t1
          rw [x_andF t1, decide_eq_false fun z => hx z.1]
      refine ⟨_, rfl, r_if tt (fun h => r_end (x_aug rfl rfl rfl) ⟨.val (.str x), .val (.str y), .val (.int s), ?_⟩) (fun h => r_end rfl ⟨.val (.str x), .val (.str y), .val (.int s), ?_⟩)⟩
      · rw [take_snoc hd, sum_snoc, show bT cs (.tuple [.str x, .str y, .int s]) = s from if_pos (of_decide_eq_true h), ← Int.add_assoc]
        rfl
      · rw [take_snoc hd, sum_snoc, show bT cs (.tuple [.str x, .str y, .int s]) = 0 from if_neg (of_decide_eq_false h), Int.add_zero]
        rfl
    · rintro ρ ⟨s6, s7, s8, rfl⟩
      rw [List.take_length]
      exact r_ret rfl rfl
theorem bP_b (W : WebP top ns ps ts) {d : PyData} (hd : d ∈ ps) : (bP cs d).natAbs ≤ 999 ∧ (lP cs d).natAbs ≤ 999 := by
  obtain ⟨x, a, b, c, e, hx, rfl, ha, hb, hc, he⟩ := pl_b W hd
  show (if x ∈ cs then c else a).natAbs ≤ 999 ∧ (if x ∈ cs then -e else b).natAbs ≤ 999
  split <;> constructor <;> omega
theorem bT_b (W : WebP top ns ps ts) {d : PyData} (hd : d ∈ ts) : (bT cs d).natAbs ≤ 999 := by
  obtain ⟨x, y, s, rfl, _, _, _, h1, h2⟩ := W.ti d hd
  show (if x ∈ cs ∧ y ∉ cs then s else 0).natAbs ≤ 999
  split <;> omega
theorem base_b (W : WebP top ns ps ts) (cs : List Str) : (sumOf (bP cs) ps + sumOf (bT cs) ts).natAbs ≤ 100000 ∧ (sumOf (lP cs) ps).natAbs ≤ 100000 := by
  have h1 : (sumOf (bP cs) ps).natAbs ≤ ps.length * 999 := sum_bound fun d hd => (bP_b W hd).1
  have h2 : (sumOf (lP cs) ps).natAbs ≤ ps.length * 999 := sum_bound fun d hd => (bP_b W hd).2
  have h3 : (sumOf (bT cs) ts).natAbs ≤ ts.length * 999 := sum_bound fun d hd => bT_b W hd
  have l8 := few_ps W
  have l16 := W.tl
  omega
end
end K60
namespace K60
open PySem PySem.Spec PyProof.Rows L2 LB PM
section
variable {top : Int} {ns cs : List Str} {ps ts : List PyData} {p q : Int}
/-- the line of a cut -/
def bs (ps ts : List PyData) (c : List Str) : Int := sumOf (bP c) ps + sumOf (bT c) ts
def le (ps : List PyData) (c : List Str) : Int := sumOf (lP c) ps
def pr (a b : Int) : PyData := .tuple [.int a, .int b]
theorem x_asg {e : ME} {gm : MG} {ρ ρ' : Ev} {d : PyData} (h : e ρ = some d) (h2 : gm d ρ = some ρ') : mAsg e gm ρ = some (.nx ρ') := by
  unfold mAsg
  rw [h]
  show (gm d ρ).map _ = _
  rw [h2]
  rfl
/-! ### what is drawn -/
theorem it_at {xs : List Int} {i : Nat} (h : i < xs.length) : atI (xs.map PyData.int) (i : Int) = some (.int xs[i]) := atI_nat (by rw [List.getElem?_map, List.getElem?_eq_getElem h]; rfl)
end
end K60
namespace K60
open PySem PySem.Spec PyProof.Rows L2 LB PM
section
variable {top : Int} {ns cs : List Str} {ps ts : List PyData}
/-! ### cuts and their lines, gathered -/
theorem cuts_sub (ns : List Str) : ∀ c ∈ cutsF ns, c.Sublist ns := by
  refine snoc_ind (P := fun l => ∀ c ∈ cutsF l, c.Sublist l) (fun c hc => ?_) (fun l a ih c hc => ?_) ns
  · rw [List.mem_singleton.mp (show c ∈ [[]] from hc)]
    exact List.Sublist.refl _
  · rw [cutsF_snoc] at hc
    rcases List.mem_append.mp hc with hc | hc
    · exact (ih c hc).trans (List.sublist_append_left _ _)
    · obtain ⟨c', hc', rfl⟩ := List.mem_map.mp hc
      exact (ih c' hc').append (List.Sublist.refl _)
theorem nil_cut (ns : List Str) : [] ∈ cutsF ns := by
  refine snoc_ind (P := fun l => [] ∈ cutsF l) (List.mem_singleton.mpr rfl) (fun l a ih => ?_) ns
  rw [cutsF_snoc]
  exact List.mem_append_left _ ih
theorem rise_B : ∀ {c : List Str}, Rise c → riseB c = true
  | [], _ => rfl
  | [_], _ => rfl
  | a :: b :: r, h => by
    have h1 : a.cps.toList < b.cps.toList := (List.pairwise_cons.mp h).1 b List.mem_cons_self
    have h2 : riseB (b :: r) = true := rise_B (List.pairwise_cons.mp h).2
    show (decide _ && riseB (b :: r)) = true
    rw [h2, decide_eq_true h1]
    rfl
theorem txs_S : ∀ c : List Str, txs (c.map .str) = c
  | [] => rfl
  | x :: c => by
    show x :: txs (c.map .str) = x :: c
    rw [txs_S c]
theorem cut_B (hr : Rise ns) {c : List Str} (hc : c ∈ cutsF ns) : cutB ns (tupS c) = true := by
  have sb := cuts_sub ns c hc
  show ((c.map PyData.str).all (inN ns) && riseB (txs (c.map .str))) = true
  rw [txs_S, rise_B (List.Pairwise.sublist sb hr), Bool.and_true, List.all_eq_true]
  intro d hd
  obtain ⟨x, hx, rfl⟩ := List.mem_map.mp hd
  exact decide_eq_true (sb.subset hx)
def unT : PyData → List Str
  | .tuple ds => txs ds
  | _ => []
/-- the cuts, rising -/
noncomputable def cutsS (ns : List Str) : List (List Str) := (sortD ((cutsF ns).map tupS)).map unT
theorem cutsS_map (ns : List Str) : (cutsS ns).map tupS = sortD ((cutsF ns).map tupS) := by
  unfold cutsS
  rw [List.map_map]
  conv => rhs; rw [← List.map_id (sortD ((cutsF ns).map tupS))]
  refine List.map_congr_left fun d hd => ?_
  obtain ⟨c, _, rfl⟩ := List.mem_map.mp ((sortD_perm _).mem_iff.mp hd)
  show tupS (txs (c.map .str)) = tupS c
  rw [txs_S]
theorem cutsS_perm (ns : List Str) : (cutsS ns).Perm (cutsF ns) := by
  have := (sortD_perm ((cutsF ns).map tupS)).map unT
  rw [List.map_map] at this
  have e : (cutsF ns).map (unT ∘ tupS) = cutsF ns := by
    conv => rhs; rw [← List.map_id (cutsF ns)]
    refine List.map_congr_left fun c _ => ?_
    show txs (c.map .str) = c
    exact txs_S c
  rw [e] at this
  exact this
theorem cutsS_mem {c : List Str} : c ∈ cutsS ns ↔ c ∈ cutsF ns := (cutsS_perm ns).mem_iff
def kl (ps ts : List PyData) (c : List Str) : List Key := [.inl (bs ps ts c), .inl (le ps c)]
noncomputable def gaF (ps ts : List PyData) (cs : List (List Str)) (G : List (List Key × List PyData)) : List (List Key × List PyData) := cs.foldl (fun G c => addG G (kl ps ts c) (tupS c)) G
structure GOk (ps ts : List PyData) (cs : List (List Str)) (G : List (List Key × List PyData)) : Prop where
  nk : (G.map (·.1)).Nodup
  src : ∀ e ∈ G, ∃ c ∈ cs, kl ps ts c = e.1
  lst : ∀ e ∈ G, e.2 = (cs.filter fun c => decide (kl ps ts c = e.1)).map tupS
  all : ∀ c ∈ cs, ∃ e ∈ G, e.1 = kl ps ts c
theorem GOk.snoc {l : List (List Str)} {G : List (List Key × List PyData)} (g : GOk ps ts l G) (c : List Str) : GOk ps ts (l ++ [c]) (addG G (kl ps ts c) (tupS c)) := by
  have fil : ∀ k : List Key, (l ++ [c]).filter (fun c => decide (kl ps ts c = k)) = l.filter (fun c => decide (kl ps ts c = k)) ++ (if kl ps ts c = k then [c] else []) := fun k => by
    rw [List.filter_append]
    congr 1
    by_cases h : kl ps ts c = k
    · rw [if_pos h]
      simp [h]
    · rw [if_neg h]
      simp [h]
  by_cases h : kl ps ts c ∈ G.map (·.1)
  · obtain ⟨e0, he0, h0⟩ := List.mem_map.mp h
    have ea : addG G (kl ps ts c) (tupS c) = G.map (fun e => if e.1 = kl ps ts c then (e.1, e.2 ++ [tupS c]) else e) := by
      unfold addG
      rw [if_pos (List.any_eq_true.mpr ⟨e0, he0, decide_eq_true h0⟩)]
    rw [ea]
    have k1 : (G.map (fun e => if e.1 = kl ps ts c then (e.1, e.2 ++ [tupS c]) else e)).map (·.1) = G.map (·.1) := by
      rw [List.map_map]
      refine List.map_congr_left fun e _ => ?_
      show (if e.1 = kl ps ts c then (e.1, e.2 ++ [tupS c]) else e).1 = e.1
      split <;> rfl
    refine ⟨by rw [k1]; exact g.nk, fun e he => ?_, fun e he => ?_, fun c' hc' => ?_⟩
    · obtain ⟨x, hx, rfl⟩ := List.mem_map.mp he
      obtain ⟨c', hc', e'⟩ := g.src x hx
      exact ⟨c', List.mem_append_left _ hc', by split <;> exact e'⟩
    · obtain ⟨x, hx, rfl⟩ := List.mem_map.mp he
      have := g.lst x hx
      by_cases z : x.1 = kl ps ts c
      · rw [if_pos z]
        show x.2 ++ [tupS c] = ((l ++ [c]).filter fun c => decide (kl ps ts c = x.1)).map tupS
        rw [fil, if_pos z.symm, List.map_append, ← this]
        rfl
      · rw [if_neg z, fil, if_neg (Ne.symm z), List.append_nil]
        exact this
    · rcases List.mem_append.mp hc' with h' | h'
      · obtain ⟨e, he, h2⟩ := g.all c' h'
        exact ⟨_, List.mem_map.mpr ⟨e, he, rfl⟩, by split <;> exact h2⟩
      · rw [List.mem_singleton.mp h']
        exact ⟨_, List.mem_map.mpr ⟨e0, he0, rfl⟩, by split <;> exact h0⟩
  · rw [add_new h]
    have none' : l.filter (fun c' => decide (kl ps ts c' = kl ps ts c)) = [] := List.filter_eq_nil_iff.mpr fun c' hc' z => by
      obtain ⟨e, he, h2⟩ := g.all c' hc'
      exact h (List.mem_map.mpr ⟨e, he, h2.trans (of_decide_eq_true z)⟩)
    refine ⟨?_, fun e he => ?_, fun e he => ?_, fun c' hc' => ?_⟩
    · rw [List.map_append, List.nodup_append]
      refine ⟨g.nk, by simp, fun a ha b hb e => h ?_⟩
      have e : a = kl ps ts c := e.trans (List.mem_singleton.mp hb)
      rw [e] at ha
      exact ha
    · rcases List.mem_append.mp he with he | he
      · obtain ⟨c', hc', e'⟩ := g.src e he
        exact ⟨c', List.mem_append_left _ hc', e'⟩
      · rw [List.mem_singleton.mp he]
        exact ⟨c, List.mem_append_right _ (List.mem_singleton.mpr rfl), rfl⟩
    · rcases List.mem_append.mp he with he | he
      · have := g.lst e he
        have z : kl ps ts c ≠ e.1 := fun z => h (List.mem_map.mpr ⟨e, he, z.symm⟩)
        rw [fil, if_neg z, List.append_nil]
        exact this
      · rw [List.mem_singleton.mp he, fil, if_pos rfl, none']
        rfl
    · rcases List.mem_append.mp hc' with h' | h'
      · obtain ⟨e, he, h2⟩ := g.all c' h'
        exact ⟨e, List.mem_append_left _ he, h2⟩
      · rw [List.mem_singleton.mp h']
        exact ⟨_, List.mem_append_right _ (List.mem_singleton.mpr rfl), rfl⟩
theorem gaF_ok : ∀ (r l : List (List Str)) (G : List (List Key × List PyData)), GOk ps ts l G → GOk ps ts (l ++ r) (gaF ps ts r G)
  | [], l, G, g => by
    rw [List.append_nil]
    exact g
  | c :: r, l, G, g => by
    have := gaF_ok r (l ++ [c]) _ (g.snoc c)
    rw [List.append_assoc] at this
    exact this
theorem okline (W : WebP top ns ps ts) {c : List Str} (hc : c ∈ cutsF ns) : M_line_of [webD top ps ts, tupS c] = some (pr (bs ps ts c) (le ps c)) := line_ok W (cut_B W.rise hc)
theorem ga_go (W : WebP top ns ps ts) : ∀ (r : List (List Str)) (s2 s3 : Sl) (G : List (List Key × List PyData)), (∀ c ∈ r, c ∈ cutsF ns) → ∃ s2' s3', gaGo 2 3 (mCb M_line_of (aCons (mV 0) (aCons (mV 2) aNil))) (r.map tupS) [.val (webD top ps ts), .no, s2, s3] G = some ([.val (webD top ps ts), .no, s2', s3'], gaF ps ts r G)
  | [], s2, s3, G, _ => ⟨s2, s3, rfl⟩
  | c :: r, s2, s3, G, h => by
    obtain ⟨s2', s3', ih⟩ := ga_go W r (.val (tupS c)) (.val (pr (bs ps ts c) (le ps c))) (addG G (kl ps ts c) (tupS c)) fun x hx => h x (List.mem_cons_of_mem _ hx)
    refine ⟨s2', s3', ?_⟩
    have e : mCb M_line_of (aCons (mV 0) (aCons (mV 2) aNil)) ([Sl.val (webD top ps ts), .no, s2, s3].set 2 (.val (tupS c))) = some (pr (bs ps ts c) (le ps c)) := x_cb rfl (okline W (h c List.mem_cons_self))
    show (mCb M_line_of (aCons (mV 0) (aCons (mV 2) aNil)) ([Sl.val (webD top ps ts), .no, s2, s3].set 2 (.val (tupS c)))).bind _ = _
    rw [e]
    exact ih
theorem by_line_eq (W : WebP top ns ps ts) : M_cuts_by_line [webD top ps ts] = some (dG (gaF ps ts (cutsS ns) [])) := by
  obtain ⟨s2', s3', hg⟩ := ga_go W (cutsS ns) .no .no [] fun c hc => cutsS_mem.mp hc
  have n8 := W.n8
  have few : (cutsF ns).length ≤ 256 := by
    rw [cutsF_len]
    have p8 : 2 ^ ns.length ≤ 2 ^ 8 := Nat.pow_le_pow_right (by decide) n8
    omega
  have hl : ((cutsS ns).map tupS).length ≤ 1000 := by
    rw [List.length_map, (cutsS_perm ns).length_eq]
    omega
  have mg : mGather 1 3 2 (iS (mCb M_all_cuts (aCons (mV 0) aNil))) (mCb M_line_of (aCons (mV 0) (aCons (mV 2) aNil))) [.val (webD top ps ts), .own (.dict []), .no, .no] = some (.nx [.val (webD top ps ts), .val (dG (gaF ps ts (cutsS ns) [])), s2', s3']) := by
    have hi : iS (mCb M_all_cuts (aCons (mV 0) aNil)) [.val (webD top ps ts), .own (.dict []), .no, .no] = some ((cutsS ns).map tupS) := by
      show (mCb _ _ _).bind seqD = _
      rw [x_cb rfl (all_cuts_ok W), cutsS_map]
      rfl
    show (iS (mCb M_all_cuts (aCons (mV 0) aNil)) [.val (webD top ps ts), .own (.dict []), .no, .no]).bind _ = _
    rw [hi]
    show (if ((cutsS ns).map tupS).length ≤ 1000 ∧ _ then _ else none) = _
    rw [if_pos ⟨hl, ⟨by show 2 < 4; decide, by show 3 < 4; decide⟩, rfl⟩]
    show (gaGo 2 3 (mCb M_line_of (aCons (mV 0) (aCons (mV 2) aNil))) ((cutsS ns).map tupS) [.val (webD top ps ts), .no, .no, .no] []).map _ = _
    rw [hg]
    rfl
  exact r_eq rfl (r_seq (x_setO rfl) (r_seq mg (r_ret rfl rfl)))
end
end K60
namespace K60
open PySem PySem.Spec PyProof.Rows L2 LB PM
section
variable {top : Int} {ns cs : List Str} {ps ts : List PyData}
abbrev Ln := Int × Int
def prK (k : Ln) : PyData := pr k.1 k.2
def ofK : List Key → Ln
  | [.inl a, .inl b] => (a, b)
  | _ => (0, 0)
def lnC (ps ts : List PyData) (c : List Str) : Ln := (bs ps ts c, le ps c)
/-- the lines of all cuts -/
structure LOk (ps ts : List PyData) (ns : List Str) (G : List (List Key × List PyData)) (ks : List Ln) : Prop where
  key : G.map (fun e => PyData.tuple (e.1.map keyD)) = ks.map prK
  src : ∀ k ∈ ks, ∃ c ∈ cutsF ns, lnC ps ts c = k
  all : ∀ c ∈ cutsF ns, lnC ps ts c ∈ ks
  few : ks.length ≤ 256
  get : ∀ k ∈ ks, ∃ d ds, oGetT (dG G) (prK k) = some (.list (d :: ds)) ∧ d :: ds = ((cutsS ns).filter fun c => decide (lnC ps ts c = k)).map tupS
  big : ∀ k ∈ ks, k.1.natAbs ≤ 100000 ∧ k.2.natAbs ≤ 100000
theorem kl_ln {c : List Str} {k : Ln} : kl ps ts c = [.inl k.1, .inl k.2] ↔ lnC ps ts c = k := by
  unfold kl lnC
  constructor
  · intro h
    injection h with h1 h2
    injection h2 with h2 _
    injection h1 with h1
    injection h2 with h2
    rw [h1, h2]
  · rintro rfl
    rfl
theorem nodup_few {α : Type} : ∀ {l m : List α}, l.Nodup → (∀ x ∈ l, x ∈ m) → l.length ≤ m.length
  | [], _, _, _ => Nat.zero_le _
  | x :: l, m, nd, h => by
    rw [List.nodup_cons] at nd
    obtain ⟨a, b, rfl⟩ := List.append_of_mem (h x List.mem_cons_self)
    have := nodup_few (m := a ++ b) nd.2 fun y hy => by
      have := h y (List.mem_cons_of_mem _ hy)
      rcases List.mem_append.mp this with h' | h'
      · exact List.mem_append_left _ h'
      · rcases List.mem_cons.mp h' with rfl | h'
        · exact absurd hy nd.1
        · exact List.mem_append_right _ h'
    rw [List.length_append] at this ⊢
    rw [List.length_cons, List.length_cons]
    omega
theorem lok (W : WebP top ns ps ts) {G : List (List Key × List PyData)} (g : GOk ps ts (cutsS ns) G) : LOk ps ts ns G (G.map fun e => ofK e.1) := by
  have form : ∀ e ∈ G, e.1 = [.inl (ofK e.1).1, .inl (ofK e.1).2] := fun e he => by
    obtain ⟨c, _, h⟩ := g.src e he
    rw [← h]
    rfl
  have n8 := W.n8
  have few : (cutsF ns).length ≤ 256 := by
    rw [cutsF_len]
    have p8 : 2 ^ ns.length ≤ 2 ^ 8 := Nat.pow_le_pow_right (by decide) n8
    omega
  refine ⟨?_, fun k hk => ?_, fun c hc => ?_, ?_, fun k hk => ?_, fun k hk => ?_⟩
  · rw [List.map_map]
    refine List.map_congr_left fun e he => ?_
    show PyData.tuple (e.1.map keyD) = prK (ofK e.1)
    rw [form e he]
    rfl
  · obtain ⟨e, he, rfl⟩ := List.mem_map.mp hk
    obtain ⟨c, hc, h⟩ := g.src e he
    exact ⟨c, cutsS_mem.mp hc, by rw [← h]; rfl⟩
  · obtain ⟨e, he, h⟩ := g.all c (cutsS_mem.mpr hc)
    exact List.mem_map.mpr ⟨e, he, by rw [h]; rfl⟩
  · rw [List.length_map]
    have h1 : (G.map (·.1)).length ≤ ((cutsS ns).map (kl ps ts)).length := nodup_few g.nk fun x hx => by
      obtain ⟨e, he, rfl⟩ := List.mem_map.mp hx
      obtain ⟨c, hc, h⟩ := g.src e he
      exact List.mem_map.mpr ⟨c, hc, h⟩
    rw [List.length_map, List.length_map, (cutsS_perm ns).length_eq] at h1
    omega
  · obtain ⟨e, he, rfl⟩ := List.mem_map.mp hk
    have fe := form e he
    generalize hk' : ofK e.1 = k at fe ⊢
    have hfind : ∃ e', ((G.map fun e => ((PyData.tuple (e.1.map keyD), PyData.list e.2) : PyData × PyData)).find? fun x => decide (keyL x.1 = some [.inl k.1, .inl k.2])) = some (.tuple (e'.1.map keyD), .list e'.2) ∧ e' ∈ G ∧ e'.1 = [.inl k.1, .inl k.2] := by
      cases hf : ((G.map fun e => ((PyData.tuple (e.1.map keyD), PyData.list e.2) : PyData × PyData)).find? fun x => decide (keyL x.1 = some [.inl k.1, .inl k.2])) with
      | none =>
        have := List.find?_eq_none.mp hf (.tuple (e.1.map keyD), .list e.2) (List.mem_map.mpr ⟨e, he, rfl⟩)
        rw [show keyL (PyData.tuple (e.1.map keyD)) = some e.1 from keysK_of e.1, fe] at this
        simp at this
      | some x =>
        have h1 := List.mem_of_find?_eq_some hf
        have h2 : decide (keyL x.1 = some [.inl k.1, .inl k.2]) = true := List.find?_some (p := fun x : PyData × PyData => decide (keyL x.1 = some [.inl k.1, .inl k.2])) hf
        have h2 := of_decide_eq_true h2
        obtain ⟨e', he', rfl⟩ := List.mem_map.mp h1
        refine ⟨e', rfl, he', ?_⟩
        rw [show keyL (PyData.tuple (e'.1.map keyD)) = some e'.1 from keysK_of e'.1] at h2
        exact Option.some.inj h2
    obtain ⟨e', hf, he', h'⟩ := hfind
    have hl := g.lst e' he'
    have hc' : ∃ c ∈ cutsS ns, kl ps ts c = e'.1 := g.src e' he'
    rw [h'] at hl
    have ef : (fun c => decide (kl ps ts c = [.inl k.1, .inl k.2])) = fun c => decide (lnC ps ts c = k) := funext fun c => decide_eq_decide.mpr kl_ln
    rw [ef] at hl
    have hg : oGetT (dG G) (prK k) = some (.list e'.2) := by
      show getD (G.map fun e => ((PyData.tuple (e.1.map keyD), PyData.list e.2) : PyData × PyData)) [.inl k.1, .inl k.2] = _
      unfold getD
      rw [hf]
      rfl
    cases hx : e'.2 with
    | nil =>
      exfalso
      obtain ⟨c, hc, h2⟩ := hc'
      rw [hx] at hl
      have : tupS c ∈ ((cutsS ns).filter fun c => decide (lnC ps ts c = k)).map tupS := List.mem_map.mpr ⟨c, List.mem_filter.mpr ⟨hc, decide_eq_true (kl_ln.mp (h2.trans h'))⟩, rfl⟩
      rw [← hl] at this
      exact absurd this List.not_mem_nil
    | cons d ds =>
      rw [hx] at hg hl
      exact ⟨d, ds, hg, hl⟩
  · obtain ⟨e, he, rfl⟩ := List.mem_map.mp hk
    obtain ⟨c, hc, h⟩ := g.src e he
    rw [← h]
    exact base_b W c
/-! ### the least line -/
def lexle (a b : Ln) : Prop := a.1 < b.1 ∨ (a.1 = b.1 ∧ a.2 ≤ b.2)
theorem minK_ok : ∀ (kr : List Ln) (k0 : Ln), ∃ m ∈ k0 :: kr, PySem.W.minD (prK k0) (kr.map prK) = prK m ∧ ∀ k ∈ k0 :: kr, lexle m k
  | [], k0 => ⟨k0, List.mem_cons_self, rfl, fun k hk => by
    rw [List.mem_singleton.mp hk]
    exact .inr ⟨rfl, Int.le_refl _⟩⟩
  | y :: kr, k0 => by
    have e : PySem.W.minD (prK k0) ((y :: kr).map prK) = PySem.W.minD (if PySem.W.dataLt (prK y) (prK k0) = true then prK y else prK k0) (kr.map prK) := rfl
    have el : PySem.W.dataLt (prK y) (prK k0) = decide (y.1 < k0.1 ∨ (y.1 = k0.1 ∧ y.2 < k0.2)) := PySem.W.dataLt_ii _ _ _ _
    rw [e, el]
    by_cases h : y.1 < k0.1 ∨ (y.1 = k0.1 ∧ y.2 < k0.2)
    · rw [if_pos (decide_eq_true h)]
      obtain ⟨m, hm, h1, h2⟩ := minK_ok kr y
      refine ⟨m, List.mem_cons_of_mem _ hm, h1, fun k hk => ?_⟩
      rcases List.mem_cons.mp hk with rfl | hk
      · have := h2 y List.mem_cons_self
        unfold lexle at this ⊢
        omega
      · exact h2 k hk
    · rw [if_neg (by rw [decide_eq_false h]; exact Bool.false_ne_true)]
      obtain ⟨m, hm, h1, h2⟩ := minK_ok kr k0
      refine ⟨m, ?_, h1, fun k hk => ?_⟩
      · rcases List.mem_cons.mp hm with rfl | hm
        · exact List.mem_cons_self
        · exact List.mem_cons_of_mem _ (List.mem_cons_of_mem _ hm)
      · rcases List.mem_cons.mp hk with rfl | hk
        · exact h2 _ List.mem_cons_self
        rcases List.mem_cons.mp hk with rfl | hk
        · have := h2 k0 List.mem_cons_self
          unfold lexle at this ⊢
          omega
        · exact h2 k (List.mem_cons_of_mem _ hk)
theorem lay_lns : ∀ ks : List Ln, PyData.canLayAll0 (ks.map prK) = true ∧ PyData.depthAll (ks.map prK) ≤ 1
  | [] => ⟨rfl, Nat.zero_le _⟩
  | k :: ks => by
    obtain ⟨h1, h2⟩ := lay_lns ks
    constructor
    · show (PyData.canLay0 (prK k) && PyData.canLayAll0 (ks.map prK)) = true
      rw [h1]
      rfl
    · show max (PyData.depth (prK k)) (PyData.depthAll (ks.map prK)) ≤ 1
      have : PyData.depth (prK k) = 1 := rfl
      omega
theorem min_ok {ks : List Ln} (h0 : ks ≠ []) : ∃ m ∈ ks, oMinL [.list (ks.map prK)] = some (prK m) ∧ ∀ k ∈ ks, lexle m k := by
  cases ks with
  | nil => exact absurd rfl h0
  | cons k0 kr =>
    obtain ⟨m, hm, h1, h2⟩ := minK_ok kr k0
    obtain ⟨l1, l2⟩ := lay_lns (k0 :: kr)
    refine ⟨m, hm, ?_, h2⟩
    rw [← h1]
    refine x_minL l1 ⟨fun x hx y hy => ?_, fun x hx => ?_⟩ (Nat.le_trans l2 (by decide))
    · obtain ⟨a, _, rfl⟩ := List.mem_map.mp (show x ∈ (k0 :: kr).map prK from hx)
      obtain ⟨b, _, rfl⟩ := List.mem_map.mp (show y ∈ (k0 :: kr).map prK from hy)
      rfl
    · obtain ⟨a, _, rfl⟩ := List.mem_map.mp (show x ∈ (k0 :: kr).map prK from hx)
      exact fun z => nomatch z
/-! ### the line behind -/
/-- a is met by cur no later than b, and where they are met at once it leans no more -/
def lq (cur a b : Ln) : Prop := (a.1 - cur.1) * (cur.2 - b.2) < (b.1 - cur.1) * (cur.2 - a.2) ∨ ((a.1 - cur.1) * (cur.2 - b.2) = (b.1 - cur.1) * (cur.2 - a.2) ∧ a.2 ≤ b.2)
theorem lq_refl (cur a : Ln) : lq cur a a := .inr ⟨rfl, Int.le_refl _⟩
theorem lq_le {cur a b : Ln} (h : lq cur a b) : (a.1 - cur.1) * (cur.2 - b.2) ≤ (b.1 - cur.1) * (cur.2 - a.2) := by
  rcases h with h | h
  · exact Int.le_of_lt h
  · exact Int.le_of_eq h.1
theorem iratio {a b c d e f : Int} (hb : 0 < b) (hd : 0 < d) (hf : 0 < f) (h1 : a * d ≤ c * b) (h2 : c * f ≤ e * d) : a * f ≤ e * b := by
  have h : a * f * d ≤ e * b * d := by
    calc a * f * d = (a * d) * f := by ac_rfl
      _ ≤ (c * b) * f := Int.mul_le_mul_of_nonneg_right h1 (by omega)
      _ = (c * f) * b := by ac_rfl
      _ ≤ (e * d) * b := Int.mul_le_mul_of_nonneg_right h2 (by omega)
      _ = e * b * d := by ac_rfl
  exact Int.le_of_mul_le_mul_right h hd
theorem iratio1 {a b c d e f : Int} (hb : 0 < b) (hd : 0 < d) (hf : 0 < f) (h1 : a * d < c * b) (h2 : c * f ≤ e * d) : a * f < e * b := by
  have h : a * f * d < e * b * d := by
    calc a * f * d = (a * d) * f := by ac_rfl
      _ < (c * b) * f := Int.mul_lt_mul_of_pos_right h1 hf
      _ = (c * f) * b := by ac_rfl
      _ ≤ (e * d) * b := Int.mul_le_mul_of_nonneg_right h2 (by omega)
      _ = e * b * d := by ac_rfl
  exact Int.lt_of_mul_lt_mul_right h (by omega)
theorem iratio2 {a b c d e f : Int} (hb : 0 < b) (hd : 0 < d) (hf : 0 < f) (h1 : a * d ≤ c * b) (h2 : c * f < e * d) : a * f < e * b := by
  have h : a * f * d < e * b * d := by
    calc a * f * d = (a * d) * f := by ac_rfl
      _ ≤ (c * b) * f := Int.mul_le_mul_of_nonneg_right h1 (by omega)
      _ = (c * f) * b := by ac_rfl
      _ < (e * d) * b := Int.mul_lt_mul_of_pos_right h2 hb
      _ = e * b * d := by ac_rfl
  exact Int.lt_of_mul_lt_mul_right h (by omega)
theorem lq_trans {cur a b c : Ln} (ha : a.2 < cur.2) (hb : b.2 < cur.2) (hc : c.2 < cur.2) (h1 : lq cur a b) (h2 : lq cur b c) : lq cur a c := by
  have p1 : 0 < cur.2 - a.2 := by omega
  have p2 : 0 < cur.2 - b.2 := by omega
  have p3 : 0 < cur.2 - c.2 := by omega
  rcases h1 with h1 | ⟨h1, l1⟩
  · exact .inl (iratio1 p1 p2 p3 h1 (lq_le h2))
  · rcases h2 with h2 | ⟨h2, l2⟩
    · exact .inl (iratio2 p1 p2 p3 (Int.le_of_eq h1) h2)
    · exact .inr ⟨Int.le_antisymm (iratio p1 p2 p3 (Int.le_of_eq h1) (Int.le_of_eq h2)) (iratio p3 p2 p1 (Int.le_of_eq h2.symm) (Int.le_of_eq h1.symm)), Int.le_trans l1 l2⟩
theorem lq_anti {cur a b : Ln} (ha : a.2 < cur.2) (h1 : lq cur a b) (h2 : lq cur b a) : a = b := by
  have e1 := lq_le h1
  have e2 := lq_le h2
  have l : a.2 = b.2 := by
    rcases h1 with h1 | ⟨_, l1⟩
    · omega
    · rcases h2 with h2 | ⟨_, l2⟩
      · omega
      · omega
  rw [← l] at e1 e2
  have e3 := Int.le_of_mul_le_mul_right e1 (by omega)
  have e4 := Int.le_of_mul_le_mul_right e2 (by omega)
  exact Prod.ext (by omega) l
def Bg (k : Ln) : Prop := k.1.natAbs ≤ 100000 ∧ k.2.natAbs ≤ 100000
theorem meet_ok {cur o : Ln} (h : o.2 < cur.2) (b1 : Bg cur) (b2 : Bg o) : M_meeting [prK cur, prK o] = some (frD (o.1 - cur.1) (cur.2 - o.2)) := by
  obtain ⟨c1, c2⟩ := b1
  obtain ⟨d1, d2⟩ := b2
  exact r_eq rfl (r_ret (x_cb (x_cons (x_op (x_op rfl rfl (ix_t at0)) (x_op rfl rfl (ix_t at0)) rfl) (x_cons (x_op (x_op rfl rfl (ix_t at1)) (x_op rfl rfl (ix_t at1)) rfl) rfl)) (fraction_ok (by omega) (by omega))) rfl)
theorem x_morT {e f : ME} {ρ : Ev} (h : e ρ = some (.bool true)) : mOr e f ρ = some (.bool true) := by
  unfold mOr
  rw [h]
  rfl
theorem x_morF {e f : ME} {ρ : Ev} {d : PyData} (h : e ρ = some (.bool false)) (h2 : f ρ = some d) : mOr e f ρ = some d := by
  unfold mOr
  rw [h]
  exact h2
theorem met_ok {cur a b : Ln} (ha : a.2 < cur.2) (hb : b.2 < cur.2) (b1 : Bg cur) (b2 : Bg a) (b3 : Bg b) : ∃ c, M_is_met_first [prK cur, prK a, prK b] = some (.bool c) ∧ (c = true → lq cur a b) ∧ (c = false → lq cur b a) := by
  have m1 := meet_ok ha b1 b2
  have m2 := meet_ok hb b1 b3
  obtain ⟨c1, c2⟩ := b1
  obtain ⟨d1, d2⟩ := b2
  obtain ⟨e1, e2⟩ := b3
  have bl := below_ok (a := a.1 - cur.1) (b := cur.2 - a.2) (c := b.1 - cur.1) (d := cur.2 - b.2) (by omega) (by omega) (by omega) (by omega) (by omega) (by omega)
  have eq := eq_fr2 (a := a.1 - cur.1) (b := cur.2 - a.2) (c := b.1 - cur.1) (d := cur.2 - b.2) (by omega) (by omega)
  by_cases lt : (a.1 - cur.1) * (cur.2 - b.2) < (b.1 - cur.1) * (cur.2 - a.2)
  · rw [decide_eq_true lt] at bl
    exact ⟨true, r_eq rfl (r_seq (x_set (x_cb rfl m1)) (r_seq (x_set (x_cb rfl m2)) (r_ret (x_morT (x_cb rfl bl)) rfl))), fun _ => .inl lt, fun z => nomatch z⟩
  · rw [decide_eq_false lt] at bl
    by_cases he : (a.1 - cur.1) * (cur.2 - b.2) = (b.1 - cur.1) * (cur.2 - a.2)
    · rw [decide_eq_true he] at eq
      exact ⟨decide (a.2 < b.2), r_eq rfl (r_seq (x_set (x_cb rfl m1)) (r_seq (x_set (x_cb rfl m2)) (r_ret (x_morF (x_cb rfl bl) (x_mandT (x_op rfl rfl eq) (x_op (x_op rfl rfl (ix_t at1)) (x_op rfl rfl (ix_t at1)) rfl))) rfl))), fun z => .inr ⟨he, Int.le_of_lt (of_decide_eq_true z)⟩, fun z => .inr ⟨he.symm, Int.not_lt.mp (of_decide_eq_false z)⟩⟩
    · rw [decide_eq_false he] at eq
      exact ⟨false, r_eq rfl (r_seq (x_set (x_cb rfl m1)) (r_seq (x_set (x_cb rfl m2)) (r_ret (x_morF (x_cb rfl bl) (x_mandF (x_op rfl rfl eq))) rfl))), (fun z => nomatch z), fun _ => .inl (by omega)⟩
/-- what line_behind tells -/
def BH (ks : List Ln) (cur : Ln) (d : PyData) : Prop := (d = .none ∧ ∀ k ∈ ks, ¬ k.2 < cur.2) ∨ ∃ b ∈ ks, d = prK b ∧ b.2 < cur.2 ∧ ∀ k ∈ ks, k.2 < cur.2 → lq cur b k
theorem behind_ok {ks : List Ln} (hb : ∀ k ∈ ks, Bg k) {cur : Ln} (bc : Bg cur) : ∃ d, M_line_behind [.list (ks.map prK), prK cur] = some d ∧ BH ks cur d := by
  refine r_fn rfl (r_seq (x_set rfl) (r_for (ds := ks.map prK) (fun i ρ => ∃ s2 s3, ρ = [.val (.list (ks.map prK)), .val (prK cur), .val s2, s3] ∧ BH (ks.take i) cur s2) rfl ⟨_, _, rfl, .inl ⟨rfl, fun k hk => absurd hk List.not_mem_nil⟩⟩ ?_ ?_))
  · rintro i d ρ hd ⟨s2, s3, rfl, inv⟩
    rw [List.getElem?_map] at hd
    obtain ⟨k, hk, rfl⟩ := Option.map_eq_some_iff.mp hd
    have km := List.mem_of_getElem? hk
    have snoc : ks.take (i + 1) = ks.take i ++ [k] := by
      obtain ⟨hi, e⟩ := List.getElem?_eq_some_iff.mp hk
      rw [List.take_succ_eq_append_getElem hi, e]
    have hlt : oLt (.int k.2) (.int cur.2) = some (.bool (decide (k.2 < cur.2))) := rfl
    refine ⟨[.val (.list (ks.map prK)), .val (prK cur), .val s2, .val (prK k)], rfl, ?_⟩
    by_cases lt : k.2 < cur.2
    · rw [decide_eq_true lt] at hlt
      have t1 : qV (mOp oLt (mOp oIx (mW 3) (mC (.int 1))) (mOp oIx (mW 1) (mC (.int 1)))) [.val (.list (ks.map prK)), .val (prK cur), .val s2, .val (prK k)] = some true := x_qv (x_op (x_op rfl rfl (ix_t at1)) (x_op rfl rfl (ix_t at1)) hlt)
      rcases inv with ⟨rfl, none'⟩ | ⟨b, hbm, rfl, hbl, hq⟩
      · refine r_end (x_ifT (x_andT t1 (x_orT (x_qv (c := true) rfl))) (x_set rfl)) ⟨_, _, rfl, .inr ⟨k, ?_, rfl, lt, fun k' hk' l' => ?_⟩⟩
        · rw [snoc]
          exact List.mem_append_right _ (List.mem_singleton.mpr rfl)
        · rw [snoc] at hk'
          rcases List.mem_append.mp hk' with h | h
          · exact absurd l' (none' k' h)
          · rw [List.mem_singleton.mp h]
            exact lq_refl _ _
      · have bm := List.mem_of_mem_take hbm
        obtain ⟨c, hm, h1, h2⟩ := met_ok lt hbl bc (hb k km) (hb b bm)
        have t2 : qOr (qV (mOp oIsNo (mW 2) (mC .none))) (qV (mCb M_is_met_first (aCons (mV 1) (aCons (mV 3) (aCons (mV 2) aNil))))) [.val (.list (ks.map prK)), .val (prK cur), .val (prK b), .val (prK k)] = some c := x_orF (x_qv (c := false) rfl) (x_qv (x_cb rfl hm))
        cases c with
        | true =>
          have hkb := h1 rfl
          refine r_end (x_ifT (x_andT t1 t2) (x_set rfl)) ⟨_, _, rfl, .inr ⟨k, ?_, rfl, lt, fun k' hk' l' => ?_⟩⟩
          · rw [snoc]
            exact List.mem_append_right _ (List.mem_singleton.mpr rfl)
          · rw [snoc] at hk'
            rcases List.mem_append.mp hk' with h | h
            · exact lq_trans lt hbl l' hkb (hq k' h l')
            · rw [List.mem_singleton.mp h]
              exact lq_refl _ _
        | false =>
          have hbk := h2 rfl
          refine r_end (x_ifF (x_andT t1 t2) rfl) ⟨_, _, rfl, .inr ⟨b, ?_, rfl, hbl, fun k' hk' l' => ?_⟩⟩
          · rw [snoc]
            exact List.mem_append_left _ hbm
          · rw [snoc] at hk'
            rcases List.mem_append.mp hk' with h | h
            · exact hq k' h l'
            · rw [List.mem_singleton.mp h]
              exact hbk
    · rw [decide_eq_false lt] at hlt
      have t1 : qV (mOp oLt (mOp oIx (mW 3) (mC (.int 1))) (mOp oIx (mW 1) (mC (.int 1)))) [.val (.list (ks.map prK)), .val (prK cur), .val s2, .val (prK k)] = some false := x_qv (x_op (x_op rfl rfl (ix_t at1)) (x_op rfl rfl (ix_t at1)) hlt)
      refine r_end (x_ifF (x_andF t1) rfl) ⟨_, _, rfl, ?_⟩
      rw [snoc]
      rcases inv with ⟨rfl, none'⟩ | ⟨b, hbm, rfl, hbl, hq⟩
      · refine .inl ⟨rfl, fun k' hk' => ?_⟩
        rcases List.mem_append.mp hk' with h | h
        · exact none' k' h
        · rw [List.mem_singleton.mp h]
          exact lt
      · refine .inr ⟨b, List.mem_append_left _ hbm, rfl, hbl, fun k' hk' l' => ?_⟩
        rcases List.mem_append.mp hk' with h | h
        · exact hq k' h l'
        · rw [List.mem_singleton.mp h] at l'
          exact absurd l' lt
  · rintro ρ ⟨s2, s3, rfl, inv⟩
    rw [List.length_map, List.take_length] at inv
    exact r_ret rfl ⟨_, rfl, inv⟩
end
end K60
namespace K60
open PySem PySem.Spec PyProof.Rows L2 LB PM
section
variable {top : Int} {ns cs : List Str} {ps ts : List PyData} {G : List (List Key × List PyData)} {ks : List Ln}
end
end K60
namespace K60
open PySem PySem.Spec PyProof.Rows L2 LB PM
section
variable {top : Int} {ns cs : List Str} {ps ts : List PyData} {G : List (List Key × List PyData)} {ks : List Ln}
theorem best_short : ∀ (ds : List PyData) (d : PyData), bestL shorter d ds ∈ d :: ds ∧ ∀ x ∈ d :: ds, tlen (bestL shorter d ds) ≤ tlen x
  | [], d => ⟨List.mem_cons_self, fun x hx => by
    rw [List.mem_singleton.mp hx]
    exact Nat.le_refl _⟩
  | y :: ds, d => by
    show bestL shorter (if shorter y d = true then y else d) ds ∈ d :: y :: ds ∧ ∀ x ∈ d :: y :: ds, tlen (bestL shorter (if shorter y d = true then y else d) ds) ≤ tlen x
    obtain ⟨h1, h2⟩ := best_short ds (if shorter y d = true then y else d)
    have hle : tlen (if shorter y d = true then y else d) ≤ tlen y ∧ tlen (if shorter y d = true then y else d) ≤ tlen d := by
      unfold shorter
      by_cases h : tlen y < tlen d
      · rw [if_pos (decide_eq_true h)]
        exact ⟨Nat.le_refl _, Nat.le_of_lt h⟩
      · rw [if_neg (by rw [decide_eq_false h]; exact Bool.false_ne_true)]
        exact ⟨by omega, Nat.le_refl _⟩
    have h0 := h2 _ List.mem_cons_self
    constructor
    · rcases List.mem_cons.mp h1 with h | h
      · rw [h]
        split
        · exact List.mem_cons_of_mem _ List.mem_cons_self
        · exact List.mem_cons_self
      · exact List.mem_cons_of_mem _ (List.mem_cons_of_mem _ h)
    · intro x hx
      rcases List.mem_cons.mp hx with rfl | hx
      · omega
      rcases List.mem_cons.mp hx with rfl | hx
      · omega
      · exact h2 x (List.mem_cons_of_mem _ hx)
noncomputable def clD (ps ts : List PyData) (ns : List Str) (k : Ln) : List PyData := ((cutsS ns).filter fun c => decide (lnC ps ts c = k)).map tupS
def bestOf (f : PyData → PyData → Bool) : List PyData → PyData
  | [] => .none
  | d :: ds => bestL f d ds
noncomputable def bitD (ps ts : List PyData) (ns : List Str) (k : Ln) : PyData := .tuple [bestOf shorter (clD ps ts ns k), bestOf longer (clD ps ts ns k), .int k.1, .int k.2]
theorem cl_mem {k : Ln} {x : PyData} : x ∈ clD ps ts ns k ↔ ∃ c ∈ cutsF ns, lnC ps ts c = k ∧ x = tupS c := by
  unfold clD
  constructor
  · intro hx
    obtain ⟨c, hc, rfl⟩ := List.mem_map.mp hx
    obtain ⟨h3, h4⟩ := List.mem_filter.mp hc
    exact ⟨c, cutsS_mem.mp h3, of_decide_eq_true h4, rfl⟩
  · rintro ⟨c, h1, h2, rfl⟩
    exact List.mem_map.mpr ⟨c, List.mem_filter.mpr ⟨cutsS_mem.mpr h1, decide_eq_true h2⟩, rfl⟩
theorem bit_ok (W : WebP top ns ps ts) (L : LOk ps ts ns G ks) {k : Ln} (hk : k ∈ ks) : ∃ v, oGetT (dG G) (prK k) = some v ∧ M_bit_of [v, prK k] = some (bitD ps ts ns k) := by
  obtain ⟨d, ds, h1, h2⟩ := L.get k hk
  have h2 : d :: ds = clD ps ts ns k := h2
  have hu : (d :: ds).all isU = true := by
    rw [List.all_eq_true]
    intro x hx
    rw [h2] at hx
    obtain ⟨c, _, _, rfl⟩ := cl_mem.mp hx
    rfl
  have hl : (d :: ds).length ≤ 1000 := by
    rw [h2]
    unfold clD
    rw [List.length_map]
    have e1 : ((cutsS ns).filter fun c => decide (lnC ps ts c = k)).length ≤ (cutsS ns).length := List.length_filter_le _ _
    have e2 := (cutsS_perm ns).length_eq
    have n8 := W.n8
    have p8 : 2 ^ ns.length ≤ 2 ^ 8 := Nat.pow_le_pow_right (by decide) n8
    rw [cutsF_len] at e2
    omega
  have m1 : ∀ {f : PyData → PyData → Bool}, mBest f (mW 0) [.val (.list (d :: ds)), .val (prK k)] = some (bestL f d ds) := fun {f} => by
    show (if (d :: ds).all isU = true then some (bestL f d ds) else none) = _
    rw [if_pos hu]
  refine ⟨_, h1, ?_⟩
  · unfold bitD
    rw [← h2]
    exact r_eq rfl (r_ret (x_tup (x_cons m1 (x_cons m1 (x_cons (x_op rfl rfl (ix_t at0)) (x_cons (x_op rfl rfl (ix_t at1)) rfl)))) (by show 4 ≤ 100000; decide)) rfl)
/-- the nearest cut of a line -/
theorem near_ok (L : LOk ps ts ns G ks) {k : Ln} (hk : k ∈ ks) : ∃ c ∈ cutsF ns, bestOf shorter (clD ps ts ns k) = tupS c ∧ lnC ps ts c = k ∧ ∀ c' ∈ cutsF ns, lnC ps ts c' = k → c.length ≤ c'.length := by
  obtain ⟨d, ds, h1, h2⟩ := L.get k hk
  have h2 : d :: ds = clD ps ts ns k := h2
  obtain ⟨b1, b2⟩ := best_short ds d
  rw [h2] at b1 b2
  obtain ⟨c, hc, hl, e⟩ := cl_mem.mp b1
  refine ⟨c, hc, by rw [← h2]; exact e, hl, fun c' hc' hl' => ?_⟩
  have := b2 _ (cl_mem.mpr ⟨c', hc', hl', rfl⟩)
  rw [e, tlen_S, tlen_S] at this
  exact this
/-! ### the lines of the stair -/
def Nxt (ks : List Ln) (top : Int) (cur b : Ln) : Prop := b ∈ ks ∧ b.2 < cur.2 ∧ b.1 - cur.1 < top * (cur.2 - b.2) ∧ ∀ k ∈ ks, k.2 < cur.2 → lq cur b k
inductive Chain (ks : List Ln) (top : Int) : Ln → List Ln → Prop
  | nil {cur : Ln} : (∀ k ∈ ks, k.2 < cur.2 → top * (cur.2 - k.2) ≤ k.1 - cur.1) → Chain ks top cur []
  | cons {cur b : Ln} {r : List Ln} : Nxt ks top cur b → Chain ks top b r → Chain ks top cur (b :: r)
def brkL : Ln → List Ln → List PyData
  | _, [] => []
  | cur, b :: r => frD (b.1 - cur.1) (cur.2 - b.2) :: brkL b r
def cnt (ks : List Ln) (cur : Ln) : Nat := (ks.filter fun k => decide (k.2 < cur.2)).length
theorem filt_lt {α : Type} {p q : α → Bool} : ∀ {l : List α}, (∀ x ∈ l, p x = true → q x = true) → (∃ x ∈ l, q x = true ∧ p x = false) → (l.filter p).length < (l.filter q).length := by
  have le : ∀ {l : List α}, (∀ x ∈ l, p x = true → q x = true) → (l.filter p).length ≤ (l.filter q).length := by
    intro l h
    induction l with
    | nil => exact Nat.le_refl _
    | cons x l ih =>
      have ih := ih fun y hy => h y (List.mem_cons_of_mem _ hy)
      rw [List.filter_cons, List.filter_cons]
      cases hp : p x
      · cases hq : q x <;> simp <;> omega
      · rw [h x List.mem_cons_self hp]
        simp
        omega
  intro l
  induction l with
  | nil => rintro _ ⟨x, hx, _⟩; exact absurd hx List.not_mem_nil
  | cons y l ih =>
    rintro h ⟨x, hx, h1, h2⟩
    have hl := le (l := l) fun z hz => h z (List.mem_cons_of_mem _ hz)
    rw [List.filter_cons, List.filter_cons]
    rcases List.mem_cons.mp hx with rfl | hx
    · rw [h1, h2]
      simp
      omega
    · have ih := ih (fun z hz => h z (List.mem_cons_of_mem _ hz)) ⟨x, hx, h1, h2⟩
      cases hp : p y
      · cases hq : q y <;> simp <;> omega
      · rw [h y List.mem_cons_self hp]
        simp
        omega
theorem cnt_lt {cur b : Ln} (hb : b ∈ ks) (h : b.2 < cur.2) : cnt ks b < cnt ks cur := filt_lt (fun x _ hx => decide_eq_true (by have := of_decide_eq_true hx; omega)) ⟨b, hb, decide_eq_true h, decide_eq_false (Int.lt_irrefl _)⟩
theorem far_of {cur b k : Ln} (hb : b.2 < cur.2) (hk : k.2 < cur.2) (h : lq cur b k) (h2 : ¬ b.1 - cur.1 < top * (cur.2 - b.2)) : top * (cur.2 - k.2) ≤ k.1 - cur.1 := by
  have := iratio (a := top) (b := 1) (c := b.1 - cur.1) (d := cur.2 - b.2) (e := k.1 - cur.1) (f := cur.2 - k.2) (by decide) (by omega) (by omega) (by omega) (lq_le h)
  omega
theorem chain_ex (big : ∀ k ∈ ks, Bg k) : ∀ (n : Nat) (cur : Ln), cur ∈ ks → cnt ks cur ≤ n → ∃ r, Chain ks top cur r ∧ r.length ≤ n := by
  intro n
  induction n with
  | zero =>
    intro cur hc hn
    refine ⟨[], .nil fun k hk lt => ?_, Nat.le_refl _⟩
    have := cnt_lt hk lt
    omega
  | succ n ih =>
    intro cur hc hn
    obtain ⟨d, _, bh⟩ := behind_ok big (big cur hc)
    rcases bh with ⟨_, none'⟩ | ⟨b, hb, _, lt, hq⟩
    · exact ⟨[], .nil fun k hk lt => absurd lt (none' k hk), Nat.zero_le _⟩
    · by_cases hlt : b.1 - cur.1 < top * (cur.2 - b.2)
      · have := cnt_lt hb lt
        obtain ⟨r, h1, h2⟩ := ih b hb (by omega)
        exact ⟨b :: r, .cons ⟨hb, lt, hlt, hq⟩ h1, by rw [List.length_cons]; omega⟩
      · exact ⟨[], .nil fun k hk l => far_of lt l (hq k hk l) hlt, Nat.zero_le _⟩
noncomputable abbrev stT : MT := qAnd (qV (mOp oNotNo (mW 7) (mC .none))) (qV (mCb M_below (aCons (mCb M_meeting (aCons (mV 4) (aCons (mV 7) aNil))) (aCons (mV 3) aNil))))
noncomputable abbrev stB : MS := mSeq (mApp 6 (mCb M_meeting (aCons (mV 4) (aCons (mV 7) aNil)))) (mSeq (mApp 5 (mCb M_bit_of (aCons (mOp oGetT (mV 1) (mV 7)) (aCons (mV 7) aNil)))) (mSeq (mSet 4 (mV 7)) (mSet 7 (mCb M_line_behind (aCons (mV 2) (aCons (mV 4) aNil))))))
theorem loopA (W : WebP top ns ps ts) (L : LOk ps ts ns G ks) {s0 : Sl} : ∀ (r : List Ln) (cur : Ln) (d : PyData) (bits brks : List PyData), cur ∈ ks → Chain ks top cur r → BH ks cur d → bits.length + r.length < 1000 → brks.length + r.length < 1000 →
    ∃ N cur' d', whGo stT stB N [s0, .val (dG G), .val (.list (ks.map prK)), .val (frD top 1), .val (prK cur), .own (.list bits), .own (.list brks), .val d] = some (.nx [s0, .val (dG G), .val (.list (ks.map prK)), .val (frD top 1), .val (prK cur'), .own (.list (bits ++ r.map (bitD ps ts ns))), .own (.list (brks ++ brkL cur r)), .val d']) := by
  have t1 := W.t1
  have t9 := W.t9
  have test : ∀ {cur b : Ln} {bits brks : List PyData}, cur ∈ ks → b ∈ ks → b.2 < cur.2 → stT [s0, .val (dG G), .val (.list (ks.map prK)), .val (frD top 1), .val (prK cur), .own (.list bits), .own (.list brks), .val (prK b)] = some (decide (b.1 - cur.1 < top * (cur.2 - b.2))) := fun {cur b bits brks} hc hb lt => by
    have bc := L.big cur hc
    have bb := L.big b hb
    have bl := below_ok (a := b.1 - cur.1) (b := cur.2 - b.2) (c := top) (d := 1) (by omega) (by decide) (by omega) (by omega) (by omega) (by decide)
    rw [Int.mul_one] at bl
    exact x_andT (x_qv (c := true) rfl) (x_qv (x_cb (x_cons (x_cb rfl (meet_ok lt bc bb)) rfl) bl))
  intro r
  induction r with
  | nil =>
    intro cur d bits brks hc ch bh _ _
    cases ch with
    | nil hno =>
      rw [List.map_nil, List.append_nil, show brkL cur [] = [] from rfl, List.append_nil]
      rcases bh with ⟨rfl, _⟩ | ⟨b, hb, rfl, lt, _⟩
      · exact ⟨1, cur, .none, wh_stop (x_andF (x_qv (c := false) rfl))⟩
      · refine ⟨1, cur, prK b, wh_stop ?_⟩
        rw [test hc hb lt, decide_eq_false]
        have := hno b hb lt
        omega
  | cons b r ih =>
    intro cur d bits brks hc ch bh l1 l2
    rw [List.length_cons] at l1 l2
    cases ch with
    | cons hn ch =>
      obtain ⟨hb, lt, hlt, hq⟩ := hn
      rcases bh with ⟨_, none'⟩ | ⟨b', hb', rfl, lt', hq'⟩
      · exact absurd lt (none' b hb)
      · have : b' = b := lq_anti lt' (hq' b hb lt) (hq b' hb' lt')
        subst this
        have bc := L.big cur hc
        have bb := L.big b' hb
        obtain ⟨v, g1, g2⟩ := bit_ok W L hb
        obtain ⟨d', hd', bh'⟩ := behind_ok (fun k hk => L.big k hk) bb
        obtain ⟨N, cur', d2, hN⟩ := ih b' d' (bits ++ [bitD ps ts ns b']) (brks ++ [frD (b'.1 - cur.1) (cur.2 - b'.2)]) hb ch bh' (by rw [List.length_append]; show bits.length + 1 + r.length < 1000; omega) (by rw [List.length_append]; show brks.length + 1 + r.length < 1000; omega)
        refine ⟨N + 1, cur', d2, ?_⟩
        rw [List.map_cons, List.append_cons bits, show brkL cur (b' :: r) = frD (b'.1 - cur.1) (cur.2 - b'.2) :: brkL b' r from rfl, List.append_cons brks]
        exact wh_step (by rw [test hc hb lt, decide_eq_true hlt]) (x_seq (x_app (x_cb rfl (meet_ok lt bc bb)) rfl (by omega)) (x_seq (x_app (x_cb (x_cons (x_op rfl rfl g1) rfl) g2) rfl (by omega)) (x_seq (x_set rfl) (x_set (x_cb rfl hd'))))) hN
end
end K60
namespace K60
open PySem PySem.Spec PyProof.Rows L2 LB PM
section
variable {top : Int} {ns cs : List Str} {ps ts : List PyData} {G : List (List Key × List PyData)} {ks : List Ln}
theorem key_hd (L : LOk ps ts ns G ks) : ∃ t v gs, dG G = .dict ((.tuple t, v) :: gs) ∧ PyData.tuple t :: gs.map (·.1) = ks.map prK := by
  rw [← L.key]
  cases G with
  | nil =>
    exfalso
    have h := L.all [] (nil_cut ns)
    have := L.key
    rw [List.map_nil] at this
    rw [List.map_eq_nil_iff.mp this.symm] at h
    exact absurd h List.not_mem_nil
  | cons e G =>
    refine ⟨_, _, _, rfl, ?_⟩
    show PyData.tuple (e.1.map keyD) :: (G.map fun e => ((PyData.tuple (e.1.map keyD), PyData.list e.2) : PyData × PyData)).map (·.1) = _
    rw [List.map_map]
    rfl
theorem keys_ok (L : LOk ps ts ns G ks) : oKeysT [dG G] = some (.list (ks.map prK)) := by
  obtain ⟨t, v, gs, e1, e2⟩ := key_hd L
  rw [e1, ← e2]
  rfl
/-! ### the law's next line -/
/-! ### the law's stair -/
noncomputable def stD (ps ts : List PyData) (ns : List Str) (m : Ln) (r : List Ln) : PyData := .tuple [.list ((m :: r).map (bitD ps ts ns)), .list (brkL m r)]
/-- both stairs are one -/
theorem stair_ok (W : WebP top ns ps ts) : ∃ G ks m r, LOk ps ts ns G ks ∧ m ∈ ks ∧ (∀ k ∈ ks, lexle m k) ∧ Chain ks top m r ∧ r.length ≤ 256 ∧ M_stair_of [webD top ps ts] = some (stD ps ts ns m r) := by
  have hG : M_cuts_by_line [webD top ps ts] = some (dG (gaF ps ts (cutsS ns) [])) := by_line_eq W
  have g := gaF_ok (ps := ps) (ts := ts) (cutsS ns) [] [] ⟨List.nodup_nil, fun e he => absurd he List.not_mem_nil, fun e he => absurd he List.not_mem_nil, fun c hc => absurd hc List.not_mem_nil⟩
  have L : LOk ps ts ns (gaF ps ts (cutsS ns) []) _ := lok W g
  generalize gaF ps ts (cutsS ns) [] = G at hG L
  generalize (G.map fun e => ofK e.1) = ks at L
  have few := L.few
  have ne : ks ≠ [] := fun z => by
    have := L.all [] (nil_cut ns)
    rw [z] at this
    exact absurd this List.not_mem_nil
  obtain ⟨m, hm, hmin, mlow⟩ := min_ok ne
  obtain ⟨v, g1, g2⟩ := bit_ok W L hm
  have cm : cnt ks m ≤ 256 := Nat.le_trans (List.length_filter_le _ _) few
  obtain ⟨r, ch, rl⟩ := chain_ex (top := top) (fun k hk => L.big k hk) 256 m hm cm
  refine ⟨G, ks, m, r, L, hm, mlow, ch, rl, ?_⟩
  · obtain ⟨d, hd, bh⟩ := behind_ok (fun k hk => L.big k hk) (L.big m hm)
    obtain ⟨N, cur', d', hN⟩ := loopA W L (s0 := .val (webD top ps ts)) r m d [bitD ps ts ns m] [] hm ch bh (by show 1 + r.length < 1000; omega) (by show 0 + r.length < 1000; omega)
    have hfr : M_fraction [.int top, .int 1] = some (frD top 1) := fraction_ok (by decide) (by decide)
    refine r_eq rfl (r_seq (x_set (x_cb rfl hG)) (r_seq (x_set (x_cb rfl (keys_ok L))) (r_seq (x_set (x_cb (x_cons (x_op rfl rfl (ix_t at0)) rfl) hfr)) (r_seq (x_set (x_cb rfl hmin)) (r_seq (x_setO (x_lst (x_cons (x_cb (x_cons (x_op rfl rfl g1) rfl) g2) rfl) (by show 1 ≤ 100000; decide))) (r_seq (x_setO rfl) (r_seq (x_set (x_cb rfl hd)) (r_seq (x_while hN) ?_))))))))
    exact ⟨.rt (stD ps ts ns m r), rfl, rfl⟩
end
end K60
namespace K60
open PySem PySem.Spec PyProof.Rows L2 LB PM
/-! ### names, rows that rise, of any kind -/
theorem bls_map (f : PyData → Bool) : ∀ l : List PyData, bls (l.map fun d => .bool (f d)) = some (l.map f)
  | [] => rfl
  | d :: l => by
    show (bls (l.map fun d => .bool (f d))).map _ = _
    rw [bls_map f l]
    rfl
theorem all_bools (f : PyData → Bool) (l : List PyData) : oAll [.list (l.map fun d => .bool (f d))] = some (.bool (l.all f)) := by
  show (bls _).map _ = _
  rw [bls_map]
  show some (PyData.bool ((l.map f).all id)) = _
  rw [List.all_map]
  rfl
theorem is_ty (n : String) (d : PyData) {ρ : Ev} {i : Nat} (h : ρ[i]? = some (.val d)) : mIs n (mW i) ρ = (kitB (tyN d) n).map .bool := by
  unfold mIs mW
  rw [h]
  rfl
theorem isS_is (d : PyData) {ρ : Ev} {i : Nat} (h : ρ[i]? = some (.val d)) : mIs "str" (mW i) ρ = some (.bool (isS d)) := by
  rw [is_ty "str" d h, kit_str]
  rfl
theorem isU_is (d : PyData) {ρ : Ev} {i : Nat} (h : ρ[i]? = some (.val d)) : mIs "tuple" (mW i) ρ = some (.bool (isU d)) := by
  rw [is_ty "tuple" d h, kit_tuple]
  rfl
theorem ch3 {a c i : Int} {e : ME} {ρ : Ev} (h : e ρ = some (.int i)) : mCh oLe oLe (mC (.int a)) e (mC (.int c)) ρ = some (.bool (decide (a ≤ i) && decide (i ≤ c))) := by
  show ((e ρ).bind fun y => (oLe (.int a) y).bind fun z => (asB z).bind fun k => if k = true then (some (PyData.int c)).bind fun w => oLe y w else some (.bool false)) = _
  rw [h]
  show (if decide (a ≤ i) = true then some (PyData.bool (decide (i ≤ c))) else some (.bool false)) = _
  cases decide (a ≤ i) <;> rfl
def sgB (c : Nat) : Bool := decide (c ∈ ("0123456789" : Str).cps.toList)
def sgD : PyData → Bool
  | .str x => match sg1 x with
    | some c => sgB c
    | none => false
  | _ => false
theorem sgD_all (z : Str) : (signsD z).all sgD = z.cps.toList.all sgB := by
  unfold signsD
  rw [List.all_map]
  rfl
theorem sgD_in {z : Str} {d : PyData} (h : d ∈ signsD z) : oInX d (.str "0123456789") = some (.bool (sgD d)) := by
  obtain ⟨c, _, rfl⟩ := List.mem_map.mp h
  rfl
theorem len_str {z : Str} (h : z.length ≤ 10000) : oLen [.str z] = some (.int (z.length : Int)) := if_pos h
/-! ### what a picture is -/
structure ThOk (d : PyData) : Prop where
  lay : ∀ ds, d = .tuple ds → SeqAt.shaped d = true
  few : ∀ ds, d = .tuple ds → ds.length ≤ 20
  txt : ∀ ds, d = .tuple ds → ∀ z, PyData.str z ∈ ds → z.length ≤ 20 ∧ PyData.strOk z = true
theorem txD_none : ∀ {ds : List PyData}, ds.all isS = false → txD ds = none
  | [], h => nomatch h
  | d :: ds, h => by
    cases d with
    | str z =>
      have h' : ds.all isS = false := by
        rw [List.all_cons] at h
        exact h
      show (txD ds).map _ = none
      rw [txD_none h']
      rfl
    | _ => rfl
theorem txD_all : ∀ {ds : List PyData}, ds.all isS = true → ∃ zs : List Str, ds = zs.map .str
  | [], _ => ⟨[], rfl⟩
  | d :: ds, h => by
    rw [List.all_cons, Bool.and_eq_true_iff] at h
    obtain ⟨zs, rfl⟩ := txD_all h.2
    cases d with
    | str z => exact ⟨z :: zs, rfl⟩
    | _ => exact nomatch h.1
theorem empty_cps : ("" : Str).cps.toList = [] := by decide
theorem join_cps : ∀ zs : List Str, (Txt.join "" zs).cps.toList = (zs.map fun z => z.cps.toList).flatten := by
  have key : ∀ zs : List Str, (Str.join "" zs).cps.toList = (zs.map fun z => z.cps.toList).flatten := by
    intro zs
    induction zs with
    | nil => rfl
    | cons x r ih =>
      cases r with
      | nil =>
        show x.cps.toList = _
        simp
      | cons y r =>
        show (x ++ "" ++ Str.join "" (y :: r)).cps.toList = _
        rw [PySem.W.KT.app_list, PySem.W.KT.app_list, ih, empty_cps, List.append_nil]
        rfl
  intro zs
  show (Builtin.Str.glued "" zs).cps.toList = _
  rw [StrLaws.glued_eq_join]
  exact key zs
def sumL (zs : List Str) : Nat := (zs.map (·.length)).sum
theorem join_len (zs : List Str) : (Txt.join "" zs).length = sumL zs := by
  show (Txt.join "" zs).cps.size = _
  rw [← Array.length_toList, join_cps, List.length_flatten, List.map_map]
  rfl
theorem sum_few : ∀ {zs : List Str}, (∀ z ∈ zs, z.length ≤ 20) → sumL zs ≤ zs.length * 20
  | [], _ => Nat.le_refl _
  | z :: zs, h => by
    have h1 := h z List.mem_cons_self
    have h2 := sum_few fun z hz => h z (List.mem_cons_of_mem _ hz)
    show z.length + sumL zs ≤ (zs.length + 1) * 20
    omega
theorem join_ok {zs : List Str} (h20 : zs.length ≤ 20) (h : ∀ z ∈ zs, z.length ≤ 20) {y : PyData} (hy : itemsD y = some (zs.map .str)) : oJoin (.str "") y = some (.str (Txt.join "" zs)) := by
  have := sum_few h
  have e0 : ("" : Str).length = 0 := by decide
  unfold oJoin
  rw [hy]
  show (txD (zs.map .str)).bind _ = _
  rw [txD_strs]
  show (if _ then _ else _) = _
  rw [if_pos (by rw [e0]; show sumL zs + _ ≤ _; omega)]
/-- a picture's rows -/
def picR (zs : List Str) : Bool := (decide (1 ≤ (sumL zs : Int)) && decide ((sumL zs : Int) ≤ 8)) && (zs.all (fun z => z.cps.toList.all sgB) && zs.all fun z => decide ((z.length : Int) = ((zs.headD "").length : Int)))
def picB : PyData → Bool
  | .tuple ds => match txD ds with
    | some zs => picR zs
    | none => false
  | _ => false
theorem ix0 {ds : List PyData} {d : PyData} : oIx (.tuple (d :: ds)) (.int 0) = some d := ix_t at0
theorem picture_is {d : PyData} (h : ThOk d) : M_is_picture [d] = some (.bool (picB d)) := by
  have hU := isU_is d (ρ := [.val d, .no, .no, .no]) (i := 0) rfl
  cases hd : isU d with
  | false =>
    rw [hd] at hU
    have e : picB d = false := by
      cases d with
      | tuple ds => cases hd
      | _ => rfl
    rw [e]
    exact r_eq rfl ⟨_, x_ret (x_ifT (x_not (c := false) (x_andF (x_qv hU))) (x_rt rfl)), rfl⟩
  | true =>
    rw [hd] at hU
    obtain ⟨ds, rfl⟩ : ∃ ds, d = .tuple ds := by
      cases d with
      | tuple ds => exact ⟨ds, rfl⟩
      | _ => cases hd
    have h1 : mAg (iS (mW 0)) [2] (gN 2) qT (mIs "str" (mW 2)) [.val (.tuple ds), .no, .no, .no] = some (.bool (ds.all isS)) := x_ag (ds := ds) rfl (x_agGo isS _ fun d hd => ⟨[.val (.tuple ds), .no, .val d, .no], rfl, rfl, isS_is d rfl⟩)
    cases ha : ds.all isS with
    | false =>
      rw [ha] at h1
      have e : picB (.tuple ds) = false := by
        show (match txD ds with | some zs => picR zs | none => false) = false
        rw [txD_none ha]
      rw [e]
      exact r_eq rfl ⟨_, x_ret (x_ifT (x_not (c := false) (x_andT (x_qv hU) (x_qv h1))) (x_rt rfl)), rfl⟩
    | true =>
      rw [ha] at h1
      obtain ⟨zs, rfl⟩ := txD_all ha
      have f20 : zs.length ≤ 20 := by
        have := h.few _ rfl
        rwa [List.length_map] at this
      have t20 : ∀ z ∈ zs, z.length ≤ 20 := fun z hz => (h.txt _ rfl z (List.mem_map_of_mem hz)).1
      have sf := sum_few t20
      have eb : picB (.tuple (zs.map .str)) = picR zs := by
        show (match txD (zs.map .str) with | some zs => picR zs | none => false) = _
        rw [txD_strs]
      rw [eb]
      have hj := join_ok f20 t20 (y := .tuple (zs.map .str)) rfl
      have hl : oLen [.str (Txt.join "" zs)] = some (.int (sumL zs : Int)) := by
        rw [len_str (by rw [join_len]; omega), join_len]
      have q1 : ∀ {ρ : Ev}, mW 1 ρ = some (.str (Txt.join "" zs)) → mCh oLe oLe (mC (.int 1)) (mCb oLen (aCons (mW 1) aNil)) (mC (.int 8)) ρ = some (.bool (decide (1 ≤ (sumL zs : Int)) && decide ((sumL zs : Int) ≤ 8))) := fun h => ch3 (x_cb (x_cons h rfl) hl)
      have q2 : mAg (iS (mW 1)) [3] (gN 3) qT (mOp oInX (mW 3) (mC (.str "0123456789"))) [.val (.tuple (zs.map .str)), .val (.str (Txt.join "" zs)), .no, .no] = some (.bool (zs.all fun z => z.cps.toList.all sgB)) := by
        have e : (signsD (Txt.join "" zs)).all sgD = zs.all fun z => z.cps.toList.all sgB := by
          rw [sgD_all, join_cps, List.all_flatten, List.all_map]
          rfl
        rw [← e]
        exact x_ag (ds := signsD (Txt.join "" zs)) rfl (x_agGo sgD _ fun d hd => ⟨[.val (.tuple (zs.map .str)), .val (.str (Txt.join "" zs)), .no, .val d], rfl, rfl, x_op rfl rfl (sgD_in hd)⟩)
      have q1 := q1 (ρ := [.val (.tuple (zs.map .str)), .val (.str (Txt.join "" zs)), .no, .no]) rfl
      unfold picR
      refine r_eq rfl (r_seq (x_ifF (x_not (c := true) (x_andT (x_qv hU) (x_qv h1))) rfl) (r_seq (x_set (x_op rfl rfl hj)) ?_))
      cases c1 : (decide (1 ≤ (sumL zs : Int)) && decide ((sumL zs : Int) ≤ 8)) with
      | false =>
        rw [c1] at q1
        exact ⟨_, x_ret (x_ifT (x_not (c := false) (x_andF (x_qv q1))) (x_rt rfl)), rfl⟩
      | true =>
        rw [c1] at q1
        cases c2 : (zs.all fun z => z.cps.toList.all sgB) with
        | false =>
          rw [c2] at q2
          exact ⟨_, x_ret (x_ifT (x_not (c := false) (x_andT (x_qv q1) (x_qv q2))) (x_rt rfl)), rfl⟩
        | true =>
          rw [c2] at q2
          refine r_seq (x_ifF (x_not (c := true) (x_andT (x_qv q1) (x_qv q2))) rfl) (r_ret (d := .bool (zs.all fun z => decide ((z.length : Int) = ((zs.headD "").length : Int)))) ?_ rfl)
          cases zs with
          | nil => cases c1
          | cons y r =>
            have e : ((y :: r).map PyData.str).all (fun d => match d with | .str z => decide ((z.length : Int) = (y.length : Int)) | _ => false) = (y :: r).all fun z => decide ((z.length : Int) = (((y :: r).headD "").length : Int)) := by
              rw [List.all_map]
              rfl
            rw [← e]
            refine x_ag (ds := (y :: r).map .str) rfl (x_agGo _ _ fun d hd => ?_)
            obtain ⟨z, hz, rfl⟩ := List.mem_map.mp hd
            have := t20 z hz
            have := t20 y List.mem_cons_self
            exact ⟨_, rfl, rfl, x_op (x_cb (x_cons rfl rfl) (len_str (by omega))) (x_cb (x_cons (x_op rfl rfl ix0) rfl) (len_str (by omega))) (eq_ii _ _)⟩
end K60
namespace K60
open PySem PySem.Spec PyProof.Rows L2 LB PM
/-! ### as looked at by the law -/
theorem isS_of {e : ME} {ρ : Ev} {d : PyData} (h : e ρ = some d) : mIs "str" e ρ = some (.bool (isS d)) := by
  unfold mIs
  rw [h]
  show (kitB (tyN d) "str").map _ = _
  rw [kit_str]
  rfl
theorem sh_text {z : Str} (h : PyData.strOk z = true) : SeqAt.shaped (.str z) = true := by
  have l : PyData.canLay0 (.str z) = true := by
    unfold PyData.canLay0
    exact h
  unfold SeqAt.shaped
  rw [l]
  rfl
theorem empty_iff (z : Str) : z = "" ↔ z.length = 0 := ⟨fun e => by rw [e]; decide, fun e => by
  obtain ⟨c⟩ := z
  have : c = #[] := Array.eq_empty_of_size_eq_zero e
  rw [this]
  rfl⟩
theorem eq_none {z : Str} (h : PyData.strOk z = true) : oEq (.str z) (.str "") = some (.bool (decide (z.length = 0))) := by
  unfold oEq
  rw [if_pos ⟨sh_text h, sh_text (by decide +kernel)⟩, eqv_str]
  refine congrArg (fun b => some (PyData.bool b)) ?_
  exact decide_eq_decide.mpr (empty_iff z)
def sameL (h : PyData) (z : Str) : Bool := match h with
  | .str y => decide ((z.length : Int) = (y.length : Int))
  | _ => false
def rowB (h : PyData) : PyData → Bool
  | .str z => (!decide (z.length = 0)) && (sameL h z && z.cps.toList.all sgB)
  | _ => false
def lenD : PyData → Nat
  | .str z => z.length
  | _ => 0
def lens (ds : List PyData) : Nat := (ds.map lenD).sum
abbrev dueBody : MS := (mSeq (mIfS (qOr (qNot (qV (mIs "str" (mW 2)))) (qOr (qV (mOp oEq (mW 2) (mC (.str "")))) (qOr (qNot (qV (mIs "str" (mOp oIx (mW 0) (mC (.int 0)))))) (qV (mOp oNe (mCb oLen (aCons (mW 2) aNil)) (mCb oLen (aCons (mOp oIx (mW 0) (mC (.int 0))) aNil))))))) (mRet (mC (.bool false))) mNx)
  (mSeq (mIfS (qNot (qV (mCb oAll (aCons (mLc (iS (mW 2)) [3] (gN 3) qT (mOp oInX (mW 3) (mC (.str "0123456789")))) aNil)))) (mRet (mC (.bool false))) mNx)
  (mSet 1 (mOp oAdd (mW 1) (mCb oLen (aCons (mW 2) aNil))))))
def SmR (d : PyData) : Prop := ∀ z, d = .str z → z.length ≤ 20 ∧ PyData.strOk z = true
theorem lc_digits {z : Str} {s0 s1 s3 : Sl} (hz : z.length ≤ 20) : mCb oAll (aCons (mLc (iS (mW 2)) [3] (gN 3) qT (mOp oInX (mW 3) (mC (.str "0123456789")))) aNil) [s0, s1, .val (.str z), s3] = some (.bool (z.cps.toList.all sgB)) := by
  have ls : (signsD z).length = z.length := by
    unfold signsD
    rw [List.length_map]
    exact Array.length_toList
  refine x_cb (x_cons (x_lc (ds := signsD z) (es := (signsD z).map fun d => .bool (sgD d)) rfl (by omega) ?_) rfl) ?_
  · rw [x_lcGo (fun _ => true) (fun d => .bool (sgD d)) _ fun d hd => ⟨[s0, s1, .val (.str z), .val d], rfl, rfl, fun _ => x_op rfl rfl (sgD_in hd)⟩]
    rw [List.filter_eq_self.mpr fun _ _ => rfl]
  · rw [all_bools sgD, sgD_all]
theorem due_row {h : PyData} {t : List PyData} {m : Nat} {d : PyData} {s3 : Sl} (hd : SmR d) (hh : SmR h) :
    (rowB h d = true → dueBody [.val (.tuple (h :: t)), .val (.int (m : Int)), .val d, s3] = some (.nx [.val (.tuple (h :: t)), .val (.int ((m + lenD d : Nat) : Int)), .val d, s3])) ∧
    (rowB h d = false → dueBody [.val (.tuple (h :: t)), .val (.int (m : Int)), .val d, s3] = some (.rt (.bool false))) := by
  have hS : mIs "str" (mW 2) [.val (.tuple (h :: t)), .val (.int (m : Int)), .val d, s3] = some (.bool (isS d)) := isS_of rfl
  have hH : mIs "str" (mOp oIx (mW 0) (mC (.int 0))) [.val (.tuple (h :: t)), .val (.int (m : Int)), .val d, s3] = some (.bool (isS h)) := isS_of (x_op rfl rfl ix0)
  have bad : ∀ {d : PyData}, isS d = false → mIs "str" (mW 2) [.val (.tuple (h :: t)), .val (.int (m : Int)), .val d, s3] = some (.bool (isS d)) → dueBody [.val (.tuple (h :: t)), .val (.int (m : Int)), .val d, s3] = some (.rt (.bool false)) := fun e hS => by
    rw [e] at hS
    exact x_ret (x_ifT (x_orT (x_not (c := false) (x_qv hS))) (x_rt rfl))
  cases d with
  | str z =>
    obtain ⟨z20, zo⟩ := hd z rfl
    have e1 := eq_none zo
    have lz : oLen [.str z] = some (.int (z.length : Int)) := len_str (by omega)
    cases c1 : decide (z.length = 0) with
    | true =>
      rw [c1] at e1
      have er : rowB h (.str z) = false := by
        show (!decide (z.length = 0) && (sameL h z && z.cps.toList.all sgB)) = _
        rw [c1]
        rfl
      exact ⟨(fun e => by rw [er] at e; cases e), fun _ => x_ret (x_ifT (x_orF (x_not (c := true) (x_qv hS)) (x_orT (x_qv (x_op rfl rfl e1)))) (x_rt rfl))⟩
    | false =>
      rw [c1] at e1
      have er : rowB h (.str z) = (sameL h z && z.cps.toList.all sgB) := by
        show (!decide (z.length = 0) && (sameL h z && z.cps.toList.all sgB)) = _
        rw [c1]
        rfl
      rw [er]
      cases h with
      | str y =>
        obtain ⟨y20, yo⟩ := hh y rfl
        have ly : oLen [.str y] = some (.int (y.length : Int)) := len_str (by omega)
        have q : ∀ {ρ : Ev}, mW 2 ρ = some (.str z) → mW 0 ρ = some (.tuple (.str y :: t)) → mOp oNe (mCb oLen (aCons (mW 2) aNil)) (mCb oLen (aCons (mOp oIx (mW 0) (mC (.int 0))) aNil)) ρ = some (.bool (!sameL (.str y) z)) := fun h2 h0 => x_op (x_cb (x_cons h2 rfl) lz) (x_cb (x_cons (x_op h0 rfl ix0) rfl) ly) (ne_ii _ _)
        have q := q (ρ := [.val (.tuple (.str y :: t)), .val (.int (m : Int)), .val (.str z), s3]) rfl rfl
        have g := lc_digits (s0 := .val (.tuple (.str y :: t))) (s1 := .val (.int (m : Int))) (s3 := s3) z20
        cases c2 : sameL (.str y) z with
        | false =>
          rw [c2] at q
          exact ⟨(fun e => nomatch e), fun _ => x_ret (x_ifT (x_orF (x_not (c := true) (x_qv hS)) (x_orF (x_qv (x_op rfl rfl e1)) (x_orF (x_not (c := true) (x_qv hH)) (x_qv q)))) (x_rt rfl))⟩
        | true =>
          rw [c2] at q
          have one : mIfS (qOr (qNot (qV (mIs "str" (mW 2)))) (qOr (qV (mOp oEq (mW 2) (mC (.str "")))) (qOr (qNot (qV (mIs "str" (mOp oIx (mW 0) (mC (.int 0)))))) (qV (mOp oNe (mCb oLen (aCons (mW 2) aNil)) (mCb oLen (aCons (mOp oIx (mW 0) (mC (.int 0))) aNil))))))) (mRet (mC (.bool false))) mNx [.val (.tuple (.str y :: t)), .val (.int (m : Int)), .val (.str z), s3] = some (.nx [.val (.tuple (.str y :: t)), .val (.int (m : Int)), .val (.str z), s3]) :=
            x_ifF (x_orF (x_not (c := true) (x_qv hS)) (x_orF (x_qv (x_op rfl rfl e1)) (x_orF (x_not (c := true) (x_qv hH)) (x_qv q)))) rfl
          cases c3 : z.cps.toList.all sgB with
          | false =>
            rw [c3] at g
            exact ⟨(fun e => nomatch e), fun _ => x_seq one (x_ret (x_ifT (x_not (c := false) (x_qv g)) (x_rt rfl)))⟩
          | true =>
            rw [c3] at g
            exact ⟨fun _ => x_seq one (x_seq (x_ifF (x_not (c := true) (x_qv g)) rfl) (x_set (x_op rfl (x_cb (x_cons rfl rfl) lz) rfl))), fun e => nomatch e⟩
      | _ => exact ⟨(fun e => nomatch e), fun _ => x_ret (x_ifT (x_orF (x_not (c := true) (x_qv hS)) (x_orF (x_qv (x_op rfl rfl e1)) (x_orT (x_not (c := false) (x_qv hH))))) (x_rt rfl))⟩
  | _ => exact ⟨(fun e => nomatch e), fun _ => bad rfl hS⟩
theorem due_go {h : PyData} {t : List PyData} (hh : SmR h) : ∀ (ds : List PyData) (m : Nat) (s2 s3 : Sl), (∀ d ∈ ds, SmR d) →
    (ds.all (rowB h) = true → ∃ s2', forGo (gN 2) dueBody ds [.val (.tuple (h :: t)), .val (.int (m : Int)), s2, s3] = some (.nx [.val (.tuple (h :: t)), .val (.int ((m + lens ds : Nat) : Int)), s2', s3])) ∧
    (ds.all (rowB h) = false → forGo (gN 2) dueBody ds [.val (.tuple (h :: t)), .val (.int (m : Int)), s2, s3] = some (.rt (.bool false)))
  | [], m, s2, s3, _ => ⟨fun _ => ⟨s2, rfl⟩, fun e => nomatch e⟩
  | d :: ds, m, s2, s3, hs => by
    obtain ⟨r1, r2⟩ := due_row (h := h) (t := t) (m := m) (s3 := s3) (hs d List.mem_cons_self) hh
    show (_ → ∃ s2', (dueBody [.val (.tuple (h :: t)), .val (.int (m : Int)), .val d, s3]).bind _ = _) ∧ (_ → (dueBody [.val (.tuple (h :: t)), .val (.int (m : Int)), .val d, s3]).bind _ = _)
    rw [List.all_cons]
    cases c : rowB h d with
    | false =>
      rw [r2 c]
      exact ⟨(fun e => nomatch e), fun _ => rfl⟩
    | true =>
      rw [r1 c, Bool.true_and]
      have ih := due_go hh (t := t) ds (m + lenD d) (.val d) s3 fun x hx => hs x (List.mem_cons_of_mem _ hx)
      have el : m + lenD d + lens ds = m + lens (d :: ds) := Nat.add_assoc _ _ _
      rw [el] at ih
      exact ih
def dueB : PyData → Bool
  | .tuple (h :: t) => (h :: t).all (rowB h) && decide ((lens (h :: t) : Int) ≤ 8)
  | _ => false
theorem ThOk.row {ds : List PyData} (h : ThOk (.tuple ds)) : ∀ d ∈ ds, SmR d := fun d hd z e => h.txt ds rfl z (e ▸ hd)
theorem due_is {d : PyData} (h : ThOk d) : M_L_due [d] = some (.bool (dueB d)) := by
  have hU := isU_is d (ρ := [.val d, .no, .no, .no]) (i := 0) rfl
  cases d with
  | tuple ds =>
    have he : mOp oEq (mW 0) (mTup aNil) [.val (.tuple ds), .no, .no, .no] = some (.bool (decide (ds = []))) := by
      refine x_op rfl (x_tup rfl (Nat.zero_le _)) ?_
      unfold oEq
      rw [if_pos ⟨h.lay _ rfl, rfl⟩]
      cases ds with
      | nil => rfl
      | cons _ _ => rfl
    cases ds with
    | nil => exact r_eq rfl ⟨_, x_ret (x_ifT (x_orF (x_not (c := true) (x_qv hU)) (x_qv he)) (x_rt rfl)), rfl⟩
    | cons y t =>
      obtain ⟨g1, g2⟩ := due_go (t := t) (h.row y List.mem_cons_self) (y :: t) 0 .no .no h.row
      have one : mIfS (qOr (qNot (qV (mIs "tuple" (mW 0)))) (qV (mOp oEq (mW 0) (mTup aNil)))) (mRet (mC (.bool false))) mNx [.val (.tuple (y :: t)), .no, .no, .no] = some (.nx [.val (.tuple (y :: t)), .no, .no, .no]) := x_ifF (x_orF (x_not (c := true) (x_qv hU)) (x_qv he)) rfl
      cases c : (y :: t).all (rowB y) with
      | false =>
        have e : dueB (.tuple (y :: t)) = false := by
          show ((y :: t).all (rowB y) && _) = false
          rw [c]
          rfl
        rw [e]
        exact x_fn (q := .rt (.bool false)) rfl (x_seq one (x_seq (x_set rfl) (x_ret (g2 c)))) rfl
      | true =>
        have e : dueB (.tuple (y :: t)) = decide ((lens (y :: t) : Int) ≤ 8) := by
          show ((y :: t).all (rowB y) && _) = _
          rw [c]
          rfl
        rw [e]
        obtain ⟨s2, g1⟩ := g1 c
        rw [Nat.zero_add] at g1
        exact x_fn (q := .rt (.bool (decide ((lens (y :: t) : Int) ≤ 8)))) rfl (x_seq one (x_seq (x_set rfl) (x_seq g1 (x_rt (x_op rfl rfl rfl))))) rfl
  | _ => exact r_eq rfl ⟨_, x_ret (x_ifT (x_orT (x_not (c := false) (x_qv hU))) (x_rt rfl)), rfl⟩
theorem lens_strs : ∀ zs : List Str, lens (zs.map .str) = sumL zs
  | [] => rfl
  | z :: zs => congrArg (z.length + ·) (lens_strs zs)
theorem sum_zero : ∀ {zs : List Str}, (∀ z ∈ zs, z.length = 0) → sumL zs = 0
  | [], _ => rfl
  | z :: zs, h => by
    have h1 := h z List.mem_cons_self
    have h2 := sum_zero fun z hz => h z (List.mem_cons_of_mem _ hz)
    show z.length + sumL zs = 0
    omega
theorem pic_due {d : PyData} : picB d = dueB d := by
  cases d with
  | tuple ds =>
    cases ds with
    | nil => rfl
    | cons h t =>
      cases ha : (h :: t).all isS with
      | false =>
        have e1 : picB (.tuple (h :: t)) = false := by
          show (match txD (h :: t) with | some zs => picR zs | none => false) = false
          rw [txD_none ha]
        rw [e1]
        show false = ((h :: t).all (rowB h) && _)
        have : (h :: t).all (rowB h) = false := by
          rw [← Bool.not_eq_true]
          intro z
          refine absurd (List.all_eq_true.mpr fun d hd => ?_) (by rw [ha]; exact Bool.false_ne_true)
          have zd := List.all_eq_true.mp z d hd
          cases d with
          | str _ => rfl
          | _ => cases zd
        rw [this]
        rfl
      | true =>
        obtain ⟨zs, ez⟩ := txD_all ha
        cases zs with
        | nil => cases ez
        | cons y r =>
          injection ez with e1 e2
          subst e1 e2
          have e1 : picB (.tuple (.str y :: r.map .str)) = picR (y :: r) := by
            show (match txD ((y :: r).map .str) with | some zs => picR zs | none => false) = _
            rw [txD_strs]
          rw [e1]
          show picR (y :: r) = (((y :: r).map PyData.str).all (rowB (.str y)) && decide ((lens ((y :: r).map .str) : Int) ≤ 8))
          rw [lens_strs, List.all_map, Bool.eq_iff_iff]
          unfold picR
          simp only [Bool.and_eq_true, decide_eq_true_eq, List.all_eq_true]
          constructor
          · rintro ⟨⟨h1, h2⟩, h3, h4⟩
            refine ⟨fun z hz => ?_, h2⟩
            have l := h4 z hz
            show (!decide (z.length = 0) && (decide ((z.length : Int) = (y.length : Int)) && z.cps.toList.all sgB)) = true
            have l' : (z.length : Int) = (y.length : Int) := l
            have y0 : y.length ≠ 0 := fun e => by
              have := sum_zero (zs := y :: r) fun x hx => by
                have : (x.length : Int) = (y.length : Int) := h4 x hx
                omega
              omega
            rw [decide_eq_true l', decide_eq_false (by omega), List.all_eq_true.mpr (h3 z hz)]
            rfl
          · rintro ⟨h1, h2⟩
            have key : ∀ z ∈ y :: r, z.length ≠ 0 ∧ (z.length : Int) = (y.length : Int) ∧ z.cps.toList.all sgB = true := fun z hz => by
              have := h1 z hz
              have : (!decide (z.length = 0) && (decide ((z.length : Int) = (y.length : Int)) && z.cps.toList.all sgB)) = true := this
              simp only [Bool.and_eq_true, Bool.not_eq_true', decide_eq_false_iff_not, decide_eq_true_eq] at this
              exact this
            refine ⟨⟨?_, h2⟩, fun z hz => List.all_eq_true.mp (key z hz).2.2, fun z hz => (key z hz).2.1⟩
            have k := (key y List.mem_cons_self).1
            have : sumL (y :: r) = y.length + sumL r := rfl
            omega
  | _ => rfl
end K60
namespace K60
open PySem PySem.Spec PyProof.Rows L2 LB PM PySem.W
/-! ### the picture drawn -/
def RowOk (w : Nat) (z : Str) : Prop := z.length = w ∧ z.cps.toList.all sgB = true
structure PicOk (zs : List Str) : Prop where
  one : 1 ≤ zs.length
  wide : ∃ w, 1 ≤ w ∧ zs.length * w ≤ 8 ∧ ∀ z ∈ zs, RowOk w z
theorem digit_ok {v : Int} (h0 : 0 ≤ v) (h : v < 10) : ∃ c : Nat, sgB c = true ∧ oStrI [.int v] = some (.str ⟨#[c]⟩) := by
  rcases (show v = 0 ∨ v = 1 ∨ v = 2 ∨ v = 3 ∨ v = 4 ∨ v = 5 ∨ v = 6 ∨ v = 7 ∨ v = 8 ∨ v = 9 by omega) with rfl | rfl | rfl | rfl | rfl | rfl | rfl | rfl | rfl | rfl
  · exact ⟨48, by decide +kernel, by kernel_rfl⟩
  · exact ⟨49, by decide +kernel, by kernel_rfl⟩
  · exact ⟨50, by decide +kernel, by kernel_rfl⟩
  · exact ⟨51, by decide +kernel, by kernel_rfl⟩
  · exact ⟨52, by decide +kernel, by kernel_rfl⟩
  · exact ⟨53, by decide +kernel, by kernel_rfl⟩
  · exact ⟨54, by decide +kernel, by kernel_rfl⟩
  · exact ⟨55, by decide +kernel, by kernel_rfl⟩
  · exact ⟨56, by decide +kernel, by kernel_rfl⟩
  · exact ⟨57, by decide +kernel, by kernel_rfl⟩
/-- texts of one sign each, joined -/
theorem join_ones {cs : List Nat} (h : cs.all sgB = true) : RowOk cs.length (Txt.join "" (cs.map fun c => (⟨#[c]⟩ : Str))) := by
  have e : (Txt.join "" (cs.map fun c => (⟨#[c]⟩ : Str))).cps.toList = cs := by
    rw [join_cps, List.map_map]
    clear h
    induction cs with
    | nil => rfl
    | cons c cs ih =>
      show [c] ++ _ = _
      rw [ih]
      rfl
  refine ⟨?_, by rw [e]; exact h⟩
  show (Txt.join "" (cs.map fun c => (⟨#[c]⟩ : Str))).cps.size = _
  rw [← Array.length_toList, e]
/-- for each number a sign -/
theorem signs_for {α : Type} {F : α → PyData → Prop} : ∀ {l : List α}, (∀ a ∈ l, ∃ c : Nat, sgB c = true ∧ F a (.str ⟨#[c]⟩)) → ∃ cs : List Nat, cs.length = l.length ∧ cs.all sgB = true ∧ ∀ (i : Nat) (a : α), l[i]? = some a → ∃ c, cs[i]? = some c ∧ F a (.str ⟨#[c]⟩)
  | [], _ => ⟨[], rfl, rfl, fun i a h => nomatch h⟩
  | a :: l, h => by
    obtain ⟨c, hc, fc⟩ := h a List.mem_cons_self
    obtain ⟨cs, e, s, g⟩ := signs_for fun b hb => h b (List.mem_cons_of_mem _ hb)
    refine ⟨c :: cs, by rw [List.length_cons, List.length_cons, e], by rw [List.all_cons, hc, s]; rfl, fun i b hb => ?_⟩
    cases i with
    | zero =>
      cases hb
      exact ⟨c, rfl, fc⟩
    | succ i => exact g i b hb
theorem picture_ok {xs : List Int} (hl : xs.length = 20) : ∃ zs, PicOk zs ∧ M_L_picture [.list (xs.map .int)] = some (.tuple (zs.map .str)) := by
  have key : ∃ d, M_L_picture [.list (xs.map .int)] = some d ∧ ∃ zs, PicOk zs ∧ d = .tuple (zs.map .str) := by
    have ix : ∀ {i : Nat} (h : i < xs.length), oIx (.list (xs.map .int)) (.int (i : Int)) = some (.int xs[i]) := fun {i} h => ix_l (atI_nat (by rw [List.getElem?_map, List.getElem?_eq_getElem h]; rfl))
    have f0 := fm (xs[0]'(by omega)) (b := 4) (by decide)
    obtain ⟨a, ha, a1, a4⟩ : ∃ a : Nat, 1 + (xs[0]'(by omega)).fmod 4 = (a : Int) ∧ 1 ≤ a ∧ a ≤ 4 := ⟨(1 + (xs[0]'(by omega)).fmod 4).toNat, by omega, by omega, by omega⟩
    obtain ⟨e, he, e1, e8⟩ : ∃ e : Nat, oFdv (.int 8) (.int (a : Int)) = some (.int (e : Int)) ∧ 1 ≤ e ∧ a * e ≤ 8 := by
      rcases (show a = 1 ∨ a = 2 ∨ a = 3 ∨ a = 4 by omega) with rfl | rfl | rfl | rfl
      · exact ⟨8, rfl, by decide, by decide⟩
      · exact ⟨4, rfl, by decide, by decide⟩
      · exact ⟨2, rfl, by decide, by decide⟩
      · exact ⟨2, rfl, by decide, by decide⟩
    have f1 := fm (xs[1]'(by omega)) (b := (e : Int)) (by omega)
    obtain ⟨b, hb, b1, be⟩ : ∃ b : Nat, 1 + (xs[1]'(by omega)).fmod (e : Int) = (b : Int) ∧ 1 ≤ b ∧ b ≤ e := ⟨(1 + (xs[1]'(by omega)).fmod (e : Int)).toNat, by omega, by omega, by omega⟩
    have ab : a * b ≤ 8 := Nat.le_trans (Nat.mul_le_mul_left a be) e8
    refine r_fn rfl (r_seq (x_set (d := .int (a : Int)) (x_op rfl (x_op (x_op rfl rfl (ix (i := 0) (by omega))) rfl (mod_ii (by decide))) (by rw [← ha]; rfl))) (r_seq (x_set (d := .int (b : Int)) (x_op rfl (x_op (x_op rfl rfl (ix (i := 1) (by omega))) (x_op rfl rfl he) (mod_ii (by omega))) (by rw [← hb]; rfl))) ?_))
    have sw : ∃ u v : Nat, 1 ≤ u ∧ 1 ≤ v ∧ u * v ≤ 8 ∧ mIfS (qV (mOp oEq (mOp oMod (mOp oIx (mW 0) (mC (.int 2))) (mC (.int 2))) (mC (.int 1)))) (mAsg (mTup (aCons (mV 2) (aCons (mV 1) aNil))) (gT [1, 2])) mNx [.val (.list (xs.map .int)), .val (.int (a : Int)), .val (.int (b : Int)), .no, .no, .no] = some (.nx [.val (.list (xs.map .int)), .val (.int (u : Int)), .val (.int (v : Int)), .no, .no, .no]) := by
      have q : qV (mOp oEq (mOp oMod (mOp oIx (mW 0) (mC (.int 2))) (mC (.int 2))) (mC (.int 1))) [.val (.list (xs.map .int)), .val (.int (a : Int)), .val (.int (b : Int)), .no, .no, .no] = some (decide ((xs[2]'(by omega)).fmod 2 = 1)) := x_qv (x_op (x_op (x_op rfl rfl (ix (i := 2) (by omega))) rfl (mod_ii (by decide))) rfl (eq_ii _ _))
      cases c : decide ((xs[2]'(by omega)).fmod 2 = 1) with
      | true =>
        rw [c] at q
        exact ⟨b, a, b1, a1, by rw [Nat.mul_comm]; exact ab, x_ifT q (x_asg rfl rfl)⟩
      | false =>
        rw [c] at q
        exact ⟨a, b, a1, b1, ab, x_ifF q rfl⟩
    obtain ⟨u, v, u1, v1, uv, hsw⟩ := sw
    have u8 : u ≤ 8 := Nat.le_trans (Nat.le_mul_of_pos_right u v1) uv
    have v8 : v ≤ 8 := Nat.le_trans (Nat.le_mul_of_pos_left v u1) uv
    have f3 := fm (xs[3]'(by omega)) (b := 4) (by decide)
    obtain ⟨md, m1, m10, hmd⟩ : ∃ md : Int, 1 ≤ md ∧ md ≤ 10 ∧ ∀ {ρ : Ev}, mW 0 ρ = some (.list (xs.map .int)) → mOp oIx (mLst (aCons (mC (.int 10)) (aCons (mC (.int 3)) (aCons (mC (.int 10)) (aCons (mC (.int 10)) aNil))))) (mOp oMod (mOp oIx (mW 0) (mC (.int 3))) (mC (.int 4))) ρ = some (.int md) := by
      have go : ∀ {md : Int}, atI [PyData.int 10, .int 3, .int 10, .int 10] ((xs[3]'(by omega)).fmod 4) = some (.int md) → ∀ {ρ : Ev}, mW 0 ρ = some (.list (xs.map .int)) → mOp oIx (mLst (aCons (mC (.int 10)) (aCons (mC (.int 3)) (aCons (mC (.int 10)) (aCons (mC (.int 10)) aNil))))) (mOp oMod (mOp oIx (mW 0) (mC (.int 3))) (mC (.int 4))) ρ = some (.int md) := fun h ρ h0 => x_op (x_lst rfl (Nat.le_of_ble_eq_true rfl)) (x_op (x_op h0 rfl (ix (i := 3) (by omega))) rfl (mod_ii (by decide))) (ix_l h)
      rcases (show (xs[3]'(by omega)).fmod 4 = 0 ∨ (xs[3]'(by omega)).fmod 4 = 1 ∨ (xs[3]'(by omega)).fmod 4 = 2 ∨ (xs[3]'(by omega)).fmod 4 = 3 by omega) with e | e | e | e
      · exact ⟨10, by decide, by decide, go (by rw [e]; exact at0)⟩
      · exact ⟨3, by decide, by decide, go (by rw [e]; exact at1)⟩
      · exact ⟨10, by decide, by decide, go (by rw [e]; exact at2)⟩
      · exact ⟨10, by decide, by decide, go (by rw [e]; exact at3)⟩
    refine r_seq hsw (r_seq (x_setO rfl) (r_for (ds := rngD u) (fun i ρ => ∃ zs : List Str, zs.length = i ∧ (∀ z ∈ zs, RowOk v z) ∧ ∃ s4 s5, ρ = [.val (.list (xs.map .int)), .val (.int (u : Int)), .val (.int (v : Int)), .own (.list (zs.map .str)), s4, s5]) (x_rng (n := u) rfl (by omega)) ⟨[], rfl, fun z hz => absurd hz List.not_mem_nil, _, _, rfl⟩ ?_ ?_))
    · rintro i d ρ hd ⟨zs, rfl, hz, s4, s5, rfl⟩
      obtain ⟨li, rfl⟩ := rng_at hd
      obtain ⟨cs, lc, hc, hcs⟩ := signs_for (F := fun (k : Nat) d => mCb oStrI (aCons (mOp oMod (mOp oIx (mW 0) (mOp oAdd (mOp oAdd (mC (.int 4)) (mOp oMul (mW 4) (mW 2))) (mW 5))) (mOp oIx (mLst (aCons (mC (.int 10)) (aCons (mC (.int 3)) (aCons (mC (.int 10)) (aCons (mC (.int 10)) aNil))))) (mOp oMod (mOp oIx (mW 0) (mC (.int 3))) (mC (.int 4))))) aNil) [.val (.list (xs.map .int)), .val (.int (u : Int)), .val (.int (v : Int)), .own (.list (zs.map .str)), .val (.int (zs.length : Int)), .val (.int (k : Int))] = some d) (l := List.range v) fun k hk => by
        have hk := List.mem_range.mp hk
        have li8 : (zs.length + 1) * v ≤ 8 := Nat.le_trans (Nat.mul_le_mul_right v li) uv
        have lt : 4 + zs.length * v + k < xs.length := by
          have : (zs.length + 1) * v = zs.length * v + v := Nat.succ_mul _ _
          omega
        have fx := fm (xs[4 + zs.length * v + k]'lt) (b := md) (by omega)
        obtain ⟨c, hc, ec⟩ := digit_ok (v := (xs[4 + zs.length * v + k]'lt).fmod md) (by omega) (by omega)
        have eidx : mOp oAdd (mOp oAdd (mC (.int 4)) (mOp oMul (mW 4) (mW 2))) (mW 5) [.val (.list (xs.map .int)), .val (.int (u : Int)), .val (.int (v : Int)), .own (.list (zs.map .str)), .val (.int (zs.length : Int)), .val (.int (k : Int))] = some (.int ((4 + zs.length * v + k : Nat) : Int)) := by
          refine x_op (x_op rfl (x_op rfl rfl (mul_ii (by omega) (by omega))) rfl) rfl ?_
          show some (PyData.int (4 + (zs.length : Int) * (v : Int) + (k : Int))) = _
          rw [Int.natCast_add, Int.natCast_add, Int.natCast_mul]
          rfl
        exact ⟨c, hc, x_cb (x_cons (x_op (x_op rfl eidx (ix lt)) (hmd rfl) (mod_ii (by omega))) rfl) ec⟩
      rw [List.length_range] at lc
      have hlc : mLc (iR (aCons (mV 2) aNil)) [5] (gN 5) qT (mCb oStrI (aCons (mOp oMod (mOp oIx (mW 0) (mOp oAdd (mOp oAdd (mC (.int 4)) (mOp oMul (mW 4) (mW 2))) (mW 5))) (mOp oIx (mLst (aCons (mC (.int 10)) (aCons (mC (.int 3)) (aCons (mC (.int 10)) (aCons (mC (.int 10)) aNil))))) (mOp oMod (mOp oIx (mW 0) (mC (.int 3))) (mC (.int 4))))) aNil)) [.val (.list (xs.map .int)), .val (.int (u : Int)), .val (.int (v : Int)), .own (.list (zs.map .str)), .val (.int (zs.length : Int)), s5] = some (.list ((cs.map fun c => (⟨#[c]⟩ : Str)).map .str)) := by
        refine x_lc (ds := rngD v) (x_rng (n := v) rfl (by omega)) (by rw [rngD_length]; omega) ?_
        rw [x_lcGo (fun _ => true) (fun d => match d with | .int k => .str ⟨#[cs.getD k.toNat 0]⟩ | _ => .none) _ fun d hd => ?_]
        · rw [List.filter_eq_self.mpr fun _ _ => rfl]
          have er : rngD v = (List.range v).map fun k : Nat => PyData.int (k : Int) := by
            unfold rngD
            first | rfl | simp
          rw [er, List.map_map, List.map_map]
          refine congrArg some (List.ext_getElem (by rw [List.length_map, List.length_map, List.length_range, lc]) fun i h1 h2 => ?_)
          rw [List.getElem_map, List.getElem_map, List.getElem_range]
          show PyData.str ⟨#[cs.getD i 0]⟩ = .str ⟨#[cs[i]'(by rwa [List.length_map] at h2)]⟩
          rw [List.getD_eq_getElem?_getD, List.getElem?_eq_getElem (by rwa [List.length_map] at h2)]
          rfl
        · obtain ⟨k, hk⟩ := List.mem_iff_getElem?.mp hd
          obtain ⟨lk, rfl⟩ := rng_at hk
          obtain ⟨c, ec, fc⟩ := hcs k k (by rw [List.getElem?_range lk])
          refine ⟨_, rfl, rfl, fun _ => ?_⟩
          show _ = some (PyData.str ⟨#[cs.getD k 0]⟩)
          rw [List.getD_eq_getElem?_getD, ec]
          exact fc
      have j1 : ∀ z ∈ cs.map fun c => (⟨#[c]⟩ : Str), z.length ≤ 20 := fun z hz => by
        obtain ⟨c, _, rfl⟩ := List.mem_map.mp hz
        show 1 ≤ 20
        decide
      have hj := join_ok (zs := cs.map fun c => (⟨#[c]⟩ : Str)) (by rw [List.length_map]; omega) j1 (y := .list ((cs.map fun c => (⟨#[c]⟩ : Str)).map .str)) rfl
      have row := join_ones hc
      rw [lc] at row
      refine ⟨_, rfl, r_end (x_app (x_op rfl hlc hj) rfl (by rw [List.length_map]; omega)) ⟨zs ++ [Txt.join "" (cs.map fun c => (⟨#[c]⟩ : Str))], by rw [List.length_append]; rfl, fun z h => ?_, _, _, by rw [List.map_append]; rfl⟩⟩
      rcases List.mem_append.mp h with h | h
      · exact hz z h
      · rw [List.mem_singleton.mp h]
        exact row
    · rintro ρ ⟨zs, hzl, hz, s4, s5, rfl⟩
      rw [rngD_length] at hzl
      exact r_ret (d := .tuple (zs.map .str)) (x_cb rfl rfl) ⟨_, rfl, zs, ⟨by omega, v, v1, by rw [hzl]; exact uv, hz⟩, rfl⟩
  obtain ⟨d, hd, zs, P, rfl⟩ := key
  exact ⟨zs, P, hd⟩
end K60
namespace K60
open PySem PySem.Spec PyProof.Rows L2 LB PM PySem.W
/-! ### small things; a thing spoilt -/
def CpOk (z : Str) : Prop := ∀ c ∈ z.cps.toList, c < 0x110000
theorem strOk_of {z : Str} (h : CpOk z) : PyData.strOk z = true := by
  show z.cps.all _ = true
  rw [← Array.all_toList, List.all_eq_true]
  exact fun c hc => decide_eq_true (h c hc)
theorem cp_digits {z : Str} (h : z.cps.toList.all sgB = true) : CpOk z := fun c hc => by
  have m := of_decide_eq_true (List.all_eq_true.mp h c hc)
  have k : ∀ c ∈ ("0123456789" : Str).cps.toList, c < 0x110000 := by decide +kernel
  exact k c m
theorem cp_app {x y : Str} (hx : CpOk x) (hy : CpOk y) : CpOk (x ++ y) := fun c hc => by
  rw [PySem.W.KT.app_list] at hc
  exact (List.mem_append.mp hc).elim (hx c) (hy c)
theorem cp_cut {z : Str} {lo hi : Option Int} (h : CpOk z) : CpOk (cutS z lo hi) := fun c hc => h c (List.mem_of_mem_drop (List.mem_of_mem_take hc))
theorem len_cut (z : Str) (lo hi : Option Int) : (cutS z lo hi).length ≤ z.length := by
  show (((z.cps.toList.drop _).take _).toArray).size ≤ _
  rw [List.size_toArray, List.length_take, List.length_drop]
  have : z.cps.toList.length = z.length := Array.length_toList
  omega
theorem len_app2 (x y : Str) : (x ++ y).length = x.length + y.length := PySem.Str.length_append ..
theorem slS {a : ME} {lo hi : Ev → Option (Option Int)} {ρ : Ev} {z : Str} {l u : Option Int} (h : a ρ = some (.str z)) (h1 : lo ρ = some l) (h2 : hi ρ = some u) (hz : z.length ≤ 10000) : mSl a lo hi ρ = some (.str (cutS z l u)) := by
  unfold mSl
  rw [h, h1, h2]
  exact if_pos hz
theorem slU {a : ME} {lo hi : Ev → Option (Option Int)} {ρ : Ev} {ds : List PyData} {l u : Option Int} (h : a ρ = some (.tuple ds)) (h1 : lo ρ = some l) (h2 : hi ρ = some u) : mSl a lo hi ρ = some (.tuple (LB.cutD ds l u)) := by
  unfold mSl
  rw [h, h1, h2]
  rfl
theorem slL {a : ME} {lo hi : Ev → Option (Option Int)} {ρ : Ev} {ds : List PyData} {l u : Option Int} (h : a ρ = some (.list ds)) (h1 : lo ρ = some l) (h2 : hi ρ = some u) : mSl a lo hi ρ = some (.list (LB.cutD ds l u)) := by
  unfold mSl
  rw [h, h1, h2]
  rfl
structure EOk (x : PyData) : Prop where
  lay : PyData.canLay0 x = true ∧ PyData.depth x ≤ 3
  txt : ∀ z, x = .str z → z.length ≤ 20 ∧ PyData.strOk z = true
theorem e_str {z : Str} (h : z.length ≤ 20) (hc : CpOk z) : EOk (.str z) := ⟨⟨by
  unfold PyData.canLay0
  exact strOk_of hc, by
  unfold PyData.depth
  decide⟩, fun y e => by
  cases e
  exact ⟨h, strOk_of hc⟩⟩
theorem lay_all {k : Nat} : ∀ {l : List PyData}, (∀ x ∈ l, PyData.canLay0 x = true ∧ PyData.depth x ≤ k) → PyData.canLayAll0 l = true ∧ PyData.depthAll l ≤ k
  | [], _ => ⟨rfl, Nat.zero_le _⟩
  | x :: l, h => by
    obtain ⟨h1, h2⟩ := lay_all (l := l) fun y hy => h y (List.mem_cons_of_mem _ hy)
    obtain ⟨k1, k2⟩ := h x List.mem_cons_self
    constructor
    · show (PyData.canLay0 x && PyData.canLayAll0 l) = true
      rw [k1, h1]
      rfl
    · show max (PyData.depth x) (PyData.depthAll l) ≤ k
      omega
theorem lay_tup {k : Nat} {l : List PyData} (h : ∀ x ∈ l, PyData.canLay0 x = true ∧ PyData.depth x ≤ k) : PyData.canLay0 (.tuple l) = true ∧ PyData.depth (.tuple l) ≤ k + 1 := by
  obtain ⟨h1, h2⟩ := lay_all h
  constructor
  · unfold PyData.canLay0
    exact h1
  · unfold PyData.depth
    omega
theorem lay_lst {k : Nat} {l : List PyData} (h : ∀ x ∈ l, PyData.canLay0 x = true ∧ PyData.depth x ≤ k) : PyData.canLay0 (.list l) = true ∧ PyData.depth (.list l) ≤ k + 1 := by
  obtain ⟨h1, h2⟩ := lay_all h
  constructor
  · unfold PyData.canLay0
    exact h1
  · unfold PyData.depth
    omega
theorem sh_of {d : PyData} {k : Nat} (h : PyData.canLay0 d = true ∧ PyData.depth d ≤ k) (hk : k ≤ 64) : SeqAt.shaped d = true := by
  unfold SeqAt.shaped
  rw [h.1, decide_eq_true (by omega)]
  rfl
theorem th_tup {ds : List PyData} (h20 : ds.length ≤ 20) (h : ∀ x ∈ ds, EOk x) : ThOk (.tuple ds) := ⟨fun _ _ => sh_of (lay_tup (k := 3) fun x hx => (h x hx).lay) (by decide), fun es e => by
  cases e
  exact h20, fun es e z hz => by
  cases e
  exact (h _ hz).txt z rfl⟩
theorem th_lst {ds : List PyData} : ThOk (.list ds) := ⟨(fun es e => nomatch e), (fun es e => nomatch e), (fun es e => nomatch e)⟩
theorem th_any {d : PyData} (hd : isU d = false) : ThOk d := by
  have no : ∀ es, d ≠ .tuple es := fun es e => by
    rw [e] at hd
    cases hd
  exact ⟨fun es e => absurd e (no es), fun es e => absurd e (no es), fun es e => absurd e (no es)⟩
/-! a sign -/
abbrev sgnA : Str := " !#$&'()*+,-./0123456789:;<=>?@ABCDEFGHIJKLMNOPQRSTUVWXYZ[]^_abcdefghijklmnopqrstuvwxyz{|}~"
abbrev sgnB : Str := "\n\"\\`"
theorem sgn_len : (sgnA ++ sgnB).length = 95 := by decide +kernel
theorem sgn_cp : CpOk (sgnA ++ sgnB) := by
  unfold CpOk
  decide +kernel
theorem sign_ok (x : Int) : ∃ c : Nat, c < 0x110000 ∧ M_L_sign [.int x] = some (.str ⟨#[c]⟩) := by
  have f := fm x (b := 95) (by decide)
  obtain ⟨k, hk⟩ : ∃ k : Nat, x.fmod 95 = (k : Int) := ⟨(x.fmod 95).toNat, by omega⟩
  have ll : (sgnA ++ sgnB).cps.toList.length = 95 := by
    rw [Array.length_toList]
    exact sgn_len
  have lk : k < (sgnA ++ sgnB).cps.toList.length := by omega
  refine ⟨(sgnA ++ sgnB).cps.toList[k], sgn_cp _ (List.getElem_mem _), r_eq rfl (r_seq (x_set rfl) (r_seq (x_set (x_op rfl rfl (add_ss (by decide +kernel)))) (r_ret (x_op rfl (x_op rfl (x_cb (x_cons rfl rfl) (len_str (by rw [sgn_len]; decide))) (mod_ii (by rw [sgn_len]; decide))) (ix_s (by rw [sgn_len]; decide) ?_)) rfl)))⟩
  rw [sgn_len, show ((95 : Nat) : Int) = (95 : Int) from rfl, hk]
  exact atI_nat (List.getElem?_eq_getElem lk)
end K60
namespace K60
open PySem PySem.Spec PyProof.Rows L2 LB PM PySem.W
theorem at_any {l : List PyData} {P : PyData → Prop} (h : ∀ x ∈ l, P x) {i : Int} {k : Nat} (e : i = (k : Int)) (hk : k < l.length) : ∃ x, atI l i = some x ∧ P x := by
  subst e
  exact ⟨l[k], atI_nat (List.getElem?_eq_getElem hk), h _ (List.getElem_mem hk)⟩
theorem e_any {d : PyData} (h : PyData.canLay0 d = true ∧ PyData.depth d ≤ 3) (hd : ∀ z, d ≠ .str z) : EOk d := ⟨h, fun z e => absurd e (hd z)⟩
theorem spoilt_ok {zs : List Str} (P : PicOk zs) {xs : List Int} (hl : 4 ≤ xs.length) : ∃ d, M_L_spoilt [.tuple (zs.map .str), .list (xs.map .int)] = some d ∧ ThOk d := by
  obtain ⟨n1, w, w1, nw, hz⟩ := P
  have n8 : zs.length ≤ 8 := Nat.le_trans (Nat.le_mul_of_pos_right _ w1) nw
  have w8 : w ≤ 8 := Nat.le_trans (Nat.le_mul_of_pos_left _ n1) nw
  have ix : ∀ {i : Nat} (h : i < xs.length), oIx (.list (xs.map .int)) (.int (i : Int)) = some (.int xs[i]) := fun {i} h => ix_l (atI_nat (by rw [List.getElem?_map, List.getElem?_eq_getElem h]; rfl))
  have f0 := fm (xs[0]'(by omega)) (b := (zs.length : Int)) (by omega)
  obtain ⟨r, hr⟩ : ∃ r : Nat, (xs[0]'(by omega)).fmod (zs.length : Int) = (r : Int) := ⟨((xs[0]'(by omega)).fmod (zs.length : Int)).toNat, by omega⟩
  have lr : r < zs.length := by omega
  obtain ⟨z, ez⟩ : ∃ z, zs[r]? = some z := ⟨_, List.getElem?_eq_getElem lr⟩
  have row := hz z (List.mem_of_getElem? ez)
  have zl : z.length = w := row.1
  have zc : CpOk z := cp_digits row.2
  have er : ∀ {z : Str}, z ∈ zs → EOk (.str z) := fun {z} h => e_str (by rw [(hz z h).1]; omega) (cp_digits (hz z h).2)
  have eds : ∀ x ∈ zs.map PyData.str, EOk x := fun x hx => by
    obtain ⟨z, h, rfl⟩ := List.mem_map.mp hx
    exact er h
  have f1 := fm (xs[1]'(by omega)) (b := (w : Int)) (by omega)
  obtain ⟨a, ha⟩ : ∃ a : Nat, (xs[1]'(by omega)).fmod (w : Int) = (a : Int) := ⟨((xs[1]'(by omega)).fmod (w : Int)).toNat, by omega⟩
  obtain ⟨c, cc, hc⟩ := sign_ok (xs[2]'(by omega))
  have f3 := fm (xs[3]'(by omega)) (b := 12) (by decide)
  obtain ⟨k, hk⟩ : ∃ k : Nat, (xs[3]'(by omega)).fmod 12 = (k : Int) := ⟨((xs[3]'(by omega)).fmod 12).toNat, by omega⟩
  have ln : oLen [.tuple (zs.map .str)] = some (.int (zs.length : Int)) := by
    show some (PyData.int (((zs.map PyData.str).length : Nat) : Int)) = _
    rw [List.length_map]
  have lz : oLen [.str z] = some (.int (w : Int)) := by
    rw [len_str (by omega), zl]
  have hrow : oIx (.tuple (zs.map .str)) (.int (r : Int)) = some (.str z) := ix_t (atI_nat (by rw [List.getElem?_map, ez]; rfl))
  have one : CpOk (⟨#[c]⟩ : Str) := fun x hx => by
    have : x = c := List.mem_singleton.mp hx
    omega
  have ot : (⟨#[c]⟩ : Str).length = 1 := rfl
  have l0 := len_cut z none (some (a : Int))
  have l1 := len_cut z (some ((a : Int) + 1)) none
  have l2 := len_cut z (some 1) none
  have zero : CpOk ("0" : Str) := by
    unfold CpOk
    decide +kernel
  have zeroL : ("0" : Str).length = 1 := by decide +kernel
  let odd : List PyData := [.str (cutS z none (some (a : Int)) ++ ⟨#[c]⟩ ++ cutS z (some ((a : Int) + 1)) none), .str (z ++ "0"), .str (cutS z (some 1) none), .str ""] ++ [.none, .int 7, .list (signsD z), .tuple [.str z]]
  have eodd : ∀ x ∈ odd, EOk x := fun x hx => by
    have hx : x ∈ ([.str (cutS z none (some (a : Int)) ++ ⟨#[c]⟩ ++ cutS z (some ((a : Int) + 1)) none), .str (z ++ "0"), .str (cutS z (some 1) none), .str ""] ++ [.none, .int 7, .list (signsD z), .tuple [.str z]] : List PyData) := hx
    simp only [List.cons_append, List.nil_append, List.mem_cons, List.not_mem_nil, or_false] at hx
    rcases hx with rfl | rfl | rfl | rfl | rfl | rfl | rfl | rfl
    · exact e_str (by rw [len_app2, len_app2]; omega) (cp_app (cp_app (cp_cut zc) one) (cp_cut zc))
    · exact e_str (by rw [len_app2]; omega) (cp_app zc zero)
    · exact e_str (by omega) (cp_cut zc)
    · exact e_str (by decide +kernel) (fun x hx => by rw [empty_cps] at hx; cases hx)
    · exact e_any ⟨rfl, by decide⟩ (fun z e => nomatch e)
    · exact e_any ⟨by kernel_rfl, by decide⟩ (fun z e => nomatch e)
    · refine e_any (lay_lst (k := 2) fun x hx => ?_) (fun z e => nomatch e)
      obtain ⟨c, hc, rfl⟩ := List.mem_map.mp hx
      obtain ⟨e1, e2⟩ := (e_str (z := ⟨#[c]⟩) (by show 1 ≤ 20; decide) (fun x hx => by
        have : x = c := List.mem_singleton.mp hx
        rw [this]
        exact zc c hc)).lay
      exact ⟨e1, by unfold PyData.depth; decide⟩
    · refine e_any (lay_tup (k := 2) fun x hx => ?_) (fun z e => nomatch e)
      rw [List.mem_singleton.mp hx]
      exact ⟨(er (List.mem_of_getElem? ez)).lay.1, by unfold PyData.depth; decide⟩
  have lodd : odd.length = 8 := rfl
  refine r_fn rfl (r_seq (x_set (d := .int (r : Int)) (x_op (x_op rfl rfl (ix (i := 0) (by omega))) (x_cb (x_cons rfl rfl) ln) (by rw [mod_ii (by omega), hr]))) (r_seq (x_set (x_op rfl rfl hrow)) (r_seq (x_set (d := .int (a : Int)) (x_op (x_op rfl rfl (ix (i := 1) (by omega))) (x_cb (x_cons rfl rfl) lz) (by rw [mod_ii (by omega), ha]))) (r_seq (x_set (x_lst (x_cons (x_op (x_op (slS rfl rfl rfl (by omega)) (x_cb (x_cons (x_op rfl rfl (ix (i := 2) (by omega))) rfl) hc) (add_ss (by omega))) (slS rfl rfl rfl (by omega)) (add_ss (by rw [len_app2]; omega))) (x_cons (x_op rfl rfl (add_ss (by omega))) (x_cons (slS rfl rfl rfl (by omega)) (x_cons rfl rfl)))) (Nat.le_of_ble_eq_true rfl))) (r_seq (x_set (d := .list odd) (x_op rfl (x_lst (x_cons rfl (x_cons rfl (x_cons (x_cb rfl (if_pos (by omega))) (x_cons rfl rfl)))) (Nat.le_of_ble_eq_true rfl)) (add_ll (Nat.le_of_ble_eq_true rfl)))) (r_seq (x_set (d := .int (k : Int)) (x_op (x_op rfl rfl (ix (i := 3) (by omega))) rfl (by rw [← hk]; exact mod_ii (by decide)))) ?_))))))
  have ld : (zs.map PyData.str).length = zs.length := List.length_map _
  have c0 := cut_len (zs.map PyData.str) none (some (r : Int))
  have c1 := cut_len (zs.map PyData.str) (some ((r : Int) + 1)) none
  have q : qV (mOp oLt (mW 6) (mC (.int 8))) [.val (.tuple (zs.map .str)), .val (.list (xs.map .int)), .val (.int (r : Int)), .val (.str z), .val (.int (a : Int)), .val (.list odd), .val (.int (k : Int))] = some (decide ((k : Int) < 8)) := x_qv (x_op rfl rfl rfl)
  by_cases k8 : k < 8
  · rw [decide_eq_true (by omega)] at q
    obtain ⟨x, hx, ex⟩ := at_any (l := odd) eodd (i := (k : Int)) rfl (by rw [lodd]; exact k8)
    refine ⟨_, x_ret (x_ifT q (x_rt (x_op (x_op (slU rfl rfl rfl) (x_tup (x_cons (x_op rfl rfl (ix_l hx)) rfl) (Nat.le_of_ble_eq_true rfl)) (add_tt (by show _ + 1 ≤ _; omega))) (slU rfl rfl rfl) (add_tt (by rw [List.length_append]; show _ + 1 + _ ≤ _; omega))))), _, rfl, th_tup (by rw [List.length_append, List.length_append]; show _ + 1 + _ ≤ _; omega) fun y hy => ?_⟩
    rcases List.mem_append.mp hy with hy | hy
    · rcases List.mem_append.mp hy with hy | hy
      · exact eds y (cut_mem hy)
      · rw [List.mem_singleton.mp hy]
        exact ex
    · exact eds y (cut_mem hy)
  · rw [decide_eq_false (by omega)] at q
    have c2 := cut_len (zs.map PyData.str) (some 1) none
    obtain ⟨z0, e0⟩ : ∃ z0, zs[0]? = some z0 := ⟨_, List.getElem?_eq_getElem (by omega)⟩
    have h0 : oIx (.tuple (zs.map .str)) (.int 0) = some (.str z0) := ix_t (atI_nat (j := 0) (by rw [List.getElem?_map, e0]; rfl))
    have hfour : ∀ x ∈ ([.list (zs.map .str), .tuple (zs.map .str ++ [.str z]), .tuple (LB.cutD (zs.map .str) (some 1) none), .str z0] : List PyData), ThOk x := fun x hx => by
      simp only [List.mem_cons, List.not_mem_nil, or_false] at hx
      rcases hx with rfl | rfl | rfl | rfl
      · exact th_lst
      · refine th_tup (by rw [List.length_append]; show _ + 1 ≤ _; omega) fun y hy => ?_
        rcases List.mem_append.mp hy with hy | hy
        · exact eds y hy
        · rw [List.mem_singleton.mp hy]
          exact er (List.mem_of_getElem? ez)
      · exact th_tup (by omega) fun y hy => eds y (cut_mem hy)
      · exact th_any rfl
    obtain ⟨x, hx, tx⟩ := at_any hfour (i := (k : Int) - 8) (k := k - 8) (by omega) (by show k - 8 < 4; omega)
    refine r_seq (x_ifF q rfl) ⟨_, x_rt (x_op (x_lst (x_cons (x_cb rfl rfl) (x_cons (x_op rfl rfl (add_tt (by show _ + 1 ≤ _; omega))) (x_cons (slU rfl rfl rfl) (x_cons (x_op rfl rfl h0) rfl)))) (Nat.le_of_ble_eq_true rfl)) (x_op rfl rfl rfl) (ix_l hx)), _, rfl, tx⟩
end K60
namespace K60
open PySem PySem.Spec PyProof.Rows L2 LB PM PySem.W
/-! ### the web of a picture -/
abbrev LET : Str := "abcdefghijklmnopqrstuvwxyz"
def lt (k : Nat) : Str := ⟨#[LET.cps.toList.getD k 0]⟩
def nsP (m : Nat) : List Str := (List.range m).map lt
theorem lt_at {k : Nat} (h : k < 8) : oIx (.str LET) (.int (k : Int)) = some (.str (lt k)) := by
  have l8 : 8 ≤ LET.cps.toList.length := by decide +kernel
  refine ix_s (by decide +kernel) (atI_nat ?_)
  rw [List.getD_eq_getElem?_getD, List.getElem?_eq_getElem (by omega)]
  rfl
theorem lt_lt : ∀ a < 8, ∀ b < 8, a < b → (lt a).cps.toList < (lt b).cps.toList := by decide +kernel
theorem lt_ne : ∀ a < 8, ∀ b < 8, a ≠ b → lt a ≠ lt b := by decide +kernel
theorem lt_az : ∀ a < 8, 97 ≤ LET.cps.toList.getD a 0 ∧ LET.cps.toList.getD a 0 ≤ 122 := by decide +kernel
theorem rise_ns {m : Nat} (h : m ≤ 8) : Rise (nsP m) := by
  unfold Rise nsP
  rw [List.pairwise_map]
  exact List.pairwise_lt_range.imp_of_mem fun ha hb hab => lt_lt _ (by have := List.mem_range.mp ha; omega) _ (by have := List.mem_range.mp hb; omega) hab
theorem name_ns {m : Nat} (h : m ≤ 8) : ∀ x ∈ nsP m, NameOk x := fun x hx => by
  obtain ⟨k, hk, rfl⟩ := List.mem_map.mp hx
  have hk := List.mem_range.mp hk
  refine ⟨by show 1 ≤ 1; decide, by show 1 ≤ 8; decide, fun c hc => ?_⟩
  have : c = LET.cps.toList.getD k 0 := List.mem_singleton.mp hc
  rw [this]
  exact lt_az k (by omega)
theorem ns_mem {m k : Nat} (h : k < m) : lt k ∈ nsP m := List.mem_map_of_mem (List.mem_range.mpr h)
def PairB (m : Nat) (d : PyData) : Prop := ∃ p q : Nat, p < m ∧ q < m ∧ p ≠ q ∧ d = .tuple [.int (p : Int), .int (q : Int)]
theorem rng_mem {m : Nat} {d : PyData} (h : d ∈ rngD m) : ∃ k : Nat, k < m ∧ d = .int (k : Int) := by
  obtain ⟨k, hk⟩ := List.mem_iff_getElem?.mp h
  obtain ⟨l, rfl⟩ := rng_at hk
  exact ⟨k, l, rfl⟩
theorem spots_ok {zs : List Str} {w : Nat} (n1 : 1 ≤ zs.length) (w1 : 1 ≤ w) (nw : zs.length * w ≤ 8) (hz : ∀ z ∈ zs, RowOk w z) : ∃ es, es.length ≤ 16 ∧ (∀ d ∈ es, PairB (w * zs.length) d) ∧ M_spots_beside [.tuple (zs.map .str)] = some (.list es) := by
  have n8 : zs.length ≤ 8 := Nat.le_trans (Nat.le_mul_of_pos_right _ w1) nw
  have w8 : w ≤ 8 := Nat.le_trans (Nat.le_mul_of_pos_left _ n1) nw
  have m8 : w * zs.length ≤ 8 := by rw [Nat.mul_comm]; exact nw
  have wm : w ≤ w * zs.length := Nat.le_mul_of_pos_right _ n1
  obtain ⟨z0, e0⟩ : ∃ z0, zs[0]? = some z0 := ⟨_, List.getElem?_eq_getElem (by omega)⟩
  have h0 : oIx (.tuple (zs.map .str)) (.int 0) = some (.str z0) := ix_t (atI_nat (j := 0) (by rw [List.getElem?_map, e0]; rfl))
  have lz : oLen [.str z0] = some (.int (w : Int)) := by
    rw [len_str (by rw [(hz z0 (List.mem_of_getElem? e0)).1]; omega), (hz z0 (List.mem_of_getElem? e0)).1]
  have ln : oLen [.tuple (zs.map .str)] = some (.int (zs.length : Int)) := by
    show some (PyData.int (((zs.map PyData.str).length : Nat) : Int)) = _
    rw [List.length_map]
  generalize hm : w * zs.length = m at *
  have hmul : oMul (.int (w : Int)) (.int (zs.length : Int)) = some (.int (m : Int)) := by
    rw [mul_ii (by omega) (by omega), ← hm, Int.natCast_mul]
  have hl1 : ∀ {ρ : Ev}, ρ = [.val (.tuple (zs.map .str)), .val (.int (w : Int)), .val (.int (m : Int)), .no, .no] → mLc (iR (aCons (mV 2) aNil)) [4] (gN 4) (qV (mOp oNe (mOp oMod (mOp oAdd (mW 4) (mC (.int 1))) (mW 1)) (mC (.int 0)))) (mTup (aCons (mV 4) (aCons (mOp oAdd (mW 4) (mC (.int 1))) aNil))) ρ = some (.list (((rngD m).filter fun d => match d with | .int k => !decide ((k + 1).fmod (w : Int) = 0) | _ => false).map fun d => match d with | .int k => .tuple [.int k, .int (k + 1)] | _ => .none)) := fun e => by
    subst e
    refine x_lc (ds := rngD m) (x_rng (n := m) rfl (by omega)) (by rw [rngD_length]; omega) ?_
    rw [x_lcGo (fun d => match d with | .int k => !decide ((k + 1).fmod (w : Int) = 0) | _ => false) (fun d => match d with | .int k => .tuple [.int k, .int (k + 1)] | _ => .none) _ fun d hd => ?_]
    obtain ⟨k, lk, rfl⟩ := rng_mem hd
    exact ⟨_, rfl, x_qv (x_op (x_op (x_op rfl rfl rfl) rfl (mod_ii (by omega))) rfl (ne_ii _ _)), fun _ => x_tup (x_cons rfl (x_cons (x_op rfl rfl rfl) rfl)) (Nat.le_of_ble_eq_true rfl)⟩
  have hl2 : ∀ {ρ : Ev} {x : PyData}, ρ = [.val (.tuple (zs.map .str)), .val (.int (w : Int)), .val (.int (m : Int)), .val x, .no] → mLc (iR (aCons (mOp oSub (mW 2) (mW 1)) aNil)) [4] (gN 4) qT (mTup (aCons (mV 4) (aCons (mOp oAdd (mW 4) (mW 1)) aNil))) ρ = some (.list (((rngD (m - w)).filter fun _ => true).map fun d => match d with | .int k => .tuple [.int k, .int (k + (w : Int))] | _ => .none)) := fun {ρ x} e => by
    subst e
    refine x_lc (ds := rngD (m - w)) (x_rng (n := m - w) (x_cons (x_op rfl rfl (by show some (PyData.int ((m : Int) - (w : Int))) = _; rw [Int.ofNat_sub wm])) rfl) (by omega)) (by rw [rngD_length]; omega) ?_
    rw [x_lcGo (fun _ => true) (fun d => match d with | .int k => .tuple [.int k, .int (k + (w : Int))] | _ => .none) _ fun d hd => ?_]
    obtain ⟨k, lk, rfl⟩ := rng_mem hd
    exact ⟨_, rfl, rfl, fun _ => x_tup (x_cons rfl (x_cons (x_op rfl rfl rfl) rfl)) (Nat.le_of_ble_eq_true rfl)⟩
  have f1 := List.length_filter_le (fun d => match d with | .int k => !decide ((k + 1).fmod (w : Int) = 0) | _ => false) (rngD m)
  have f2 := List.length_filter_le (fun _ => true) (rngD (m - w))
  rw [rngD_length] at f1 f2
  refine ⟨_, ?_, ?_, r_eq rfl (r_seq (x_set (x_cb (x_cons (x_op rfl rfl h0) rfl) lz)) (r_seq (x_set (x_op rfl (x_cb rfl ln) hmul)) (r_seq (x_set (hl1 rfl)) (r_ret (x_op rfl (hl2 rfl) (add_ll (by rw [List.length_map, List.length_map]; omega))) rfl))))⟩
  · rw [List.length_append, List.length_map, List.length_map]
    omega
  · intro d hd
    rcases List.mem_append.mp hd with hd | hd
    · obtain ⟨x, hx, rfl⟩ := List.mem_map.mp hd
      obtain ⟨h1, h2⟩ := List.mem_filter.mp hx
      obtain ⟨k, lk, rfl⟩ := rng_mem h1
      have h2 : (!decide (((k : Int) + 1).fmod (w : Int) = 0)) = true := h2
      have km : k + 1 ≠ m := fun e => by
        have : ((k : Int) + 1).fmod (w : Int) = 0 := by
          have e2 : (k : Int) + 1 = (w : Int) * (zs.length : Int) := by
            rw [← Int.natCast_mul, hm, ← e]
            rfl
          rw [e2]
          exact Int.mul_fmod_right _ _
        rw [decide_eq_true this] at h2
        cases h2
      exact ⟨k, k + 1, lk, by omega, by omega, rfl⟩
    · obtain ⟨x, hx, rfl⟩ := List.mem_map.mp hd
      obtain ⟨h1, _⟩ := List.mem_filter.mp hx
      obtain ⟨k, lk, rfl⟩ := rng_mem h1
      exact ⟨k, k + w, by omega, by omega, by omega, rfl⟩
theorem each_map {α β γ : Type} {R : β → γ → Prop} {f : α → β} {g : α → γ} : ∀ {l : List α}, (∀ a ∈ l, R (f a) (g a)) → PySem.W.EachIs R (l.map f) (l.map g)
  | [], _ => .nil
  | a :: l, h => .cons (h a List.mem_cons_self) (each_map fun b hb => h b (List.mem_cons_of_mem _ hb))
theorem srt_pairs {m : Nat} {l : List PyData} (h : ∀ d ∈ l, PairB m d) (hl : l.length ≤ 1000) : Srt l := by
  refine ⟨fun d hd d' hd' => ?_, .inl (.inl fun d hd => ?_), fun d hd => ?_, by omega⟩
  · obtain ⟨a, b, _, _, _, rfl⟩ := h d hd
    obtain ⟨a', b', _, _, _, rfl⟩ := h d' hd'
    rfl
  · obtain ⟨a, b, _, _, _, rfl⟩ := h d hd
    exact ⟨_, _, rfl⟩
  · obtain ⟨a, b, _, _, _, rfl⟩ := h d hd
    exact Nat.le_of_ble_eq_true rfl
def fig (c : Str) : Int := (PySem.intText? c).getD 0
theorem fig_ok {c : Nat} (h : sgB c = true) : 0 ≤ fig ⟨#[c]⟩ ∧ fig ⟨#[c]⟩ ≤ 9 ∧ PySem.intText? ⟨#[c]⟩ = some (fig ⟨#[c]⟩) := by
  have k : ∀ c ∈ ("0123456789" : Str).cps.toList, (decide (0 ≤ fig ⟨#[c]⟩) && decide (fig ⟨#[c]⟩ ≤ 9) && (PySem.intText? ⟨#[c]⟩).isSome) = true := by decide +kernel
  have k := k c (of_decide_eq_true h)
  simp only [Bool.and_eq_true, decide_eq_true_eq] at k
  refine ⟨k.1.1, k.1.2, ?_⟩
  obtain ⟨v, hv⟩ := Option.isSome_iff_exists.mp k.2
  unfold fig
  rw [hv]
  rfl
end K60
namespace K60
open PySem PySem.Spec PyProof.Rows L2 LB PM PySem.W
theorem enum_mem {xs : List PyData} {d : PyData} (h : d ∈ enumD xs) : ∃ (i : Nat) (x : PyData), xs[i]? = some x ∧ d = .tuple [.int (i : Int), x] := by
  obtain ⟨i, hi, rfl⟩ := List.mem_map.mp h
  have hi := List.mem_range.mp hi
  refine ⟨i, xs[i], List.getElem?_eq_getElem hi, ?_⟩
  rw [List.getD_eq_getElem?_getD, List.getElem?_eq_getElem hi]
  rfl
def plD : PyData → PyData
  | .tuple [.int k, .str c] => .tuple [.str (lt k.toNat), .int 0, .int 1, .int (fig c), .int 0]
  | _ => .none
def tiD (s : Int) : PyData → PyData
  | .tuple [.int p, .int q] => .tuple [.str (lt p.toNat), .str (lt q.toNat), .int s]
  | _ => .none
def swD : PyData → PyData
  | .tuple [a, b] => .tuple [b, a]
  | _ => .none
theorem picture_web_ok {zs : List Str} (P : PicOk zs) {s : Int} (s0 : 0 ≤ s) (s9 : s ≤ 99) : ∃ ns ps ts, WebP 9 ns ps ts ∧ M_picture_web [.tuple (zs.map .str), .int s] = some (webD 9 ps ts) := by
  obtain ⟨n1, w, w1, nw, hz⟩ := P
  have n8 : zs.length ≤ 8 := Nat.le_trans (Nat.le_mul_of_pos_right _ w1) nw
  have w8 : w ≤ 8 := Nat.le_trans (Nat.le_mul_of_pos_left _ n1) nw
  have m8 : w * zs.length ≤ 8 := by rw [Nat.mul_comm]; exact nw
  have m1 : 1 ≤ w * zs.length := Nat.mul_pos w1 n1
  obtain ⟨es, e16, hes, hsp⟩ := spots_ok n1 w1 nw hz
  have t20 : ∀ z ∈ zs, z.length ≤ 20 := fun z h => by
    rw [(hz z h).1]
    omega
  have hj := join_ok (zs := zs) (by omega) t20 (y := .tuple (zs.map .str)) rfl
  have sl : sumL zs = w * zs.length := by
    have : ∀ zs : List Str, (∀ z ∈ zs, RowOk w z) → sumL zs = w * zs.length := by
      intro zs h
      induction zs with
      | nil => rfl
      | cons z zs ih =>
        show z.length + sumL zs = w * (zs.length + 1)
        rw [(h z List.mem_cons_self).1, ih fun y hy => h y (List.mem_cons_of_mem _ hy), Nat.mul_succ]
        omega
    exact this zs hz
  have lF : (Txt.join "" zs).length = w * zs.length := (join_len zs).trans sl
  have cF : ∀ c ∈ (Txt.join "" zs).cps.toList, sgB c = true := fun c hc => by
    rw [join_cps] at hc
    obtain ⟨l, hl, hc⟩ := List.mem_flatten.mp hc
    obtain ⟨z, hz', rfl⟩ := List.mem_map.mp hl
    exact List.all_eq_true.mp (hz z hz').2 c hc
  generalize Txt.join "" zs = F at *
  generalize hm : w * zs.length = m at *
  have ls : (signsD F).length = m := by
    unfold signsD
    rw [List.length_map, ← lF]
    exact Array.length_toList
  have le : (enumD (signsD F)).length = m := (enumD_len _).trans ls
  have at_ : ∀ {i : Nat} {x : PyData}, (signsD F)[i]? = some x → ∃ c, sgB c = true ∧ x = .str ⟨#[c]⟩ ∧ i < m := fun {i x} h => by
    have lt := (List.getElem?_eq_some_iff.mp h).1
    have hx := List.mem_of_getElem? h
    obtain ⟨c, hc, rfl⟩ := List.mem_map.mp hx
    exact ⟨c, cF c hc, rfl, by omega⟩
  have hpl : mTg (iEz (aCons (mOp oJoin (mC (.str "")) (mW 0)) aNil)) [6, 7] (gT [6, 7]) qT (mTup (aCons (mOp oIx (mC (.str "abcdefghijklmnopqrstuvwxyz")) (mW 6)) (aCons (mC (.int 0)) (aCons (mC (.int 1)) (aCons (mCb oIntZ (aCons (mW 7) aNil)) (aCons (mC (.int 0)) aNil)))))) (evOf 2 10 [.tuple (zs.map .str), .int s]) = some (.tuple ((enumD (signsD F)).map plD)) := by
    refine x_tg (ds := enumD (signsD F)) ?_ (by omega) ?_
    · show ((aCons (mOp oJoin (mC (.str "")) (mW 0)) aNil) (evOf 2 10 [.tuple (zs.map .str), .int s])).bind oEnumZ = _
      rw [show (aCons (mOp oJoin (mC (.str "")) (mW 0)) aNil) (evOf 2 10 [.tuple (zs.map .str), .int s]) = some [.str F] from x_cons (x_op rfl rfl hj) rfl]
      exact if_pos (by omega)
    · rw [x_lcGo (fun _ => true) plD _ fun d hd => ?_]
      · rw [List.filter_eq_self.mpr fun _ _ => rfl]
      · obtain ⟨i, x, hx, rfl⟩ := enum_mem hd
        obtain ⟨c, hc, rfl, hi⟩ := at_ hx
        obtain ⟨f0, f9, hf⟩ := fig_ok hc
        exact ⟨_, rfl, rfl, fun _ => x_tup (x_cons (x_op rfl rfl (lt_at (by omega))) (x_cons rfl (x_cons rfl (x_cons (x_cb (x_cons rfl rfl) (by show (if 1 ≤ 640 then (PySem.intText? ⟨#[c]⟩).map PyData.int else none) = _; rw [if_pos (by decide), hf]; rfl)) (x_cons rfl rfl))))) (Nat.le_of_ble_eq_true rfl)⟩
  have hsw : ∀ d ∈ es.map swD, PairB m d := fun d hd => by
    obtain ⟨e, he, rfl⟩ := List.mem_map.mp hd
    obtain ⟨p, q, hp, hq, ne, rfl⟩ := hes e he
    exact ⟨q, p, hq, hp, Ne.symm ne, rfl⟩
  have hall : ∀ d ∈ es ++ es.map swD, PairB m d := fun d hd => (List.mem_append.mp hd).elim (hes d) (hsw d)
  have lall : (es ++ es.map swD).length ≤ 32 := by
    rw [List.length_append, List.length_map]
    omega
  have hso : ∀ d ∈ sortD (es ++ es.map swD), PairB m d := fun d hd => hall d ((sortD_perm _).mem_iff.mp hd)
  have lso : (sortD (es ++ es.map swD)).length ≤ 32 := by rw [(sortD_perm _).length_eq]; exact lall
  refine ⟨nsP m, (enumD (signsD F)).map plD, (sortD (es ++ es.map swD)).map (tiD s), ⟨by decide, by decide, by rw [nsP, List.length_map, List.length_range]; exact m1, by rw [nsP, List.length_map, List.length_range]; exact m8, rise_ns m8, name_ns m8, ?_, by rw [List.length_map]; exact lso, fun t ht => ?_⟩, r_eq rfl (r_seq (x_set hpl) (r_seq (x_set (x_cb rfl hsp)) (r_seq (x_set (d := .list (sortD (es ++ es.map swD))) (x_cb (x_cons (x_op rfl (x_lc (ds := es) (es := es.map swD) rfl (by omega) ?_) (add_ll (by rw [List.length_map]; omega))) rfl) (x_sorted (srt_pairs hall (by omega))))) (r_seq (x_set (d := .tuple ((sortD (es ++ es.map swD)).map (tiD s))) (x_tg (ds := sortD (es ++ es.map swD)) rfl (by omega) ?_)) (r_ret (x_tup (x_cons rfl (x_cons rfl (x_cons rfl rfl))) (Nat.le_of_ble_eq_true rfl)) rfl)))))⟩
  · have e : (enumD (signsD F)).map plD = (List.range m).map fun i : Nat => plD (.tuple [.int (i : Int), (signsD F).getD i .none]) := by
      unfold enumD
      rw [List.map_map, ls]
      rfl
    rw [e]
    refine each_map fun i hi => ?_
    have hi := List.mem_range.mp hi
    have hx : (signsD F)[i]? = some ((signsD F)[i]'(by omega)) := List.getElem?_eq_getElem (by omega)
    obtain ⟨c, hc, ex, _⟩ := at_ hx
    obtain ⟨f0, f9, _⟩ := fig_ok hc
    rw [List.getD_eq_getElem?_getD, hx, ex]
    exact ⟨0, 1, fig ⟨#[c]⟩, 0, rfl, ⟨by decide, by decide⟩, ⟨by decide, by decide⟩, ⟨by decide, by decide⟩, by omega, by omega⟩
  · obtain ⟨d, hd, rfl⟩ := List.mem_map.mp ht
    obtain ⟨p, q, hp, hq, ne, rfl⟩ := hso d hd
    exact ⟨lt p, lt q, s, rfl, ns_mem hp, ns_mem hq, lt_ne p (by omega) q (by omega) ne, s0, by omega⟩
  · rw [x_lcGo (fun _ => true) swD _ fun d hd => ?_]
    · rw [List.filter_eq_self.mpr fun _ _ => rfl]
    · obtain ⟨p, q, hp, hq, ne, rfl⟩ := hes d hd
      exact ⟨_, rfl, rfl, fun _ => x_tup (x_cons rfl (x_cons rfl rfl)) (Nat.le_of_ble_eq_true rfl)⟩
  · rw [x_lcGo (fun _ => true) (tiD s) _ fun d hd => ?_]
    · rw [List.filter_eq_self.mpr fun _ _ => rfl]
    · obtain ⟨p, q, hp, hq, ne, rfl⟩ := hso d hd
      exact ⟨_, rfl, rfl, fun _ => x_tup (x_cons (x_op rfl rfl (lt_at (by omega))) (x_cons (x_op rfl rfl (lt_at (by omega))) (x_cons rfl rfl))) (Nat.le_of_ble_eq_true rfl)⟩
end K60
namespace K60
open PySem PySem.Spec PyProof.Rows L2 LB PM PySem.W
/-! ### the tones -/
theorem len_cut_to (z : Str) (n : Nat) : (cutS z none (some (n : Int))).length ≤ n := by
  have e : HT.sIx z.length z.length (some (n : Int)) = min n z.length := HT.sIx_nat _ _ _
  show (((z.cps.toList.drop _).take (HT.sIx z.length z.length (some (n : Int)) - _)).toArray).size ≤ _
  rw [List.size_toArray, List.length_take, e]
  omega
theorem x_mif {t : MT} {ρ : Ev} {c : Bool} {x y : PyData} (h : t ρ = some c) : mIf t (mC x) (mC y) ρ = some (if c = true then x else y) := by
  unfold mIf
  rw [h]
  cases c <;> rfl
theorem sum_ones : ∀ {zs : List Str}, (∀ z ∈ zs, z.length ≤ 1) → sumL zs ≤ zs.length
  | [], _ => Nat.le_refl _
  | z :: zs, h => by
    have h1 := h z List.mem_cons_self
    have h2 := sum_ones fun z hz => h z (List.mem_cons_of_mem _ hz)
    show z.length + sumL zs ≤ zs.length + 1
    omega
theorem rng3_small : ∀ a : Nat, a < 9 → ∀ w : Nat, w < 9 → 1 ≤ w → Builtin.Range.small 0 (a : Int) (w : Int) = true ∧ (Builtin.Range.rangeSize 0 (a : Int) (w : Int)).toNat ≤ 9 := by decide +kernel
def tnS (cs : List Str) : PyData → Str
  | .str x => if decide (x ∈ cs) = true then "#" else "."
  | _ => "."
theorem tones_by_ok {zs : List Str} (P : PicOk zs) (cs : List Str) : ∃ d, M_tones_by [.tuple (zs.map .str), .tuple (cs.map .str)] = some d := by
  obtain ⟨n1, w, w1, nw, hz⟩ := P
  have n8 : zs.length ≤ 8 := Nat.le_trans (Nat.le_mul_of_pos_right _ w1) nw
  have w8 : w ≤ 8 := Nat.le_trans (Nat.le_mul_of_pos_left _ n1) nw
  have m8 : w * zs.length ≤ 8 := by rw [Nat.mul_comm]; exact nw
  obtain ⟨z0, e0⟩ : ∃ z0, zs[0]? = some z0 := ⟨_, List.getElem?_eq_getElem (by omega)⟩
  have h0 : oIx (.tuple (zs.map .str)) (.int 0) = some (.str z0) := ix_t (atI_nat (j := 0) (by rw [List.getElem?_map, e0]; rfl))
  have lz : oLen [.str z0] = some (.int (w : Int)) := by
    rw [len_str (by rw [(hz z0 (List.mem_of_getElem? e0)).1]; omega), (hz z0 (List.mem_of_getElem? e0)).1]
  have ln : oLen [.tuple (zs.map .str)] = some (.int (zs.length : Int)) := by
    show some (PyData.int (((zs.map PyData.str).length : Nat) : Int)) = _
    rw [List.length_map]
  have hmul : oMul (.int (w : Int)) (.int (zs.length : Int)) = some (.int ((w * zs.length : Nat) : Int)) := by
    rw [mul_ii (by omega) (by omega), Int.natCast_mul]
  have lZ := len_cut_to LET (w * zs.length)
  generalize hZ : cutS LET none (some ((w * zs.length : Nat) : Int)) = Z at *
  have ls : (signsD Z).length = Z.length := by
    unfold signsD
    rw [List.length_map]
    exact Array.length_toList
  have h1 : ∀ s ∈ (signsD Z).map (tnS cs), s.length ≤ 1 := fun s hs => by
    obtain ⟨d, _, rfl⟩ := List.mem_map.mp hs
    have a : ("#" : Str).length ≤ 1 := by decide +kernel
    have b : ("." : Str).length ≤ 1 := by decide +kernel
    cases d with
    | str x =>
      show (if decide (x ∈ cs) = true then ("#" : Str) else ".").length ≤ 1
      split
      · exact a
      · exact b
    | _ => exact b
  have hsum := sum_ones h1
  rw [List.length_map] at hsum
  have hj := join_ok (zs := (signsD Z).map (tnS cs)) (by rw [List.length_map]; omega) (fun s hs => Nat.le_trans (h1 s hs) (by decide)) (y := .tuple (((signsD Z).map (tnS cs)).map .str)) rfl
  have lS := join_len ((signsD Z).map (tnS cs))
  generalize Txt.join "" ((signsD Z).map (tnS cs)) = S at *
  have hseq : iS (mSl (mC (.str LET)) pNo (pSo (mOp oMul (mW 2) (mCb oLen (aCons (mW 0) aNil))))) [.val (.tuple (zs.map .str)), .val (.tuple (cs.map .str)), .val (.int (w : Int)), .no, .no, .no] = some (signsD Z) := by
    have e : mSl (mC (.str LET)) pNo (pSo (mOp oMul (mW 2) (mCb oLen (aCons (mW 0) aNil)))) [.val (.tuple (zs.map .str)), .val (.tuple (cs.map .str)), .val (.int (w : Int)), .no, .no, .no] = some (.str Z) := by
      rw [← hZ]
      refine slS rfl rfl ?_ (by decide +kernel)
      show ((mOp oMul (mW 2) (mCb oLen (aCons (mW 0) aNil))) _).bind _ = _
      rw [show mOp oMul (mW 2) (mCb oLen (aCons (mW 0) aNil)) [.val (.tuple (zs.map .str)), .val (.tuple (cs.map .str)), .val (.int (w : Int)), .no, .no, .no] = some (.int ((w * zs.length : Nat) : Int)) from x_op rfl (x_cb rfl ln) hmul]
      rfl
    show (mSl _ _ _ _).bind seqD = _
    rw [e]
    rfl
  have htg : mTg (iS (mSl (mC (.str LET)) pNo (pSo (mOp oMul (mW 2) (mCb oLen (aCons (mW 0) aNil)))))) [4] (gN 4) qT (mIf (qV (mOp oIn (mW 4) (mW 1))) (mC (.str "#")) (mC (.str "."))) [.val (.tuple (zs.map .str)), .val (.tuple (cs.map .str)), .val (.int (w : Int)), .no, .no, .no] = some (.tuple (((signsD Z).map (tnS cs)).map .str)) := by
    refine x_tg (ds := signsD Z) hseq (by omega) ?_
    rw [x_lcGo (fun _ => true) (fun d => .str (tnS cs d)) _ fun d hd => ?_]
    · rw [List.filter_eq_self.mpr fun _ _ => rfl, List.map_map]
      rfl
    · obtain ⟨c, hc, rfl⟩ := List.mem_map.mp hd
      refine ⟨[.val (.tuple (zs.map .str)), .val (.tuple (cs.map .str)), .val (.int (w : Int)), .no, .val (.str ⟨#[c]⟩), .no], rfl, rfl, fun _ => (x_mif (x_qv (x_op rfl rfl (in_strs rfl)))).trans ?_⟩
      show _ = some (PyData.str (if decide ((⟨#[c]⟩ : Str) ∈ cs) = true then "#" else "."))
      split <;> rfl
  obtain ⟨k1, k2⟩ := rng3_small S.length (by omega) w (by omega) w1
  have hr3 : ∀ {ρ : Ev}, mW 3 ρ = some (.str S) → mV 2 ρ = some (.int (w : Int)) → iR3 (aCons (mC (.int 0)) (aCons (mCb oLen (aCons (mW 3) aNil)) (aCons (mV 2) aNil))) ρ = some (rngC 0 (w : Int) (Builtin.Range.rangeSize 0 (S.length : Int) (w : Int)).toNat) := fun {ρ} h3 h2 => by
    show ((aCons (mC (.int 0)) (aCons (mCb oLen (aCons (mW 3) aNil)) (aCons (mV 2) aNil))) ρ).bind oRng3 = _
    rw [show (aCons (mC (.int 0)) (aCons (mCb oLen (aCons (mW 3) aNil)) (aCons (mV 2) aNil))) ρ = some [.int 0, .int (S.length : Int), .int (w : Int)] from x_cons rfl (x_cons (x_cb (x_cons h3 rfl) (len_str (by omega))) (x_cons h2 rfl))]
    exact if_pos ⟨by omega, by omega, k1⟩
  refine ⟨.tuple ((rngC 0 (w : Int) (Builtin.Range.rangeSize 0 (S.length : Int) (w : Int)).toNat).map fun d => match d with | .int k => .str (cutS S (some k) (some (k + (w : Int)))) | _ => .none), r_eq rfl (r_seq (x_set (x_cb (x_cons (x_op rfl rfl h0) rfl) lz)) (r_seq (x_set (x_op rfl htg hj)) (r_ret (x_tg (hr3 rfl rfl) (by rw [rngC_length]; omega) ?_) rfl)))⟩
  rw [x_lcGo (fun _ => true) (fun d => match d with | .int k => .str (cutS S (some k) (some (k + (w : Int)))) | _ => .none) _ fun d hd => ?_]
  · rw [List.filter_eq_self.mpr fun _ _ => rfl]
  · obtain ⟨k, _, rfl⟩ := List.mem_map.mp hd
    exact ⟨_, rfl, rfl, fun _ => slS rfl rfl rfl (by omega)⟩
theorem chain_in {ks : List Ln} {top : Int} : ∀ {r : List Ln} {m : Ln}, m ∈ ks → Chain ks top m r → ∀ k ∈ m :: r, k ∈ ks
  | [], m, hm, _, k, hk => by
    rw [List.mem_singleton.mp hk]
    exact hm
  | b :: r, m, hm, .cons n c, k, hk => by
    rcases List.mem_cons.mp hk with rfl | hk
    · exact hm
    · exact chain_in n.1 c k hk
theorem tones_ok {zs : List Str} (P : PicOk zs) {s : Int} (s0 : 0 ≤ s) (s9 : s ≤ 99) : ∃ t, M_tones_of [.tuple (zs.map .str), .int s] = some (.ok (.tuple t)) := by
  obtain ⟨ns, ps, ts, W, hw⟩ := picture_web_ok P s0 s9
  obtain ⟨G, ks, m, r, L, hm, _, ch, rl, hst⟩ := stair_ok W
  have hin := chain_in hm ch
  have hb : M_is_between [.int s, .int 0, .int 99] = some (.bool true) := by
    refine r_eq rfl (r_ret (x_mandT rfl ?_) rfl)
    have := ch3 (a := 0) (c := 99) (e := mW 0) (i := s) (ρ := [.val (.int s), .val (.int 0), .val (.int 99)]) rfl
    rw [decide_eq_true s0, decide_eq_true s9] at this
    exact this
  have key : ∀ d ∈ (m :: r).map (bitD ps ts ns), ∃ c x, oIx d (.int 0) = some c ∧ M_tones_by [.tuple (zs.map .str), c] = some x := fun d hd => by
    obtain ⟨k, hk, rfl⟩ := List.mem_map.mp hd
    obtain ⟨c, _, e, _⟩ := near_ok L (hin k hk)
    obtain ⟨x, hx⟩ := tones_by_ok P c
    refine ⟨tupS c, x, ?_, hx⟩
    unfold bitD
    rw [e]
    exact ix_t at0
  have hlc : mLc (iS (mW 2)) [4] (gN 4) qT (mCb M_tones_by (aCons (mV 0) (aCons (mOp oIx (mW 4) (mC (.int 0))) aNil))) [.val (.tuple (zs.map .str)), .val (.int s), .val (.list ((m :: r).map (bitD ps ts ns))), .val (.list (brkL m r)), .no] = some (.list (((m :: r).map (bitD ps ts ns)).map fun d => (((oIx d (.int 0)).bind fun c => M_tones_by [.tuple (zs.map .str), c]).getD .none))) := by
    refine x_lc (ds := (m :: r).map (bitD ps ts ns)) rfl (by rw [List.length_map, List.length_cons]; omega) ?_
    rw [x_lcGo (fun _ => true) (fun d => (((oIx d (.int 0)).bind fun c => M_tones_by [.tuple (zs.map .str), c]).getD .none)) _ fun d hd => ?_]
    · rw [List.filter_eq_self.mpr fun _ _ => rfl]
    · obtain ⟨c, x, e1, e2⟩ := key d hd
      refine ⟨_, rfl, rfl, fun _ => ?_⟩
      rw [e1]
      show _ = some ((M_tones_by [.tuple (zs.map .str), c]).getD .none)
      rw [e2]
      exact x_cb (x_cons rfl (x_cons (x_op rfl rfl e1) rfl)) e2
  exact ⟨_, r_fnX rfl (r_seq (x_ifF (x_not (c := true) (x_qv (x_cb rfl hb))) rfl) (r_seq (x_asg (x_cb (x_cons (x_cb rfl hw) rfl) hst) rfl) (r_ret (x_tup (x_cons hlc (x_cons rfl rfl)) (Nat.le_of_ble_eq_true rfl)) rfl)))⟩
end K60
namespace K60
open PySem PySem.Spec PyProof.Rows L2 LB PM PySem.W
/-! ### the law -/
theorem tones_bad {zs : List Str} {d : PyData} (h : M_is_between [d, .int 0, .int 99] = some (.bool false)) : M_tones_of [.tuple (zs.map .str), d] = some (.error "NoNumber") :=
  r_er (ρ := [.val (.tuple (zs.map .str)), .val d, .no, .no, .no]) rfl (x_erS (c := "NoNumber") (x_ifT (x_not (c := false) (x_qv (x_cb rfl h))) rfl))
theorem refused_ok {zs : List Str} {d : PyData} (h : M_is_between [d, .int 0, .int 99] = some (.bool false)) : M_L_refused [.tuple (zs.map .str), d] = some (.bool true) := by
  refine r_eq rfl ⟨_, x_ret (x_tryE (x_dropE (f := M_tones_of) (a := aCons (mV 0) (aCons (mV 1) aNil)) rfl (tones_bad h)) rfl fun a => ?_), rfl⟩
  rw [x_seq (x_ifF (x_qv (x_mE rfl)) rfl) (x_seq (x_ifF (x_qv (x_mE rfl)) rfl) (x_rt (x_mandT (x_mE rfl) (x_mE rfl))))]
  rfl
abbrev badL : List PyData := [.int (-1), .int 100, .bool true, .bool false, .none, .str "1", .tuple [.int 1, .int 1], .list [], .dict [], .int 100000000000000000000]
theorem bad_all : ∀ d ∈ badL, M_is_between [d, .int 0, .int 99] = some (.bool false) := fun d hd => by
  simp only [List.mem_cons, List.not_mem_nil, or_false] at hd
  rcases hd with rfl | rfl | rfl | rfl | rfl | rfl | rfl | rfl | rfl | rfl <;> kernel_rfl
theorem th_fixed : ∀ d ∈ ([.tuple [], .tuple [.str "012345678"], .tuple [.str "01234567"], .tuple (List.replicate 8 [PyData.str "0"]).flatten, .tuple (List.replicate 9 [PyData.str "0"]).flatten, .tuple [.str "000", .str "000", .str "000"]] ++ [.str "0", .none, .int 7, .list [], .dict [], .tuple [.tuple [.str "0"]]] : List PyData), ThOk d := by
  have e0 : ∀ {z : Str}, z.length ≤ 20 → PyData.strOk z = true → EOk (.str z) := fun {z} h hc => ⟨⟨by
    unfold PyData.canLay0
    exact hc, by
    unfold PyData.depth
    decide⟩, fun y e => by
    cases e
    exact ⟨h, hc⟩⟩
  have s0 : EOk (.str "0") := e0 (by decide +kernel) (by decide +kernel)
  have s3 : EOk (.str "000") := e0 (by decide +kernel) (by decide +kernel)
  have s8 : EOk (.str "01234567") := e0 (by decide +kernel) (by decide +kernel)
  have s9 : EOk (.str "012345678") := e0 (by decide +kernel) (by decide +kernel)
  intro d hd
  simp only [List.cons_append, List.nil_append, List.mem_cons, List.not_mem_nil, or_false] at hd
  rcases hd with rfl | rfl | rfl | rfl | rfl | rfl | rfl | rfl | rfl | rfl | rfl | rfl
  · exact th_tup (by decide) fun x hx => absurd hx List.not_mem_nil
  · exact th_tup (by decide) fun x hx => by rw [List.mem_singleton.mp hx]; exact s9
  · exact th_tup (by decide) fun x hx => by rw [List.mem_singleton.mp hx]; exact s8
  · refine th_tup (by decide) fun x hx => ?_
    obtain ⟨l, hl, hx⟩ := List.mem_flatten.mp hx
    rw [(List.mem_replicate.mp hl).2] at hx
    rw [List.mem_singleton.mp hx]
    exact s0
  · refine th_tup (by decide) fun x hx => ?_
    obtain ⟨l, hl, hx⟩ := List.mem_flatten.mp hx
    rw [(List.mem_replicate.mp hl).2] at hx
    rw [List.mem_singleton.mp hx]
    exact s0
  · refine th_tup (by decide) fun x hx => ?_
    simp only [List.mem_cons, List.not_mem_nil, or_false] at hx
    rcases hx with rfl | rfl | rfl <;> exact s3
  · exact th_any rfl
  · exact th_any rfl
  · exact th_any rfl
  · exact th_lst
  · exact th_any rfl
  · refine th_tup (by decide) fun x hx => ?_
    rw [List.mem_singleton.mp hx]
    refine e_any (lay_tup (k := 2) fun y hy => ?_) (fun z e => nomatch e)
    rw [List.mem_singleton.mp hy]
    exact ⟨s0.lay.1, by unfold PyData.depth; decide⟩
theorem l_is {e : ME} {ρ : Ev} {l : List PyData} (h : e ρ = some (.list l)) : iS e ρ = some l := by
  show (e ρ).bind seqD = _
  rw [h]
  rfl
theorem cut_fr {α : Type} (l : List α) (n : Nat) : LB.cutD l (some (n : Int)) none = l.drop n := by
  unfold LB.cutD
  have e : HT.sIx l.length 0 (some (n : Int)) = min n l.length := HT.sIx_nat l.length 0 n
  rw [e, show HT.sIx l.length l.length none = l.length from rfl]
  by_cases h : n ≤ l.length
  · rw [Nat.min_eq_left h]
    exact List.take_of_length_le (by rw [List.length_drop]; exact Nat.le_refl _)
  · rw [Nat.min_eq_right (by omega), Nat.sub_self, List.take_zero, List.drop_eq_nil_of_le (by omega)]
theorem law_ok (script : List Int) (hs : script.length ≤ 63) : M_law [.list (script.map .int)] = some (.bool true) := by
  have rep8 : oRepT (.tuple [.str "0"]) (.int 8) = some (.tuple (List.replicate 8 [PyData.str "0"]).flatten) := by kernel_rfl
  have rep9 : oRepT (.tuple [.str "0"]) (.int 9) = some (.tuple (List.replicate 9 [PyData.str "0"]).flatten) := by kernel_rfl
  generalize hF1 : ([.tuple [], .tuple [.str "012345678"], .tuple [.str "01234567"], .tuple (List.replicate 8 [PyData.str "0"]).flatten, .tuple (List.replicate 9 [PyData.str "0"]).flatten, .tuple [.str "000", .str "000", .str "000"]] : List PyData) = F1
  have l1 : F1.length = 6 := by rw [← hF1]; rfl
  have thF := th_fixed
  rw [hF1] at thF
  generalize hF2 : ([.str "0", .none, .int 7, .list [], .dict [], .tuple [.tuple [.str "0"]]] : List PyData) = F2 at thF
  have l2 : F2.length = 6 := by rw [← hF2]; rfl
  have hlen : oLen [.list (script.map .int)] = some (.int (script.length : Int)) := by
    show some (PyData.int (((script.map PyData.int).length : Nat) : Int)) = _
    rw [List.length_map]
  obtain ⟨a, ha, a0, a12⟩ : ∃ a : Int, oMin [.int (script.length : Int), .int 12] = some (.int a) ∧ 0 ≤ a ∧ a ≤ 12 := ⟨_, rfl, by split <;> omega, by split <;> omega⟩
  obtain ⟨b, hb, b0, b12⟩ : ∃ b : Int, oMax [.int 1, .int a] = some (.int b) ∧ 0 ≤ b ∧ b ≤ 12 := ⟨_, rfl, by split <;> omega, by split <;> omega⟩
  obtain ⟨n, rfl⟩ : ∃ n : Nat, b = (n : Int) := ⟨b.toNat, by omega⟩
  obtain ⟨n0, hc0⟩ := cell_ok script (j := 0) (by omega)
  have hc0 : M_L_cell [.list (script.map .int), .int 0] = some (.int n0) := hc0
  obtain ⟨xs0, hx0, hn0⟩ := nums_ok n0 (m := 20) (by decide)
  have hn0 : M_L_numbers [.int n0, .int 20] = some (.list (xs0.map .int)) := hn0
  obtain ⟨zs0, P0, hp0⟩ := picture_ok hx0.1
  obtain ⟨t1, ht1⟩ := tones_ok P0 (s := 0) (by decide) (by decide)
  obtain ⟨t2, ht2⟩ := tones_ok P0 (s := 99) (by decide) (by decide)
  have ok1 : okF M_tones_of [.tuple (zs0.map .str), .int 0] = some (.tuple t1) := by
    unfold okF
    rw [ht1]
    rfl
  have ok2 : okF M_tones_of [.tuple (zs0.map .str), .int 99] = some (.tuple t2) := by
    unfold okF
    rw [ht2]
    rfl
  have isT : ∀ {e : ME} {ρ : Ev} {l : List PyData}, e ρ = some (.tuple l) → mIs "tuple" e ρ = some (.bool true) := fun {e ρ l} h => by
    unfold mIs
    rw [h]
    show (kitB (tyN (.tuple l)) "tuple").map _ = _
    rw [LB.kit_tuple]
    rfl
  have isBo : ∀ {e : ME} {ρ : Ev} {l : Bool}, e ρ = some (.bool l) → mIs "bool" e ρ = some (.bool true) := fun {e ρ l} h => by
    unfold mIs
    rw [h]
    show (kitB (tyN (.bool l)) "bool").map _ = _
    rw [LB.kit_bool]
    rfl
  have neB : ∀ b : Bool, oNe (.bool b) (.bool b) = some (.bool false) := fun b => by
    cases b <;> kernel_rfl
  have s1 : mLst (aCons (mTup aNil) (aCons (mTup (aCons (mC (.str "012345678")) aNil)) (aCons (mTup (aCons (mC (.str "01234567")) aNil)) (aCons (mOp oRepT (mTup (aCons (mC (.str "0")) aNil)) (mC (.int 8))) (aCons (mOp oRepT (mTup (aCons (mC (.str "0")) aNil)) (mC (.int 9))) (aCons (mTup (aCons (mC (.str "000")) (aCons (mC (.str "000")) (aCons (mC (.str "000")) aNil)))) aNil)))))) [.val (.list (script.map .int)), .no, .no, .no, .no, .no, .no] = some (.list F1) := by
    rw [← hF1]
    exact x_lst (x_cons (x_tup rfl (Nat.zero_le _)) (x_cons (x_tup (x_cons rfl rfl) (Nat.le_of_ble_eq_true rfl)) (x_cons (x_tup (x_cons rfl rfl) (Nat.le_of_ble_eq_true rfl)) (x_cons (x_op (x_tup (x_cons rfl rfl) (Nat.le_of_ble_eq_true rfl)) rfl rep8) (x_cons (x_op (x_tup (x_cons rfl rfl) (Nat.le_of_ble_eq_true rfl)) rfl rep9) (x_cons (x_tup (x_cons rfl (x_cons rfl (x_cons rfl rfl))) (Nat.le_of_ble_eq_true rfl)) rfl)))))) (Nat.le_of_ble_eq_true rfl)
  have s2 : mLst (aCons (mC (.str "0")) (aCons (mC .none) (aCons (mC (.int 7)) (aCons (mLst aNil) (aCons (mC (.dict [])) (aCons (mTup (aCons (mTup (aCons (mC (.str "0")) aNil)) aNil)) aNil)))))) [.val (.list (script.map .int)), .val (.list F1), .no, .no, .no, .no, .no] = some (.list F2) := by
    rw [← hF2]
    exact x_lst (x_cons rfl (x_cons rfl (x_cons rfl (x_cons (x_lst rfl (Nat.zero_le _)) (x_cons rfl (x_cons (x_tup (x_cons (x_tup (x_cons rfl rfl) (Nat.le_of_ble_eq_true rfl)) rfl) (Nat.le_of_ble_eq_true rfl)) rfl)))))) (Nat.le_of_ble_eq_true rfl)
  refine r_eq rfl (r_seq (x_set s1) (r_seq (x_set (x_op rfl s2 (add_ll (by omega)))) (r_for (ds := rngD n) (fun i ρ => ∃ l : List PyData, l.length ≤ 12 + 3 * i ∧ (∀ d ∈ l, ThOk d) ∧ ∃ a2 a3 a4 a5 a6, ρ = [.val (.list (script.map .int)), .val (.list l), a2, a3, a4, a5, a6]) (x_rng (n := n) (x_cons (x_cb (x_cons rfl (x_cons (x_cb (x_cons (x_cb rfl hlen) (x_cons rfl rfl)) ha) rfl)) hb) rfl) (by omega)) ⟨F1 ++ F2, by rw [List.length_append]; omega, thF, _, _, _, _, _, rfl⟩ ?_ ?_)))
  · rintro i d ρ hd ⟨l, ll, hl, a2, a3, a4, a5, a6, rfl⟩
    obtain ⟨li, rfl⟩ := rng_at hd
    obtain ⟨c, hc⟩ := cell_ok script (j := i) (by omega)
    obtain ⟨xs, hx, hn⟩ := nums_ok c (m := 20) (by decide)
    have hn : M_L_numbers [.int c, .int 20] = some (.list (xs.map .int)) := hn
    obtain ⟨zs, P, hp⟩ := picture_ok hx.1
    have hxl := hx.1
    obtain ⟨d1, h1, th1⟩ := spoilt_ok P (xs := xs.drop 12) (by rw [List.length_drop]; omega)
    obtain ⟨d2, h2, th2⟩ := spoilt_ok P (xs := xs.drop 16) (by rw [List.length_drop]; omega)
    have th0 : ThOk (.tuple (zs.map .str)) := by
      obtain ⟨n1, w, w1, nw, hz⟩ := P
      have n8 : zs.length ≤ 8 := Nat.le_trans (Nat.le_mul_of_pos_right _ w1) nw
      have w8 : w ≤ 8 := Nat.le_trans (Nat.le_mul_of_pos_left _ n1) nw
      refine th_tup (by rw [List.length_map]; omega) fun x hx => ?_
      obtain ⟨z, hz', rfl⟩ := List.mem_map.mp hx
      exact e_str (by rw [(hz z hz').1]; omega) (cp_digits (hz z hz').2)
    have from_ : ∀ (k : Nat) {ρ : Ev}, mW 5 ρ = some (.list (xs.map .int)) → mSl (mW 5) (pSo (mC (.int (k : Int)))) pNo ρ = some (.list ((xs.drop k).map .int)) := fun k ρ h => (slL h rfl rfl).trans (by rw [cut_fr, List.map_drop])
    refine ⟨_, rfl, r_seq (x_set (x_cb (x_cons (x_cb rfl hc) rfl) hn)) (r_seq (x_set (x_cb rfl hp)) (r_end (x_set (x_op rfl (x_lst (x_cons rfl (x_cons (x_cb (x_cons rfl (x_cons (from_ 12 rfl) rfl)) h1) (x_cons (x_cb (x_cons rfl (x_cons (from_ 16 rfl) rfl)) h2) rfl))) (Nat.le_of_ble_eq_true rfl)) (add_ll (by show _ + 3 ≤ _; omega)))) ⟨l ++ [.tuple (zs.map .str), d1, d2], by rw [List.length_append]; show _ + 3 ≤ _; omega, fun d hd => ?_, _, _, _, _, _, rfl⟩))⟩
    rcases List.mem_append.mp hd with hd | hd
    · exact hl d hd
    · simp only [List.mem_cons, List.not_mem_nil, or_false] at hd
      rcases hd with rfl | rfl | rfl
      · exact th0
      · exact th1
      · exact th2
  · rintro ρ ⟨l, ll, hl, a2, a3, a4, a5, a6, rfl⟩
    rw [rngD_length] at ll
    refine r_for (ds := l) (fun _ ρ => ∃ a2 a3 a4 a5 a6, ρ = [.val (.list (script.map .int)), .val (.list l), a2, a3, a4, a5, a6]) rfl ⟨_, _, _, _, _, rfl⟩ ?_ ?_
    · rintro i d ρ hd ⟨a2, a3, a4, a5, a6, rfl⟩
      have th := hl d (List.mem_of_getElem? hd)
      have h1 := picture_is th
      have h2 := due_is th
      rw [← pic_due] at h2
      exact ⟨_, rfl, r_seq (x_set (x_cb rfl h1)) (r_end (x_ifF (x_orF (x_not (c := true) (x_qv (isBo rfl))) (x_qv (x_op rfl (x_cb rfl h2) (neB _)))) rfl) ⟨_, _, _, _, _, rfl⟩)⟩
    · rintro ρ ⟨a2, a3, a4, a5, a6, rfl⟩
      refine r_seq (x_set (x_cb (x_cons (x_cb (x_cons (x_cb rfl hc0) rfl) hn0) rfl) hp0)) (r_for (ds := badL) (fun _ ρ => ∃ a2 a3 a5 a6, ρ = [.val (.list (script.map .int)), .val (.list l), a2, a3, .val (.tuple (zs0.map .str)), a5, a6]) (l_is (x_lst (x_cons rfl (x_cons rfl (x_cons rfl (x_cons rfl (x_cons rfl (x_cons rfl (x_cons (x_tup (x_cons rfl (x_cons rfl rfl)) (Nat.le_of_ble_eq_true rfl)) (x_cons (x_lst rfl (Nat.zero_le _)) (x_cons rfl (x_cons (x_op rfl rfl (by kernel_rfl)) rfl)))))))))) (Nat.le_of_ble_eq_true rfl))) ⟨_, _, _, _, rfl⟩ ?_ ?_)
      · rintro i d ρ hd ⟨a2, a3, a5, a6, rfl⟩
        exact ⟨_, rfl, r_end (x_ifF (x_not (c := true) (x_qv (x_cb rfl (refused_ok (bad_all d (List.mem_of_getElem? hd)))))) rfl) ⟨_, _, _, _, rfl⟩⟩
      · rintro ρ ⟨a2, a3, a5, a6, rfl⟩
        exact r_ret (x_mandT (isT (x_cb rfl ok1)) (isT (x_cb rfl ok2))) rfl
end K60
set_option maxHeartbeats 0
namespace K60
open PySem PySem.Spec PyProof.Rows L2
def d_is_whole : He.DefD := ⟨("is_whole", none), "is_whole", "is_whole", defArgs s_is_whole, defBody s_is_whole, defScope s_is_whole, [], []⟩
def d_is_between : He.DefD := ⟨("is_between", none), "is_between", "is_between", defArgs s_is_between, defBody s_is_between, defScope s_is_between, [], []⟩
def d_common_divisor : He.DefD := ⟨("common_divisor", none), "common_divisor", "common_divisor", defArgs s_common_divisor, defBody s_common_divisor, defScope s_common_divisor, [], []⟩
def d_fraction : He.DefD := ⟨("fraction", none), "fraction", "fraction", defArgs s_fraction, defBody s_fraction, defScope s_fraction, [], []⟩
def d_below : He.DefD := ⟨("below", none), "below", "below", defArgs s_below, defBody s_below, defScope s_below, [], []⟩
def d_is_rising : He.DefD := ⟨("is_rising", none), "is_rising", "is_rising", defArgs s_is_rising, defBody s_is_rising, defScope s_is_rising, [], []⟩
def d_names_of : He.DefD := ⟨("names_of", none), "names_of", "names_of", defArgs s_names_of, defBody s_names_of, defScope s_names_of, [], []⟩
def d_is_choice : He.DefD := ⟨("is_choice", none), "is_choice", "is_choice", defArgs s_is_choice, defBody s_is_choice, defScope s_is_choice, [], []⟩
def d_is_cut : He.DefD := ⟨("is_cut", none), "is_cut", "is_cut", defArgs s_is_cut, defBody s_is_cut, defScope s_is_cut, [], []⟩
def d_line_of : He.DefD := ⟨("line_of", none), "line_of", "line_of", defArgs s_line_of, defBody s_line_of, defScope s_line_of, [], []⟩
def d_choices_of : He.DefD := ⟨("choices_of", none), "choices_of", "choices_of", defArgs s_choices_of, defBody s_choices_of, defScope s_choices_of, [], []⟩
def d_all_cuts : He.DefD := ⟨("all_cuts", none), "all_cuts", "all_cuts", defArgs s_all_cuts, defBody s_all_cuts, defScope s_all_cuts, [], []⟩
def d_cuts_by_line : He.DefD := ⟨("cuts_by_line", none), "cuts_by_line", "cuts_by_line", defArgs s_cuts_by_line, defBody s_cuts_by_line, defScope s_cuts_by_line, [], []⟩
def d_meeting : He.DefD := ⟨("meeting", none), "meeting", "meeting", defArgs s_meeting, defBody s_meeting, defScope s_meeting, [], []⟩
def d_is_met_first : He.DefD := ⟨("is_met_first", none), "is_met_first", "is_met_first", defArgs s_is_met_first, defBody s_is_met_first, defScope s_is_met_first, [], []⟩
def d_line_behind : He.DefD := ⟨("line_behind", none), "line_behind", "line_behind", defArgs s_line_behind, defBody s_line_behind, defScope s_line_behind, [], []⟩
def d_bit_of : He.DefD := ⟨("bit_of", none), "bit_of", "bit_of", defArgs s_bit_of, defBody s_bit_of, defScope s_bit_of, [], []⟩
def d_stair_of : He.DefD := ⟨("stair_of", none), "stair_of", "stair_of", defArgs s_stair_of, defBody s_stair_of, defScope s_stair_of, [], []⟩
def d_is_picture : He.DefD := ⟨("is_picture", none), "is_picture", "is_picture", defArgs s_is_picture, defBody s_is_picture, defScope s_is_picture, [], []⟩
def d_spots_beside : He.DefD := ⟨("spots_beside", none), "spots_beside", "spots_beside", defArgs s_spots_beside, defBody s_spots_beside, defScope s_spots_beside, [], []⟩
def d_picture_web : He.DefD := ⟨("picture_web", none), "picture_web", "picture_web", defArgs s_picture_web, defBody s_picture_web, defScope s_picture_web, [], []⟩
def d_tones_by : He.DefD := ⟨("tones_by", none), "tones_by", "tones_by", defArgs s_tones_by, defBody s_tones_by, defScope s_tones_by, [], []⟩
def d_tones_of : He.DefD := ⟨("tones_of", none), "tones_of", "tones_of", defArgs s_tones_of, defBody s_tones_of, defScope s_tones_of, [], []⟩
def d_L_cell : He.DefD := ⟨("_law_cell", none), "_law_cell", "_law_cell", defArgs s_L_cell, defBody s_L_cell, defScope s_L_cell, [], []⟩
def d_L_numbers : He.DefD := ⟨("_law_numbers", none), "_law_numbers", "_law_numbers", defArgs s_L_numbers, defBody s_L_numbers, defScope s_L_numbers, [], []⟩
def d_L_picture : He.DefD := ⟨("_law_picture", none), "_law_picture", "_law_picture", defArgs s_L_picture, defBody s_L_picture, defScope s_L_picture, [], []⟩
def d_L_due : He.DefD := ⟨("_law_due", none), "_law_due", "_law_due", defArgs s_L_due, defBody s_L_due, defScope s_L_due, [], []⟩
def d_L_sign : He.DefD := ⟨("_law_sign", none), "_law_sign", "_law_sign", defArgs s_L_sign, defBody s_L_sign, defScope s_L_sign, [], []⟩
def d_L_spoilt : He.DefD := ⟨("_law_spoilt", none), "_law_spoilt", "_law_spoilt", defArgs s_L_spoilt, defBody s_L_spoilt, defScope s_L_spoilt, [], []⟩
def d_L_refused : He.DefD := ⟨("_law_refused", none), "_law_refused", "_law_refused", defArgs s_L_refused, defBody s_L_refused, defScope s_L_refused, [], []⟩
def d_law : He.DefD := ⟨("law", none), "law", "law", defArgs s_law, defBody s_law, defScope s_law, [], []⟩
def fn : List He.DefD := [d_is_whole, d_is_between, d_common_divisor, d_fraction, d_below, d_is_rising, d_names_of, d_is_choice, d_is_cut, d_line_of, d_choices_of, d_all_cuts, d_cuts_by_line, d_meeting, d_is_met_first, d_line_behind, d_bit_of, d_stair_of, d_is_picture, d_spots_beside, d_picture_web, d_tones_by, d_tones_of, d_L_cell, d_L_numbers, d_L_picture, d_L_due, d_L_sign, d_L_spoilt, d_L_refused, d_law]
def fa0 : List He.Fa := [.glo "StairError", .glo "NoText", .glo "NoNumber", .glo "NoCut", .glo "NoPrice", .glo "NoStream", .glo "NoName", .glo "NoFall", .glo "NoShare", .glo "NoPart", .glo "NoTop", .glo "NoPlace", .glo "NoTie", .glo "NoUndo", .glo "NoWeb", .glo "NoRow", .glo "is_whole", .glo "is_between", .glo "common_divisor", .glo "fraction", .glo "below", .glo "is_rising", .glo "names_of", .glo "is_choice", .glo "is_cut", .glo "line_of", .glo "choices_of", .glo "all_cuts", .glo "cuts_by_line", .glo "meeting"]
def fa1 : List He.Fa := [.glo "is_met_first", .glo "line_behind", .glo "bit_of", .glo "stair_of", .glo "is_picture", .glo "spots_beside", .glo "picture_web", .glo "tones_by", .glo "tones_of", .glo "_law_cell", .glo "_law_numbers", .glo "_law_picture", .glo "_law_due", .glo "_law_sign", .glo "_law_spoilt", .glo "_law_refused", .glo "law", .free "ValueError", .free "abs", .free "all", .free "bool", .free "enumerate", .free "int", .free "isinstance", .free "len", .free "list", .free "max", .free "min", .free "range", .free "sorted"]
def fa2 : List He.Fa := [.free "str", .free "super", .free "tuple", .free "zip", .str "LETTERS" "abcdefghijklmnopqrstuvwxyz", .str "FIGURES" "0123456789", .keep "StairError", .keep "NoText", .keep "NoNumber", .keep "NoCut", .keep "NoPrice", .keep "NoStream", .keep "NoName", .keep "NoFall", .keep "NoShare", .keep "NoPart", .keep "NoTop", .keep "NoPlace", .keep "NoTie", .keep "NoUndo", .keep "NoWeb", .keep "NoRow", .exc "NoNumber", .exm "NoNumber" "StairError" true]
def fa : List He.Fa := fa0 ++ fa1 ++ fa2
def tf : List He.Defn := [("is_rising", none), ("names_of", none), ("is_choice", none), ("is_picture", none), ("picture_web", none), ("tones_by", none)]
def loose0 : List Str := ["StairError", "NoText", "NoNumber", "NoCut", "NoPrice", "NoStream", "NoName", "NoFall", "NoShare", "NoPart", "NoTop", "NoPlace", "NoTie", "NoUndo", "NoWeb", "NoRow", "is_whole", "is_between", "common_divisor", "fraction", "below", "LETTERS", "is_rising", "names_of", "is_choice", "is_cut", "line_of", "choices_of", "all_cuts", "cuts_by_line"]
def loose1 : List Str := ["meeting", "is_met_first", "line_behind", "bit_of", "stair_of", "FIGURES", "is_picture", "spots_beside", "picture_web", "tones_by", "tones_of", "_law_cell", "_law_numbers", "_law_picture", "_law_due", "_law_sign", "_law_spoilt", "_law_refused"]
def loose : List Str := loose0 ++ loose1
end K60
namespace K60
open PySem PySem.Spec PyProof.Rows L2
abbrev R : PySem.W.OpenRow := PySem.W.OpenLaw.row PySem.Challenge.rw_cutstairs_k60_what_pictures_are
abbrev hk : PySem.W.Hook := He.hookX 2 fa fn [] tf ex
def ob (s : PySem.W.SharedT) : He.AlX := He.obsX 2 fa fn [] tf ex (HandSHeadRun.getT s)
theorem ob_eq (s : PySem.W.SharedT) : ob s = hk.obs s.abs := He.obsX_eq (HandSHeadRun.getT_eq s)
theorem run (w : World) : HandSHeadRun.RunEq R (PySem.W.view R.prog [55]) hk ob 20000 loose w := by
  intro os
  kernel_rfl
end K60
namespace K60
open PySem PySem.Spec PyProof.Rows L2 LB
theorem txt_of {K : PySem.W.Frag} {w : World} {h : Heap} {mg : Str → Option Value} (X : K.In h) (G : h.Ns mainGlobals mg) (c : He.SaysX fa fn [] tf ex w h K) : Txt K mg where
  m_StairError := He.glo_ok X G (c.t.d.fact 0 (f := .glo "StairError") rfl)
  m_NoText := He.glo_ok X G (c.t.d.fact 1 (f := .glo "NoText") rfl)
  m_NoNumber := He.glo_ok X G (c.t.d.fact 2 (f := .glo "NoNumber") rfl)
  m_NoCut := He.glo_ok X G (c.t.d.fact 3 (f := .glo "NoCut") rfl)
  m_NoPrice := He.glo_ok X G (c.t.d.fact 4 (f := .glo "NoPrice") rfl)
  m_NoStream := He.glo_ok X G (c.t.d.fact 5 (f := .glo "NoStream") rfl)
  m_NoName := He.glo_ok X G (c.t.d.fact 6 (f := .glo "NoName") rfl)
  m_NoFall := He.glo_ok X G (c.t.d.fact 7 (f := .glo "NoFall") rfl)
  m_NoShare := He.glo_ok X G (c.t.d.fact 8 (f := .glo "NoShare") rfl)
  m_NoPart := He.glo_ok X G (c.t.d.fact 9 (f := .glo "NoPart") rfl)
  m_NoTop := He.glo_ok X G (c.t.d.fact 10 (f := .glo "NoTop") rfl)
  m_NoPlace := He.glo_ok X G (c.t.d.fact 11 (f := .glo "NoPlace") rfl)
  m_NoTie := He.glo_ok X G (c.t.d.fact 12 (f := .glo "NoTie") rfl)
  m_NoUndo := He.glo_ok X G (c.t.d.fact 13 (f := .glo "NoUndo") rfl)
  m_NoWeb := He.glo_ok X G (c.t.d.fact 14 (f := .glo "NoWeb") rfl)
  m_NoRow := He.glo_ok X G (c.t.d.fact 15 (f := .glo "NoRow") rfl)
  m_is_whole := He.glo_ok X G (c.t.d.fact 16 (f := .glo "is_whole") rfl)
  m_is_between := He.glo_ok X G (c.t.d.fact 17 (f := .glo "is_between") rfl)
  m_common_divisor := He.glo_ok X G (c.t.d.fact 18 (f := .glo "common_divisor") rfl)
  m_fraction := He.glo_ok X G (c.t.d.fact 19 (f := .glo "fraction") rfl)
  m_below := He.glo_ok X G (c.t.d.fact 20 (f := .glo "below") rfl)
  m_is_rising := He.glo_ok X G (c.t.d.fact 21 (f := .glo "is_rising") rfl)
  m_names_of := He.glo_ok X G (c.t.d.fact 22 (f := .glo "names_of") rfl)
  m_is_choice := He.glo_ok X G (c.t.d.fact 23 (f := .glo "is_choice") rfl)
  m_is_cut := He.glo_ok X G (c.t.d.fact 24 (f := .glo "is_cut") rfl)
  m_line_of := He.glo_ok X G (c.t.d.fact 25 (f := .glo "line_of") rfl)
  m_choices_of := He.glo_ok X G (c.t.d.fact 26 (f := .glo "choices_of") rfl)
  m_all_cuts := He.glo_ok X G (c.t.d.fact 27 (f := .glo "all_cuts") rfl)
  m_cuts_by_line := He.glo_ok X G (c.t.d.fact 28 (f := .glo "cuts_by_line") rfl)
  m_meeting := He.glo_ok X G (c.t.d.fact 29 (f := .glo "meeting") rfl)
  m_is_met_first := He.glo_ok X G (c.t.d.fact 30 (f := .glo "is_met_first") rfl)
  m_line_behind := He.glo_ok X G (c.t.d.fact 31 (f := .glo "line_behind") rfl)
  m_bit_of := He.glo_ok X G (c.t.d.fact 32 (f := .glo "bit_of") rfl)
  m_stair_of := He.glo_ok X G (c.t.d.fact 33 (f := .glo "stair_of") rfl)
  m_is_picture := He.glo_ok X G (c.t.d.fact 34 (f := .glo "is_picture") rfl)
  m_spots_beside := He.glo_ok X G (c.t.d.fact 35 (f := .glo "spots_beside") rfl)
  m_picture_web := He.glo_ok X G (c.t.d.fact 36 (f := .glo "picture_web") rfl)
  m_tones_by := He.glo_ok X G (c.t.d.fact 37 (f := .glo "tones_by") rfl)
  m_tones_of := He.glo_ok X G (c.t.d.fact 38 (f := .glo "tones_of") rfl)
  m_L_cell := He.glo_ok X G (c.t.d.fact 39 (f := .glo "_law_cell") rfl)
  m_L_numbers := He.glo_ok X G (c.t.d.fact 40 (f := .glo "_law_numbers") rfl)
  m_L_picture := He.glo_ok X G (c.t.d.fact 41 (f := .glo "_law_picture") rfl)
  m_L_due := He.glo_ok X G (c.t.d.fact 42 (f := .glo "_law_due") rfl)
  m_L_sign := He.glo_ok X G (c.t.d.fact 43 (f := .glo "_law_sign") rfl)
  m_L_spoilt := He.glo_ok X G (c.t.d.fact 44 (f := .glo "_law_spoilt") rfl)
  m_L_refused := He.glo_ok X G (c.t.d.fact 45 (f := .glo "_law_refused") rfl)
  m_law := He.glo_ok X G (c.t.d.fact 46 (f := .glo "law") rfl)
  f_ValueError := He.free_ok X G (c.t.d.fact 47 (f := .free "ValueError") rfl)
  f_abs := He.free_ok X G (c.t.d.fact 48 (f := .free "abs") rfl)
  f_all := He.free_ok X G (c.t.d.fact 49 (f := .free "all") rfl)
  f_bool := He.free_ok X G (c.t.d.fact 50 (f := .free "bool") rfl)
  f_enumerate := He.free_ok X G (c.t.d.fact 51 (f := .free "enumerate") rfl)
  f_int := He.free_ok X G (c.t.d.fact 52 (f := .free "int") rfl)
  f_isinstance := He.free_ok X G (c.t.d.fact 53 (f := .free "isinstance") rfl)
  f_len := He.free_ok X G (c.t.d.fact 54 (f := .free "len") rfl)
  f_list := He.free_ok X G (c.t.d.fact 55 (f := .free "list") rfl)
  f_max := He.free_ok X G (c.t.d.fact 56 (f := .free "max") rfl)
  f_min := He.free_ok X G (c.t.d.fact 57 (f := .free "min") rfl)
  f_range := He.free_ok X G (c.t.d.fact 58 (f := .free "range") rfl)
  f_sorted := He.free_ok X G (c.t.d.fact 59 (f := .free "sorted") rfl)
  f_str := He.free_ok X G (c.t.d.fact 60 (f := .free "str") rfl)
  f_super := He.free_ok X G (c.t.d.fact 61 (f := .free "super") rfl)
  f_tuple := He.free_ok X G (c.t.d.fact 62 (f := .free "tuple") rfl)
  f_zip := He.free_ok X G (c.t.d.fact 63 (f := .free "zip") rfl)
  c_LETTERS := He.str_ok X G (c.t.d.fact 64 (f := .str "LETTERS" "abcdefghijklmnopqrstuvwxyz") rfl)
  c_FIGURES := He.str_ok X G (c.t.d.fact 65 (f := .str "FIGURES" "0123456789") rfl)
  k_StairError := He.keep_ok (c.t.d.fact 66 (f := .keep "StairError") rfl)
  k_NoText := He.keep_ok (c.t.d.fact 67 (f := .keep "NoText") rfl)
  k_NoNumber := He.keep_ok (c.t.d.fact 68 (f := .keep "NoNumber") rfl)
  k_NoCut := He.keep_ok (c.t.d.fact 69 (f := .keep "NoCut") rfl)
  k_NoPrice := He.keep_ok (c.t.d.fact 70 (f := .keep "NoPrice") rfl)
  k_NoStream := He.keep_ok (c.t.d.fact 71 (f := .keep "NoStream") rfl)
  k_NoName := He.keep_ok (c.t.d.fact 72 (f := .keep "NoName") rfl)
  k_NoFall := He.keep_ok (c.t.d.fact 73 (f := .keep "NoFall") rfl)
  k_NoShare := He.keep_ok (c.t.d.fact 74 (f := .keep "NoShare") rfl)
  k_NoPart := He.keep_ok (c.t.d.fact 75 (f := .keep "NoPart") rfl)
  k_NoTop := He.keep_ok (c.t.d.fact 76 (f := .keep "NoTop") rfl)
  k_NoPlace := He.keep_ok (c.t.d.fact 77 (f := .keep "NoPlace") rfl)
  k_NoTie := He.keep_ok (c.t.d.fact 78 (f := .keep "NoTie") rfl)
  k_NoUndo := He.keep_ok (c.t.d.fact 79 (f := .keep "NoUndo") rfl)
  k_NoWeb := He.keep_ok (c.t.d.fact 80 (f := .keep "NoWeb") rfl)
  k_NoRow := He.keep_ok (c.t.d.fact 81 (f := .keep "NoRow") rfl)
  x_NoNumber := (He.exc_ok (c.t.d.fact 82 (f := .exc "NoNumber") rfl)).1
  b_NoNumber := (He.exc_ok (c.t.d.fact 82 (f := .exc "NoNumber") rfl)).2.2.1
  t_NoNumber := (He.exc_ok (c.t.d.fact 82 (f := .exc "NoNumber") rfl)).2.2.2
  e_NoNumber := He.exm_ok (c.t.d.fact 83 (f := .exm "NoNumber" "StairError" true) rfl)
  D_is_whole := let ⟨fd, F⟩ := c.t.d.def_ 0 (d := d_is_whole) rfl; ⟨fd, F, He.glo_ok X G (c.t.d.fact 16 (f := .glo "is_whole") rfl)⟩
  D_is_between := let ⟨fd, F⟩ := c.t.d.def_ 1 (d := d_is_between) rfl; ⟨fd, F, He.glo_ok X G (c.t.d.fact 17 (f := .glo "is_between") rfl)⟩
  D_common_divisor := let ⟨fd, F⟩ := c.t.d.def_ 2 (d := d_common_divisor) rfl; ⟨fd, F, He.glo_ok X G (c.t.d.fact 18 (f := .glo "common_divisor") rfl)⟩
  D_fraction := let ⟨fd, F⟩ := c.t.d.def_ 3 (d := d_fraction) rfl; ⟨fd, F, He.glo_ok X G (c.t.d.fact 19 (f := .glo "fraction") rfl)⟩
  D_below := let ⟨fd, F⟩ := c.t.d.def_ 4 (d := d_below) rfl; ⟨fd, F, He.glo_ok X G (c.t.d.fact 20 (f := .glo "below") rfl)⟩
  D_is_rising := let ⟨fd, F⟩ := c.t.d.def_ 5 (d := d_is_rising) rfl; ⟨fd, F, He.glo_ok X G (c.t.d.fact 21 (f := .glo "is_rising") rfl)⟩
  D_names_of := let ⟨fd, F⟩ := c.t.d.def_ 6 (d := d_names_of) rfl; ⟨fd, F, He.glo_ok X G (c.t.d.fact 22 (f := .glo "names_of") rfl)⟩
  D_is_choice := let ⟨fd, F⟩ := c.t.d.def_ 7 (d := d_is_choice) rfl; ⟨fd, F, He.glo_ok X G (c.t.d.fact 23 (f := .glo "is_choice") rfl)⟩
  D_is_cut := let ⟨fd, F⟩ := c.t.d.def_ 8 (d := d_is_cut) rfl; ⟨fd, F, He.glo_ok X G (c.t.d.fact 24 (f := .glo "is_cut") rfl)⟩
  D_line_of := let ⟨fd, F⟩ := c.t.d.def_ 9 (d := d_line_of) rfl; ⟨fd, F, He.glo_ok X G (c.t.d.fact 25 (f := .glo "line_of") rfl)⟩
  D_choices_of := let ⟨fd, F⟩ := c.t.d.def_ 10 (d := d_choices_of) rfl; ⟨fd, F, He.glo_ok X G (c.t.d.fact 26 (f := .glo "choices_of") rfl)⟩
  D_all_cuts := let ⟨fd, F⟩ := c.t.d.def_ 11 (d := d_all_cuts) rfl; ⟨fd, F, He.glo_ok X G (c.t.d.fact 27 (f := .glo "all_cuts") rfl)⟩
  D_cuts_by_line := let ⟨fd, F⟩ := c.t.d.def_ 12 (d := d_cuts_by_line) rfl; ⟨fd, F, He.glo_ok X G (c.t.d.fact 28 (f := .glo "cuts_by_line") rfl)⟩
  D_meeting := let ⟨fd, F⟩ := c.t.d.def_ 13 (d := d_meeting) rfl; ⟨fd, F, He.glo_ok X G (c.t.d.fact 29 (f := .glo "meeting") rfl)⟩
  D_is_met_first := let ⟨fd, F⟩ := c.t.d.def_ 14 (d := d_is_met_first) rfl; ⟨fd, F, He.glo_ok X G (c.t.d.fact 30 (f := .glo "is_met_first") rfl)⟩
  D_line_behind := let ⟨fd, F⟩ := c.t.d.def_ 15 (d := d_line_behind) rfl; ⟨fd, F, He.glo_ok X G (c.t.d.fact 31 (f := .glo "line_behind") rfl)⟩
  D_bit_of := let ⟨fd, F⟩ := c.t.d.def_ 16 (d := d_bit_of) rfl; ⟨fd, F, He.glo_ok X G (c.t.d.fact 32 (f := .glo "bit_of") rfl)⟩
  D_stair_of := let ⟨fd, F⟩ := c.t.d.def_ 17 (d := d_stair_of) rfl; ⟨fd, F, He.glo_ok X G (c.t.d.fact 33 (f := .glo "stair_of") rfl)⟩
  D_is_picture := let ⟨fd, F⟩ := c.t.d.def_ 18 (d := d_is_picture) rfl; ⟨fd, F, He.glo_ok X G (c.t.d.fact 34 (f := .glo "is_picture") rfl)⟩
  D_spots_beside := let ⟨fd, F⟩ := c.t.d.def_ 19 (d := d_spots_beside) rfl; ⟨fd, F, He.glo_ok X G (c.t.d.fact 35 (f := .glo "spots_beside") rfl)⟩
  D_picture_web := let ⟨fd, F⟩ := c.t.d.def_ 20 (d := d_picture_web) rfl; ⟨fd, F, He.glo_ok X G (c.t.d.fact 36 (f := .glo "picture_web") rfl)⟩
  D_tones_by := let ⟨fd, F⟩ := c.t.d.def_ 21 (d := d_tones_by) rfl; ⟨fd, F, He.glo_ok X G (c.t.d.fact 37 (f := .glo "tones_by") rfl)⟩
  D_tones_of := let ⟨fd, F⟩ := c.t.d.def_ 22 (d := d_tones_of) rfl; ⟨fd, F, He.glo_ok X G (c.t.d.fact 38 (f := .glo "tones_of") rfl)⟩
  D_L_cell := let ⟨fd, F⟩ := c.t.d.def_ 23 (d := d_L_cell) rfl; ⟨fd, F, He.glo_ok X G (c.t.d.fact 39 (f := .glo "_law_cell") rfl)⟩
  D_L_numbers := let ⟨fd, F⟩ := c.t.d.def_ 24 (d := d_L_numbers) rfl; ⟨fd, F, He.glo_ok X G (c.t.d.fact 40 (f := .glo "_law_numbers") rfl)⟩
  D_L_picture := let ⟨fd, F⟩ := c.t.d.def_ 25 (d := d_L_picture) rfl; ⟨fd, F, He.glo_ok X G (c.t.d.fact 41 (f := .glo "_law_picture") rfl)⟩
  D_L_due := let ⟨fd, F⟩ := c.t.d.def_ 26 (d := d_L_due) rfl; ⟨fd, F, He.glo_ok X G (c.t.d.fact 42 (f := .glo "_law_due") rfl)⟩
  D_L_sign := let ⟨fd, F⟩ := c.t.d.def_ 27 (d := d_L_sign) rfl; ⟨fd, F, He.glo_ok X G (c.t.d.fact 43 (f := .glo "_law_sign") rfl)⟩
  D_L_spoilt := let ⟨fd, F⟩ := c.t.d.def_ 28 (d := d_L_spoilt) rfl; ⟨fd, F, He.glo_ok X G (c.t.d.fact 44 (f := .glo "_law_spoilt") rfl)⟩
  D_L_refused := let ⟨fd, F⟩ := c.t.d.def_ 29 (d := d_L_refused) rfl; ⟨fd, F, He.glo_ok X G (c.t.d.fact 45 (f := .glo "_law_refused") rfl)⟩
  D_law := let ⟨fd, F⟩ := c.t.d.def_ 30 (d := d_law) rfl; ⟨fd, F, He.glo_ok X G (c.t.d.fact 46 (f := .glo "law") rfl)⟩
end K60
namespace K60
open PySem PySem.Spec PyProof.Rows L2 LB PM
theorem tf_mem {x : Str} (h : x ∈ gens) : (x, none) ∈ tf := List.mem_map_of_mem (f := fun x : Str => ((x, none) : He.Defn)) h
theorem law_at {w : World} {K : PySem.W.Frag} {h : Heap} {mg : Str → Option Value} {f : Addr} (X : K.In h) (G : h.Ns mainGlobals mg) (hfa : mg ("law" : Str) = some (.ref f)) (c : He.SaysX fa fn [] tf ex w h K) :
    LamX.LawAtS PySem.Challenge.rw_cutstairs_k60_what_pictures_are w K (L2.CX (PySem.Challenge.rw_cutstairs_k60_what_pictures_are).prog w) 13 63 "_law_script" mg f h := by
  have T := txt_of X G c
  have Y := ext_of c.more
  obtain ⟨fd, F, hm⟩ := T.D_law
  have e := hfa.symm.trans hm
  cases e
  have b := FunD.bindsA (ps := ["_law_script"]) F fun _ _ _ _ _ _ us hl => match us, hl with | [_], _ => rfl
  refine ⟨fd, tf.map (He.cT K), spM K (tabs K) M_law, fun p hp => ?_, fun p hp => ?_, fun p hp => ?_, fun s u => b s [u] rfl, fun H a ns hn _ hT hS => ?_, fun base _ _ TB => ?_⟩
  · obtain ⟨q, hq, rfl⟩ := List.mem_map.mp hp
    exact c.empty q hq
  · obtain ⟨q, hq, rfl⟩ := List.mem_map.mp hp
    exact c.out q hq
  · obtain ⟨q, hq, rfl⟩ := List.mem_map.mp hp
    exact PySem.W.codeHd_of_K X (c.hd q hq)
  · have t : LamX.Tabs (tabs K) H := fun p hp => by
      obtain ⟨x, hx, rfl⟩ := List.mem_map.mp hp
      exact LamX.TabS.nil (hT _ (List.mem_map.mpr ⟨(x, none), tf_mem hx, rfl⟩))
    obtain ⟨P, rfl, hs⟩ := start_pr t hS
    refine ⟨P, [.list (ns.map .int)], .bool true, rfl, .cons (.lst hs (rp_ints ns)) .nil, law_ok ns hn, fun v P' _ r => ?_⟩
    cases r
    rfl
  · obtain ⟨oc, od, dV, kV, doc, pm, an, cdv, ct, osl, rfl, lk, _⟩ := F.ex
    exact (all_ok T Y fun x hx => TB _ (List.mem_map.mpr ⟨(x, none), tf_mem hx, rfl⟩)).at hm lk
end K60
open PySem PySem.W PySem.Calls PyProof.Rows
theorem PySem.Challenge.cw_cutstairs_k60_what_pictures_are_holds : PySem.Challenge.rw_cutstairs_k60_what_pictures_are.Holds := by
  w_on; o_law
  refine HandSHeadRun.head_any (r := OpenLaw.row PySem.Challenge.rw_cutstairs_k60_what_pictures_are) (q := view (OpenLaw.row PySem.Challenge.rw_cutstairs_k60_what_pictures_are).prog [55]) (H := K60.hk) (ob := K60.ob) (M := 20000) (loose := K60.loose) (d := HandSHeadRun.topDef (OpenLaw.row PySem.Challenge.rw_cutstairs_k60_what_pictures_are).prog 55) (kwd := []) K60.ob_eq
    (by kernel_rfl) (fun s => by kernel_rfl) K60.run (by kernel_rfl) (by kernel_rfl) (by kernel_rfl) (by rfl) (by first | assumption | decide +kernel) (by decide +kernel) ⟨rfl, rfl, rfl, rfl, rfl, by decide +kernel⟩ ?hw ?hc
  case hw => w_witness2
  case hc =>
    refine LamX.walk_ofTsE (l := PySem.Challenge.rw_cutstairs_k60_what_pictures_are) (n := 63) (k := 13) (x := "_law_script") (CX := fun w => L2.CX (PySem.Challenge.rw_cutstairs_k60_what_pictures_are).prog w) rfl (by decide) (by kernel_rfl) ⟨rfl, by decide, by decide⟩ ?F (fun _ _ _ _ _ z => ?z)
    case z =>
      obtain ⟨_, _, _, _, _, _, _, _, _, _, _, _, z⟩ := z
      exact z
    case F =>
      intro w mg fa h Y G hmg0
      obtain ⟨K, KX, c⟩ := Y
      have hmg : mg ("law" : PySem.Str) = some (.ref fa) := by
        have e : (HandSHeadRun.topDef (OpenLaw.row PySem.Challenge.rw_cutstairs_k60_what_pictures_are).prog 55).name = ("law" : PySem.Str) := by kernel_rfl
        rw [← e]
        exact hmg0
      exact ⟨K, KX, K60.law_at KX G hmg c⟩
