import PyProof.Rows.All
import Wide.All
import OpenK.AllK
import Wide.FinOn
import PyProof.Rows.TupDisplay
import HandS.Flt
import KE.KDictZip
import KE.GoesMore
import KE.GoesEnum
import KE.GoesZip
import PyProof.EqAt
import PyProof.EqKinds
import PyProof.TupleCall
import KE.KLam
import KE.KStateDown
import HandS.ForMost
import HandS.Exc
import HandS.TryOnly
import HandS.ExcOwn
import HandS.WordsExc
import HandS.Codes
import HandS.Lambda
import HandS.EndTab
import HandS.IsInst
import HandS.ExcIs
import HandS.Wide
import HandS.Flow
import HandS.Style
import HandS.Defaults
import HandS.HeadHook4
import HandS.HeadWalk
import HandS.Base
import HandS.Call
import HandS.Ends
import HandS.More
import HandS.Words
import HandS.Head0
import HandS.Head1
import HandS.Head2
import HandS.HeadEnd
import HandS.HeadHook1
import HandS.HeadHook2
import HandS.HeadHook3
import HandS.TupSets
import HandS.ListItems
import HandS.DictComp
import HandS.ExcValue
import PyProof.DictMoreH
import PyProof.AutoSeq1
import PyProof.Rows.ChunkLeaf
import HandS.AnyAll
import HandS.GenList
import HandS.Zip
import HandS.Star
import HandS.Deep
import HandS.DeepEq
import HandS.DictTup
import HandS.Sort
import HandS.SortRule
import HandS.TupLe
import KE.KSortAsk
import KE.SortLaws
import KE.SortData
import KE.LtData
import KE.LtSeq
import KE.SortCalls
import HandS.Conv
import HandS.TupAny
import HandS.TupLen
import KE.BitLaws
import HandS.HotCalls
import HandS.SetFor
import KE.DataCmp
import HandS.Text
import PyProof.TupleOfStr
import HandS.SortKw
import KE.SortKeyHeap
import KE.KDictSum
import KE.DataMinMax
import KE.DataMinKey
import PySem.Challenge.RW_cutstairs_k56_what_houses_are
import KE.KSortKey
import PyProof.DictStraight
set_option Elab.async false
set_option linter.all false
set_option maxRecDepth 100000
set_option maxHeartbeats 4000000
set_option maxHeartbeats 4000000
/-! ### general words of my own -/
namespace LB
open PySem PySem.Spec PyProof.Rows L2
/-- // by any divisor but 0, below 2 ^ 9000 in size -/
def CDivG (_ j : Int) : Prop := j ≠ 0 ∧ j.natAbs.log2 < 9000
theorem op_fdivG {X : Cx} : OpR X (binaryOp .FloorDiv) (rI CDivG fun i j => .int (i.fdiv j)) := opI fun i j _ _ _ _ _ hc q => floordiv_int hc.1 q (.inl (PyProof.noPylong_of_log2 hc.2))
theorem divG {i j : Int} {b : Nat} (h : j ≠ 0) (hb : j.natAbs < 2 ^ b) (h0 : 0 < b) (h9 : b ≤ 9000) : CDivG i j := ⟨h, Nat.lt_of_lt_of_le (PySem.Flt.log2_lt_of h0 hb) h9⟩
/-! ### defs by name -/
/-- the module's name x is a def that keeps sp -/
structure OwnFn (P : Program) (w : World) (K : PySem.W.Frag) (mg : Str → Option Value) (base : Heap) (k : Nat) (x : Str) (ps : List Str) (sp : Sp) : Prop where
  fn : ∃ (f : Addr) (fd : FuncData), FnOk P w K mg base (L2.CX P w) k f fd ps sp ∧ mg x = some (.ref f) ∧ PySem.W.keepIn K (.ref f) = true ∧ Binds K fd ps [] ∧ ∃ oc od osl, K.lookup f = some ⟨oc, od, .func fd, osl⟩
theorem pe_own {X : Cx} {k j : Nat} {x : Str} {ps : List Str} {sp : Sp} {E : XK} {e : Expr} {es : List Expr} {t : TA} {p pos : Pos} (F : OwnFn X.prog X.w X.K X.mg X.base k x ps sp) (hr : Room j X.A) (hx : Passes (L2.CX X.prog X.w) X E) (ha : PA X (e :: es) t)
    (hk : k ≤ j := by decide) (hg : Gl X x := by rfl) (hdb : (x == ("__debug__" : Str)) = false := by decide) (he : starEach (e :: es) X.env = (false, eval e X.env) :: starEach es X.env := by rfl) (hpl : (backTo pos (starEach es X.env)).any (·.1) = false := by rfl) :
    PE X (.Call (.Name x p) (e :: es) [] pos) (tCall sp [] E t) := by
  obtain ⟨f, fd, G, hm, kp, b, _⟩ := F.fn
  exact pe_call G (hr.mono hk) hg hm kp b .nil hx ha hdb he hpl
/-- a def of the text, behind the top -/
def Df (K : PySem.W.Frag) (mg : Str → Option Value) (x : Str) (st : Stmt) : Prop := ∃ fd, FunD K x x (defArgs st) (defBody st) (defScope st) [] [] (He.ga K x) fd ∧ mg x = some (.ref (He.ga K x))
theorem own_ok {P : Program} {w : World} {K : PySem.W.Frag} {mg : Str → Option Value} {base : Heap} {x : Str} {st : Stmt} {N ps : List Str} {k : Nat} {sp : Sp} (F : Df K mg x st) (S : FnScope N ps (defScope st))
    (hb : ∀ (kV doc pm : Value) (an : Option Addr) (cdv ct : Value) (us : List Value), us.length = ps.length → bindArgs (PySem.W.fnOf x x (defArgs st) (defBody st) (defScope st) .none kV doc pm an cdv ct) ⟨us, []⟩ = pure (ps.zip us))
    (len : ∀ vs H Q E, sp vs H Q E → vs.length = ps.length)
    (hbody : ∀ (cdv : Value) (A : Around) (outer : List Env) (s : Shared) (H : Hp) (vs : List V) (Q : VK) (E : XK), Room k (A.deeper (envOfC x (defScope st) s.heap.objs.size (He.ga K x) cdv)) → sp vs H Q E →
      ∃ t, PSs (cxOf (L2.CX P w) P w K mg base N x (defScope st) (He.ga K x) cdv A outer s H E) (defBody st) t ∧ t { nx := fun _ H' => Q .non H', rt := Q } (start N vs) H) : OwnFn P w K mg base (k + 1) x ps sp := by
  obtain ⟨fd, F, hm⟩ := F
  refine ⟨He.ga K x, fd, F.ok S len hbody, hm, F.kp, F.bindsN hb, ?_⟩
  obtain ⟨oc, od, dV, kV, doc, pm, an, cdv, ct, osl, rfl, lk, _⟩ := F.ex
  exact ⟨oc, od, osl, lk⟩
/-- the promise of the function object that stands at x -/
theorem OwnFn.at {P : Program} {w : World} {K : PySem.W.Frag} {mg : Str → Option Value} {base : Heap} {k : Nat} {x : Str} {ps : List Str} {sp : Sp} {f : Addr} {fd : FuncData} {oc : Value} {od : Option Addr} {osl : Array (Option Value)} (F : OwnFn P w K mg base k x ps sp)
    (hm : mg x = some (.ref f)) (lk : K.lookup f = some ⟨oc, od, .func fd, osl⟩) : FnOk P w K mg base (L2.CX P w) k f fd ps sp := by
  obtain ⟨f', fd', G, hm', _, _, oc', od', osl', lk'⟩ := F.fn
  rw [hm] at hm'
  cases hm'
  rw [lk] at lk'
  cases lk'
  exact G
/-! ### data of any kind -/
def keyD : Key → PyData
  | .inl i => .int i
  | .inr x => .str x
mutual
inductive Rp (K : PySem.W.Frag) (H : Hp) : V → PyData → Prop
  | non : Rp K H .non .none
  | bl (b : Bool) : Rp K H (.bl b) (.bool b)
  | int (i : Int) : Rp K H (.int i) (.int i)
  | str (x : Str) : Rp K H (.str x) (.str x)
  | lst {a : Addr} {xs : List V} {ds : List PyData} : SqL K H a xs → RpAll K H xs ds → Rp K H (.ref a) (.list ds)
  | tup {a : Addr} {xs : List V} {ds : List PyData} : H a = some (.tup xs) → RpAll K H xs ds → Rp K H (.ref a) (.tuple ds)
  | dct {a : Addr} {od : Obj} {kvs : List (Key × V)} {ds : List (PyData × PyData)} : H a = some (.frz od (.dK kvs)) → kvs.map (fun e => keyD e.1) = ds.map (·.1) → RpAll K H (kvs.map (·.2)) (ds.map (·.2)) → Rp K H (.ref a) (.dict ds)
  | dcT {a : Addr} {od : Obj} {kvs : List (List Key × V)} {ds : List (PyData × PyData)} : H a = some (.frz od (.dT kvs)) → kvs.map (fun e => PyData.tuple (e.1.map keyD)) = ds.map (·.1) → RpAll K H (kvs.map (·.2)) (ds.map (·.2)) → Rp K H (.ref a) (.dict ds)
inductive RpAll (K : PySem.W.Frag) (H : Hp) : List V → List PyData → Prop
  | nil : RpAll K H [] []
  | cons {v : V} {vs : List V} {d : PyData} {ds : List PyData} : Rp K H v d → RpAll K H vs ds → RpAll K H (v :: vs) (d :: ds)
end
/-- the name of a datum's class -/
def tyN : PyData → String
  | .none => "NoneType"
  | .bool _ => "bool"
  | .int _ => "int"
  | .str _ => "str"
  | .list _ => "list"
  | .tuple _ => "tuple"
  | .dict _ => "dict"
theorem sqL_ty {K : PySem.W.Frag} {H : Hp} {a : Addr} {xs : List V} (h : SqL K H a xs) : TyX K H (.ref a) (.type "list") := by
  rcases h with (h | ⟨o, h⟩) | ⟨o, its, n, hk, hc, _⟩
  · exact .base (.lst h)
  · exact .base (.frz h)
  · exact .kList hk hc
theorem sqT_ty {K : PySem.W.Frag} {H : Hp} {a : Addr} {xs : List V} (h : SqT K H a xs) : TyX K H (.ref a) (.type "tuple") := by
  rcases h with (h | ⟨o, h⟩) | ⟨o, its, n, hk, hc, _⟩
  · exact .base (.tup h)
  · exact .fTuple h
  · exact .kTuple hk hc
inductive TyY (K : PySem.W.Frag) (H : Hp) : V → Value → Prop where
  | x {v : V} {t : Value} (h : TyX K H v t) : TyY K H v t
  | fDT {a : Addr} {o : Obj} {kvs : List (List Key × V)} (e : H a = some (.frz o (.dT kvs))) : TyY K H (.ref a) (.type "dict")
def rIsiY (K : PySem.W.Frag) : List V → Hp → VK → Prop := fun xs H Q => ∃ (x c : V) (t u : Value) (b : Bool), xs = [x, c] ∧ ClsV c u ∧ TyY K H x t ∧ PySem.W.kitOne K t u = some b ∧ Q (.bl b) H
theorem call_isiY {X : Cx} : CallR X (.builtin "isinstance") (rIsiY X.K) := by
  intro pins s σ H xs us Q I r h
  obtain ⟨x, c, t, u, b, hx, k, ty, e, q⟩ := h
  cases ty with
  | x ty => exact call_isi pins s σ H xs us Q I r ⟨x, c, t, u, b, hx, k, ty, e, q⟩
  | @fDT a ob kvs ea =>
    subst hx
    obtain ⟨u1, u2, rfl, r1, r2⟩ := vals2 r
    have e2 := k.eq r2
    subst e2
    cases (show u1 = Value.ref a from r1)
    obtain ⟨_, _, zs, _, o, es, ep, h1, h2, _⟩ := dt_rd I.hok (.inr ⟨ob, ea⟩)
    exact PySem.W.kia_one PySem.W.kitx_dict I.kIn ⟨o, h1, h2.1⟩ e (fun z => nomatch z) fun tk => ⟨.bl b, H, I.tok tk, rfl, q⟩
theorem Rp.ty {K : PySem.W.Frag} {H : Hp} {v : V} {d : PyData} (h : Rp K H v d) : TyY K H v (.type (tyN d)) := by
  cases h with
  | non => exact .x (.base .non)
  | bl b => exact .x (.base (.bl b))
  | int i => exact .x (.base (.int i))
  | str x => exact .x (.base (.str x))
  | lst h _ => exact .x (sqL_ty h)
  | tup h _ => exact .x (sqT_ty (SqT.of h))
  | dct h _ _ => exact .x (.fDict h)
  | dcT h _ _ => exact .fDT h
/-- H' holds what H held, but tables -/
abbrev Ex (H H' : Hp) : Prop := LamX.ExtN H H'
theorem ex_refl (H : Hp) : Ex H H := LamX.ExtN.refl H
theorem ex_new {H : Hp} {p : Addr} {o : HO} (h : H p = none) : Ex H (upd H p o) := fun b u e _ => by
  rw [upd_ne (ne_of_none e h)]
  exact e
theorem ex_rd {H H' : Hp} {a : Addr} {u : HO} (e : Ex H H') (h : Rd H a u) (hu : ∀ ps, u ≠ .tbl ps) : Rd H' a u := by
  rcases h with h | ⟨o, h⟩
  · exact Or.inl (e a _ h hu)
  · exact Or.inr ⟨o, e a _ h fun _ z => nomatch z⟩
theorem ex_l {K : PySem.W.Frag} {H H' : Hp} {a : Addr} {xs : List V} (e : Ex H H') (h : SqL K H a xs) : SqL K H' a xs := by
  rcases h with h | h
  · exact Or.inl (ex_rd e h fun _ z => nomatch z)
  · exact Or.inr h
theorem ex_t {K : PySem.W.Frag} {H H' : Hp} {a : Addr} {xs : List V} (e : Ex H H') (h : SqT K H a xs) : SqT K H' a xs := by
  rcases h with h | h
  · exact Or.inl (ex_rd e h fun _ z => nomatch z)
  · exact Or.inr h
mutual
theorem Rp.ext {K : PySem.W.Frag} {H H' : Hp} (e : Ex H H') : ∀ {v : V} {d : PyData}, Rp K H v d → Rp K H' v d
  | _, _, .non => .non
  | _, _, .bl b => .bl b
  | _, _, .int i => .int i
  | _, _, .str x => .str x
  | _, _, .lst h r => .lst (ex_l e h) (RpAll.ext e r)
  | _, _, .tup h r => .tup (e _ _ h fun _ z => nomatch z) (RpAll.ext e r)
  | _, _, .dct h k r => .dct (e _ _ h fun _ z => nomatch z) k (RpAll.ext e r)
  | _, _, .dcT h k r => .dcT (e _ _ h fun _ z => nomatch z) k (RpAll.ext e r)
theorem RpAll.ext {K : PySem.W.Frag} {H H' : Hp} (e : Ex H H') : ∀ {vs : List V} {ds : List PyData}, RpAll K H vs ds → RpAll K H' vs ds
  | _, _, .nil => .nil
  | _, _, .cons h r => .cons (Rp.ext e h) (RpAll.ext e r)
end
theorem RpAll.length {K : PySem.W.Frag} {H : Hp} : ∀ {vs : List V} {ds : List PyData}, RpAll K H vs ds → vs.length = ds.length
  | _, _, .nil => rfl
  | _, _, .cons _ r => congrArg Nat.succ (RpAll.length r)
theorem RpAll.get {K : PySem.W.Frag} {H : Hp} : ∀ {vs : List V} {ds : List PyData} {i : Nat} {v : V}, RpAll K H vs ds → vs[i]? = some v → ∃ d, ds[i]? = some d ∧ Rp K H v d
  | _, _, _, _, .nil, e => by simp at e
  | _, _, 0, _, .cons h _, e => by
    have e' := Option.some.inj e
    subst e'
    exact ⟨_, rfl, h⟩
  | _, _, i + 1, v, .cons _ r, e => by
    obtain ⟨d, h1, h2⟩ := RpAll.get (i := i) (v := v) r e
    exact ⟨d, h1, h2⟩
/-! ### a caught error of an own class: isinstance with a tuple of classes -/
end LB
namespace LB
open PySem PySem.Spec PyProof.Rows L2
/-! ### heaps that grow: what is no table stays, the tables T stay told -/
def Gw (T : List (Addr × Str)) (H H' : Hp) : Prop := Ex H H' ∧ (LamX.Tabs T H → LamX.Tabs T H')
theorem Gw.refl (T : List (Addr × Str)) (H : Hp) : Gw T H H := ⟨ex_refl H, id⟩
theorem Gw.trans {T : List (Addr × Str)} {H H1 H2 : Hp} (a : Gw T H H1) (b : Gw T H1 H2) : Gw T H H2 := ⟨a.1.trans b.1, fun t => b.2 (a.2 t)⟩
theorem gw_same {T : List (Addr × Str)} {H H' : Hp} (s : Same H H') : Gw T H H' := ⟨fun b o e _ => s b o e, fun t => t.ext s⟩
theorem same_new {H : Hp} {p : Addr} {o : HO} (h : H p = none) : Same H (upd H p o) := fun b u e => by
  rw [upd_ne (ne_of_none e h)]
  exact e
theorem gw_new {T : List (Addr × Str)} {H : Hp} {p : Addr} {o : HO} (h : H p = none) : Gw T H (upd H p o) := gw_same (same_new h)
theorem Gw.lst {T : List (Addr × Str)} {H H' : Hp} (g : Gw T H H') {p : Addr} {xs : List V} (h : H p = some (.lst xs)) : H' p = some (.lst xs) := g.1 _ _ h fun _ z => nomatch z
theorem Gw.tup {T : List (Addr × Str)} {H H' : Hp} (g : Gw T H H') {p : Addr} {xs : List V} (h : H p = some (.tup xs)) : H' p = some (.tup xs) := g.1 _ _ h fun _ z => nomatch z
theorem Gw.l {T : List (Addr × Str)} {K : PySem.W.Frag} {H H' : Hp} {a : Addr} {xs : List V} (g : Gw T H H') (h : SqL K H a xs) : SqL K H' a xs := ex_l g.1 h
theorem Gw.t {T : List (Addr × Str)} {K : PySem.W.Frag} {H H' : Hp} {a : Addr} {xs : List V} (g : Gw T H H') (h : SqT K H a xs) : SqT K H' a xs := ex_t g.1 h
/-! ### readings that give data -/
section
variable (K : PySem.W.Frag) (T : List (Addr × Str))
def Gv (te : TE) (σ : L2.St) (H : Hp) (d : PyData) : Prop := ∀ H1, Gw T H H1 → ∀ Q : VK, (∀ v H2, Gw T H1 H2 → Rp K H2 v d → Q v H2) → te σ H1 Q
/-- a new list of data -/
def GvL (te : TE) (σ : L2.St) (H : Hp) (ds : List PyData) : Prop := ∀ H1, Gw T H H1 → ∀ Q : VK, (∀ p xs H2, Gw T H1 H2 → H2 p = some (.lst xs) → RpAll K H2 xs ds → Q (.ref p) H2) → te σ H1 Q
end
section
variable {K : PySem.W.Frag} {T : List (Addr × Str)} {σ : L2.St} {H : Hp} {te ta tb : TE} {d : PyData} {ds : List PyData}
theorem rpAll_at {xs : List V} (r : RpAll K H xs ds) {i : Int} (h : atI ds i = some d) : ∃ v, atI xs i = some v ∧ Rp K H v d := by
  have hl := r.length
  unfold atI at h ⊢
  rw [hl]
  cases e : ixN ds.length i with
  | none =>
    rw [e] at h
    cases h
  | some j =>
    rw [e] at h
    have h' : ds[j]? = some d := h
    have hj : j < xs.length := by
      have := (List.getElem?_eq_some_iff.mp h').1
      omega
    obtain ⟨d', e1, e2⟩ := r.get (List.getElem?_eq_getElem hj)
    rw [h'] at e1
    cases e1
    exact ⟨_, List.getElem?_eq_getElem hj, e2⟩
theorem RpAll.append {H : Hp} : ∀ {xs ys : List V} {ds es : List PyData}, RpAll K H xs ds → RpAll K H ys es → RpAll K H (xs ++ ys) (ds ++ es)
  | _, _, _, _, .nil, s => s
  | _, _, _, _, .cons h r, s => .cons h (RpAll.append r s)
theorem GvL.gv (h : GvL K T te σ H ds) : Gv K T te σ H (.list ds) := fun H1 g Q q => h H1 g _ fun p xs H2 g2 hp r => q _ H2 g2 (.lst (SqL.of hp) r)
theorem s_seq {t u : TS} {D : Ends} {σ : L2.St} {H : Hp} (h : t { D with nx := u D } σ H) : tSeq t u D σ H := h
theorem s_asg {D : Ends} {i : Nat} (h : Gv K T te σ H d) (k : ∀ v H2, Gw T H H2 → Rp K H2 v d → D.nx (σ.set i (some v)) H2) : tAsg te (gName i) D σ H := h H (Gw.refl T H) _ k
theorem s_ret {D : Ends} (h : Gv K T te σ H d) (k : ∀ v H2, Gw T H H2 → Rp K H2 v d → D.rt v H2) : tRet te D σ H := h H (Gw.refl T H) _ k
end
/-! ### a def whose code object's table is told; a lambda handed to a def -/
theorem own_okC {P : Program} {w : World} {K : PySem.W.Frag} {mg : Str → Option Value} {base : Heap} {x : Str} {st : Stmt} {N ps : List Str} {k : Nat} {sp : Sp} (F : Df K mg x st) (S : FnScope N ps (defScope st))
    (hb : ∀ (kV doc pm : Value) (an : Option Addr) (cdv ct : Value) (us : List Value), us.length = ps.length → bindArgs (PySem.W.fnOf x x (defArgs st) (defBody st) (defScope st) .none kV doc pm an cdv ct) ⟨us, []⟩ = pure (ps.zip us))
    (len : ∀ vs H Q E, sp vs H Q E → vs.length = ps.length)
    (hbody : ∀ (cdv : Value) (A : Around) (outer : List Env) (s : Shared) (H : Hp) (vs : List V) (Q : VK) (E : XK), cdv = .ref (He.codeOf K (x, none)) → Room k (A.deeper (envOfC x (defScope st) s.heap.objs.size (He.ga K x) cdv)) → sp vs H Q E →
      ∃ t, PSs (cxOf (L2.CX P w) P w K mg base N x (defScope st) (He.ga K x) cdv A outer s H E) (defBody st) t ∧ t { nx := fun _ H' => Q .non H', rt := Q } (start N vs) H) : OwnFn P w K mg base (k + 1) x ps sp := by
  obtain ⟨fd, F, hm⟩ := F
  have kp := F.kp
  have bb := F.bindsN hb
  obtain ⟨oc, od, dV, kV, doc, pm, an, cdv, ct, osl, rfl, lk, hcd, _, _⟩ := F.ex
  refine ⟨He.ga K x, _, ?_, hm, kp, bb, oc, od, osl, lk⟩
  refine fn_of lk hcd S len fun A outer s H vs Q E hr hsp => hbody cdv A outer s H vs Q E ?_ hr hsp
  obtain ⟨c, rfl⟩ := He.codeIn_ref hcd
  have e : He.codeOf K (x, none) = c := He.codeOf_eq (p := (x, none)) lk rfl
  rw [e]
end LB
namespace GX
open PySem PySem.Spec PyProof.Rows L2 GenW
/-- the context of a generator expression's block: woken in A, made at s -/
def gCx (X : Cx) (A : Around) (s : Shared) (H : Hp) (cenv : Env) (fp : List Addr) (pn : List (Addr × Obj)) : Cx where
  prog := X.prog
  w := X.w
  K := X.K
  mg := X.mg
  base := X.base
  A := A.deeper cenv
  N := X.N
  s_0 := s
  H_0 := H
  env := cenv
  outer := X.stack
  stack := cenv :: X.stack
  ex := fp
  fn := fun _ => false
  calm := true
  pn := pn
  xe := fun _ _ => False
/-- its names: no cells; «.0» and the clause's own names; captured ones -/
structure GxS (N : List Str) (sc scope : Scope) (own : List (Str × Nat)) : Prop where
  kind : scope.kind = .function
  co : scope.isCoroutine = false
  cell : ∀ y ∈ scope.names, y.2 ≠ .cell
  dot : scope.names.lookup (".0" : Str) = some NameKind.local
  free : ∀ y ∈ scope.names, y.2 = .free → sc.names.lookup y.1 = some .cell ∨ sc.names.lookup y.1 = some .free
  loc : ∀ y ∈ scope.names, y.2 = .local → y.1 ∈ own.map (·.1) ∨ y.1 ∉ N
  ix : ∀ p ∈ own, N[p.2]? = some p.1
def gxB (N : List Str) (sc scope : Scope) (own : List (Str × Nat)) : Bool :=
  decide (scope.kind = .function) && (!scope.isCoroutine && (decide (scope.names.lookup (".0" : Str) = some NameKind.local) && ((scope.names.all fun y => !decide (y.2 = .cell) && ((!decide (y.2 = .free) || (decide (sc.names.lookup y.1 = some .cell) || decide (sc.names.lookup y.1 = some .free))) &&
    (!decide (y.2 = .local) || (decide (y.1 ∈ own.map (·.1)) || decide (y.1 ∉ N))))) && own.all fun p => decide (N[p.2]? = some p.1))))
theorem gx_by {N : List Str} {sc scope : Scope} {own : List (Str × Nat)} (h : gxB N sc scope own = true) : GxS N sc scope own := by
  unfold gxB at h
  simp only [Bool.and_eq_true, Bool.or_eq_true, Bool.not_eq_true', decide_eq_true_eq, decide_eq_false_iff_not, List.all_eq_true] at h
  obtain ⟨h1, h2, h3, h4, h5⟩ := h
  refine ⟨h1, h2, fun y hy => (h4 y hy).1, h3, fun y hy e => ?_, fun y hy e => ?_, h5⟩
  · rcases (h4 y hy).2.1 with z | z
    · exact absurd e z
    · exact z
  · rcases (h4 y hy).2.2 with z | z
    · exact absurd e z
    · exact z
theorem over_gx {A : Around} {elt : Expr} {gs : List Comprehension} {scope : Scope} {pos : Pos} {it acc : Value} {env : Env} : A.over (.compLoop (.GeneratorExp elt gs scope pos) 0 it acc env) [] = A.deeper env := by
  first
    | rfl
    | (obtain ⟨hd, d, fr, gs, u⟩ := A; simp [Around.over, Around.deeper, marksOver, frameCount, unitsOf, envsOf, guardsOf, pushEnvs, pushGuards, Code.envs, Code.env?, Code.isFrame, Code.guards, Code.isGuard, Code.weight, Code.frames, Code.isCreation, Code.cUnits])
section
variable {X : Cx} {pins : List (Addr × Obj)} {σ : L2.St} {H : Hp} {s s2 : Shared}
/-- the block at its start -/
theorem gen_inv {A : Around} {scope : Scope} {own : List (Str × Nat)} {fp : List Addr} {code : Value} {m : Str → Option Value} {pn : List (Addr × Obj)} (I : Inv X pins σ H s) (ok : GxS X.N X.env.scope scope own) (hN : X.N.Nodup) (hA : A.handled = none) (hfr : A.frames = some X.stack)
    (hfp : ∀ b ∈ fp, FpOk X pins H b ∧ b < s.heap.objs.size) (kp : ∀ b o, s.heap.get? b = some o → s2.heap.get? b = some o) (hns : s2.heap.Ns s.heap.objs.size m) (hos : s2.os = s.os) (hb : AllBare s2.gens)
    (hpn : ∀ p ∈ pn, s2.heap.get? p.1 = some p.2 ∧ H p.1 = none ∧ p.1 ≠ s.heap.objs.size ∧ p.1 ∉ frs X.stack ∧ ∀ v, p.2.data ≠ .cell v) :
    Inv (gCx X A s H (genEnv scope (cloFrom X.env.cells scope.names []) s.heap.objs.size code builtinsNs X.env) fp pn) [] (wipe σ (own.map (·.2))) H s2 := by
  have hfree : ∀ y ∈ scope.names, y.2 = .free → ∃ c, X.env.cells.lookup y.1 = some c := fun y hy e => by
    rcases ok.free y hy e with k | k
    · exact I.ok.has _ (.inl k)
    · exact I.ok.has _ (.inr k)
  have cm : ∀ {y c}, (cloFrom X.env.cells scope.names []).lookup y = some c → X.env.cells.lookup y = some c := fun {y c} e => by
    rcases cloFrom_mem (PySem.mem_of_lookup e) with hm | ⟨h1, h2⟩
    · cases hm
    · obtain ⟨c1, hc⟩ := hfree _ h1 rfl
      have hc : X.env.cells.lookup y = some c1 := hc
      have h2 : c = (X.env.cells.lookup y).getD 0 := h2
      rw [hc] at h2
      rw [hc, h2] <;> rfl
  have look : ∀ {y}, scope.names.lookup y = some .free → ∃ c, (cloFrom X.env.cells scope.names []).lookup y = some c := fun {y} hl => mem_lookup (cloFrom_has (cells := X.env.cells) (acc := []) (PySem.mem_of_lookup hl))
  have noPn : ∀ {b}, b ∈ fp → b ≠ s.heap.objs.size := fun {b} hb => Nat.ne_of_lt (hfp b hb).2
  refine ⟨⟨I.ok.mod, ok.kind, I.ok.glob, rfl, Nat.le_refl _, fun y z c e1 e2 => I.ok.inj y z c (cm e1) (cm e2), fun y hy => ?_, fun y c z _ => ?_, fun _ => hA, Around.frames_deeper hfr, .inr ⟨rfl, rfl⟩, fun b hb => ⟨noPn hb, fun y c e z => (hfp b hb).1.2.2.2.2.1 y c (cm e) z⟩, I.bs, Nat.le_trans I.ok.bsz I.sz, fun b o e hb => ?_, fun b hb z => ?_, I.stack, I.stkFree⟩,
    hos, hb, Un.kept kp, ⟨_, hns, fun i y v e1 e2 e3 => ?_⟩, fun y c e => ?_, I.hok.fresh (Nat.le_refl _), fun y c e => I.freeC y c (cm e), fun p hp => (List.mem_append.mp hp).elim (fun z => hpn p z) (fun z => by cases z), I.hok.kept kp, by rw [wipe_length]; exact I.len⟩
  · have hy : scope.names.lookup y = some .cell ∨ scope.names.lookup y = some .free := hy
    rcases hy with hy | hy
    · exact absurd rfl (ok.cell _ (PySem.mem_of_lookup hy))
    · exact look hy
  · have z : false = true := z
    cases z
  · rcases (hfp b hb).1.2.2.2.1 with z | z
    · exact I.ok.noex b o e z
    · exact absurd (Nat.lt_of_lt_of_le (Heap.lt_size e) (Nat.le_trans I.ok.bsz z)) (Nat.lt_irrefl _)
  · rcases List.mem_cons.mp (I.stkSub b z) with z | z
    · exact (hfp b hb).1.2.1 z
    · exact (hfp b hb).1.2.2.1 z
  · obtain ⟨e2, hne⟩ := wipe_some e2
    have e3 : Vis scope y := e3
    rcases e3 with k | k | k
    · rcases ok.loc _ (PySem.mem_of_lookup k) rfl with e' | e'
      · obtain ⟨p, hp, hpy⟩ := List.mem_map.mp e'
        have e4 := ok.ix p hp
        have hpy : p.1 = y := hpy
        rw [hpy] at e4
        exact absurd (List.mem_map.mpr ⟨p, hp, nodup_ix hN e4 e1⟩) hne
      · exact absurd (List.mem_of_getElem? e1) e'
    · exact absurd rfl (ok.cell _ (PySem.mem_of_lookup k))
    · obtain ⟨m, hn, hl⟩ := I.loc
      have hvis : Vis X.env.scope y := (ok.free _ (PySem.mem_of_lookup k) rfl).elim (fun k => .inr (.inl k)) (fun k => .inr (.inr k))
      obtain ⟨w', r, q⟩ := hl i y v e1 e2 hvis
      obtain ⟨c2, h2⟩ := look k
      refine ⟨w', r, .inr ⟨.inr k, c2, h2, ?_⟩⟩
      have c1 := cm h2
      rcases q with ⟨k', _⟩ | ⟨_, c3, e', z⟩
      · have k' : X.env.scope.names.lookup y = some .local := k'
        rcases ok.free _ (PySem.mem_of_lookup k) rfl with k2 | k2 <;> rw [show X.env.scope.names.lookup y = _ from k2] at k' <;> cases k'
      · rw [c1] at e'
        cases e'
        exact z.keeps kp
  · obtain ⟨w', z⟩ := I.cell y c (cm e)
    exact ⟨w', z.keeps kp⟩
end
end GX
namespace GX
open PySem PySem.Spec PyProof.Rows L2 GenW
theorem seg_bx {M : Model} {A : Around} {R : GenEnd} {Y : Protocol} {n : Nat} {s₀ : Shared} {elt : Expr} {gs : List Comprehension} {scope : Scope} {pos : Pos} {it acc : Value} {env : Env} {s : Shared} {α β : Type} {m : Sem α} {K : α → Sem β} {K' : β → Sem PySem.Fin} {H' : Value → Sem PySem.Fin} {gd lv} {Q : α → Shared → Prop}
    (h : wpAny M (A.deeper env) m Q (fun _ _ => False) s) (hQ : ∀ a s', Q a s' → Seg M A R Y n s₀ (.compLoop (.GeneratorExp elt gs scope pos) 0 it acc env) ((K a).wrap K' H' gd lv) [] s') :
    Seg M A R Y n s₀ (.compLoop (.GeneratorExp elt gs scope pos) 0 it acc env) ((m >>= K).wrap K' H' gd lv) [] s := by
  refine seg_bind_wrap ?_
  rw [over_gx]
  exact wpAny_mono h hQ fun _ _ z => z.elim
theorem seg_wx {M : Model} {A : Around} {R : GenEnd} {Y : Protocol} {n : Nat} {s₀ : Shared} {elt : Expr} {gs : List Comprehension} {scope : Scope} {pos : Pos} {it acc : Value} {env : Env} {s : Shared} {α : Type} {m : Sem α} {K' : α → Sem PySem.Fin} {H' : Value → Sem PySem.Fin} {gd lv} {Q : α → Shared → Prop}
    (h : wpAny M (A.deeper env) m Q (fun _ _ => False) s) (hQ : ∀ a s', Q a s' → Seg M A R Y n s₀ (.compLoop (.GeneratorExp elt gs scope pos) 0 it acc env) (K' a) [] s') :
    Seg M A R Y n s₀ (.compLoop (.GeneratorExp elt gs scope pos) 0 it acc env) (m.wrap K' H' gd lv) [] s := by
  refine seg_wrap ?_
  rw [over_gx]
  exact wpAny_mono h hQ fun _ _ z => z.elim
/-- what a consumer wants of the block's walk -/
structure Eats (Z : Cx) (fp : List Addr) (J : It) (σ : L2.St) (vs : List Nat) (g : TG) (tt : TT) (te : TE) (W : Nat → Nat → List V → Hp → Prop) (K : List (Addr × Obj) → List V → Prop) (JN : Nat → Nat → List V → Prop) (QE : List V → Hp → Prop) (YC : Nat → Nat → List V → V → Hp → Prop) (RE : GenEnd) (YP : Protocol) : Prop where
  apart : ∀ ip ys, K ip ys → ∀ p ∈ ip, p.1 ∉ fp
  fin : ∀ n m s₀ ys ip H' s', JN n m ys → K ip ys → Inv Z ip σ H' s' → QE ys H' → RE n s₀ (.ok .next) s'
  pos : ∀ n m i ys y H', JN n m ys → YC i m ys y H' → ∃ n', n = n' + 1
  less : ∀ n m m' ys, m' < m → JN n m ys → JN n m' ys
  give : ∀ n m i s₀ ys ip σ' H' s' y v kap, JN (n + 1) m ys → K ip ys → Inv Z ip σ' H' s' → RelV y v → YC i m ys y H' →
    (∀ ip2 m' s2, m' < m → W (i + 1) m' (ys ++ [y]) H' → JN n m' (ys ++ [y]) → K ip2 (ys ++ [y]) → Inv Z ip2 σ' H' s2 → (∀ b ∈ fp, ∀ o, s'.heap.get? b = some o → s2.heap.get? b = some o) → kap (.send .none) s2) → YP n s₀ v s' kap
  turn : ∀ i m ys H, W i m ys H → (J.stop i H ∧ QE ys H) ∨ (J.go i H ∧ ∀ x H', J.yld i H x H' → g x σ H' fun σ2 H2 => wipe σ2 vs = σ ∧ tt σ2 H2 fun b H3 => if b = true then te σ2 H3 fun y H4 => YC i m ys y H4 else ∃ m', m' < m ∧ W (i + 1) m' ys H3)
section
variable {X : Cx} {A : Around} {s4 : Shared} {H4 : Hp} {cenv : Env} {fp : List Addr} {pn : List (Addr × Obj)} {J : It} {σ : L2.St} {vs : List Nat} {g : TG} {tt : TT} {te : TE} {W : Nat → Nat → List V → Hp → Prop} {K : List (Addr × Obj) → List V → Prop} {JN : Nat → Nat → List V → Prop} {QE : List V → Hp → Prop} {YC : Nat → Nat → List V → V → Hp → Prop} {RE : GenEnd} {YP : Protocol} {it : Addr} {tn : Nat → Heap → Prop}
  {elt tg iter : Expr} {ifs : List Expr} {scope : Scope} {pos : Pos}
theorem seg_gx (C : Eats (gCx X A s4 H4 cenv fp pn) fp J σ vs g tt te W K JN QE YC RE YP) (T : Turn X.prog X.w X.K tg J fp it tn) (hg : PG (gCx X A s4 H4 cenv fp pn) tg g) (ht : PTs (gCx X A s4 H4 cenv fp pn) ifs tt) (he : PE (gCx X A s4 H4 cenv fp pn) elt te)
    (hco : cenv.scope.isCoroutine = false) (hpn : ∀ p ∈ pn, p.1 ∉ fp) :
    ∀ (m n i : Nat) (ys : List V) (s₀ s : Shared) (H : Hp) (ip : List (Addr × Obj)), JN n m ys → W i m ys H → K ip ys → Inv (gCx X A s4 H4 cenv fp pn) ip σ H s → tn i s.heap → (∀ b ∈ fp, H b = none) →
      Seg (model X.prog X.w) A RE YP n s₀ (.compLoop (.GeneratorExp elt [⟨tg, iter, ifs, 0⟩] scope pos) 0 (.ref it) .none cenv) ((model X.prog X.w).den (.compLoop (.GeneratorExp elt [⟨tg, iter, ifs, 0⟩] scope pos) 0 (.ref it) .none cenv)) [] s := by
  intro m
  induction m using Nat.strongRecOn with
  | ind m ih =>
    intro n i ys s₀ s H ip hJ hW hK I hst hn
    have stat : ∀ {σ' : L2.St} {H' : Hp} {s' : Shared}, Inv (gCx X A s4 H4 cenv fp pn) ip σ' H' s' → (∀ b ∈ fp, H' b = none) → ∀ b ∈ fp, FpOk (gCx X A s4 H4 cenv fp pn) ip H' b := fun {σ' H' s'} I' hn b hb =>
      ⟨hn b hb, (I'.ok.exf b hb).1, I'.ok.exfs b hb, .inl hb, fun x c e => (I'.ok.exf b hb).2 x c e, fun p hp e => (List.mem_append.mp hp).elim (fun z => hpn p z (by rw [e]; exact hb)) (fun z => C.apart ip ys hK p z (by rw [e]; exact hb))⟩
    show Seg _ A _ _ _ s₀ _ ((compTurn (.GeneratorExp elt [⟨tg, iter, ifs, 0⟩] scope pos) 0 (.ref it) .none cenv).onRaise (leaving cenv)) [] s
    rw [compTurn_gen, Sem.onRaise_eq_wrap]
    refine seg_bind_wrap (wpAny_standAt ?_)
    rcases C.turn i m ys H hW with ⟨stop, qq⟩ | ⟨go, step⟩
    · refine seg_bx (T.done (gCx X A s4 H4 cenv fp pn) rfl rfl rfl rfl i ip s σ H (fun _ _ => False) I (stat I hn) hst stop) fun r s1 ⟨hr, I1⟩ => ?_
      subst hr
      exact seg_end (.ok .next) (C.fin n m s₀ ys ip H s1 hJ hK I1 qq)
    · refine seg_bx (T.item (gCx X A s4 H4 cenv fp pn) rfl rfl rfl rfl i ip s σ H (fun _ _ => False) I (stat I hn) hst go) fun r s1 ⟨u, hr, h1⟩ => ?_
      subst hr
      refine seg_bx h1 fun _ s2 ⟨x, H2, I2, r2, y2, st2, n2⟩ => ?_
      have I2' := I2.pinned (stat I2 n2) (T.obj _ _ st2)
      refine seg_bx (hg.run _ s2 _ H2 x u _ I2' r2 (step x H2 y2)) fun _ s3 ⟨σ3, H3, I3, hw3, q3⟩ => ?_
      refine seg_bx (ht.run _ s3 σ3 H3 _ I3 q3) fun b s5 ⟨H5, I5, q5⟩ => ?_
      have pin' : ∀ {s' : Shared} {H' : Hp}, Inv (gCx X A s4 H4 cenv fp pn) (ip ++ pinsAt fp s2.heap) σ3 H' s' → tn (i + 1) s'.heap ∧ (∀ b ∈ fp, H' b = none) := fun {s' H'} I' => by
        have q : ∀ b ∈ fp, ∀ o, s2.heap.get? b = some o → s'.heap.get? b = some o ∧ H' b = none := fun b hb o e =>
          let z := I'.pin (b, o) (List.mem_append_right _ (List.mem_append_right _ (mem_pinsAt hb e)))
          ⟨z.1, z.2.1⟩
        refine ⟨T.keep _ _ _ st2 fun b hb o e => (q b hb o e).1, fun b hb => ?_⟩
        obtain ⟨o, e, _⟩ := T.obj _ _ st2 b hb
        exact (q b hb o e).2
      have wk : ∀ {ip' : List (Addr × Obj)} {s' : Shared} {H' : Hp}, Inv (gCx X A s4 H4 cenv fp pn) ip' σ3 H' s' → Inv (gCx X A s4 H4 cenv fp pn) ip' σ H' s' := fun {ip' s' H'} I' => by
        have hl : σ.length = σ3.length := by rw [← hw3, wipe_length]
        refine I'.weak hl fun j v e => ?_
        rw [← hw3] at e
        exact (wipe_some e).1
      cases b with
      | false =>
        simp only [Bool.false_eq_true, if_false] at q5 ⊢
        obtain ⟨m', hm, w'⟩ := q5
        obtain ⟨p1, p2⟩ := pin' I5
        exact seg_again rfl (ih m' hm n (i + 1) ys s₀ s5 H5 ip (C.less n m m' ys hm hJ) w' hK (wk I5.unpinned) p1 p2)
      | true =>
        simp only [if_true] at q5 ⊢
        have hy : ∀ v, yieldOut cenv v = yieldValue v := fun v => by simp only [yieldOut, hco, Bool.false_eq_true, if_false]
        simp only [hy]
        rw [Sem.bind_eq_wrap', Sem.bind_eq_wrap', Sem.wrap_wrap, Sem.wrap_wrap]
        refine seg_wx (he.run _ s5 σ3 H5 _ I5 q5) fun z s6 ⟨yv, H6, I6, r6, y6⟩ => ?_
        obtain ⟨n', rfl⟩ := C.pos n m i ys yv H6 hJ y6
        obtain ⟨p1, p2⟩ := pin' I6
        refine seg_at (seg_yield rfl rfl rfl (C.give n' m i s₀ ys ip σ3 H6 s6 yv z _ hJ hK I6.unpinned r6 y6 fun ip2 m' s7 hm w' hj hk I7 hkeep => ?_))
        exact seg_again rfl (ih m' hm n' (i + 1) (ys ++ [yv]) s7 s7 H6 ip2 hj w' hk (wk I7) (T.keep _ _ _ p1 hkeep) p2)
theorem seg_gx0 (C : Eats (gCx X A s4 H4 cenv fp pn) fp J σ vs g tt te W K JN QE YC RE YP) (T : Turn X.prog X.w X.K tg J fp it tn) (hg : PG (gCx X A s4 H4 cenv fp pn) tg g) (ht : PTs (gCx X A s4 H4 cenv fp pn) ifs tt) (he : PE (gCx X A s4 H4 cenv fp pn) elt te)
    (hco : cenv.scope.isCoroutine = false) (hpn : ∀ p ∈ pn, p.1 ∉ fp)
    (m n : Nat) (s₀ s : Shared) (H : Hp) (ip : List (Addr × Obj)) (hJ : JN n m []) (hW : W 0 m [] H) (hK : K ip []) (I : Inv (gCx X A s4 H4 cenv fp pn) ip σ H s) (hst : tn 0 s.heap) (hn : ∀ b ∈ fp, H b = none) :
      Seg (model X.prog X.w) A RE YP n s₀ (.compStart (.GeneratorExp elt [⟨tg, iter, ifs, 0⟩] scope pos) 0 (.ref it) .none cenv) ((model X.prog X.w).den (.compStart (.GeneratorExp elt [⟨tg, iter, ifs, 0⟩] scope pos) 0 (.ref it) .none cenv)) [] s := by
  have loop := seg_gx (iter := iter) (scope := scope) (pos := pos) C T hg ht he hco hpn m n 0 [] s₀ s H ip hJ hW hK I hst hn
  show Seg _ A _ _ _ s₀ _ ((compStart (.GeneratorExp elt [⟨tg, iter, ifs, 0⟩] scope pos) 0 (.ref it) .none cenv).onRaise (leaving cenv)) [] s
  unfold compStart
  rw [Sem.onRaise_eq_wrap]
  show Seg _ A _ _ _ s₀ _ ((ask >>= _).wrap _ _ _ _) [] s
  refine seg_bind_wrap (wpAny_askSetting ?_)
  split
  · exact seg_again rfl loop
  · first
      | exact seg_bind_wrap (wpAny_rule (seg_bind_wrap (wpAny_standAt (seg_bind_wrap (T.self _ 0 s _ _ hst (seg_again rfl loop))))))
      | (refine seg_bind_wrap (wpAny_rule ?_); show Seg _ A _ _ _ s₀ _ ((standAt iter.pos >>= _).wrap _ _ _ _) [] s; exact seg_bind_wrap (wpAny_standAt (seg_bind_wrap (T.self _ 0 s _ _ hst (seg_again rfl loop)))))
end
end GX
namespace GX
open PySem PySem.Spec PyProof.Rows L2 GenW
section
variable {X : Cx} {pins : List (Addr × Obj)} {σ : L2.St} {H : Hp} {s : Shared}
/-- the block's code object stands in the def's table: found there, or new -/
theorem gen_code {T : List (Addr × Str)} {c P : Addr} {q : Str} {scope : Scope} {pos : Pos} {A : Around} {E : Value → Shared → Prop} {Q : Value → Shared → Prop} (I : Inv X pins σ H s) (TB : LamX.TabB X.base X.mg c P) (hcode : X.env.code = .ref c)
    (hm : (P, q) ∈ T) (hu : ∀ p ∈ T, p.1 = P → p.2 = q) (hT : LamX.Tabs T H)
    (h : ∀ (code : Value) (H1 : Hp) (s' : Shared), Inv X pins σ H1 s' → LamX.ExtN H H1 → LamX.Tabs T H1 → (∀ b o, H b = none → s.heap.get? b = some o → s'.heap.get? b = some o ∧ H1 b = none) → s.heap.objs.size ≤ s'.heap.objs.size → Q code s') :
    wpAny (model X.prog X.w) A (genexprCode X.env pos q scope) Q E s := by
  obtain ⟨ps, hP, ht, ha⟩ := hT _ hm
  have hP' : s.heap.get? P = some { cls := .none, data := .fields ps } := I.hok P _ hP
  have cd : PySem.W.CodeHd s.heap c P := TB.code.keeps I.bk
  cases hf : codeAmong pos ps.toList with
  | none =>
    refine wpAny_genexprCodeX hcode (cd.code hP' ht) (cd.tab hP') hf fun c' h' tk hx hge hlt hco' hrec htab' _ => ?_
    obtain ⟨c2, oc, vs, t, e2, hoc, hd, hv⟩ := hrec
    cases e2
    have nC : H c' = none := I.hok.fresh hge
    have I1 := LamX.inv_table (t' := tk) (q := q) (more := #[rawInt pos.line, rawInt pos.col, .ref c']) (h' := h') I hP (fun b o hb e => hx b o hb e) htab'.2 hge ⟨oc, vs, t, hoc, hd, hv⟩
    have hE : LamX.ExtN H (upd (upd H P (.tbl (ps ++ #[rawInt pos.line, rawInt pos.col, .ref c']))) c' (LamX.CodeO c' q)) := fun b o e n => by
      rw [upd_ne (ne_of_none e nC), upd_ne (fun z => n ps (Option.some.inj (e.symm.trans (by rw [z]; exact hP))))]
      exact e
    have eL : (ps ++ #[rawInt pos.line, rawInt pos.col, .ref c']).toList = ps.toList ++ [rawInt pos.line, rawInt pos.col, .ref c'] := by simp
    refine h (.ref c') _ _ I1 hE (fun p hp => ?_) (fun b o n e => ?_) (Nat.le_trans hge (Nat.le_of_lt hlt))
    · by_cases hb : p.1 = P
      · rw [hu p hp hb, hb]
        refine ⟨_, by rw [upd_ne (ne_of_none hP nC), upd_same], by rw [eL]; exact PySem.TriplesOk_snoc _ _ _ _ ht, fun p' cv hcv => ?_⟩
        rw [eL] at hcv
        rcases LamX.among_app _ ht hcv with z | z
        · obtain ⟨c0, e1, e2⟩ := ha p' cv z
          exact ⟨c0, e1, hE _ _ e2 LamX.codeO_ne⟩
        · exact ⟨c', z, upd_same⟩
      · obtain ⟨ps', a1, a2, a3⟩ := hT p hp
        refine ⟨ps', by rw [upd_ne (ne_of_none a1 nC), upd_ne hb]; exact a1, a2, fun p' cv hcv => ?_⟩
        obtain ⟨c0, e1, e2⟩ := a3 p' cv hcv
        exact ⟨c0, e1, hE _ _ e2 LamX.codeO_ne⟩
    · have n1 : b ≠ P := fun z => by rw [z, hP] at n; cases n
      have n2 : b ≠ c' := Nat.ne_of_lt (Nat.lt_of_lt_of_le (Heap.lt_size e) hge)
      exact ⟨hx b o n1 e, by rw [upd_ne n2, upd_ne n1]; exact n⟩
  | some cv =>
    refine wpAny_genexprCode_hit hcode (cd.code hP' ht) hf ?_
    exact h cv H s I (LamX.ExtN.refl H) hT (fun b o n e => ⟨e, n⟩) (Nat.le_refl _)
/-- the generator object -/
def genObj (g : Nat) (q : Str) (t1 t2 : Tok) : Obj := { cls := .type "generator", data := .fields #[.int g 0, .str "<genexpr>" t1, .str q t2] }
theorem genObj_at {g : Nat} {q : Str} {t1 t2 : Tok} {h : Heap} {a : Addr} (e : h.get? a = some (genObj g q t1 t2)) : h.IsGen a g := ⟨_, _, _, e, rfl, rfl, rfl⟩
/-- a generator has been made: it has not begun -/
structure Made (X : Cx) (pins : List (Addr × Obj)) (σ : L2.St) (elt tg iter : Expr) (ifs : List Expr) (scope : Scope) (pos : Pos) (s4 : Shared) (H4 : Hp) (code : Value) (J : It) (fp : List Addr) (it : Addr) (tn : Nat → Heap → Prop) (a : Addr) (t1 t2 : Tok) (s5 : Shared) : Prop where
  inv : Inv X pins σ H4 s4
  turn : Turn X.prog X.w X.K tg J fp it tn
  st : tn 0 s4.heap
  fp : ∀ b ∈ fp, FpOk X pins H4 b ∧ b < s4.heap.objs.size
  ns : ∃ m, s5.heap.Ns s4.heap.objs.size m
  keep : ∀ b o, s4.heap.get? b = some o → s5.heap.get? b = some o
  lt : s4.heap.objs.size < a
  lt' : a < s5.heap.objs.size
  obj : s5.heap.get? a = some (genObj s4.gens.size (X.env.qual ++ "<genexpr>") t1 t2)
  gens : s5.gens = s4.gens.push (.fresh (.compStart (.GeneratorExp elt [⟨tg, iter, ifs, 0⟩] scope pos) 0 (.ref it) .none (genEnv scope (cloFrom X.env.cells scope.names []) s4.heap.objs.size code builtinsNs X.env)))
  os : s5.os = s4.os
theorem gen_make {T : List (Addr × Str)} {c P : Addr} {elt tg iter : Expr} {ifs : List Expr} {scope : Scope} {pos : Pos} {own : List (Str × Nat)} {wi : TI} {RR : It → Hp → Prop} {Q : Value → Shared → Prop} (hd : X.A.depth < recursionLimit) (TB : LamX.TabB X.base X.mg c P) (hcode : X.env.code = .ref c)
    (hm : (P, X.env.qual ++ "<genexpr>") ∈ T) (hu : ∀ p ∈ T, p.1 = P → p.2 = X.env.qual ++ "<genexpr>") (ok : GxS X.N X.env.scope scope own) (hi : PI X tg iter wi) (hs : ∀ v, genFold iter X.env v = pure v) (I : Inv X pins σ H s)
    (h : wi σ H fun J H1 => LamX.Tabs T H1 ∧ ∀ H2, LamX.ExtN H1 H2 → LamX.Tabs T H2 → RR J H2)
    (hQ : ∀ s4 H4 code J fp it tn a t1 t2 s5, Made X pins σ elt tg iter ifs scope pos s4 H4 code J fp it tn a t1 t2 s5 → RR J H4 → Q (.ref a) s5) :
    wpAny (model X.prog X.w) X.A (eval (.GeneratorExp elt [⟨tg, iter, ifs, 0⟩] scope pos) X.env) Q X.xe s := by
  have hfree : ∀ y ∈ scope.names, y.2 = .free → ∃ c, X.env.cells.lookup y.1 = some c := fun y hy e => by
    rcases ok.free y hy e with k | k
    · exact I.ok.has _ (.inl k)
    · exact I.ok.has _ (.inr k)
  refine wpAny_GeneratorExp_make ok.co (closure_ok hfree) ok.cell ok.dot ok.kind hd (thn (hi.run pins s σ H _ I h) fun xv s1 hx => thn hx fun itv s2 h2 => ?_) hs
  obtain ⟨it, fp, tn, J, H2, e, I2, T2, st2, f2, hT, hR⟩ := h2
  subst e
  refine ⟨I2.nolimit, gen_code I2 TB hcode hm hu hT fun code H3 s3 I3 hE hT3 hk hsz => ?_⟩
  obtain ⟨bm, ob, e1, e2, e3, e4, e5, e6, e7, e8⟩ := TB.bm
  refine wpAny_builtinsFor (m := X.mg) (by rw [I3.ok.glob]; exact I3.mod.glob.keeps I3.bk) e1 e2 (I3.bk _ _ e5) e6 e7 e8 ?_
  intro h' hn' hs'
  have hsz' : h'.objs.size = s3.heap.objs.size + 1 := by rw [hs'.1, Heap.size_push]
  have keep' : ∀ b o, s3.heap.get? b = some o → h'.get? b = some o := fun b o e => hs'.extBut b o (Nat.ne_of_lt (Heap.lt_size e)) (Heap.get?_push_of_some _ e)
  refine hQ s3 H3 code J fp it tn h'.objs.size (s3.toks + 1) (s3.toks + 1 + 1) _ ⟨I3, T2, ?_, fun b hb => ?_, ⟨_, hn'.push _⟩, fun b o e => Heap.get?_push_of_some _ (keep' b o e), by omega, by show _ < (h'.push _).objs.size; rw [Heap.size_push]; omega, Heap.get?_push_size _ rfl, rfl, rfl⟩ (hR H3 hE hT3)
  · exact T2.keep _ _ _ st2 fun b hb o e => (hk b o (f2 b hb).1 e).1
  · obtain ⟨o, e, _⟩ := T2.obj _ _ st2 b hb
    exact ⟨⟨(hk b o (f2 b hb).1 e).2, (f2 b hb).2⟩, Nat.lt_of_lt_of_le (Heap.lt_size e) hsz⟩
/-- woken in A, at a heap that keeps all that stood when it was made -/
theorem Made.inv' {elt tg iter : Expr} {ifs : List Expr} {scope : Scope} {pos : Pos} {own : List (Str × Nat)} {s4 : Shared} {H4 : Hp} {code : Value} {J : It} {fp : List Addr} {it : Addr} {tn : Nat → Heap → Prop} {a : Addr} {t1 t2 : Tok} {s5 s6 : Shared} {A : Around}
    (M : Made X pins σ elt tg iter ifs scope pos s4 H4 code J fp it tn a t1 t2 s5) (ok : GxS X.N X.env.scope scope own) (hN : X.N.Nodup) (hA : A.handled = none) (hfr : A.frames = some X.stack) (kp : ∀ b o, s5.heap.get? b = some o → s6.heap.get? b = some o) (hos : s6.os = s5.os) (hb : AllBare s6.gens) :
    Inv (gCx X A s4 H4 (genEnv scope (cloFrom X.env.cells scope.names []) s4.heap.objs.size code builtinsNs X.env) fp [(a, genObj s4.gens.size (X.env.qual ++ "<genexpr>") t1 t2)]) [] (wipe σ (own.map (·.2))) H4 s6 := by
  obtain ⟨m, hns⟩ := M.ns
  refine gen_inv M.inv ok hN hA hfr M.fp (fun b o e => kp b o (M.keep b o e)) (hns.keeps kp) (hos.trans M.os) hb fun p hp => ?_
  rw [List.mem_singleton.mp hp]
  have hge : s4.heap.objs.size ≤ a := Nat.le_of_lt M.lt
  refine ⟨kp a _ M.obj, M.inv.hok.fresh hge, Nat.ne_of_gt M.lt, fun z => ?_, fun v q => by cases q⟩
  rcases List.mem_cons.mp (M.inv.stkSub _ z) with e | e
  · have h1 := M.inv.lt
    rw [← e] at h1
    exact Nat.lt_irrefl _ (Nat.lt_of_lt_of_le h1 hge)
  · exact M.inv.nofs hge e
end
end GX
namespace GX
open PySem PySem.Spec PyProof.Rows L2 GenW
section
variable {X : Cx} {pins : List (Addr × Obj)} {σ : L2.St} {H : Hp} {s : Shared}
/-- the heap at a place where the block sleeps or has ended -/
def Off (X : Cx) (fp : List Addr) (s4 : Shared) (H4 : Hp) (Q : Hp → Prop) (s' : Shared) : Prop := ∃ H', s'.os = s4.os ∧ AllBare s'.gens ∧ Un (frs X.stack) fp H4 H' s4.heap s'.heap ∧ HOk X.prog X.w H' s'.heap ∧ Q H'
theorem Off.back {elt tg iter : Expr} {ifs : List Expr} {scope : Scope} {pos : Pos} {s4 : Shared} {H4 : Hp} {code : Value} {J : It} {fp : List Addr} {it : Addr} {tn : Nat → Heap → Prop} {a : Addr} {t1 t2 : Tok} {s5 s' : Shared} {Q : Hp → Prop}
    (M : Made X pins σ elt tg iter ifs scope pos s4 H4 code J fp it tn a t1 t2 s5) (o : Off X fp s4 H4 Q s') : ∃ H', Inv X pins σ H' s' ∧ Q H' := by
  obtain ⟨H', h1, h2, h3, h4, h5⟩ := o
  exact ⟨H', M.inv.call' (ch := fp) h1 h3 h4 h2 fun b hb => let f := (M.fp b hb).1; ⟨f.2.2.2.1, f.2.1, f.2.2.2.2.1, f.2.2.2.2.2⟩, h5⟩
theorem Off.keeps {fp : List Addr} {s4 : Shared} {H4 : Hp} {Q : Hp → Prop} {s' s'' : Shared} (o : Off X fp s4 H4 Q s') (ho : s''.os = s'.os) (hb : AllBare s''.gens) (hk : ∀ b o, s'.heap.get? b = some o → s''.heap.get? b = some o) : Off X fp s4 H4 Q s'' := by
  obtain ⟨H', h1, h2, h3, h4, h5⟩ := o
  exact ⟨H', ho.trans h1, hb, h3.trans (Un.kept hk), h4.kept hk, h5⟩
def allE (X : Cx) (fp : List Addr) (s4 : Shared) (H4 : Hp) (QT : Hp → Prop) : GenEnd := fun n s₀ r s1 => ((r = .ok (.ret .none) ∨ r = .ok .next) ∧ Off X fp s4 H4 QT s1) ∨ ∃ e, r = .error e ∧ False
/-- an item is handed out: c says whether the consumer goes on -/
def allY (X : Cx) (fp : List Addr) (s4 : Shared) (H4 : Hp) (st : Bool) (a : Addr) (g : Nat) (QF : Hp → Prop) : Protocol := fun n s₀ v s1 kap =>
  s1.heap.IsGen a g ∧ s1.heap.NoLimit ∧ AllBare s1.gens ∧ ∃ c, v = .bool c ∧ (c = !st → ∀ s', s'.os = s1.os → AllBare s'.gens → (∀ b o, s1.heap.get? b = some o → s'.heap.get? b = some o) → kap (.send .none) s') ∧ (c = st → Off X fp s4 H4 QF s1)
/-- the loop of all -/
theorem all_loop {fp : List Addr} {s4 : Shared} {H4 : Hp} {QT QF : Hp → Prop} {a : Addr} {g : Nat} {A : Around} {R : Result → Shared → Prop} (hh : A.handled = none) (hd : A.depth < recursionLimit)
    (hT : ∀ s', Off X fp s4 H4 QT s' → R (.ok (.ret (.bool true))) s') (hF : ∀ s', Off X fp s4 H4 QF s' → R (.ok (.ret (.bool false))) s') :
    ∀ (n : Nat) (s : Shared), s.heap.IsGen a g → s.heap.NoLimit → AllBare s.gens → (∃ gs, s.gens[g]? = some gs ∧ gs.Goes (model X.prog X.w) A.in1.in1 (allE X fp s4 H4 QT) (allY X fp s4 H4 false a g QF) n (.send .none) (s.setGen g .running)) →
      codeAny (model X.prog X.w) A (.builtin "all.loop" ⟨[.ref a], []⟩) R s := by
  intro n
  induction n with
  | zero =>
    intro s hg hl hb ⟨gs, hgs, hgo⟩
    have hgl : g < s.gens.size := (Array.getElem?_eq_some_iff.mp hgs).1
    refine codeAny_builtin F.entry_all_loop ?_
    rw [Around.under_plainId F.plain_all_loop _]
    show wpAny _ A.in1 (pyNext (.ref a) >>= _) _ _ s
    refine wpAny_bind (wpAny_gsz (n := g + 1) hgl (next_genG (Er := fun _ _ => False) (F := fun _ _ s1 => Off X fp s4 H4 QT s1) (Y := allY X fp s4 H4 false a g QF) (A := A.in1) hh hl hd hg hgs hgo (fun v s₁ gs' hbare hv => ?_) (fun s₁ hp h' hk => ?_) fun e s₁ he => he.elim))
    · intro hsz
      obtain ⟨hg1, hl1, hb1, c, rfl, hc1, hc2⟩ := hv
      cases c with
      | true => exact (hc1 rfl s₁ rfl hb1 fun _ _ e => e).elim
      | false =>
        refine wpAny_bind (wpAny_holding (wpAny_truthy_bool ?_))
        refine wpAny_bind (wpAny_letGo ?_)
        simp only [Bool.false_eq_true, if_false]
        refine wpAny_bind (wpAny_rule (wpAny_pure ?_))
        exact hF _ ((hc2 rfl).keeps rfl (allBare_setGen hb1 hbare) fun _ _ e => e)
    · intro hsz
      refine wpAny_bind (wpAny_rule (wpAny_pure ?_))
      obtain ⟨H', z1, z2, z3⟩ := id hp
      exact hT _ (hp.keeps rfl (allBare_setGen z2 rfl) hk)
  | succ n ih =>
    intro s hg hl hb ⟨gs, hgs, hgo⟩
    have hgl : g < s.gens.size := (Array.getElem?_eq_some_iff.mp hgs).1
    refine codeAny_builtin F.entry_all_loop ?_
    rw [Around.under_plainId F.plain_all_loop _]
    show wpAny _ A.in1 (pyNext (.ref a) >>= _) _ _ s
    refine wpAny_bind (wpAny_gsz (n := g + 1) hgl (next_genG (Er := fun _ _ => False) (F := fun _ _ s1 => Off X fp s4 H4 QT s1) (Y := allY X fp s4 H4 false a g QF) (A := A.in1) hh hl hd hg hgs hgo (fun v s₁ gs' hbare hv => ?_) (fun s₁ hp h' hk => ?_) fun e s₁ he => he.elim))
    · intro hsz
      obtain ⟨hg1, hl1, hb1, c, rfl, hc1, hc2⟩ := hv
      have hsz1 : g < s₁.gens.size := by
        have q : (s₁.setGen g gs').gens.size = s₁.gens.size := setGen_size _ _ _
        have hsz' : g + 1 ≤ (s₁.setGen g gs').gens.size := hsz
        omega
      refine wpAny_bind (wpAny_holding (wpAny_truthy_bool ?_))
      refine wpAny_bind (wpAny_letGo ?_)
      cases c with
      | true =>
        simp only [if_true]
        refine wpAny_pure ⟨plainId_quiet F.plain_all_loop _, ih (s₁.setGen g gs') hg1 hl1 (allBare_setGen hb1 hbare) ⟨gs', setGen_at hsz1, ?_⟩⟩
        exact hc1 rfl _ rfl (allBare_setGen (s := s₁.setGen g gs') (allBare_setGen hb1 hbare) rfl) fun _ _ e => e
      | false =>
        simp only [Bool.false_eq_true, if_false]
        refine wpAny_bind (wpAny_rule (wpAny_pure ?_))
        exact hF _ ((hc2 rfl).keeps rfl (allBare_setGen hb1 hbare) fun _ _ e => e)
    · intro hsz
      refine wpAny_bind (wpAny_rule (wpAny_pure ?_))
      obtain ⟨H', z1, z2, z3⟩ := id hp
      exact hT _ (hp.keeps rfl (allBare_setGen z2 rfl) hk)
/-- all(elt for tg in iter if ..): W by the turn and a measure, Nx what a turn is to reach -/
def tAllG (T : List (Addr × Str)) (wi : TI) (g : TG) (tt : TT) (te : TE) (vs : List Nat) : TE := fun σ H Q => wi σ H fun J H1 => LamX.Tabs T H1 ∧ ∀ H2, LamX.ExtN H1 H2 → LamX.Tabs T H2 → ∃ W : Nat → Nat → Hp → Prop, (∃ m, W 0 m H2) ∧ ∀ i m H, W i m H →
  (J.stop i H ∧ Q (.bl true) H) ∨ (J.go i H ∧ ∀ x H', J.yld i H x H' → g x (wipe σ vs) H' fun σ2 H2 => wipe σ2 vs = wipe σ vs ∧ tt σ2 H2 fun b H3 =>
    if b = true then te σ2 H3 fun y H4 => ∃ c, y = .bl c ∧ (c = true → ∃ m', m' < m ∧ W (i + 1) m' H4) ∧ (c = false → Q (.bl false) H4) else ∃ m', m' < m ∧ W (i + 1) m' H3)
theorem pe_allG {k : Nat} {T : List (Addr × Str)} {c P : Addr} {elt tg iter : Expr} {ifs : List Expr} {scope : Scope} {gpos pos p : Pos} {own : List (Str × Nat)} {wi : TI} {g : TG} {tt : TT} {te : TE} (hr : Room (k + 2) X.A) (hgl : Gl X "all") (hmg : X.mg "all" = none) (TB : LamX.TabB X.base X.mg c P) (hcode : X.env.code = .ref c)
    (hm : (P, X.env.qual ++ "<genexpr>") ∈ T) (hu : ∀ p ∈ T, p.1 = P → p.2 = X.env.qual ++ "<genexpr>") (ok : GxS X.N X.env.scope scope own) (hN : X.N.Nodup) (hi : PI X tg iter wi) (hs : ∀ v, genFold iter X.env v = pure v)
    (hg : ∀ (A : Around) (s : Shared) (H : Hp) (C : Addr) (cl : List (Str × Addr)) (code : Value) (fp : List Addr) (pn : List (Addr × Obj)), PG (gCx X A s H (genEnv scope cl C code builtinsNs X.env) fp pn) tg g)
    (ht : ∀ (A : Around) (s : Shared) (H : Hp) (C : Addr) (cl : List (Str × Addr)) (code : Value) (fp : List Addr) (pn : List (Addr × Obj)), Room k (A.deeper (genEnv scope cl C code builtinsNs X.env)) → PTs (gCx X A s H (genEnv scope cl C code builtinsNs X.env) fp pn) ifs tt)
    (he : ∀ (A : Around) (s : Shared) (H : Hp) (C : Addr) (cl : List (Str × Addr)) (code : Value) (fp : List Addr) (pn : List (Addr × Obj)), Room k (A.deeper (genEnv scope cl C code builtinsNs X.env)) → PE (gCx X A s H (genEnv scope cl C code builtinsNs X.env) fp pn) elt te)
    (hb : bootBuiltins "all" = some (.builtin "all") := by rfl)
    (hst : starEach [.GeneratorExp elt [⟨tg, iter, ifs, 0⟩] scope gpos] X.env = (false, eval (.GeneratorExp elt [⟨tg, iter, ifs, 0⟩] scope gpos) X.env) :: starEach [] X.env := by rfl) :
    PE X (.Call (.Name "all" p) [.GeneratorExp elt [⟨tg, iter, ifs, 0⟩] scope gpos] [] pos) (tAllG T wi g tt te (own.map (·.2))) := by
  refine ⟨fun pins s σ H Q I h => ?_⟩
  refine wpAny_Call_Name_kw (ld_blt I hgl hmg hb ?_)
  refine PyProof.Rows.callWith_builtin1 ?_ hst (by rfl)
  rw [hst]
  show wpAny _ _ (spliced ((false, eval (.GeneratorExp elt [⟨tg, iter, ifs, 0⟩] scope gpos) X.env) :: backTo pos (starEach [] X.env))) _ _ s
  refine Calls.spliced_cons (gen_make (by have := hr.dp; omega) TB hcode hm hu ok hi hs I h fun s4 H4 code J fp it tn a t1 t2 s5 M ⟨W, ⟨m0, w0⟩, turn⟩ => ?_)
  refine Calls.spliced_nil ?_
  refine call_function_tree F.kind_all F.plain_all F.entry_all (F.args_all1 _) ?_
  unfold Builtin.«all»
  refine wpAny_bind (m := oneArg "all" _) (wpAny_pure ?_)
  have hgen : s5.heap.IsGen a s4.gens.size := genObj_at M.obj
  have hb5 : AllBare s5.gens := by rw [M.gens]; exact M.inv.bare.push rfl
  have hl5 : s5.heap.NoLimit := M.inv.nolimit.keeps M.keep
  refine wpAny_bind (wpAny_pyIter_gen hgen ?_)
  have hra : Room (k + 1) X.A.in1.in1 := ⟨hr.hd, by have := hr.dp; show X.A.depth + 3 * (k + 1) + 5 < _; omega, by have := hr.un; show X.A.units + 1 + 1 + 16 * (k + 1) + 200 < _; omega⟩
  generalize hce : genEnv scope (cloFrom X.env.cells scope.names []) s4.heap.objs.size code builtinsNs X.env = ce
  have cs : ce.scope = scope := by rw [← hce]; rfl
  have E : Eats (gCx X X.A.in1.in1 s4 H4 ce fp [(a, genObj s4.gens.size (X.env.qual ++ "<genexpr>") t1 t2)]) fp J (wipe σ (own.map (·.2))) (own.map (·.2)) g tt te (fun i m _ H => W i m H) (fun ip _ => ip = []) (fun n m _ => m < n) (fun _ H => Q (.bl true) H)
      (fun i m _ y H => ∃ c, y = .bl c ∧ (c = true → ∃ m', m' < m ∧ W (i + 1) m' H) ∧ (c = false → Q (.bl false) H)) (allE X fp s4 H4 fun H => Q (.bl true) H) (allY X fp s4 H4 false a s4.gens.size fun H => Q (.bl false) H) := by
    have off : ∀ {ip : List (Addr × Obj)} {σ' : L2.St} {H' : Hp} {s' : Shared} {R : Hp → Prop}, Inv (gCx X X.A.in1.in1 s4 H4 ce fp [(a, genObj s4.gens.size (X.env.qual ++ "<genexpr>") t1 t2)]) ip σ' H' s' → R H' → Off X fp s4 H4 R s' := fun I' r => ⟨_, I'.os, I'.bare, I'.base, I'.hok, r⟩
    refine ⟨fun ip ys h p hp => ?_, fun n m s₀ ys ip H' s' _ _ I' q => .inl ⟨.inr rfl, off I' q⟩, fun n m i ys y H' hj _ => ⟨n - 1, by omega⟩, fun n m m' ys h1 h2 => by omega, fun n m i s₀ ys ip σ' H' s' y v kap hj hk I' rv yc w => ?_, fun i m ys H hw => turn i m H hw⟩
    · rw [h] at hp
      cases hp
    · obtain ⟨c, rfl, c1, c2⟩ := yc
      obtain rfl : v = .bool c := rv
      subst hk
      refine ⟨genObj_at (I'.pin (a, _) (List.mem_append_left _ (List.mem_singleton.mpr rfl))).1, I'.nolimit, I'.bare, c, rfl, fun hc s2 ho hb2 hk2 => ?_, fun hc => off I' (c2 hc)⟩
      obtain ⟨m', hm', w'⟩ := c1 hc
      exact w [] m' s2 hm' w' (by omega) rfl (I'.call' (ch := []) ho (Un.kept hk2) (I'.hok.kept hk2) hb2 fun b z => by simp at z) fun b _ o e => hk2 b o e
  have hgs : s5.gens[s4.gens.size]? = some (.fresh (.compStart (.GeneratorExp elt [⟨tg, iter, ifs, 0⟩] scope gpos) 0 (.ref it) .none ce)) := by rw [M.gens, ← hce]; exact Array.getElem?_push_size ..
  have pg := hg X.A.in1.in1 s4 H4 s4.heap.objs.size (cloFrom X.env.cells scope.names []) code fp [(a, genObj s4.gens.size (X.env.qual ++ "<genexpr>") t1 t2)]
  have pt := ht X.A.in1.in1 s4 H4 s4.heap.objs.size (cloFrom X.env.cells scope.names []) code fp [(a, genObj s4.gens.size (X.env.qual ++ "<genexpr>") t1 t2)] (hra.deeper _)
  have pe := he X.A.in1.in1 s4 H4 s4.heap.objs.size (cloFrom X.env.cells scope.names []) code fp [(a, genObj s4.gens.size (X.env.qual ++ "<genexpr>") t1 t2)] (hra.deeper _)
  have I6 := M.inv' (s6 := s5.setGen s4.gens.size .running) (A := X.A.in1.in1) ok hN hr.hd M.inv.ok.frames (fun _ _ e => e) rfl (allBare_setGen hb5 rfl)
  rw [hce] at pg pt pe I6
  refine wpAny_pure ⟨plainId_quiet F.plain_all_loop _, all_loop (X := X) (QT := fun H => Q (.bl true) H) (QF := fun H => Q (.bl false) H) (fp := fp) (s4 := s4) (H4 := H4) hr.hd (by have := hr.dp; show X.A.depth < _; omega) (fun s' o => ?_) (fun s' o => ?_) (m0 + 1) s5 hgen hl5 hb5 ⟨_, hgs, rfl, ?_⟩⟩
  · obtain ⟨H', I', q⟩ := o.back M
    exact ⟨.bl true, H', I', rfl, q⟩
  · obtain ⟨H', I', q⟩ := o.back M
    exact ⟨.bl false, H', I', rfl, q⟩
  · exact seg_gx0 E M.turn pg pt pe (by rw [cs]; exact ok.co) (fun p hp z => by
      rw [List.mem_singleton.mp hp] at z
      exact absurd (M.fp _ z).2 (Nat.not_lt.mpr (Nat.le_of_lt M.lt))) m0 (m0 + 1) _ _ H4 [] (Nat.lt_succ_self _) w0 rfl I6 (M.turn.keep _ _ _ M.st fun b _ o e => M.keep b o e) fun b hb => (M.fp b hb).1.1
end
end GX
namespace GX
open PySem PySem.Spec PyProof.Rows L2 GenW
section
variable {X : Cx} {pins : List (Addr × Obj)} {σ : L2.St} {H : Hp} {s : Shared}
/-- (elt for tg in iter if ..), all of which will be taken: W by the turn, a measure and what is out -/
def tGx (T : List (Addr × Str)) (wi : TI) (g : TG) (tt : TT) (te : TE) (vs : List Nat) : TGen := fun σ H cont => wi σ H fun J H1 => LamX.Tabs T H1 ∧ ∀ H2, LamX.ExtN H1 H2 → LamX.Tabs T H2 → ∃ W : Nat → Nat → List V → Hp → Prop, (∃ m, W 0 m [] H2) ∧ ∀ i m ys H, W i m ys H →
  (J.stop i H ∧ cont ys H) ∨ (J.go i H ∧ ∀ x H', J.yld i H x H' → g x (wipe σ vs) H' fun σ2 H2 => wipe σ2 vs = wipe σ vs ∧ tt σ2 H2 fun b H3 =>
    if b = true then te σ2 H3 fun y H4 => ys.length < sizeLine ∧ ∃ m', m' < m ∧ W (i + 1) m' (ys ++ [y]) H4 else ∃ m', m' < m ∧ W (i + 1) m' ys H3)
theorem pgen_gx {k : Nat} {T : List (Addr × Str)} {c P : Addr} {elt tg iter : Expr} {ifs : List Expr} {scope : Scope} {gpos : Pos} {own : List (Str × Nat)} {wi : TI} {g : TG} {tt : TT} {te : TE} {E : XK} (hr : Room (k + 1) X.A) (TB : LamX.TabB X.base X.mg c P) (hcode : X.env.code = .ref c)
    (hm : (P, X.env.qual ++ "<genexpr>") ∈ T) (hu : ∀ p ∈ T, p.1 = P → p.2 = X.env.qual ++ "<genexpr>") (ok : GxS X.N X.env.scope scope own) (hN : X.N.Nodup) (hi : PI X tg iter wi) (hs : ∀ v, genFold iter X.env v = pure v)
    (hg : ∀ (A : Around) (s : Shared) (H : Hp) (C : Addr) (cl : List (Str × Addr)) (code : Value) (fp : List Addr) (pn : List (Addr × Obj)), PG (gCx X A s H (genEnv scope cl C code builtinsNs X.env) fp pn) tg g)
    (ht : ∀ (A : Around) (s : Shared) (H : Hp) (C : Addr) (cl : List (Str × Addr)) (code : Value) (fp : List Addr) (pn : List (Addr × Obj)), Room k (A.deeper (genEnv scope cl C code builtinsNs X.env)) → PTs (gCx X A s H (genEnv scope cl C code builtinsNs X.env) fp pn) ifs tt)
    (he : ∀ (A : Around) (s : Shared) (H : Hp) (C : Addr) (cl : List (Str × Addr)) (code : Value) (fp : List Addr) (pn : List (Addr × Obj)), Room k (A.deeper (genEnv scope cl C code builtinsNs X.env)) → PE (gCx X A s H (genEnv scope cl C code builtinsNs X.env) fp pn) elt te) :
    PGen X (k + 1) (.GeneratorExp elt [⟨tg, iter, ifs, 0⟩] scope gpos) (tGx T wi g tt te (own.map (·.2))) E := by
  refine ⟨fun pins s σ H cont I h => ?_⟩
  refine gen_make (by have := hr.dp; omega) TB hcode hm hu ok hi hs I h fun s4 H4 code J fp it tn a t1 t2 s5 M ⟨W, ⟨m0, w0⟩, turn⟩ => ?_
  have hgen : s5.heap.IsGen a s4.gens.size := genObj_at M.obj
  have hb5 : AllBare s5.gens := by rw [M.gens]; exact M.inv.bare.push rfl
  have hl5 : s5.heap.NoLimit := M.inv.nolimit.keeps M.keep
  refine ⟨H4, s4, fp, M.inv, fun b hb => let f := (M.fp b hb).1; ⟨f.2.2.2.1, f.2.1, f.2.2.2.2.1, f.2.2.2.2.2⟩, a, s4.gens.size, .compStart (.GeneratorExp elt [⟨tg, iter, ifs, 0⟩] scope gpos) 0 (.ref it) .none (genEnv scope (cloFrom X.env.cells scope.names []) s4.heap.objs.size code builtinsNs X.env), rfl, Nat.le_of_lt M.lt, M.lt', hgen, by rw [M.gens]; exact Array.getElem?_push_size .., M.os, hb5, hl5, M.keep, fun A S s2 hrA hfr hS hk2 hSo hos hb2 => ?_⟩
  obtain ⟨cS, hSe⟩ := hSo
  have pg := hg A s4 H4 s4.heap.objs.size (cloFrom X.env.cells scope.names []) code fp [(a, genObj s4.gens.size (X.env.qual ++ "<genexpr>") t1 t2)]
  have pt := ht A s4 H4 s4.heap.objs.size (cloFrom X.env.cells scope.names []) code fp [(a, genObj s4.gens.size (X.env.qual ++ "<genexpr>") t1 t2)] (hrA.deeper _)
  have pe := he A s4 H4 s4.heap.objs.size (cloFrom X.env.cells scope.names []) code fp [(a, genObj s4.gens.size (X.env.qual ++ "<genexpr>") t1 t2)] (hrA.deeper _)
  have I6 := M.inv' (s6 := s2) (A := A) ok hN hrA.hd hfr hk2 (hos.trans M.os.symm) hb2
  generalize hce : genEnv scope (cloFrom X.env.cells scope.names []) s4.heap.objs.size code builtinsNs X.env = ce at pg pt pe I6 ⊢
  have cs : ce.scope = scope := by rw [← hce]; rfl
  have cl : ce.locals = s4.heap.objs.size := by rw [← hce]; rfl
  have hSa : a < S := Nat.lt_of_lt_of_le M.lt' hS
  have hS4 : s4.heap.objs.size < S := Nat.lt_trans M.lt hSa
  have hSn : ∀ {ip : List (Addr × Obj)} {σ' : L2.St} {H' : Hp} {s' : Shared}, Inv (gCx X A s4 H4 ce fp [(a, genObj s4.gens.size (X.env.qual ++ "<genexpr>") t1 t2)]) ip σ' H' s' → True := fun _ => trivial
  have hSst : S ∉ frs X.stack := fun z => by
    rcases List.mem_cons.mp (M.inv.stkSub _ z) with e | e
    · have h1 := M.inv.lt
      rw [← e] at h1
      exact Nat.lt_irrefl _ (Nat.lt_trans h1 hS4)
    · exact M.inv.nofs (Nat.le_of_lt hS4) e
  have I7 : Inv (gCx X A s4 H4 ce fp [(a, genObj s4.gens.size (X.env.qual ++ "<genexpr>") t1 t2)]) [(S, lstObj #[] cS)] (wipe σ (own.map (·.2))) H4 s2 := I6.pins_of fun p hp => by
    rw [List.mem_singleton.mp hp]
    exact ⟨hSe, M.inv.hok.fresh (Nat.le_of_lt hS4), by show S ≠ ce.locals; rw [cl]; exact Nat.ne_of_gt hS4, hSst, fun v q => by cases q⟩
  have hcells : ∀ x c, ce.cells.lookup x = some c → c ≠ S := fun x c e z => by
    obtain ⟨v, q⟩ := I6.cell x c e
    have I6b := I6.freeC x c e
    have e2 : (cloFrom X.env.cells scope.names []).lookup x = some c := by rw [← hce] at e; exact e
    rcases cloFrom_mem (PySem.mem_of_lookup e2) with hm | ⟨h1, h2⟩
    · cases hm
    · have h3 : ∃ c1, X.env.cells.lookup x = some c1 := by
        rcases ok.free _ h1 rfl with k | k
        · exact M.inv.ok.has _ (.inl k)
        · exact M.inv.ok.has _ (.inr k)
      obtain ⟨c1, hc1⟩ := h3
      rw [hc1] at h2
      have h4 : c = c1 := h2
      obtain ⟨v1, q1⟩ := M.inv.cell x c1 hc1
      have := q1.lt
      rw [← h4, z] at this
      exact Nat.lt_irrefl _ (Nat.lt_trans this hS4)
  have hAp : Apart (gCx X A s4 H4 ce fp [(a, genObj s4.gens.size (X.env.qual ++ "<genexpr>") t1 t2)]) S := ⟨Nat.le_of_lt hS4, by show S ≠ ce.locals; rw [cl]; exact Nat.ne_of_gt hS4, hcells⟩
  have hSfp : S ∉ fp := fun z => Nat.lt_irrefl _ (Nat.lt_trans (M.fp S z).2 hS4)
  have E : Eats (gCx X A s4 H4 ce fp [(a, genObj s4.gens.size (X.env.qual ++ "<genexpr>") t1 t2)]) fp J (wipe σ (own.map (·.2))) (own.map (·.2)) g tt te W (fun ip ys => ∃ acc c, Vals ys acc.toList ∧ ip = [(S, lstObj acc c)]) (fun n _ ys => n + ys.length = sizeLine) cont
      (fun i m ys y H => ys.length < sizeLine ∧ ∃ m', m' < m ∧ W (i + 1) m' (ys ++ [y]) H) (REnd X.prog X.w X.stack H4 s4 fp S a s4.gens.size cont E) (YItem s4 S a s4.gens.size) := by
    refine ⟨fun ip ys h p hp => ?_, fun n m s₀ ys ip H' s' hj hk I' q => ?_, fun n m i ys y H' hj hy => ⟨n - 1, ?_⟩, fun n m m' ys h1 h2 => h2, fun n m i s₀ ys ip σ' H' s' y v kap hj hk I' rv yc w => ?_, fun i m ys H hw => turn i m ys H hw⟩
    · obtain ⟨acc, c, _, rfl⟩ := h
      rw [List.mem_singleton.mp hp]
      exact hSfp
    · obtain ⟨acc, c, hv, rfl⟩ := hk
      obtain ⟨p1, p2, _⟩ := I'.pin (S, lstObj acc c) (List.mem_append_right _ (List.mem_singleton.mpr rfl))
      exact .inl ⟨.inr rfl, H', ys, acc, c, I'.os, I'.bare, I'.base, I'.hok, p2, p1, hv, by omega, q⟩
    · have := hy.1
      have hj : n + ys.length = sizeLine := hj
      omega
    · obtain ⟨acc, c, hv, rfl⟩ := hk
      obtain ⟨p1, p2, _⟩ := I'.pin (S, lstObj acc c) (List.mem_append_right _ (List.mem_singleton.mpr rfl))
      obtain ⟨_, m', hm', w'⟩ := yc
      have hj : n + 1 + ys.length = sizeLine := hj
      have hsz : acc.size = ys.length := by
        have e1 := hv.length
        have e2 : acc.toList.length = acc.size := by simp
        omega
      refine ⟨I'.os, I'.bare, I'.nolimit, genObj_at (I'.pin (a, _) (List.mem_append_left _ (List.mem_singleton.mpr rfl))).1, ⟨acc, c, p1, by rw [hsz]; exact hj⟩, fun s3 sl => ?_⟩
      obtain ⟨acc', c', hv', I3⟩ := GI.woken (ip := []) (fun p hp => by rw [List.mem_singleton.mp hp]; exact Nat.ne_of_lt hSa) (fun p hp => by cases hp) hAp (⟨acc, c, hv, I'⟩ : GI _ S [] ys σ' H' s') rv sl
      exact w [(S, lstObj acc' c')] m' s3 hm' w' (by show n + (ys ++ [y]).length = sizeLine; rw [List.length_append]; simp; omega) ⟨acc', c', hv', rfl⟩ I3 fun b hb o e => sl.keep b o (fun z => hSfp (by rw [← z]; exact hb)) e
  exact seg_gx0 E M.turn pg pt pe (by rw [cs]; exact ok.co) (fun p hp z => by
      rw [List.mem_singleton.mp hp] at z
      exact absurd (M.fp _ z).2 (Nat.not_lt.mpr (Nat.le_of_lt M.lt))) m0 sizeLine _ _ H4 _ (by show sizeLine + 0 = sizeLine; omega) w0 ⟨#[], cS, .nil, rfl⟩ I7 (M.turn.keep _ _ _ M.st fun b _ o e => hk2 b o (M.keep b o e)) fun b hb => (M.fp b hb).1.1
end
end GX
namespace GX
open PySem PySem.Spec PyProof.Rows L2 GenW
section
variable {P : Program} {w : World} {outer : List Env} {H : Hp} {sc s : Shared} {ex : List Addr} {Q : List V → Hp → Prop} {EX : XK} {A : Around} {k : Nat} {u : Value} {E : Value → Shared → Prop}
theorem noCX (hx : ∀ cls d H, ¬ EX cls d H) {e : Value} {s' : Shared} (c : CX P w outer H sc EX e s') : False := by
  obtain ⟨a, B, H', cls, d, _, _, _, _, _, _, _, hW⟩ := c
  exact hx cls d H' hW
/-- all that the generator gives, in a list of the consumer's own -/
theorem collectG {Q' : List Value → Shared → Prop} (hx : ∀ cls d H, ¬ EX cls d H) (hr : Room (k + 2) A) (hfr : A.frames = some outer) (h : GMade P w k outer H sc ex Q EX u s)
    (hQ : ∀ (s' : Shared) (acc : Array Value) (H' : Hp) (ys : List V), Vals ys acc.toList → ys.length ≤ sizeLine → s'.os = sc.os → AllBare s'.gens → Un (frs outer) ex H H' sc.heap s'.heap → HOk P w H' s'.heap → Q ys H' → Q' acc.toList s') :
    wpAny (model P w) A (collect u) Q' E s := by
  obtain ⟨a, g, c, rfl, ha1, ha2, hg, hgs, hos, hb, hl, hkp, wake⟩ := h
  have hSa : s.heap.objs.size ≠ a := Nat.ne_of_gt ha2
  have hcl : cStatics < s.heap.objs.size := let ⟨_, hn, _⟩ := hl; hn.lt
  have hSc : s.heap.objs.size ≠ cStatics := Nat.ne_of_gt hcl
  unfold collect
  refine wpAny_bind (wpAny_runValue (codeAny_builtin F.entry_proto_collect ?_))
  rw [Around.under_plainId F.plain_proto_collect _]
  show wpAny _ A.in1 (newList [] >>= fun l => again (.builtin "list.__iadd__" ⟨[l, .ref a], []⟩)) _ _ s
  refine wpAny_bind (wpAny_newObj_type ?_)
  refine wpAny_pure ⟨plainId_quiet F.plain_list_iadd _, codeAny_builtin F.entry_list_iadd ?_⟩
  rw [Around.under_plainId F.plain_list_iadd _]
  have up : ∀ (h : Heap) (f : Obj → Obj), (∀ b o, s.heap.get? b = some o → h.get? b = some o) → ∀ b o, s.heap.get? b = some o → (h.update s.heap.objs.size f).get? b = some o := fun h f q b o e =>
    (Heap.get?_update_other _ _ (Ne.symm (Nat.ne_of_lt (Heap.lt_size e)))).trans (q b o e)
  have k1 : ∀ b o, s.heap.get? b = some o → (s.heap.push { cls := .type "list", data := .seq ([] : List Value).toArray }).get? b = some o := fun b o e => Heap.get?_push_of_some _ e
  have gty : ∀ {h : Heap}, (∀ b o, s.heap.get? b = some o → h.get? b = some o) → h.IsGen a g := fun {h} q => hg.keeps q
  show wpAny _ A.in1 (Builtin.List.listExtendWith (.ref s.heap.objs.size) (.ref a) (.ref s.heap.objs.size)) _ _ _
  unfold Builtin.List.listExtendWith
  refine wpAny_bind (wpAny_typeOf (Heap.IsGen.typeIs (s := { s with heap := _ }) (gty k1)) ?_)
  have h1 : Builtin.List.listSameRef (.ref s.heap.objs.size) (.ref a) = false := by simp [Builtin.List.listSameRef, hSa]
  have h2 : (Value.type "generator" == Value.type "list") = false := by decide
  have h3 : (Value.type "generator" == Value.type "tuple") = false := by decide
  simp only [h1, h2, h3, Bool.or_false, Bool.false_eq_true, if_false]
  refine wpAny_bind (wpAny_pyIter_gen (s := { s with heap := _ }) (gty k1) ?_)
  refine wpAny_bind (wpAny_holding ?_)
  unfold Builtin.List.listLengthHint
  refine wpAny_bind (wpAny_specialOf (Heap.IsGen.typeIs (s := { s with heap := _ }) (gty k1)) F.gen_no_len ?_)
  show wpAny _ A.in1 (specialOf (Value.ref a) (Str.ofString "__length_hint__") >>= _) _ _ _
  refine wpAny_bind (wpAny_specialOf (Heap.IsGen.typeIs (s := { s with heap := _ }) (gty k1)) F.gen_no_hint ?_)
  refine wpAny_pure ?_
  show wpAny _ A.in1 (rule "list.extend.makes-room" >>= fun _ => Builtin.List.listTouch (.ref s.heap.objs.size) >>= fun _ =>
    again (.builtin "list.extend.loop" ⟨[.ref s.heap.objs.size, .ref a, .ref s.heap.objs.size], []⟩)) _ _ _
  refine wpAny_bind (wpAny_rule ?_)
  have hS1 : (s.heap.push { cls := .type "list", data := .seq ([] : List Value).toArray }).get? s.heap.objs.size = some { cls := .type "list", data := .seq ([] : List Value).toArray } := Heap.get?_push_size _ rfl
  refine wpAny_bind ?_
  show wpAny _ A.in1 (updateSeq s.heap.objs.size (·.push .none) >>= fun _ => updateSeq s.heap.objs.size (·.pop)) _ _ _
  refine wpAny_bind (wpAny_updateSeq hS1 rfl ?_)
  have hS2 := Heap.get?_update_self (Obj.mapSeq (·.push Value.none)) hS1 rfl
  refine wpAny_updateSeq (hz := by seq_fits) hS2 rfl ?_
  have hS3 := Heap.get?_update_self (Obj.mapSeq (·.pop)) hS2 rfl
  have k4 := up _ (Obj.mapSeq (·.pop)) (up _ (Obj.mapSeq (·.push Value.none)) k1)
  refine wpAny_pure ⟨plainId_quiet F.plain_extend_loop _, ?_⟩
  refine drain (P := P) (w := w) (outer := outer) (H := H) (sc := sc) (ex := ex) (Q := Q) (EX := EX) (A := A) (g := g) hr.hd (by have := hr.dp; show A.depth < _; omega) hSa hSc
    (fun s' acc c H' ys q1 q2 q3 q4 q5 q6 q7 q8 q9 => ?_) (fun e s' hc => (noCX hx hc).elim)
    sizeLine _ (gty k4) (hl.keeps k4) ⟨_, hgs, rfl, ?_⟩
  · show wpAny _ A (load s.heap.objs.size >>= _) _ _ s'
    refine wpAny_bind (wpAny_load q1 ?_)
    exact wpAny_pure (hQ s' acc H' ys q2 q3 q4 q5 q6 q7 q9)
  · refine wake _ _ _ ⟨hr.hd, ?_, ?_⟩ hfr (Nat.le_refl _) k4 ⟨_, hS3⟩ hos (allBare_setGen (s := { s with heap := _ }) hb rfl)
    · have := hr.dp
      show A.depth + 3 * k + 5 < _
      omega
    · have := hr.un
      show A.units + 1 + 1 + 16 * k + 200 < _
      omega
theorem tuple_newG {Q1 : Value → Shared → Prop} (hx : ∀ cls d H, ¬ EX cls d H) (hr : Room (k + 3) A) (hfr : A.frames = some outer) (h : GMade P w k outer H sc ex Q EX u s)
    (hQ : ∀ (s' : Shared) (acc : Array Value) (H' : Hp) (ys : List V), Vals ys acc.toList → ys.length ≤ sizeLine → s'.os = sc.os → AllBare s'.gens → Un (frs outer) ex H H' sc.heap s'.heap → HOk P w H' s'.heap → Q ys H' → Q1 (.ref s'.heap.objs.size) { s' with heap := s'.heap.push { cls := .type "tuple", data := .seq acc } }) :
    codeAny (model P w) A (.call (.builtin "tuple.__new__") ⟨[.type "tuple", u], []⟩) (wants Q1 E) s := by
  have hh := h
  obtain ⟨a, g, c, rfl, ha1, ha2, hg, hgs, hos, hb, hl, hkp, wake⟩ := h
  refine codeAny_of_tree ?_
  show wpAny _ A.in1 (do checkBuiltinCall "tuple.__new__" ⟨[.type "tuple", .ref a], []⟩; again (.builtin "tuple.__new__" ⟨[.type "tuple", .ref a], []⟩)) _ _ s
  refine wpAny_bind (wpAny_of_eq (F.newCall_tuple_1 _) (wpAny_pure ⟨plainId_quiet F.plain_tuple_new _, codeAny_builtin F.entry_tuple_new ?_⟩))
  rw [Around.under_plainId F.plain_tuple_new _]
  have hsub := sub_tuple_self
  have hinit := init_tuple_lookup
  have hmh := madeHere_tuple
  have hTI : s.TypeIs (.ref a) "generator" := Heap.IsGen.typeIs hg
  have hr1 : Room (k + 2) A.in1 := ⟨hr.hd, by have := hr.dp; show A.depth + 3 * (k + 2) + 5 < _; omega, by have := hr.un; show A.units + 1 + 16 * (k + 2) + 200 < _; omega⟩
  wp_walk using wpAny_typeOf hTI, collectG (A := A.in1) hx hr1 hfr hh
  intro s' acc H' ys q1 q2 q3 q4 q5 q6 q7
  show wpAny _ _ (Builtin.Tuple.tupleExact acc.toList.toArray >>= fun v => ret v) _ _ _
  unfold Builtin.Tuple.tupleExact
  have hsz : acc.size ≤ sizeLine := by
    have e1 := q1.length
    have e2 : acc.toList.length = acc.size := by simp
    omega
  refine wpAny_bind (wpAny_newObj_type ?_ (by show acc.toList.toArray.size ≤ sizeLine; simp only [Array.toArray_toList]; exact hsz))
  refine wpAny_pure ?_
  have e : acc.toList.toArray = acc := by simp
  rw [e]
  exact hQ s' acc H' ys q1 q2 q3 q4 q5 q6 q7
theorem call_tupleG {Q' : Value → Shared → Prop} (hx : ∀ cls d H, ¬ EX cls d H) (hr : Room (k + 4) A) (hfr : A.frames = some outer) (h : GMade P w k outer H sc ex Q EX u s)
    (hQ : ∀ (s' : Shared) (acc : Array Value) (H' : Hp) (ys : List V), Vals ys acc.toList → ys.length ≤ sizeLine → s'.os = sc.os → AllBare s'.gens → Un (frs outer) ex H H' sc.heap s'.heap → HOk P w H' s'.heap → Q ys H' → Q' (.ref s'.heap.objs.size) { s' with heap := s'.heap.push { cls := .type "tuple", data := .seq acc } }) :
    wpAny (model P w) A (call (.type "tuple") [u]) Q' E s := by
  have hr1 : Room (k + 3) A.in1 := ⟨hr.hd, by have := hr.dp; show A.depth + 3 * (k + 3) + 5 < _; omega, by have := hr.un; show A.units + 1 + 16 * (k + 3) + 200 < _; omega⟩
  have hu : ∃ a, u = .ref a := by
    obtain ⟨a, g, c, rfl, _⟩ := h
    exact ⟨a, rfl⟩
  obtain ⟨a, rfl⟩ := hu
  refine callType_codes (Q₁ := fun obj s₁ => s₁.TypeIs obj "tuple" ∧ Q' obj s₁) F.called_tuple (F.typeCall_tuple_1 _) F.entry_object_init
    (tuple_newG (A := A.in1) hx hr1 hfr h fun s' acc H' ys q1 q2 q3 q4 q5 q6 q7 => ⟨⟨_, Heap.get?_push_size _ rfl, rfl⟩, hQ s' acc H' ys q1 q2 q3 q4 q5 q6 q7⟩) fun obj s₁ h₁ => ?_
  exact ⟨h₁.1, F.args_object_init_2 obj _, object_init_meets F.called_tuple.init.lookup F.called_tuple.made (by decide) P w A.in1 _ s₁ ⟨h₁.1, rfl, h₁.2⟩⟩
end
section
variable {X : Cx}
def tTupG (tg : TGen) : TE := fun σ H Q => tg σ H fun out H2 => ∀ p, H2 p = none → Q (.ref p) (upd H2 p (.tup out))
/-- tuple(g) -/
theorem pe_tupG {k : Nat} {e : Expr} {tg : TGen} {p pos : Pos} (h : PGen X k e tg (fun _ _ _ => False)) (hr : Room (k + 4) X.A) (hg : Gl X "tuple") (hm : X.mg "tuple" = none) (na : starEach [e] X.env = (false, eval e X.env) :: starEach [] X.env := by rfl) :
    PE X (.Call (.Name "tuple" p) [e] [] pos) (tTupG tg) := by
  refine ⟨fun pins s σ H Q I hq => ?_⟩
  refine Call_ (ld_blt I hg hm boot_tuple (PyProof.Rows.callWith_type1 ?_ na))
  refine args_cons (thn (h.run pins s σ H _ I hq) fun u s1 ⟨H1, sc, ex, I1, hex, hG⟩ => args_nil ?_) na
  refine call_tupleG (fun _ _ _ z => z) hr I1.ok.frames hG fun s' acc H' ys q1 q2 q3 q4 q5 q6 q7 => ?_
  have I2 : Inv X pins σ H' s' := I1.call' (ch := ex) q3 q5 q6 q4 hex
  have I3 : Inv X pins σ (upd H' s'.heap.objs.size (.tup ys)) { s' with heap := s'.heap.push { cls := .type "tuple", data := .seq acc } } :=
    I2.laid (t' := s'.toks) (fun b o e => Heap.get?_push_of_some _ e) (Nat.le_refl _) (show ObjOk X.prog X.w _ _ _ (.tup ys) from ⟨q2, acc.toList, q1, by have := IsTup.new s'.heap acc.toList.toArray; simpa using this⟩)
  exact ⟨.ref s'.heap.objs.size, _, I3, rfl, q7 _ (I2.hok.fresh (Nat.le_refl _))⟩
end
end GX
namespace GX
open PySem PySem.Spec PyProof.Rows L2 GenW
theorem over_in {A : Around} {elt : Expr} {gs : List Comprehension} {scope : Scope} {pos : Pos} {it acc it1 acc1 : Value} {env : Env} {k : Result → Sem PySem.Fin} {g : Bool} {l : List Value} {p : Pos} {kp : List _} : A.over (.compLoop (.GeneratorExp elt gs scope pos) 1 it1 acc1 env) [.ret k none g l (.compLoop (.GeneratorExp elt gs scope pos) 0 it acc env) p kp] = A.deeper env := by
  first
    | rfl
    | (obtain ⟨hd, d, fr, gs, u⟩ := A; simp [Around.over, Around.deeper, marksOver, frameCount, unitsOf, envsOf, guardsOf, pushEnvs, pushGuards, Code.envs, Code.env?, Code.isFrame, Code.guards, Code.isGuard, Code.weight, Code.frames, Code.isCreation, Code.cUnits, Frame.where_])
end GX
namespace GX
open PySem PySem.Spec PyProof.Rows L2 GenW
theorem compTurn_gen2_out (elt t0 i0 t1 i1 : Expr) (ifs0 ifs1 : List Expr) (scope : Scope) (pos : Pos) (it acc : Value) (env : Env) :
    compTurn (.GeneratorExp elt [⟨t0, i0, ifs0, 0⟩, ⟨t1, i1, ifs1, 0⟩] scope pos) 0 it acc env = (do
      standAt i0.pos
      match ← pyNext it with
      | none => pure (.done .next)
      | some v =>
        letOwnedTupleGo t0 it v
        assign t0 env v
        let mut ok := true
        for c in ifs0 do
          if ok then ok ← isTrue c env (eval c env)
        if ok then
          let x ← eval i1 env
          standAt i1.pos
          let x ← foldedSetIterable i1 env x
          let _ ← runOwn (.compStart (.GeneratorExp elt [⟨t0, i0, ifs0, 0⟩, ⟨t1, i1, ifs1, 0⟩] scope pos) 1 (← holding [x] (pyIter x)) acc env) env
        again (.compLoop (.GeneratorExp elt [⟨t0, i0, ifs0, 0⟩, ⟨t1, i1, ifs1, 0⟩] scope pos) 0 it acc env)) := by rfl
theorem compTurn_gen2_in (elt t0 i0 t1 i1 : Expr) (ifs0 ifs1 : List Expr) (scope : Scope) (pos : Pos) (it acc : Value) (env : Env) :
    compTurn (.GeneratorExp elt [⟨t0, i0, ifs0, 0⟩, ⟨t1, i1, ifs1, 0⟩] scope pos) 1 it acc env = (do
      standAt i1.pos
      match ← pyNext it with
      | none => pure (.done .next)
      | some v =>
        letOwnedTupleGo t1 it v
        assign t1 env v
        let mut ok := true
        for c in ifs1 do
          if ok then ok ← isTrue c env (eval c env)
        if ok then
          (do let v ← eval elt env; standAt elt.pos; let _ ← yieldOut env v)
        again (.compLoop (.GeneratorExp elt [⟨t0, i0, ifs0, 0⟩, ⟨t1, i1, ifs1, 0⟩] scope pos) 1 it acc env)) := by rfl
theorem seg_bi {M : Model} {A : Around} {R : GenEnd} {Y : Protocol} {n : Nat} {s₀ : Shared} {elt : Expr} {gs : List Comprehension} {scope : Scope} {pos : Pos} {it acc it1 acc1 : Value} {env : Env} {k : Result → Sem PySem.Fin} {g : Bool} {l : List Value} {p : Pos} {kp : List _} {s : Shared} {α β : Type} {m : Sem α} {K : α → Sem β} {K' : β → Sem PySem.Fin} {H' : Value → Sem PySem.Fin} {gd lv} {Q : α → Shared → Prop}
    (h : wpAny M (A.deeper env) m Q (fun _ _ => False) s) (hQ : ∀ a s', Q a s' → Seg M A R Y n s₀ (.compLoop (.GeneratorExp elt gs scope pos) 1 it1 acc1 env) ((K a).wrap K' H' gd lv) [.ret k none g l (.compLoop (.GeneratorExp elt gs scope pos) 0 it acc env) p kp] s') :
    Seg M A R Y n s₀ (.compLoop (.GeneratorExp elt gs scope pos) 1 it1 acc1 env) ((m >>= K).wrap K' H' gd lv) [.ret k none g l (.compLoop (.GeneratorExp elt gs scope pos) 0 it acc env) p kp] s := by
  refine seg_bind_wrap ?_
  rw [over_in]
  exact wpAny_mono h hQ fun _ _ z => z.elim
theorem seg_wi {M : Model} {A : Around} {R : GenEnd} {Y : Protocol} {n : Nat} {s₀ : Shared} {elt : Expr} {gs : List Comprehension} {scope : Scope} {pos : Pos} {it acc it1 acc1 : Value} {env : Env} {k : Result → Sem PySem.Fin} {g : Bool} {l : List Value} {p : Pos} {kp : List _} {s : Shared} {α : Type} {m : Sem α} {K' : α → Sem PySem.Fin} {H' : Value → Sem PySem.Fin} {gd lv} {Q : α → Shared → Prop}
    (h : wpAny M (A.deeper env) m Q (fun _ _ => False) s) (hQ : ∀ a s', Q a s' → Seg M A R Y n s₀ (.compLoop (.GeneratorExp elt gs scope pos) 1 it1 acc1 env) (K' a) [.ret k none g l (.compLoop (.GeneratorExp elt gs scope pos) 0 it acc env) p kp] s') :
    Seg M A R Y n s₀ (.compLoop (.GeneratorExp elt gs scope pos) 1 it1 acc1 env) (m.wrap K' H' gd lv) [.ret k none g l (.compLoop (.GeneratorExp elt gs scope pos) 0 it acc env) p kp] s := by
  refine seg_wrap ?_
  rw [over_in]
  exact wpAny_mono h hQ fun _ _ z => z.elim
/-- what a consumer wants of the walk of a block with two clauses -/
structure Eats2 (Z : Cx) (fp SA : List Addr) (J : It) (σ : L2.St) (vs vs1 : List Nat) (g : TG) (tt : TT) (wi1 : TI) (g1 : TG) (tt1 : TT) (te : TE) (W : Nat → Nat → List V → Hp → Prop) (K : List (Addr × Obj) → List V → Prop) (JN : Nat → List V → Prop) (QE : List V → Hp → Prop) (YC : List V → V → Hp → Prop → Prop) (RE : GenEnd) (YP : Protocol) : Prop where
  addr : ∀ ip ys, K ip ys → ∀ p ∈ ip, p.1 ∈ SA
  has : ∀ ip ys, K ip ys → ∀ a ∈ SA, ∃ o, (a, o) ∈ ip
  sa : ∀ b ∈ fp, b ∉ SA
  fin : ∀ n s₀ ys ip H' s', JN n ys → K ip ys → Inv Z ip σ H' s' → QE ys H' → RE n s₀ (.ok .next) s'
  pos : ∀ n ys y H' N, JN n ys → YC ys y H' N → ∃ n', n = n' + 1
  give : ∀ n s₀ ys ip σ' H' s' y v kap N, JN (n + 1) ys → K ip ys → Inv Z ip σ' H' s' → RelV y v → YC ys y H' N →
    (N → ∀ ip2 s2, JN n (ys ++ [y]) → K ip2 (ys ++ [y]) → Inv Z ip2 σ' H' s2 → (∀ b, b ∉ SA → ∀ o, s'.heap.get? b = some o → s2.heap.get? b = some o) → kap (.send .none) s2) → YP n s₀ v s' kap
  turn : ∀ i m ys H, W i m ys H → (J.stop i H ∧ QE ys H) ∨ (J.go i H ∧ ∀ x H', J.yld i H x H' → g x σ H' fun σ2 H2 => wipe σ2 vs = σ ∧ tt σ2 H2 fun b H3 =>
    if b = true then wi1 σ2 H3 fun J1 H4 => ∃ W1 : Nat → Nat → List V → Hp → Prop, (∃ k, W1 0 k ys H4) ∧ ∀ j k ys H, W1 j k ys H →
      (J1.stop j H ∧ ∃ m', m' < m ∧ W (i + 1) m' ys H) ∨ (J1.go j H ∧ ∀ x H', J1.yld j H x H' → g1 x (wipe σ2 vs1) H' fun σ3 H5 => wipe σ3 vs1 = wipe σ2 vs1 ∧ tt1 σ3 H5 fun b H6 =>
        if b = true then te σ3 H6 fun y H7 => YC ys y H7 (∃ k', k' < k ∧ W1 (j + 1) k' (ys ++ [y]) H7) else ∃ k', k' < k ∧ W1 (j + 1) k' ys H6)
    else ∃ m', m' < m ∧ W (i + 1) m' ys H3)
section
variable {X : Cx} {A : Around} {s4 : Shared} {H4 : Hp} {cenv : Env} {fp SA : List Addr} {pn : List (Addr × Obj)} {J : It} {σ : L2.St} {vs vs1 : List Nat} {g : TG} {tt : TT} {wi1 : TI} {g1 : TG} {tt1 : TT} {te : TE} {W : Nat → Nat → List V → Hp → Prop} {K : List (Addr × Obj) → List V → Prop} {JN : Nat → List V → Prop} {QE : List V → Hp → Prop} {YC : List V → V → Hp → Prop → Prop} {RE : GenEnd} {YP : Protocol} {it : Addr} {tn : Nat → Heap → Prop}
  {elt tg iter tg1 iter1 : Expr} {ifs ifs1 : List Expr} {scope : Scope} {pos : Pos}
theorem seg_gy (C : Eats2 (gCx X A s4 H4 cenv fp pn) fp SA J σ vs vs1 g tt wi1 g1 tt1 te W K JN QE YC RE YP) (T : Turn X.prog X.w X.K tg J fp it tn) (hg : PG (gCx X A s4 H4 cenv fp pn) tg g) (ht : PTs (gCx X A s4 H4 cenv fp pn) ifs tt)
    (hi1 : PI (gCx X A s4 H4 cenv fp pn) tg1 iter1 wi1) (hg1 : PG (gCx X A s4 H4 cenv fp pn) tg1 g1) (ht1 : PTs (gCx X A s4 H4 cenv fp pn) ifs1 tt1) (he : PE (gCx X A s4 H4 cenv fp pn) elt te) (hv : ∀ i ∈ vs1, i ∈ vs) (hs1 : ∀ env x, foldedSetIterable iter1 env x = pure x)
    (hco : cenv.scope.isCoroutine = false) (hpn : ∀ p ∈ pn, p.1 ∉ fp) :
    ∀ (m n i : Nat) (ys : List V) (s₀ s : Shared) (H : Hp) (ip : List (Addr × Obj)), JN n ys → W i m ys H → K ip ys → Inv (gCx X A s4 H4 cenv fp pn) ip σ H s → tn i s.heap → (∀ b ∈ fp, H b = none) →
      Seg (model X.prog X.w) A RE YP n s₀ (.compLoop (.GeneratorExp elt [⟨tg, iter, ifs, 0⟩, ⟨tg1, iter1, ifs1, 0⟩] scope pos) 0 (.ref it) .none cenv) ((model X.prog X.w).den (.compLoop (.GeneratorExp elt [⟨tg, iter, ifs, 0⟩, ⟨tg1, iter1, ifs1, 0⟩] scope pos) 0 (.ref it) .none cenv)) [] s := by
  intro m
  induction m using Nat.strongRecOn with
  | ind m ih =>
    intro n i ys s₀ s H ip hJ hW hK I hst hn
    have stat : ∀ {ip : List (Addr × Obj)} {ys : List V} {σ' : L2.St} {H' : Hp} {s' : Shared}, K ip ys → Inv (gCx X A s4 H4 cenv fp pn) ip σ' H' s' → (∀ b ∈ fp, H' b = none) → ∀ b ∈ fp, FpOk (gCx X A s4 H4 cenv fp pn) ip H' b := fun {ip ys σ' H' s'} hK I' hn b hb =>
      ⟨hn b hb, (I'.ok.exf b hb).1, I'.ok.exfs b hb, .inl hb, fun x c e => (I'.ok.exf b hb).2 x c e, fun p hp e => (List.mem_append.mp hp).elim (fun z => hpn p z (by rw [e]; exact hb)) (fun z => C.sa b hb (by rw [← e]; exact C.addr ip ys hK p z))⟩
    show Seg _ A _ _ _ s₀ _ ((compTurn (.GeneratorExp elt [⟨tg, iter, ifs, 0⟩, ⟨tg1, iter1, ifs1, 0⟩] scope pos) 0 (.ref it) .none cenv).onRaise (leaving cenv)) [] s
    rw [compTurn_gen2_out, Sem.onRaise_eq_wrap]
    refine seg_bind_wrap (wpAny_standAt ?_)
    rcases C.turn i m ys H hW with ⟨stop, qq⟩ | ⟨go, step⟩
    · refine seg_bx (T.done (gCx X A s4 H4 cenv fp pn) rfl rfl rfl rfl i ip s σ H (fun _ _ => False) I (stat hK I hn) hst stop) fun r s1 ⟨hr, I1⟩ => ?_
      subst hr
      exact seg_end (.ok .next) (C.fin n s₀ ys ip H s1 hJ hK I1 qq)
    · refine seg_bx (T.item (gCx X A s4 H4 cenv fp pn) rfl rfl rfl rfl i ip s σ H (fun _ _ => False) I (stat hK I hn) hst go) fun r s1 ⟨u, hr, h1⟩ => ?_
      subst hr
      refine seg_bx h1 fun _ s2 ⟨x, H2, I2, r2, y2, st2, n2⟩ => ?_
      have I2' := I2.pinned (stat hK I2 n2) (T.obj _ _ st2)
      refine seg_bx (hg.run _ s2 _ H2 x u _ I2' r2 (step x H2 y2)) fun _ s3 ⟨σ3, H3, I3, hw3, q3⟩ => ?_
      refine seg_bx (ht.run _ s3 σ3 H3 _ I3 q3) fun b s5 ⟨H5, I5, q5⟩ => ?_
      have pin' : ∀ {ip' : List (Addr × Obj)} {σ' : L2.St} {h0 : Heap} {s' : Shared} {H' : Hp}, tn (i + 1) h0 → Inv (gCx X A s4 H4 cenv fp pn) (ip' ++ pinsAt fp h0) σ' H' s' → tn (i + 1) s'.heap ∧ (∀ b ∈ fp, H' b = none) := fun {ip' σ' h0 s' H'} st0 I' => by
        have q : ∀ b ∈ fp, ∀ o, h0.get? b = some o → s'.heap.get? b = some o ∧ H' b = none := fun b hb o e =>
          let z := I'.pin (b, o) (List.mem_append_right _ (List.mem_append_right _ (mem_pinsAt hb e)))
          ⟨z.1, z.2.1⟩
        refine ⟨T.keep _ _ _ st0 fun b hb o e => (q b hb o e).1, fun b hb => ?_⟩
        obtain ⟨o, e, _⟩ := T.obj _ _ st0 b hb
        exact (q b hb o e).2
      have wk : ∀ {ip' : List (Addr × Obj)} {s' : Shared} {H' : Hp}, Inv (gCx X A s4 H4 cenv fp pn) ip' σ3 H' s' → Inv (gCx X A s4 H4 cenv fp pn) ip' σ H' s' := fun {ip' s' H'} I' => by
        have hl : σ.length = σ3.length := by rw [← hw3, wipe_length]
        refine I'.weak hl fun j v e => ?_
        rw [← hw3] at e
        exact (wipe_some e).1
      have wk1 : ∀ {ip' : List (Addr × Obj)} {s' : Shared} {H' : Hp}, Inv (gCx X A s4 H4 cenv fp pn) ip' (wipe σ3 vs1) H' s' → Inv (gCx X A s4 H4 cenv fp pn) ip' σ H' s' := fun {ip' s' H'} I' => by
        have hl : σ.length = (wipe σ3 vs1).length := by rw [← hw3, wipe_length, wipe_length]
        refine I'.weak hl fun j v e => ?_
        rw [← hw3] at e
        obtain ⟨e1, e2⟩ := wipe_some e
        rw [wipe_out fun z => e2 (hv j z)]
        exact e1
      cases b with
      | false =>
        simp only [Bool.false_eq_true, if_false] at q5 ⊢
        obtain ⟨m', hm, w'⟩ := q5
        obtain ⟨p1, p2⟩ := pin' st2 I5
        exact seg_again rfl (ih m' hm n (i + 1) ys s₀ s5 H5 ip hJ w' hK (wk I5.unpinned) p1 p2)
      | true =>
        simp only [if_true] at q5 ⊢
        refine seg_bx (hi1.run _ s5 σ3 H5 _ I5 q5) fun xv s6 hx => ?_
        refine seg_bind_wrap (wpAny_standAt ?_)
        refine seg_bind_wrap (wpAny_of_eq (hs1 cenv xv) ?_)
        refine seg_bx (wpAny_holding hx) fun itv s7 h7 => ?_
        obtain ⟨it1, fp1, tn1, J1, H7, e1, I7, T1, st7, f7, W1, ⟨k1, w1⟩, turn1⟩ := h7
        subst e1
        obtain ⟨p71, p72⟩ := pin' st2 I7
        have fS : ∀ b ∈ fp1, b ∉ SA := fun b hb z => by
          obtain ⟨o, ho⟩ := C.has ip ys hK b z
          exact (f7 b hb).2.2.2.2.2 (b, o) (List.mem_append_right _ (List.mem_append_left _ ho)) rfl
        have fF : ∀ b ∈ fp1, b ∉ fp := fun b hb z => by
          obtain ⟨o, ho, _⟩ := T.obj _ _ st2 b z
          exact (f7 b hb).2.2.2.2.2 (b, o) (List.mem_append_right _ (List.mem_append_right _ (mem_pinsAt z ho))) rfl
        have stat1 : ∀ {ip : List (Addr × Obj)} {ys : List V} {h0 : Heap} {H' : Hp}, K ip ys → (∀ b ∈ fp1, H' b = none) → ∀ b ∈ fp1, FpOk (gCx X A s4 H4 cenv fp pn) (ip ++ pinsAt fp h0) H' b := fun {ip ys h0 H'} hK hn b hb =>
          ⟨hn b hb, (f7 b hb).2.1, (f7 b hb).2.2.1, (f7 b hb).2.2.2.1, (f7 b hb).2.2.2.2.1, fun p hp e => (List.mem_append.mp hp).elim (fun z => (f7 b hb).2.2.2.2.2 p (List.mem_append_left _ z) e) fun z => (List.mem_append.mp z).elim (fun z => fS b hb (by rw [← e]; exact C.addr ip ys hK p z)) fun z => fF b hb (by rw [← e]; exact (of_pinsAt z).1)⟩
        have inner : ∀ (k : Nat) (n j : Nat) (ys : List V) (s₀ s : Shared) (H : Hp) (ip : List (Addr × Obj)) (kf : Result → Sem PySem.Fin) (gd : Bool) (lv : List Value) (p : Pos), kf (.ok .next) = .pure (.again (.compLoop (.GeneratorExp elt [⟨tg, iter, ifs, 0⟩, ⟨tg1, iter1, ifs1, 0⟩] scope pos) 0 (.ref it) .none cenv)) → gd = false →
            JN n ys → W1 j k ys H → K ip ys → Inv (gCx X A s4 H4 cenv fp pn) ip (wipe σ3 vs1) H s → tn (i + 1) s.heap → (∀ b ∈ fp, H b = none) → tn1 j s.heap → (∀ b ∈ fp1, H b = none) →
            Seg (model X.prog X.w) A RE YP n s₀ (.compLoop (.GeneratorExp elt [⟨tg, iter, ifs, 0⟩, ⟨tg1, iter1, ifs1, 0⟩] scope pos) 1 (.ref it1) .none cenv) ((model X.prog X.w).den (.compLoop (.GeneratorExp elt [⟨tg, iter, ifs, 0⟩, ⟨tg1, iter1, ifs1, 0⟩] scope pos) 1 (.ref it1) .none cenv))
              [.ret kf none gd lv (.compLoop (.GeneratorExp elt [⟨tg, iter, ifs, 0⟩, ⟨tg1, iter1, ifs1, 0⟩] scope pos) 0 (.ref it) .none cenv) p []] s := by
          intro k
          induction k using Nat.strongRecOn with
          | ind k ihk =>
            intro n j ys s₀ s12 H12 ip kf gd lv p hkf hgd hJ hW hK I12 st12o n12o st12 n12
            show Seg _ A _ _ _ s₀ _ ((compTurn (.GeneratorExp elt [⟨tg, iter, ifs, 0⟩, ⟨tg1, iter1, ifs1, 0⟩] scope pos) 1 (.ref it1) .none cenv).onRaise (fun x => do noteFrame x cenv; theTreesLotGoes x)) _ s12
            rw [compTurn_gen2_in, Sem.onRaise_eq_wrap]
            refine seg_bind_wrap (wpAny_standAt ?_)
            have A0 := I12.pinned (stat hK I12 n12o) (T.obj _ _ st12o)
            rcases turn1 j k ys H12 hW with ⟨stop, m', hm, w'⟩ | ⟨go, step⟩
            · refine seg_bi (T1.done (gCx X A s4 H4 cenv fp pn) rfl rfl rfl rfl j _ s12 _ H12 (fun _ _ => False) A0 (stat1 hK n12) st12 stop) fun r s13 ⟨hr, I13⟩ => ?_
              subst hr
              obtain ⟨p1, p2⟩ := pin' st12o I13
              refine seg_leaf (.ok .next) ?_
              rw [hkf]
              exact seg_again rfl (ih m' hm n (i + 1) ys s₀ s13 H12 ip hJ w' hK (wk1 I13.unpinned) p1 p2)
            · refine seg_bi (T1.item (gCx X A s4 H4 cenv fp pn) rfl rfl rfl rfl j _ s12 _ H12 (fun _ _ => False) A0 (stat1 hK n12) st12 go) fun r s13 ⟨u1, hr, h13⟩ => ?_
              subst hr
              refine seg_bi h13 fun _ s14 ⟨x1, H14, I14, r14, y14, st14, n14⟩ => ?_
              have I14' := I14.pinned (stat1 hK n14) (T1.obj _ _ st14)
              refine seg_bi (hg1.run _ s14 (wipe σ3 vs1) H14 x1 u1 _ I14' r14 (step x1 H14 y14)) fun _ s15 ⟨σ15, H15, I15, hw15, q15⟩ => ?_
              refine seg_bi (ht1.run _ s15 σ15 H15 _ I15 q15) fun b1 s16 ⟨H16, I16, q16⟩ => ?_
              have pin1 : ∀ {ip' : List (Addr × Obj)} {σ' : L2.St} {s' : Shared} {H' : Hp}, Inv (gCx X A s4 H4 cenv fp pn) (ip' ++ pinsAt fp1 s14.heap) σ' H' s' → tn1 (j + 1) s'.heap ∧ (∀ b ∈ fp1, H' b = none) := fun {ip' σ' s' H'} I' => by
                have q : ∀ b ∈ fp1, ∀ o, s14.heap.get? b = some o → s'.heap.get? b = some o ∧ H' b = none := fun b hb o e =>
                  let z := I'.pin (b, o) (List.mem_append_right _ (List.mem_append_right _ (mem_pinsAt hb e)))
                  ⟨z.1, z.2.1⟩
                refine ⟨T1.keep _ _ _ st14 fun b hb o e => (q b hb o e).1, fun b hb => ?_⟩
                obtain ⟨o, e, _⟩ := T1.obj _ _ st14 b hb
                exact (q b hb o e).2
              have wk15 : ∀ {ip' : List (Addr × Obj)} {s' : Shared} {H' : Hp}, Inv (gCx X A s4 H4 cenv fp pn) ip' σ15 H' s' → Inv (gCx X A s4 H4 cenv fp pn) ip' (wipe σ3 vs1) H' s' := fun {ip' s' H'} I' =>
                I'.weak (by rw [← hw15, wipe_length]) fun j v e => by rw [← hw15] at e; exact (wipe_some e).1
              cases b1 with
              | false =>
                simp only [Bool.false_eq_true, if_false] at q16 ⊢
                obtain ⟨k', hk, w'⟩ := q16
                obtain ⟨p1, p2⟩ := pin1 I16
                obtain ⟨p3, p4⟩ := pin' st12o I16.unpinned
                exact seg_again rfl (ihk k' hk n (j + 1) ys s₀ s16 H16 ip kf gd lv p hkf hgd hJ w' hK (wk15 I16.unpinned.unpinned) p3 p4 p1 p2)
              | true =>
                simp only [if_true] at q16 ⊢
                have hy : ∀ v, yieldOut cenv v = yieldValue v := fun v => by simp only [yieldOut, hco, Bool.false_eq_true, if_false]
                simp only [hy]
                rw [Sem.bind_eq_wrap', Sem.bind_eq_wrap', Sem.wrap_wrap, Sem.wrap_wrap]
                refine seg_wi (he.run _ s16 σ15 H16 _ I16 q16) fun z s17 ⟨yv, H17, I17, r17, y17⟩ => ?_
                obtain ⟨n', rfl⟩ := C.pos n ys yv H17 _ hJ y17
                obtain ⟨p1, p2⟩ := pin1 I17
                obtain ⟨p3, p4⟩ := pin' st12o I17.unpinned
                refine seg_at (seg_yield rfl rfl (by rw [hgd]; rfl) (C.give n' s₀ ys ip σ15 H17 s17 yv z _ _ hJ hK I17.unpinned.unpinned r17 y17 fun ⟨k', hk, w'⟩ ip2 s18 hj hk2 I18 hkeep => ?_))
                exact seg_again rfl (ihk k' hk n' (j + 1) (ys ++ [yv]) s18 s18 H17 ip2 kf gd lv p hkf hgd hj w' hk2 (wk15 I18) (T.keep _ _ _ p3 fun b hb o e => hkeep b (C.sa b hb) o e) p4 (T1.keep _ _ _ p1 fun b hb o e => hkeep b (fS b hb) o e) p2)
        refine seg_call fun p => ?_
        have loop := fun kf gd lv h1 h2 => inner k1 n 0 ys s₀ s7 H7 ip kf gd lv p h1 h2 hJ w1 hK ((I7.unpinned).weak (wipe_length _ _) (fun j v e => (wipe_some e).1)) p71 p72 st7 fun b hb => (f7 b hb).1
        show Seg _ A _ _ _ s₀ _ ((compStart (.GeneratorExp elt [⟨tg, iter, ifs, 0⟩, ⟨tg1, iter1, ifs1, 0⟩] scope pos) 1 (.ref it1) .none cenv).onRaise (fun x => do noteFrame x cenv; standAt theWindowsPlace)) _ s7
        unfold compStart
        rw [Sem.onRaise_eq_wrap]
        show Seg _ A _ _ _ s₀ _ ((ask >>= _).wrap _ _ _ _) _ s7
        refine seg_bind_wrap (wpAny_askSetting ?_)
        split
        · exact seg_again rfl (loop _ _ _ rfl rfl)
        · first
            | exact seg_bind_wrap (wpAny_rule (seg_bind_wrap (wpAny_standAt (seg_bind_wrap (T1.self _ 0 s7 _ _ st7 (seg_again rfl (loop _ _ _ rfl rfl)))))))
            | (refine seg_bind_wrap (wpAny_rule ?_); show Seg _ A _ _ _ s₀ _ ((standAt iter1.pos >>= _).wrap _ _ _ _) _ s7; exact seg_bind_wrap (wpAny_standAt (seg_bind_wrap (T1.self _ 0 s7 _ _ st7 (seg_again rfl (loop _ _ _ rfl rfl))))))
end
end GX
namespace GX
open PySem PySem.Spec PyProof.Rows L2 GenW
section
variable {X : Cx} {pins : List (Addr × Obj)} {σ : L2.St} {H : Hp} {s : Shared}
/-- a generator has been made: it has not begun -/
structure Made2 (X : Cx) (pins : List (Addr × Obj)) (σ : L2.St) (elt tg iter tg1 iter1 : Expr) (ifs ifs1 : List Expr) (scope : Scope) (pos : Pos) (s4 : Shared) (H4 : Hp) (code : Value) (J : It) (fp : List Addr) (it : Addr) (tn : Nat → Heap → Prop) (a : Addr) (t1 t2 : Tok) (s5 : Shared) : Prop where
  inv : Inv X pins σ H4 s4
  turn : Turn X.prog X.w X.K tg J fp it tn
  st : tn 0 s4.heap
  fp : ∀ b ∈ fp, FpOk X pins H4 b ∧ b < s4.heap.objs.size
  ns : ∃ m, s5.heap.Ns s4.heap.objs.size m
  keep : ∀ b o, s4.heap.get? b = some o → s5.heap.get? b = some o
  lt : s4.heap.objs.size < a
  lt' : a < s5.heap.objs.size
  obj : s5.heap.get? a = some (genObj s4.gens.size (X.env.qual ++ "<genexpr>") t1 t2)
  gens : s5.gens = s4.gens.push (.fresh (.compStart (.GeneratorExp elt [⟨tg, iter, ifs, 0⟩, ⟨tg1, iter1, ifs1, 0⟩] scope pos) 0 (.ref it) .none (genEnv scope (cloFrom X.env.cells scope.names []) s4.heap.objs.size code builtinsNs X.env)))
  os : s5.os = s4.os
theorem gen_make2 {T : List (Addr × Str)} {c P : Addr} {elt tg iter tg1 iter1 : Expr} {ifs ifs1 : List Expr} {scope : Scope} {pos : Pos} {own : List (Str × Nat)} {wi : TI} {RR : It → Hp → Prop} {Q : Value → Shared → Prop} (hd : X.A.depth < recursionLimit) (TB : LamX.TabB X.base X.mg c P) (hcode : X.env.code = .ref c)
    (hm : (P, X.env.qual ++ "<genexpr>") ∈ T) (hu : ∀ p ∈ T, p.1 = P → p.2 = X.env.qual ++ "<genexpr>") (ok : GxS X.N X.env.scope scope own) (hi : PI X tg iter wi) (hs : ∀ v, genFold iter X.env v = pure v) (I : Inv X pins σ H s)
    (h : wi σ H fun J H1 => LamX.Tabs T H1 ∧ ∀ H2, LamX.ExtN H1 H2 → LamX.Tabs T H2 → RR J H2)
    (hQ : ∀ s4 H4 code J fp it tn a t1 t2 s5, Made2 X pins σ elt tg iter tg1 iter1 ifs ifs1 scope pos s4 H4 code J fp it tn a t1 t2 s5 → RR J H4 → Q (.ref a) s5) :
    wpAny (model X.prog X.w) X.A (eval (.GeneratorExp elt [⟨tg, iter, ifs, 0⟩, ⟨tg1, iter1, ifs1, 0⟩] scope pos) X.env) Q X.xe s := by
  have hfree : ∀ y ∈ scope.names, y.2 = .free → ∃ c, X.env.cells.lookup y.1 = some c := fun y hy e => by
    rcases ok.free y hy e with k | k
    · exact I.ok.has _ (.inl k)
    · exact I.ok.has _ (.inr k)
  rw [arm_eval_GeneratorExp]
  simp only [ok.co, Bool.false_eq_true, if_false]
  refine wpAny_bind (thn (hi.run pins s σ H _ I h) fun xv s1 hx => ?_)
  refine wpAny_bind (wpAny_standAt ?_)
  refine wpAny_bind (wpAny_of_eq (show _ = Sem.pure xv from ?_) ?_)
  · have q := hs xv
    cases iter <;> exact q
  refine wpAny_bind (wpAny_holding (thn hx fun itv s2 h2 => ?_))
  obtain ⟨it, fp, tn, J, H2, e, I2, T2, st2, f2, hT, hR⟩ := h2
  subst e
  refine wpAny_bind (wpAny_enterFrame I2.nolimit hd ?_)
  refine wpAny_bind (wpAny_of_eq (closure_ok hfree) ?_)
  refine wpAny_bind (gen_code I2 TB hcode hm hu hT fun code H3 s3 I3 hE hT3 hk hsz => ?_)
  obtain ⟨bm, ob, e1, e2, e3, e4, e5, e6, e7, e8⟩ := TB.bm
  refine wpAny_bind (wpAny_builtinsFor (m := X.mg) (by rw [I3.ok.glob]; exact I3.mod.glob.keeps I3.bk) e1 e2 (I3.bk _ _ e5) e6 e7 e8 ?_)
  refine wpAny_bind (wpAny_newFunctionEnv ok.cell (fun y hy => by
    obtain rfl := List.mem_singleton.mp hy
    exact ok.dot) (fun h' hn' hs' => ?_) ok.kind)
  simp only [newGenerator, newFields]
  refine wpAny_bind (wpAny_newGen (wpAny_bind (wpAny_mkText (wpAny_bind (wpAny_mkText (wpAny_newObj_type ?_ (by size_fits)))))))
  have hsz' : h'.objs.size = s3.heap.objs.size + 1 := by rw [hs'.1, Heap.size_push]
  have keep' : ∀ b o, s3.heap.get? b = some o → h'.get? b = some o := fun b o e => hs'.extBut b o (Nat.ne_of_lt (Heap.lt_size e)) (Heap.get?_push_of_some _ e)
  refine hQ s3 H3 code J fp it tn h'.objs.size (s3.toks + 1) (s3.toks + 1 + 1) _ ⟨I3, T2, ?_, fun b hb => ?_, ⟨_, hn'.push _⟩, fun b o e => Heap.get?_push_of_some _ (keep' b o e), by omega, by show _ < (h'.push _).objs.size; rw [Heap.size_push]; omega, Heap.get?_push_size _ rfl, rfl, rfl⟩ (hR H3 hE hT3)
  · exact T2.keep _ _ _ st2 fun b hb o e => (hk b o (f2 b hb).1 e).1
  · obtain ⟨o, e, _⟩ := T2.obj _ _ st2 b hb
    exact ⟨⟨(hk b o (f2 b hb).1 e).2, (f2 b hb).2⟩, Nat.lt_of_lt_of_le (Heap.lt_size e) hsz⟩
/-- woken in A, at a heap that keeps all that stood when it was made -/
theorem Made2.inv' {elt tg iter tg1 iter1 : Expr} {ifs ifs1 : List Expr} {scope : Scope} {pos : Pos} {own : List (Str × Nat)} {s4 : Shared} {H4 : Hp} {code : Value} {J : It} {fp : List Addr} {it : Addr} {tn : Nat → Heap → Prop} {a : Addr} {t1 t2 : Tok} {s5 s6 : Shared} {A : Around}
    (M : Made2 X pins σ elt tg iter tg1 iter1 ifs ifs1 scope pos s4 H4 code J fp it tn a t1 t2 s5) (ok : GxS X.N X.env.scope scope own) (hN : X.N.Nodup) (hA : A.handled = none) (hfr : A.frames = some X.stack) (kp : ∀ b o, s5.heap.get? b = some o → s6.heap.get? b = some o) (hos : s6.os = s5.os) (hb : AllBare s6.gens) :
    Inv (gCx X A s4 H4 (genEnv scope (cloFrom X.env.cells scope.names []) s4.heap.objs.size code builtinsNs X.env) fp [(a, genObj s4.gens.size (X.env.qual ++ "<genexpr>") t1 t2)]) [] (wipe σ (own.map (·.2))) H4 s6 := by
  obtain ⟨m, hns⟩ := M.ns
  refine gen_inv M.inv ok hN hA hfr M.fp (fun b o e => kp b o (M.keep b o e)) (hns.keeps kp) (hos.trans M.os) hb fun p hp => ?_
  rw [List.mem_singleton.mp hp]
  have hge : s4.heap.objs.size ≤ a := Nat.le_of_lt M.lt
  refine ⟨kp a _ M.obj, M.inv.hok.fresh hge, Nat.ne_of_gt M.lt, fun z => ?_, fun v q => by cases q⟩
  rcases List.mem_cons.mp (M.inv.stkSub _ z) with e | e
  · have h1 := M.inv.lt
    rw [← e] at h1
    exact Nat.lt_irrefl _ (Nat.lt_of_lt_of_le h1 hge)
  · exact M.inv.nofs hge e
end
end GX
namespace GX
open PySem PySem.Spec PyProof.Rows L2 GenW
section
variable {X : Cx} {A : Around} {s4 : Shared} {H4 : Hp} {cenv : Env} {fp SA : List Addr} {pn : List (Addr × Obj)} {J : It} {σ : L2.St} {vs vs1 : List Nat} {g : TG} {tt : TT} {wi1 : TI} {g1 : TG} {tt1 : TT} {te : TE} {W : Nat → Nat → List V → Hp → Prop} {K : List (Addr × Obj) → List V → Prop} {JN : Nat → List V → Prop} {QE : List V → Hp → Prop} {YC : List V → V → Hp → Prop → Prop} {RE : GenEnd} {YP : Protocol} {it : Addr} {tn : Nat → Heap → Prop}
  {elt tg iter tg1 iter1 : Expr} {ifs ifs1 : List Expr} {scope : Scope} {pos : Pos}
theorem seg_gy0 (C : Eats2 (gCx X A s4 H4 cenv fp pn) fp SA J σ vs vs1 g tt wi1 g1 tt1 te W K JN QE YC RE YP) (T : Turn X.prog X.w X.K tg J fp it tn) (hg : PG (gCx X A s4 H4 cenv fp pn) tg g) (ht : PTs (gCx X A s4 H4 cenv fp pn) ifs tt) (hi1 : PI (gCx X A s4 H4 cenv fp pn) tg1 iter1 wi1) (hg1 : PG (gCx X A s4 H4 cenv fp pn) tg1 g1) (ht1 : PTs (gCx X A s4 H4 cenv fp pn) ifs1 tt1) (he : PE (gCx X A s4 H4 cenv fp pn) elt te) (hv : ∀ i ∈ vs1, i ∈ vs) (hs1 : ∀ env x, foldedSetIterable iter1 env x = pure x)
    (hco : cenv.scope.isCoroutine = false) (hpn : ∀ p ∈ pn, p.1 ∉ fp)
    (m n : Nat) (s₀ s : Shared) (H : Hp) (ip : List (Addr × Obj)) (hJ : JN n []) (hW : W 0 m [] H) (hK : K ip []) (I : Inv (gCx X A s4 H4 cenv fp pn) ip σ H s) (hst : tn 0 s.heap) (hn : ∀ b ∈ fp, H b = none) :
      Seg (model X.prog X.w) A RE YP n s₀ (.compStart (.GeneratorExp elt [⟨tg, iter, ifs, 0⟩, ⟨tg1, iter1, ifs1, 0⟩] scope pos) 0 (.ref it) .none cenv) ((model X.prog X.w).den (.compStart (.GeneratorExp elt [⟨tg, iter, ifs, 0⟩, ⟨tg1, iter1, ifs1, 0⟩] scope pos) 0 (.ref it) .none cenv)) [] s := by
  have loop := seg_gy (iter := iter) (scope := scope) (pos := pos) C T hg ht hi1 hg1 ht1 he hv hs1 hco hpn m n 0 [] s₀ s H ip hJ hW hK I hst hn
  show Seg _ A _ _ _ s₀ _ ((compStart (.GeneratorExp elt [⟨tg, iter, ifs, 0⟩, ⟨tg1, iter1, ifs1, 0⟩] scope pos) 0 (.ref it) .none cenv).onRaise (leaving cenv)) [] s
  unfold compStart
  rw [Sem.onRaise_eq_wrap]
  show Seg _ A _ _ _ s₀ _ ((ask >>= _).wrap _ _ _ _) [] s
  refine seg_bind_wrap (wpAny_askSetting ?_)
  split
  · exact seg_again rfl loop
  · first
      | exact seg_bind_wrap (wpAny_rule (seg_bind_wrap (wpAny_standAt (seg_bind_wrap (T.self _ 0 s _ _ hst (seg_again rfl loop))))))
      | (refine seg_bind_wrap (wpAny_rule ?_); show Seg _ A _ _ _ s₀ _ ((standAt iter.pos >>= _).wrap _ _ _ _) [] s; exact seg_bind_wrap (wpAny_standAt (seg_bind_wrap (T.self _ 0 s _ _ hst (seg_again rfl loop)))))
end
section
variable {X : Cx} {pins : List (Addr × Obj)} {σ : L2.St} {H : Hp} {s : Shared}
end
end GX
namespace LB
open PySem PySem.Spec PyProof.Rows L2
/-! ### text * n -/
def repS (x : Str) (n : Nat) : Str := ⟨((List.replicate n x.cps.toList).flatten).toArray⟩
theorem fold_app : ∀ (l : List (Array Nat)) (a : Array Nat), (l.foldl (· ++ ·) a).toList = a.toList ++ (l.map (·.toList)).flatten
  | [], a => by simp
  | b :: l, a => by
    rw [List.foldl_cons, fold_app l (a ++ b)]
    simp
theorem fold_rep (x : Str) (n : Nat) : (⟨(List.replicate n x.cps).foldl (· ++ ·) #[]⟩ : Str) = repS x n := by
  unfold repS
  congr 1
  apply Array.toList_inj.mp
  rw [fold_app]
  simp [List.map_replicate]
def rRepS : R2 := fun x y H Q => ∃ (z : Str) (n : Nat), x = .str z ∧ y = .int (n : Int) ∧ n ≤ 1000 ∧ z.length ≤ 1000 ∧ Q (.str (repS z n)) H
theorem repS_one (x : Str) : repS x 1 = x := by
  cases x
  simp [repS]
theorem repS_nil (x : Str) : repS x 0 = Str.empty := by
  simp [repS]
  rfl
theorem repS_length (x : Str) (n : Nat) : (repS x n).length = n * x.length := by
  show ((List.replicate n x.cps.toList).flatten).toArray.size = n * x.cps.size
  rw [List.size_toArray, List.length_flatten, List.map_replicate, List.sum_replicate_nat, Array.length_toList]
theorem repS_len (x : Str) (n : Nat) (h : x.length * n ≤ 1000000) : (repS x n).length ≤ sizeLine := by
  rw [repS_length, sizeLine_eq, Nat.mul_comm]
  omega
theorem op_repS {X : Cx} : OpR X (binaryOp .Mult) rRepS := by
  intro pins s σ H x y v u Q I rx ry h
  obtain ⟨z, n, rfl, rfl, hn, hz, q⟩ := h
  obtain ⟨t, rfl⟩ := rx
  obtain ⟨t', rfl⟩ := ry
  have hlen : z.length * n ≤ 1000000 := Nat.mul_le_mul hz hn
  refine P.mul_str ?_ (fun h1 h2 h3 => ?_) (fun h1 h2 => ?_) ?_
  · rw [decide_eq_false (by omega), decide_eq_false (by omega)] <;> rfl
  · have h4 : (z.length : Int) ≤ 1000 := by omega
    have h5 : (n : Int) ≤ 1000 := by omega
    have h6 : (1000 : Int) * n ≤ 2 ^ 63 - 1 := by omega
    have h7 : (1000 : Int) ≤ (2 ^ 63 - 1) / (n : Int) := by
      rw [Int.le_ediv_iff_mul_le (by omega)]
      exact h6
    omega
  · have e : ((n : Int)).toNat = n := by omega
    rw [e]
    show decide (z.length * n > sizeLine) = false
    exact decide_eq_false (by rw [sizeLine_eq]; omega)
  · by_cases h1 : (n : Int) < 1
    · rw [if_pos h1]
      have e : n = 0 := by omega
      subst e
      rw [repS_nil] at q
      exact ⟨by decide, ⟨.str Str.empty, H, I.tok _, ⟨_, rfl⟩, q⟩⟩
    · rw [if_neg h1]
      by_cases h2 : ((n : Int) == 1 || z.length == 0) = true
      · rw [if_pos h2]
        have e : repS z n = z := by
          rcases Bool.or_eq_true _ _ ▸ h2 with k | k
          · have e : n = 1 := by
              have := eq_of_beq k
              omega
            rw [e, repS_one]
          · have e : z.length = 0 := eq_of_beq k
            have e2 : z.cps = #[] := Array.eq_empty_of_size_eq_zero e
            cases z
            simp at e2
            subst e2
            simp [repS]
        rw [e] at q
        exact ⟨.str z, H, I, ⟨_, rfl⟩, q⟩
      · rw [if_neg h2]
        have e : ((n : Int)).toNat = n := by omega
        rw [e, fold_rep]
        exact ⟨repS_len z n hlen, ⟨.str (repS z n), H, I.tok _, ⟨_, rfl⟩, q⟩⟩
/-! ### t[::-1] -/
theorem fm_congr {α β : Type} {f g : α → Option β} : ∀ (l : List α), (∀ x ∈ l, f x = g x) → l.filterMap f = l.filterMap g
  | [], _ => rfl
  | x :: l, h => by
    rw [List.filterMap_cons, List.filterMap_cons, h x List.mem_cons_self, fm_congr l fun y hy => h y (List.mem_cons_of_mem _ hy)]
theorem rev_pick (xs : Array Value) : ((List.range xs.size).filterMap fun (m : Nat) => xs[(((xs.size : Int) - 1) + (m : Int) * (-1)).toNat]?).toArray = xs.toList.reverse.toArray := by
  congr 1
  apply List.ext_getElem?
  intro j
  have e : ((List.range xs.size).filterMap fun (m : Nat) => xs[(((xs.size : Int) - 1) + (m : Int) * (-1)).toNat]?) = (List.range xs.size).map fun m => xs.toList.reverse.getD m .none := by
    rw [← List.filterMap_eq_map]
    refine fm_congr _ fun m hm => ?_
    have hm' : m < xs.size := List.mem_range.mp hm
    have e1 : (((xs.size : Int) - 1) + (m : Int) * (-1)).toNat = xs.size - 1 - m := by omega
    rw [e1, ← Array.getElem?_toList]
    show xs.toList[xs.size - 1 - m]? = some (xs.toList.reverse.getD m .none)
    rw [List.getD_eq_getElem?_getD, List.getElem?_reverse (by simpa using hm'), Array.length_toList, List.getElem?_eq_getElem (by simp; omega)] <;> rfl
  rw [e, List.getElem?_map]
  by_cases hj : j < xs.size
  · rw [List.getElem?_range hj, List.getElem?_eq_getElem (by simpa using hj)]
    show some (xs.toList.reverse.getD j .none) = _
    rw [List.getD_eq_getElem?_getD, List.getElem?_eq_getElem (by simpa using hj)] <;> rfl
  · rw [List.getElem?_eq_none (by simpa using hj), List.getElem?_eq_none (by simpa using hj)] <;> rfl
section
variable {prog : Program} {w : World} {A : Around} {E : Value → Shared → Prop} {s : Shared}
theorem sliceApplied_rev {sl : Addr} {vs : Value} {n : Nat} {Q : Int × Int × Nat → Shared → Prop} (hs : s.heap.IsSliceOf sl .none .none vs) (ps : IsPart vs (some (-1)))
    (h : Q ((n : Int) - 1, -1, n) s) : wpAny (model prog w) A (Builtin.Slice.sliceApplied (.ref sl) (pure (n : Int))) Q E s := by
  obtain ⟨os, hos, hcs, hds⟩ := id hs
  unfold Builtin.Slice.sliceApplied Builtin.Slice.sliceFields
  refine wpAny_bind (wpAny_bind (wpAny_field hos hds (x := .none) rfl (wpAny_bind (wpAny_field hos hds (x := .none) rfl (wpAny_bind (wpAny_field hos hds (x := vs) rfl (wpAny_pure ?_)))))))
  refine wpAny_bind (HT.slicePart_ ps ?_)
  show wpAny _ _ (if ((-1 : Int) == 0) = true then _ else _) _ _ s
  rw [if_neg (by decide)]
  refine wpAny_bind (PyProof.Rows.slicePart_none (wpAny_bind (PyProof.Rows.slicePart_none (wpAny_bind (wpAny_pure ?_)))))
  have e1 : Builtin.Slice.sliceAdjust none none (-1) (n : Int) = ((n : Int) - 1, -1) := by
    unfold Builtin.Slice.sliceAdjust
    simp
  have e2 : Builtin.Slice.slicePlaces ((n : Int) - 1) (-1) (-1) = n := by
    unfold Builtin.Slice.slicePlaces
    rw [if_neg (by decide)]
    simp only [Int.neg_neg, Int.ediv_one]
    split <;> omega
  show wpAny _ _ (match Builtin.Slice.sliceAdjust none none (-1) (n : Int) with | (lo, hi) => pure (lo, (-1 : Int), Builtin.Slice.slicePlaces lo hi (-1))) _ _ s
  rw [e1]
  show wpAny _ _ (pure ((n : Int) - 1, (-1 : Int), Builtin.Slice.slicePlaces ((n : Int) - 1) (-1) (-1))) _ _ s
  rw [e2]
  exact wpAny_pure h
theorem getItem_tuple_rev {t sl : Addr} {items : Array Value} {vs : Value} {Q : Value → Shared → Prop} (ht : IsTup s.heap t items) (hs : s.heap.IsSliceOf sl .none .none vs) (ps : IsPart vs (some (-1)))
    (h : Q (.ref s.heap.objs.size) { s with heap := s.heap.push { cls := .type "tuple", data := .seq items.toList.reverse.toArray } })
    (hsz : items.size ≤ sizeLine) : wpAny (model prog w) A (getItem (.ref t) (.ref sl)) Q E s := by
  have htake : sizeOk (.seq items.toList.reverse.toArray) := by
    show items.toList.reverse.toArray.size ≤ sizeLine
    rw [List.size_toArray, List.length_reverse, Array.length_toList]
    exact hsz
  obtain ⟨os, hos, hcs, hds⟩ := id hs
  have hTs : s.TypeIs (.ref sl) "slice" := ⟨os, hos, hcs⟩
  unfold getItem
  try with_reducible refine wpAny_holding ?_
  first | refine wpAny_bind (wpAny_pure ?_) | skip
  refine wpAny_bind (wpAny_sequenceKey ht.typeIs (by decide) ?_)
  refine wpAny_bind (wpAny_callSpecial?_slot (name := Str.ofString "__getitem__") ht.typeIs PyProof.Rows.slot_tuple_getitem
    (wpAny_call_entry PyProof.Rows.slot_tuple_getitem ht.typeIs PyProof.Rows.entry_tuple_getitem ?_ (PyProof.Rows.args_tuple_getitem _ _)))
  show wpAny _ _ (Builtin.Tuple.tupleItemsOf (.ref t) >>= _) _ _ s
  refine wpAny_bind (PyProof.Rows.tupleItemsOf_ ht ?_)
  refine wpAny_bind (wpAny_typeOf hTs ?_)
  rw [if_pos (by decide)]
  refine wpAny_bind (sliceApplied_rev hs ps ?_)
  have hno : ¬ ((((items.size : Int) - 1) == 0 && (-1 : Int) == 1 && items.size == items.size) = true) := by
    intro q
    rw [Bool.and_eq_true, Bool.and_eq_true] at q
    exact absurd q.1.2 (by decide)
  show wpAny _ _ (if (((items.size : Int) - 1) == 0 && (-1 : Int) == 1 && items.size == items.size) = true then _ else _) _ _ s
  rw [if_neg hno, rev_pick]
  first
    | exact wpAny_bind (m := Builtin.Tuple.tupleExact _) (wpAny_newObj_type (wpAny_pure ⟨_, rfl, wpAny_pure h⟩) htake)
    | exact wpAny_bind (m := Builtin.Tuple.tupleExact _) (wpAny_newObj_type (wpAny_bind (wpAny_pure (wpAny_pure ⟨_, rfl, wpAny_pure h⟩))) htake)
    | exact wpAny_bind (wpAny_bind (m := Builtin.Tuple.tupleExact _) (wpAny_newObj_type (wpAny_pure (wpAny_pure ⟨_, rfl, wpAny_pure h⟩)) htake))
    | exact wpAny_bind (wpAny_bind (m := Builtin.Tuple.tupleExact _) (wpAny_newObj_type (wpAny_pure ⟨_, rfl, wpAny_pure h⟩) htake))
end
def tRevT (K : PySem.W.Frag) (te : TE) : TE := fun σ H Q => te σ H fun x H1 => ∃ a xs, x = .ref a ∧ SqT K H1 a xs ∧ ∀ p, H1 p = none → Q (.ref p) (upd H1 p (.tup xs.reverse))
theorem pe_revT {X : Cx} {e : Expr} {te : TE} {k : Nat} {p1 p2 p3 pos : Pos} (he : PE X e te) : PE X (.Subscript e (.Slice none none (some (.UnaryOp .USub (.Constant (.int 1) k p1) p2)) p3) pos) (tRevT X.K te) := by
  refine ⟨fun pins s σ H Q I h => ?_⟩
  refine Subscript_ (thn (he.run pins s σ H _ I h) fun v s1 ⟨x, H1, I1, r1, q1⟩ => ?_)
  obtain ⟨a, xs, ex, hx, q⟩ := q1
  subst ex
  cases r1
  have hst : PO X (some (.UnaryOp .USub (.Constant (.int 1) k p1) p2)) (tPart (tUn (rU fun i => .int (-i)) (tC (.int 1)))) := po_some (pe_un un_neg pe_int)
  refine wpAny_Slice (thn (po_none.run pins s1 σ H1 (fun o H2 => o = none ∧ H2 = H1) I1 ⟨rfl, rfl⟩) fun vl s2 ⟨l, H2, I2, pl, el, e2⟩ => ?_)
  subst el e2
  refine thn (po_none.run pins s2 σ H2 (fun o H3 => o = none ∧ H3 = H2) I2 ⟨rfl, rfl⟩) fun vu s3 ⟨u, H3, I3, pu, eu, e3⟩ => ?_
  subst eu e3
  refine thn (hst.run pins s3 σ H3 (fun o H4 => o = some (-1) ∧ H4 = H3) I3 ⟨1, rfl, -1, rfl, rfl, rfl⟩) fun vs s4 ⟨o, H4, I4, ps, eo, e4⟩ => ?_
  subst eo e4
  have I5 : Inv X pins σ H4 { s4 with heap := s4.heap.push { cls := .type "slice", data := .fields #[vl, vu, vs] } } := I4.kept (t' := s4.toks) fun b ob q => Heap.get?_push_of_some _ q
  obtain ⟨its, r, ht, hz⟩ := I5.tuple hx
  have hlen := r.length
  cases pl
  cases pu
  show wpAny (model X.prog X.w) X.A (subscriptTail e (.Slice none none (some (.UnaryOp .USub (.Constant (.int 1) k p1) p2)) p3) (.ref a) (.ref s4.heap.objs.size)) (EP X pins σ Q) X.xe { s4 with heap := s4.heap.push { cls := .type "slice", data := .fields #[.none, .none, vs] } }
  refine tail_any (ops := [.ref a, .ref s4.heap.objs.size]) ht.typeIs (PyProof.Rows.slot_tuple_getitem.lookup) ?_ (by with_unfolding_all rfl)
  refine getItem_tuple_rev ht (Heap.IsSliceOf.new _ .none .none vs) ps ?_ (by rw [List.size_toArray]; omega)
  refine ⟨.ref _, _, I5.laid (t' := s4.toks) (o := .tup xs.reverse) (fun b ob q => Heap.get?_push_of_some _ q) (Nat.le_refl _) ?_, rfl, q _ (I5.hok.fresh (Nat.le_refl _))⟩
  exact ⟨by rw [List.length_reverse]; exact hz, _, r.reverse, IsTup.new _ _⟩
end LB
namespace LB
open PySem PySem.Spec PyProof.Rows L2
/-! ### small facts -/
theorem fm (a : Int) {b : Int} (h : 0 < b) : 0 ≤ a.fmod b ∧ a.fmod b < b := ⟨Int.fmod_nonneg_of_pos a h, Int.fmod_lt_of_pos a h⟩
theorem sz {n : Nat} (h : n ≤ 100000) : n ≤ sizeLine := Nat.le_trans h (by decide)
theorem szl {n : Nat} (h : n < 100000) : n < sizeLine := Nat.lt_of_lt_of_le h (by decide)
theorem at0 {α : Type} {x : α} {l : List α} : atI (x :: l) 0 = some x := atI_nat (j := 0) rfl
theorem at1 {α : Type} {x y : α} {l : List α} : atI (x :: y :: l) 1 = some y := atI_nat (j := 1) rfl
theorem at2 {α : Type} {x y z : α} {l : List α} : atI (x :: y :: z :: l) 2 = some z := atI_nat (j := 2) rfl
theorem at3 {α : Type} {x y z u : α} {l : List α} : atI (x :: y :: z :: u :: l) 3 = some u := atI_nat (j := 3) rfl
/-! ### kinds -/
def isU : PyData → Bool
  | .tuple _ => true
  | _ => false
def isS : PyData → Bool
  | .str _ => true
  | _ => false
theorem kit_tuple : ∀ d : PyData, kitB (tyN d) "tuple" = some (isU d)
  | .none => (by decide +kernel : kitB "NoneType" "tuple" = some false)
  | .bool _ => (by decide +kernel : kitB "bool" "tuple" = some false)
  | .int _ => (by decide +kernel : kitB "int" "tuple" = some false)
  | .str _ => (by decide +kernel : kitB "str" "tuple" = some false)
  | .list _ => (by decide +kernel : kitB "list" "tuple" = some false)
  | .tuple _ => (by decide +kernel : kitB "tuple" "tuple" = some true)
  | .dict _ => (by decide +kernel : kitB "dict" "tuple" = some false)
theorem kit_str : ∀ d : PyData, kitB (tyN d) "str" = some (isS d)
  | .none => (by decide +kernel : kitB "NoneType" "str" = some false)
  | .bool _ => (by decide +kernel : kitB "bool" "str" = some false)
  | .int _ => (by decide +kernel : kitB "int" "str" = some false)
  | .str _ => (by decide +kernel : kitB "str" "str" = some true)
  | .list _ => (by decide +kernel : kitB "list" "str" = some false)
  | .tuple _ => (by decide +kernel : kitB "tuple" "str" = some false)
  | .dict _ => (by decide +kernel : kitB "dict" "str" = some false)
/-! ### more readings -/
section
variable {K : PySem.W.Frag} {T : List (Addr × Str)} {σ : L2.St} {H : Hp} {te ta tb : TE} {d : PyData} {ds : List PyData}
theorem rp_ints {H : Hp} : ∀ ns : List Int, RpAll K H (ns.map V.int) (ns.map PyData.int)
  | [] => .nil
  | n :: ns => .cons (.int n) (rp_ints ns)
def rAddS : R2 := fun x y H Q => ∃ i j, x = .str i ∧ y = .str j ∧ i.length + j.length ≤ sizeLine ∧ Q (.str (i ++ j)) H
theorem op_addS {X : Cx} : OpR X (binaryOp .Add) rAddS := op_add_str
theorem Gv.to {d' : PyData} (h : Gv K T te σ H d) (e : d = d') : Gv K T te σ H d' := e ▸ h
end
end LB
namespace LB
open PySem PySem.Spec PyProof.Rows L2
/-! ### data without lists stay when an own list is changed -/
mutual
def tupD : PyData → Bool
  | .none => true
  | .bool _ => true
  | .int _ => true
  | .str _ => true
  | .tuple ds => tupDs ds
  | .list _ => false
  | .dict _ => false
def tupDs : List PyData → Bool
  | [] => true
  | d :: ds => tupD d && tupDs ds
end
/-- no tuple stands at p -/
def NoTup (H : Hp) (p : Addr) : Prop := ∀ xs, ¬ Rd H p (.tup xs)
theorem tp_mut {H : Hp} {p a : Addr} {o : HO} {xs : List V} (hp : NoTup H p) (h : H a = some (.tup xs)) : upd H p o a = some (.tup xs) := by
  rw [upd_ne fun z => hp xs (by rw [← z]; exact .inl h)]
  exact h
mutual
theorem rp_mut {K : PySem.W.Frag} {H : Hp} {p : Addr} {o : HO} (hp : NoTup H p) : ∀ {v : V} {d : PyData}, tupD d = true → Rp K H v d → Rp K (upd H p o) v d
  | _, _, _, .non => .non
  | _, _, _, .bl b => .bl b
  | _, _, _, .int i => .int i
  | _, _, _, .str x => .str x
  | _, _, h, .lst _ _ => absurd h (by simp [tupD])
  | _, _, h, .tup hs ha => .tup (tp_mut hp hs) (rps_mut hp (by simpa [tupD] using h) ha)
  | _, _, h, .dct _ _ _ => absurd h (by simp [tupD])
  | _, _, h, .dcT _ _ _ => absurd h (by simp [tupD])
theorem rps_mut {K : PySem.W.Frag} {H : Hp} {p : Addr} {o : HO} (hp : NoTup H p) : ∀ {vs : List V} {ds : List PyData}, tupDs ds = true → RpAll K H vs ds → RpAll K (upd H p o) vs ds
  | _, _, _, .nil => .nil
  | _, _, h, .cons h1 h2 => by
    unfold tupDs at h
    rw [Bool.and_eq_true] at h
    exact .cons (rp_mut hp h.1 h1) (rps_mut hp h.2 h2)
end
/-! ### readings that give some datum; tests -/
section
variable (K : PySem.W.Frag) (T : List (Addr × Str))
def Gn (te : TE) (σ : L2.St) (H : Hp) (Pd : PyData → Prop) : Prop := ∀ H1, Gw T H H1 → ∀ Q : VK, (∀ v d H2, Pd d → Gw T H1 H2 → Rp K H2 v d → Q v H2) → te σ H1 Q
def Gt (t : TT) (σ : L2.St) (H : Hp) (b : Bool) : Prop := ∀ H1, Gw T H H1 → ∀ Q : Bool → Hp → Prop, (∀ H2, Gw T H1 H2 → Q b H2) → t σ H1 Q
end
section
variable {K : PySem.W.Frag} {T : List (Addr × Str)} {σ : L2.St} {H : Hp} {te ta tb : TE} {d : PyData} {ds : List PyData} {b c : Bool} {tt tu : TT}
theorem Gv.n (h : Gv K T te σ H d) : Gn K T te σ H (· = d) := fun H1 g Q q => h H1 g Q fun v H2 g2 r => q v d H2 rfl g2 r
theorem Gv.up {H' : Hp} (h : Gv K T te σ H d) (g : Gw T H H') : Gv K T te σ H' d := fun H1 g1 Q q => h H1 (g.trans g1) Q q
/-! own calls -/
/-! statements -/
theorem s_if {t u : TS} {D : Ends} (h : Gt T tt σ H b) (h1 : b = true → ∀ H2, Gw T H H2 → t D σ H2) (h2 : b = false → ∀ H2, Gw T H H2 → u D σ H2) : tIfS tt t u D σ H := h H (Gw.refl T H) _ fun H2 g => by
  cases b with
  | false => exact iteF (h2 rfl H2 g)
  | true => exact iteT (h1 rfl H2 g)
end
end LB
namespace LB
open PySem PySem.Spec PyProof.Rows L2 PySem.W PySem.SeqAt
section
variable {A : Around} {s : Shared}
/-- the call of tuple's own __lt__, as sorting makes it -/
theorem call_tuple_lt {prog : Program} {w : World} {E : Value → Shared → Prop} {Q : Value → Shared → Prop} {l b : Addr} {items items2 : Array Value} {e r : Nat → Bool} (hl : s.heap.IsTuple l items) (hb : s.heap.IsTuple b items2)
    (he : ∀ j (h1 : j < items.size) (h2 : j < items2.size), EqAt A.in1 s items[j] items2[j] (e j)) (hr : ∀ j (h1 : j < items.size) (h2 : j < items2.size), e j = false → RcLt A.in1 s items[j] items2[j] (r j))
    (h : Q (.bool (firstLt e r (decide (items.size < items2.size)) (List.range (min items.size items2.size)))) s) : wpAny (model prog w) A (call (.builtin "tuple.__lt__") [.ref l, .ref b]) Q E s := by
  obtain ⟨⟨cls, dd, data, sl⟩, ho, hc, n, hd⟩ := id hl
  obtain ⟨⟨cls2, dd2, data2, sl2⟩, ho2, hc2, n2, hd2⟩ := id hb
  simp only at hc hd hc2 hd2
  subst hc hd hc2 hd2
  exact call_meets F.slot_tuple_lt ⟨_, ho, rfl⟩ F.entry_tuple_lt (F.args_tuple_lt_2 _ _) (tuple_ltAt l b items items2 n n2 dd dd2 sl sl2 e r) ⟨ho, ho2, he, hr, h⟩
theorem oneLt_tuple {prog : Program} {w : World} {E : Value → Shared → Prop} {xs ys : List PyData} {a b : Value} {as bs : List Addr} {Q : Bool → Shared → Prop} (ra : Reads s.heap a (.tuple xs) as) (rb : Reads s.heap b (.tuple ys) bs) (h : alike (.tuple xs) (.tuple ys) = true)
    (hu : A.units + min (PyData.tuple xs).depth (PyData.tuple ys).depth < cLine) (hq : Q (dataLt (.tuple xs) (.tuple ys)) s) : wpAny (model prog w) A (oneLt' true a b) Q E s := by
  have hal : alikeAll xs ys = true := by simpa [alike] using h
  cases ra with
  | @tuple l o vs n _ as₁ h1 h2 h3 h4 =>
    cases rb with
    | @tuple l' o' vs' n' _ bs₁ k1 k2 k3 k4 =>
      have n1 : vs.size = xs.length := by simpa using ReadsAll.length _ _ _ h4
      have n2 : vs'.size = ys.length := by simpa using ReadsAll.length _ _ _ k4
      rw [dataLt_tuple, ← firstLt_toks xs ys hal, ← n1, ← n2] at hq
      rw [oneLt'_eq]
      simp only [if_true]
      refine wpAny_bind (wpAny_cRoomFor (room_here hu) ?_)
      refine wpAny_bind (wpAny_callSpecialIfBound?_slot (T := "tuple") ⟨_, h1, h2⟩ F.slot_tuple_lt (call_tuple_lt (e := pairEq xs ys) (r := fun j => dataLt (xs.getD j .none) (ys.getD j .none)) ⟨_, h1, h2, _, h3⟩ ⟨_, k1, k2, _, k3⟩ (fun j j1 j2 => ?_) (fun j j1 j2 hj => ?_) ?_))
      · have := eqAt_alikeAll xs ys A.in1 s vs.toList vs'.toList _ _ h4 k4 hal (room_in hu) j (by simpa using j1) (by simpa using j2)
        simpa using this
      · have := rcLt_alikeAll xs ys A.in1 s vs.toList vs'.toList _ _ h4 k4 hal (room_in hu) j (by simpa using j1) (by simpa using j2) hj
        simpa using this
      · exact wpAny_truthy_bool hq
/-- tuples, the first of them empty -/
def Led (ds : List PyData) : Prop := ∃ r, ds = .tuple [] :: r ∧ ∀ d ∈ ds, ∃ xs, d = .tuple xs
theorem first_tup {M : Model} {E : Value → Shared → Prop} {v : Value} {xs : List PyData} {as : List Addr} {Q : Option Value → Shared → Prop} (r : Reads s.heap v (.tuple xs) as) (hq : ∀ o : Option Value, (xs = [] → o = none) → Q o s) : wpAny M A (firstOfTuple' v) Q E s := by
  rw [kas_first_eq]
  cases r with
  | @tuple l o vs n _ as₁ h1 h2 h3 h4 =>
    refine wpAny_bind (wpAny_typeOf_ref h1 ?_)
    rw [h2, if_neg (by decide)]
    refine wpAny_bind ?_
    unfold Builtin.List.listItems
    refine wpAny_bind (wpAny_seqItems h1 h3 (wpAny_pure (wpAny_pure (hq _ fun e => ?_))))
    subst e
    have h5 : vs.toList = [] := by
      cases q : vs.toList with
      | nil => rfl
      | cons a l =>
        rw [q] at h4
        cases h4
    have h6 : vs = #[] := by
      cases vs
      simp at h5
      rw [h5]
    rw [h6]
    rfl
theorem mapM_firsts {M : Model} {E : Value → Shared → Prop} : ∀ {vs : List Value} {ds : List PyData} {Q : List (Option Value) → Shared → Prop}, EachIs (fun v d => ∃ as, Reads s.heap v d as) vs ds → (∀ d ∈ ds, ∃ xs, d = .tuple xs) →
    (∀ os : List (Option Value), os.length = vs.length → (∀ r, ds = .tuple [] :: r → ∃ t, os = none :: t) → Q os s) → wpAny M A (vs.mapM firstOfTuple') Q E s
  | _, _, Q, .nil, _, h => by
    rw [List.mapM_nil]
    exact wpAny_pure (h [] rfl fun r e => nomatch e)
  | v :: vs, d :: ds, Q, .cons ⟨as, r⟩ t, ht, h => by
    rw [List.mapM_cons]
    obtain ⟨xs, rfl⟩ := ht d List.mem_cons_self
    refine wpAny_bind (first_tup r fun o ho => wpAny_bind (mapM_firsts t (fun d hd => ht d (List.mem_cons_of_mem _ hd)) fun os hl _ => wpAny_pure (h (o :: os) (by simp [hl]) fun r e => ?_)))
    have e1 : xs = [] := by
      injection e with e1 e2
      injection e1
    exact ⟨os, by rw [ho e1]⟩
theorem kind_led {M : Model} {E : Value → Shared → Prop} {vs : List Value} {ds : List PyData} {Q : SortKind → Shared → Prop} (e : EachIs (fun v d => ∃ as, Reads s.heap v d as) vs ds) (hl : Led ds) (h : Q oneType' s) : wpAny M A (keyKind' vs.toArray) Q E s := by
  obtain ⟨r, e1, ht⟩ := hl
  rw [keyKind'_eq, List.mapM_toArray, map_eq_pure_bind]
  refine wpAny_bind (wpAny_bind (mapM_firsts e ht fun os hlen h0 => wpAny_pure ?_))
  obtain ⟨t, rfl⟩ := h0 r e1
  rw [if_neg (by simp), if_neg (by simp)]
  rw [oneTypeOnly'_eq, List.mapM_toArray, map_eq_pure_bind]
  have hT : ∀ v ∈ vs, Looks M s.heap (typeOf v) (.type "tuple") := fun v hv => by
    obtain ⟨d, hd, as, q⟩ := e.left v hv
    obtain ⟨xs, rfl⟩ := ht d hd
    exact looks_reads q
  refine wpAny_bind (wpAny_bind (wpAny_bind (kas_mapM (r := Value.type "tuple") _ (fun v hv Q' hq => (hT v hv).here hq) (wpAny_pure ?_))))
  subst e1
  cases e with
  | cons q1 q2 =>
    rename_i v1 vs1
    have hall : ((List.map (fun _ => Value.type "tuple") (v1 :: vs1)).toArray.all fun x => x == Value.type "tuple") = true := by
      simp only [List.all_toArray, List.all_map, List.all_eq_true]
      intro _ _
      exact beq_self_eq_true _
    have h0 : (List.map (fun _ => Value.type "tuple") (v1 :: vs1)).toArray[0]? = some (Value.type "tuple") := by simp
    rw [h0]
    simp only [hall, if_true]
    exact wpAny_pure (wpAny_pure h)
theorem sorts_led {prog : Program} {w : World} {vs : List Value} {ds : List PyData} (e : EachIs (fun v d => ∃ as, Reads s.heap v d as) vs ds) (hal : AllAlike ds) (hk : Led ds) (hu : ∀ d, d ∈ ds → A.units + d.depth < cLine) : SortsAt prog w A s (dataKind s.heap ds) vs := by
  have room : ∀ {d d' : PyData}, d ∈ ds → A.units + min d.depth d'.depth < cLine := fun {d d'} hd => Nat.lt_of_le_of_lt (Nat.add_le_add_left (Nat.min_le_left _ _) _) (hu d hd)
  refine ⟨fun v hv => ?_, oneType', ?_, fun h2 E Q hq => kind_led e hk hq⟩
  · obtain ⟨d, hd, as, r⟩ := e.left v hv
    exact ⟨_, dataKind_some hal hd r⟩
  · intro E x y a b Q ha hb hq
    obtain ⟨d, as, hd, ra, rfl⟩ := dataKind_inv ha
    obtain ⟨d', as', hd', rb, rfl⟩ := dataKind_inv hb
    have al := hal d hd d' hd'
    have rm := room (d' := d') hd
    rw [keyLt'_oneType]
    obtain ⟨_, _, ht⟩ := hk
    obtain ⟨xs, rfl⟩ := ht d hd
    obtain ⟨ys, rfl⟩ := ht d' hd'
    exact oneLt_tuple ra rb al rm hq
theorem sorted_led {prog : Program} {w : World} {E : Value → Shared → Prop} {vs : List Value} {bs : List PyData} {R : Value → PyData → Prop} {l : Addr} {Q : Value → Shared → Prop} (hl : s.heap.IsList l vs.toArray) (e : EachIs R vs bs) (er : EachIs (fun v b => ∃ as, Reads s.heap v b as) vs bs) (hal : AllAlike bs) (hk : Led bs) (hL : bs.length ≤ sizeLine)
    (hu : ∀ b, b ∈ bs → A.units + 2 + b.depth < cLine) (h : ∀ out, out.length = bs.length → EachIs R out (bs.mergeSort (dataLe false id)) → Q (.ref (s.heap.objs.size + 1)) { s with heap := sortedAll s.heap vs (List.toArray out) }) :
    wpAny (model prog w) A (call (.builtin "sorted") [.ref l]) Q E s := by
  have er' : EachIs (fun v b => ∃ as, Reads (sortingHeap (copyHeap s.heap vs) (s.heap.objs.size + 1) vs) v b as) vs bs := er.mono fun _ _ ⟨as, r⟩ => ⟨as, PyProof.Rows.Reads.keeps (fun _ _ => sorting_copy_old) r⟩
  have hal' : AllAlike (bs.map id) := by rw [List.map_id]; exact hal
  have hf := sortVals_data (enc := id) (R := R) false e (er' : EachIs (fun v b => ∃ as, Reads (sortingHeap (copyHeap s.heap vs) (s.heap.objs.size + 1) vs) v (id b) as) vs bs) hal'
  rw [List.map_id] at hf
  exact sorted_vals hl (sorts_led (s := { s with heap := sortingHeap (copyHeap s.heap vs) (s.heap.objs.size + 1) vs }) er' hal hk hu) (by rw [e.length]; exact hL) (h _ (by rw [sortVals_length false rfl]; exact e.length) hf)
end
end LB
namespace LB
open PySem PySem.Spec PyProof.Rows L2 PySem.W PySem.SeqAt
/-- the sorted list of data -/
def sortD (ds : List PyData) : List PyData := ds.mergeSort (dataLe false id)
section
variable {X : Cx} {pins : List (Addr × Obj)} {σ : L2.St} {H : Hp} {s : Shared}
mutual
theorem reads_of (I : Inv X pins σ H s) : ∀ (d : PyData) (v : V) (u : Value), alike d d = true → Rp X.K H v d → RelV v u → ∃ as, Reads s.heap u d as
  | .none, _, _, _, .non, r => by
    cases (show _ = Value.none from r)
    exact ⟨_, .none⟩
  | .bool _, _, _, _, .bl b, r => by
    cases (show _ = Value.bool b from r)
    exact ⟨_, .bool b⟩
  | .int _, _, _, _, .int i, r => by
    obtain ⟨t, rfl⟩ := r
    exact ⟨_, .int i t⟩
  | .str _, _, _, _, .str x, r => by
    obtain ⟨t, rfl⟩ := r
    exact ⟨_, .str x t⟩
  | .list ds, _, _, h, .lst hs ha, r => by
    cases (show _ = Value.ref _ from r)
    obtain ⟨its, rv, pl, hz⟩ := I.list hs
    obtain ⟨as, q⟩ := readsAll_of I ds _ its (by simpa [alike] using h) ha rv
    obtain ⟨o, h1, h2, n, h3⟩ := pl.isList
    exact ⟨_, .list h1 h2 h3 (by simpa using q)⟩
  | .tuple ds, _, _, h, .tup hs0 ha, r => by
    have hs := SqT.of (K := X.K) hs0
    cases (show _ = Value.ref _ from r)
    obtain ⟨its, rv, pl, hz⟩ := I.tuple hs
    obtain ⟨as, q⟩ := readsAll_of I ds _ its (by simpa [alike] using h) ha rv
    obtain ⟨o, h1, h2, n, h3⟩ := pl
    exact ⟨_, .tuple h1 h2 h3 (by simpa using q)⟩
  | .dict _, _, _, h, _, _ => absurd h (by simp [alike])
theorem readsAll_of (I : Inv X pins σ H s) : ∀ (ds : List PyData) (vs : List V) (us : List Value), alikeAll ds ds = true → RpAll X.K H vs ds → Vals vs us → ∃ as, ReadsAll s.heap us ds as
  | [], _, _, _, .nil, .nil => ⟨_, .nil⟩
  | d :: ds, _, _, h, .cons h1 h2, .cons r1 r2 => by
    obtain ⟨a1, a2⟩ := alike_all_cons h
    obtain ⟨as, q1⟩ := reads_of I d _ _ a1 h1 r1
    obtain ⟨bs, q2⟩ := readsAll_of I ds _ _ a2 h2 r2
    exact ⟨_, .cons q1 q2⟩
end
theorem each_of (I : Inv X pins σ H s) : ∀ {ds : List PyData} {vs : List V} {us : List Value}, (∀ d ∈ ds, alike d d = true) → RpAll X.K H vs ds → Vals vs us →
    EachIs (fun u d => ∃ v, Rp X.K H v d ∧ RelV v u) us ds ∧ EachIs (fun u d => ∃ as, Reads s.heap u d as) us ds
  | [], _, _, _, .nil, .nil => ⟨.nil, .nil⟩
  | d :: ds, _, _, h, .cons h1 h2, .cons r1 r2 => by
    obtain ⟨q1, q2⟩ := each_of I (fun d hd => h d (List.mem_cons_of_mem _ hd)) h2 r2
    exact ⟨.cons ⟨_, h1, r1⟩ q1, .cons (reads_of I d _ _ (h d List.mem_cons_self) h1 r1) q2⟩
/-- data that sorted takes -/
structure Srt (ds : List PyData) : Prop where
  al : AllAlike ds
  ok : Sortable ds ∨ Led ds
  dp : ∀ d ∈ ds, d.depth ≤ 40
  len : ds.length ≤ 100000
end
end LB
namespace LB
open PySem PySem.Spec PyProof.Rows L2 PySem.W PySem.SeqAt
def keysD (kvs : List (List Key × V)) : List PyData := kvs.map fun p => .tuple (p.1.map keyD)
/-- b is a tracked tuple of these keys -/
def TupK (H : Hp) (b : Addr) (d : PyData) : Prop := ∃ ks : List Key, d = .tuple (ks.map keyD) ∧ H b = some (.tup (ks.map kV))
section
variable {X : Cx} {pins : List (Addr × Obj)} {σ : L2.St} {H : Hp} {s : Shared}
end
end LB
namespace LB
open PySem PySem.Spec PyProof.Rows L2
theorem room_u64 {k : Nat} {A : Around} (r : Room k A) : A.units + 64 < cLine := by have := r.un; omega
theorem szl' {n m : Nat} (h : n < m) (hm : m ≤ 100000) : n < sizeLine := Nat.lt_of_lt_of_le h (Nat.le_trans hm (by decide))
/-! ### list comprehensions over data, the target one name -/
section
variable {K : PySem.W.Frag} {T : List (Addr × Str)} {σ : L2.St} {H : Hp} {te ta tb tel : TE} {tt : TT} {d : PyData} {ds : List PyData} {wi : TI}
/-- what a walk gives, whatever grows meanwhile -/
structure WalksR (R : Hp → V → PyData → Prop) (T : List (Addr × Str)) (J : It) (H1 : Hp) (ds : List PyData) : Prop where
  stop : ∀ H', Gw T H1 H' → J.stop ds.length H'
  go : ∀ i H', i < ds.length → Gw T H1 H' → J.go i H'
  yld : ∀ i H' x H'', i < ds.length → Gw T H1 H' → J.yld i H' x H'' → H'' = H' ∧ ∃ d, ds[i]? = some d ∧ R H' x d
abbrev Walks (K : PySem.W.Frag) (T : List (Addr × Str)) (J : It) (H1 : Hp) (ds : List PyData) : Prop := WalksR (fun H v d => Rp K H v d) T J H1 ds
/-- the numbers below m -/
def rngD (m : Nat) : List PyData := (List.range m).map fun i => PyData.int ((i : Nat) : Int)
theorem rngD_length (m : Nat) : (rngD m).length = m := by simp [rngD]
end
end LB
namespace LB
open PySem PySem.Spec PyProof.Rows L2
section
variable {K : PySem.W.Frag} {T : List (Addr × Str)} {σ : L2.St} {H : Hp} {te ta tb : TE} {d : PyData} {ds es : List PyData} {tl th : TO} {lo hi : Option Int}
/-- a cut of data -/
def cutD {α : Type} (xs : List α) (lo hi : Option Int) : List α := (xs.drop (HT.sIx xs.length 0 lo)).take (HT.sIx xs.length xs.length hi - HT.sIx xs.length 0 lo)
theorem RpAll.drop {H : Hp} : ∀ {xs : List V} {ds : List PyData} (n : Nat), RpAll K H xs ds → RpAll K H (xs.drop n) (ds.drop n)
  | _, _, 0, r => r
  | _, _, n + 1, .nil => .nil
  | _, _, n + 1, .cons _ r => RpAll.drop n r
theorem RpAll.take {H : Hp} : ∀ {xs : List V} {ds : List PyData} (n : Nat), RpAll K H xs ds → RpAll K H (xs.take n) (ds.take n)
  | _, _, 0, _ => .nil
  | _, _, n + 1, .nil => .nil
  | _, _, n + 1, .cons h r => .cons h (RpAll.take n r)
theorem RpAll.cut {H : Hp} {xs : List V} {ds : List PyData} (r : RpAll K H xs ds) (lo hi : Option Int) : RpAll K H (cutV xs lo hi) (cutD ds lo hi) := by
  unfold cutV cutD
  rw [r.length]
  exact (r.drop _).take _
theorem RpAll.reverse {H : Hp} : ∀ {xs : List V} {ds : List PyData}, RpAll K H xs ds → RpAll K H xs.reverse ds.reverse
  | _, _, .nil => .nil
  | _, _, .cons h r => by
    rw [List.reverse_cons, List.reverse_cons]
    exact RpAll.append (RpAll.reverse r) (.cons h .nil)
end
end LB
namespace LB
open PySem PySem.Spec PyProof.Rows L2
/-! ### the names of a drawn web -/
def abc : Str := "abcdefghijklmnopqrstuvwxyz"
def ch (c : Nat) : Str := ⟨#[c]⟩
theorem abc_nat : ∀ n : Nat, n < 26 → abc.cps.toList[n]? = some (97 + n) := by decide +kernel
theorem abc_at {i : Int} (h0 : 0 ≤ i) (h1 : i < 26) : atI abc.cps.toList i = some (97 + i.toNat) := by
  have e : ((i.toNat : Nat) : Int) = i := by omega
  have z := atI_nat (abc_nat i.toNat (by omega))
  rw [e] at z
  exact z
theorem abc_len : abc.length ≤ 1000 := by decide +kernel
def abch : Str := "abcdefgh"
theorem abch_nat : ∀ n : Nat, n < 8 → abch.cps.toList[n]? = some (97 + n) := by decide +kernel
theorem abch_at {i : Nat} (h : i < 8) : atI abch.cps.toList (i : Int) = some (97 + i) := atI_nat (abch_nat i h)
theorem abch_len : abch.length ≤ 1000 := by decide +kernel
def lt26 (i : Int) : Nat := 97 + (i.fmod 26).toNat
/-- the k-th drawn name -/
def nmOf (x0 x1 x2 x3 : Int) (k : Nat) : Str :=
  if x1.fmod 4 = 3 then (ch (lt26 x2) ++ ch (lt26 (x3 + 5 * (k : Int)))) ++ ch (lt26 x0)
  else if x1.fmod 4 = 2 then repS (ch (lt26 x2)) (1 + k)
  else if x1.fmod 4 = 1 then ch (97 + k) ++ repS (ch (lt26 x2)) (x3.fmod 8).toNat
  else repS (ch (lt26 (x0 + 7 * (k : Int)))) (1 + ((x2 + 3 * (k : Int)).fmod (if x3.fmod 2 = 1 then 5 else 1)).toNat)
/-- a name: one to eight letters -/
def NameOk (x : Str) : Prop := 1 ≤ x.length ∧ x.length ≤ 8 ∧ ∀ c ∈ x.cps.toList, 97 ≤ c ∧ c ≤ 122
theorem lt26_ok (i : Int) : 97 ≤ lt26 i ∧ lt26 i ≤ 122 := by
  have := fm i (b := 26) (by decide)
  unfold lt26
  omega
theorem app_cps (x y : Str) : (x ++ y).cps.toList = x.cps.toList ++ y.cps.toList := by
  show (x.cps ++ y.cps).toList = _
  simp
theorem app_length (x y : Str) : (x ++ y).length = x.length + y.length := by
  show (x.cps ++ y.cps).size = _
  simp
  rfl
theorem rep_cps (c n : Nat) : (repS (ch c) n).cps.toList = List.replicate n c := by
  show ((List.replicate n [c]).flatten).toArray.toList = _
  rw [List.toList_toArray]
  induction n with
  | zero => rfl
  | succ n ih =>
    rw [List.replicate_succ, List.flatten_cons, ih, List.replicate_succ]
    rfl
theorem rep_length (c n : Nat) : (repS (ch c) n).length = n := by
  rw [repS_length]
  show n * 1 = n
  omega
theorem ch_length (c : Nat) : (ch c).length = 1 := rfl
theorem ch_cps (c : Nat) : (ch c).cps.toList = [c] := rfl
theorem nm_ok (x0 x1 x2 x3 : Int) {k : Nat} (hk : k < 8) : NameOk (nmOf x0 x1 x2 x3 k) := by
  unfold nmOf
  split
  · refine ⟨?_, ?_, fun c hc => ?_⟩
    · rw [app_length, app_length, ch_length, ch_length, ch_length]; omega
    · rw [app_length, app_length, ch_length, ch_length, ch_length]; omega
    · rw [app_cps, app_cps, ch_cps, ch_cps, ch_cps] at hc
      simp at hc
      rcases hc with rfl | rfl | rfl <;> exact lt26_ok _
  · split
    · refine ⟨?_, ?_, fun c hc => ?_⟩
      · rw [rep_length]; omega
      · rw [rep_length]; omega
      · rw [rep_cps] at hc
        rw [List.eq_of_mem_replicate hc]
        exact lt26_ok _
    · split
      · have := fm x3 (b := 8) (by decide)
        refine ⟨?_, ?_, fun c hc => ?_⟩
        · rw [app_length, ch_length, rep_length]; omega
        · rw [app_length, ch_length, rep_length]; omega
        · rw [app_cps, ch_cps, rep_cps] at hc
          rcases List.mem_append.mp hc with h | h
          · rw [List.mem_singleton.mp h]; omega
          · rw [List.eq_of_mem_replicate h]
            exact lt26_ok _
      · have := fm (x2 + 3 * (k : Int)) (b := if x3.fmod 2 = 1 then 5 else 1) (by split <;> decide)
        have h5 : (if x3.fmod 2 = 1 then (5 : Int) else 1) ≤ 5 := by split <;> decide
        refine ⟨?_, ?_, fun c hc => ?_⟩
        · rw [rep_length]; omega
        · rw [rep_length]; omega
        · rw [rep_cps] at hc
          rw [List.eq_of_mem_replicate hc]
          exact lt26_ok _
theorem fm26 {a : Int} {i j c : Nat} (hi : i < 8) (hj : j < 8) (hc : c = 5 ∨ c = 7) (h : lt26 (a + (c : Int) * (i : Int)) = lt26 (a + (c : Int) * (j : Int))) : i = j := by
  unfold lt26 at h
  have h1 := fm (a + (c : Int) * (i : Int)) (b := 26) (by decide)
  have h2 := fm (a + (c : Int) * (j : Int)) (b := 26) (by decide)
  have e1 : (a + (c : Int) * (i : Int)).fmod 26 = (a + (c : Int) * (i : Int)) % 26 := Int.fmod_eq_emod_of_nonneg _ (by decide)
  have e2 : (a + (c : Int) * (j : Int)).fmod 26 = (a + (c : Int) * (j : Int)) % 26 := Int.fmod_eq_emod_of_nonneg _ (by decide)
  rcases hc with rfl | rfl <;> omega
theorem nm_inj (x0 x1 x2 x3 : Int) {i j : Nat} (hi : i < 8) (hj : j < 8) (h : nmOf x0 x1 x2 x3 i = nmOf x0 x1 x2 x3 j) : i = j := by
  unfold nmOf at h
  split at h
  · have e := congrArg (fun x : Str => x.cps.toList) h
    simp only [app_cps, ch_cps] at e
    simp at e
    exact fm26 (c := 5) hi hj (.inl rfl) e
  · split at h
    · have e := congrArg (fun x : Str => x.length) h
      simp only [rep_length] at e
      omega
    · split at h
      · have e := congrArg (fun x : Str => x.cps.toList) h
        simp only [app_cps, ch_cps, rep_cps] at e
        simp at e
        omega
      · have e := congrArg (fun x : Str => x.cps.toList.head?) h
        simp only [rep_cps] at e
        rw [Nat.add_comm 1, Nat.add_comm 1, List.replicate_succ, List.replicate_succ] at e
        simp at e
        exact fm26 (c := 7) hi hj (.inr rfl) e
/-- names that rise -/
def Rise (ns : List Str) : Prop := ns.Pairwise fun a b => a.cps.toList < b.cps.toList
structure NamesOk (m : Nat) (ns : List Str) : Prop where
  len : ns.length = m
  rise : Rise ns
  each : ∀ x ∈ ns, NameOk x
theorem str_ext {x y : Str} (h : x.cps.toList = y.cps.toList) : x = y := by
  cases x
  cases y
  congr 1
  exact Array.toList_inj.mp h
theorem rising_all : ∀ (ns : List Str) (x : Str), risingS x ns = true → (∀ y ∈ ns, x.cps.toList ≤ y.cps.toList) ∧ ns.Pairwise fun a b => a.cps.toList ≤ b.cps.toList
  | [], _, _ => ⟨fun y hy => (List.not_mem_nil hy).elim, List.Pairwise.nil⟩
  | z :: ns, x, h => by
    unfold risingS at h
    rw [Bool.and_eq_true] at h
    obtain ⟨q1, q2⟩ := rising_all ns z h.2
    have q0 : x.cps.toList ≤ z.cps.toList := by
      have h1 := h.1
      rw [ltCps_eq, Bool.not_eq_true', decide_eq_false_iff_not] at h1
      exact List.not_lt.mp h1
    refine ⟨fun y hy => ?_, List.Pairwise.cons q1 q2⟩
    rcases List.mem_cons.mp hy with e | hy
    · rw [e]
      exact q0
    · exact List.le_trans q0 (q1 y hy)
theorem rise_of {ns : List Str} (hs : sortedS ns = true) (hn : ns.Nodup) : Rise ns := by
  have h1 : ns.Pairwise fun a b => ¬ b.cps.toList < a.cps.toList := by
    cases ns with
    | nil => exact List.Pairwise.nil
    | cons x r =>
      obtain ⟨q1, q2⟩ := rising_all r x hs
      exact List.Pairwise.cons (fun y hy => List.not_lt.mpr (q1 y hy)) (q2.imp fun h => List.not_lt.mpr h)
  refine (h1.and hn).imp fun {a b} ⟨p, q⟩ => ?_
  by_cases h : a.cps.toList < b.cps.toList
  · exact h
  · exact absurd (str_ext (List.le_antisymm p h)) q
end LB
namespace LB
open PySem PySem.Spec PyProof.Rows L2
/-! ### promises of the defs by which a web is drawn -/
/-- drawn numbers -/
def NumsOk (m : Nat) (xs : List Int) : Prop := xs.length = m ∧ ∀ x ∈ xs, 0 ≤ x ∧ x < 2000000000
section
variable {K : PySem.W.Frag} {T : List (Addr × Str)} {σ : L2.St} {H : Hp} {te ta tb : TE} {d : PyData} {ds : List PyData}
end
end LB
namespace LB
open PySem PySem.Spec PyProof.Rows L2 PySem.W
/-! ### places, ties, webs among data -/
def PlaceOk (top : Int) (x : Str) (d : PyData) : Prop := ∃ a b c e : Int, d = .tuple [.str x, .int a, .int b, .int c, .int e] ∧ (0 ≤ a ∧ a < 100) ∧ (0 ≤ b ∧ b < 100) ∧ (0 ≤ e ∧ e < 100) ∧ e * top ≤ c ∧ c ≤ 999
def TieOk (ns : List Str) (d : PyData) : Prop := ∃ (a b : Str) (s : Int), d = .tuple [.str a, .str b, .int s] ∧ a ∈ ns ∧ b ∈ ns ∧ a ≠ b ∧ 1 ≤ s ∧ s ≤ 999
structure WebOk (top : Int) (ns : List Str) (ps ts : List PyData) : Prop where
  t1 : 1 ≤ top
  t9 : top ≤ 9
  n1 : 1 ≤ ns.length
  n8 : ns.length ≤ 8
  rise : Rise ns
  each : ∀ x ∈ ns, NameOk x
  pl : EachIs (PlaceOk top) ns ps
  tl : ts.length ≤ 16
  ti : ∀ t ∈ ts, TieOk ns t
section
variable {K : PySem.W.Frag} {T : List (Addr × Str)} {σ : L2.St} {H : Hp} {te ta tb : TE} {d : PyData} {ds : List PyData}
end
end LB
namespace LB
open PySem PySem.Spec PyProof.Rows L2 PySem.W
/-! ### the dict of ties -/
def TK (ns : List Str) (kvs : List (List Key × V)) : Prop := ∀ e ∈ kvs, ∃ (a b : Str) (s : Int), e = ([.inr a, .inr b], .int s) ∧ a ∈ ns ∧ b ∈ ns ∧ a ≠ b ∧ 1 ≤ s ∧ s ≤ 999
theorem TK.put {ns : List Str} {kvs : List (List Key × V)} (h : TK ns kvs) {a b : Str} {s : Int} (ha : a ∈ ns) (hb : b ∈ ns) (hn : a ≠ b) (h1 : 1 ≤ s) (h9 : s ≤ 999) : TK ns (putK kvs [.inr a, .inr b] (.int s)) := by
  intro e he
  unfold putK at he
  split at he
  · obtain ⟨kv, hk, rfl⟩ := List.mem_map.mp he
    by_cases z : kv.1 = [.inr a, .inr b]
    · rw [if_pos z, z]
      exact ⟨a, b, s, rfl, ha, hb, hn, h1, h9⟩
    · rw [if_neg z]
      exact h kv hk
  · rcases List.mem_append.mp he with h' | h'
    · exact h e h'
    · rw [List.mem_singleton.mp h']
      exact ⟨a, b, s, rfl, ha, hb, hn, h1, h9⟩
theorem TK.key {ns : List Str} {kvs : List (List Key × V)} (h : TK ns kvs) : ∀ d ∈ keysD kvs, ∃ a b : Str, d = .tuple [.str a, .str b] := by
  intro d hd
  obtain ⟨p, hp, rfl⟩ := List.mem_map.mp hd
  obtain ⟨a, b, s, rfl, _⟩ := h p hp
  exact ⟨a, b, rfl⟩
theorem TK.srt {ns : List Str} {kvs : List (List Key × V)} (h : TK ns kvs) (hl : kvs.length ≤ 1000) : Srt (keysD kvs) ∧ Sortable (keysD kvs) := by
  have ok : Sortable (keysD kvs) := .inl fun d hd => by
    obtain ⟨a, b, rfl⟩ := h.key d hd
    exact ⟨_, _, rfl⟩
  refine ⟨⟨fun d hd d' hd' => ?_, .inl ok, fun d hd => ?_, by unfold keysD; rw [List.length_map]; omega⟩, ok⟩
  · obtain ⟨a, b, rfl⟩ := h.key d hd
    obtain ⟨a', b', rfl⟩ := h.key d' hd'
    rfl
  · obtain ⟨a, b, rfl⟩ := h.key d hd
    exact Nat.le_of_ble_eq_true rfl
/-- what a key leads to -/
theorem TK.val {ns : List Str} {kvs : List (List Key × V)} (h : TK ns kvs) {d : PyData} (hd : d ∈ keysD kvs) : ∃ (a b : Str) (s : Int), d = .tuple [.str a, .str b] ∧ valV kvs [.inr a, .inr b] = some (.int s) ∧ a ∈ ns ∧ b ∈ ns ∧ a ≠ b ∧ 1 ≤ s ∧ s ≤ 999 := by
  obtain ⟨p, hp, rfl⟩ := List.mem_map.mp hd
  obtain ⟨a, b, s, rfl, _⟩ := h p hp
  cases hf : kvs.find? (fun kv => decide (kv.1 = [.inr a, .inr b])) with
  | none =>
    have := List.find?_eq_none.mp hf _ hp
    simp at this
  | some q =>
    have hq := List.mem_of_find?_eq_some hf
    have hk : q.1 = [.inr a, .inr b] := by simpa using List.find?_some hf
    obtain ⟨a', b', s', e, h1, h2, h3, h4, h5⟩ := h q hq
    rw [e] at hk
    cases hk
    refine ⟨a, b, s', rfl, ?_, h1, h2, h3, h4, h5⟩
    unfold valV
    rw [hf, e] <;> rfl
section
variable {K : PySem.W.Frag} {T : List (Addr × Str)} {σ : L2.St} {H : Hp} {te ta tb : TE} {d : PyData} {ds : List PyData}
theorem TupK.up {H H' : Hp} {b : Addr} (h : TupK H b d) (g : Gw T H H') : TupK H' b d := by
  obtain ⟨ks, rfl, e⟩ := h
  exact ⟨ks, rfl, g.tup e⟩
end
end LB
namespace LB
open PySem PySem.Spec PyProof.Rows L2
/-! ### rules that name the written part: for the blocks of comprehensions -/
section
variable (K : PySem.W.Frag) {X : Cx}
theorem op_inK (h : X.K = K := by rfl) : OpR X (compareOp .In) (rIn K false) := by
  subst h
  exact op_in_seq
theorem op_notInK (h : X.K = K := by rfl) : OpR X (compareOp .NotIn) (rIn K true) := by
  subst h
  exact op_notIn_seq
theorem call_lenK (h : X.K = K := by rfl) : CallR X (.builtin "len") (fun xs H Q => ∃ x n, xs = [x] ∧ LenV K x H n ∧ Q (.int n) H) := by
  subst h
  exact call_len
theorem call_isK (h : X.K = K := by rfl) : CallR X (.builtin "isinstance") (rIsiY K) := by
  subst h
  exact call_isiY
theorem call_tupK (h : X.K = K := by rfl) : CallR X (.type "tuple") (fun xs H Q => ∃ p ys, xs = [.ref p] ∧ ((SqL K H p ys ∧ ∀ l, H l = none → Q (.ref l) (upd H l (.tup ys))) ∨ (SqT K H p ys ∧ Q (.ref p) H))) := by
  subst h
  exact call_tuple_of
end
end LB
namespace LB
open PySem PySem.Spec PyProof.Rows L2
mutual
def ndD : PyData → Bool
  | .none => true
  | .bool _ => true
  | .int _ => true
  | .str _ => true
  | .tuple ds => ndDs ds
  | .list ds => ndDs ds
  | .dict _ => false
def ndDs : List PyData → Bool
  | [] => true
  | d :: ds => ndD d && ndDs ds
end
def NoSeq (H : Hp) (p : Addr) : Prop := ∀ xs, ¬ Rd H p (.tup xs) ∧ ¬ Rd H p (.lst xs)
theorem sqL_mutD {K : PySem.W.Frag} {H : Hp} {p a : Addr} {o : HO} {xs : List V} (hp : NoSeq H p) (h : SqL K H a xs) : SqL K (upd H p o) a xs := by
  rcases h with h | h
  · have n : a ≠ p := fun z => (hp xs).2 (by rw [← z]; exact h)
    refine .inl ?_
    rcases h with h | ⟨u, h⟩
    · exact .inl (by rw [upd_ne n]; exact h)
    · exact .inr ⟨u, by rw [upd_ne n]; exact h⟩
  · exact .inr h
mutual
theorem rp_mutD {K : PySem.W.Frag} {H : Hp} {p : Addr} {o : HO} (hp : NoSeq H p) : ∀ {v : V} {d : PyData}, ndD d = true → Rp K H v d → Rp K (upd H p o) v d
  | _, _, _, .non => .non
  | _, _, _, .bl b => .bl b
  | _, _, _, .int i => .int i
  | _, _, _, .str x => .str x
  | _, _, h, .lst hs ha => .lst (sqL_mutD hp hs) (rps_mutD hp (by simpa [ndD] using h) ha)
  | _, _, h, .tup hs ha => .tup (tp_mut (fun ys => (hp ys).1) hs) (rps_mutD hp (by simpa [ndD] using h) ha)
  | _, _, h, .dct _ _ _ => absurd h (by simp [ndD])
  | _, _, h, .dcT _ _ _ => absurd h (by simp [ndD])
theorem rps_mutD {K : PySem.W.Frag} {H : Hp} {p : Addr} {o : HO} (hp : NoSeq H p) : ∀ {vs : List V} {ds : List PyData}, ndDs ds = true → RpAll K H vs ds → RpAll K (upd H p o) vs ds
  | _, _, _, .nil => .nil
  | _, _, h, .cons h1 h2 => by
    unfold ndDs at h
    rw [Bool.and_eq_true] at h
    exact .cons (rp_mutD hp h.1 h1) (rps_mutD hp h.2 h2)
end
section
variable {K : PySem.W.Frag} {T : List (Addr × Str)} {σ : L2.St} {H : Hp}
end
end LB
namespace PM
open PySem PySem.Spec PyProof.Rows L2 LB
/-! ### two heaps: M what data may stand on, H all -/
abbrev Tb := List (Addr × Str)
structure Pr (T : Tb) where
  M : Hp
  H : Hp
  sub : Ex M H
  tab : LamX.Tabs T H
  nt : ∀ a ps, M a ≠ some (.tbl ps)
def Loose (H : Hp) (a : Addr) : Prop := ∀ o, H a = some o → ∃ ps, o = HO.tbl ps
/-- free to be stood on: new, or a tuple -/
def Opn (H : Hp) (a : Addr) : Prop := Loose H a ∨ ∃ vs, H a = some (.tup vs)
structure Le {T : Tb} (P P' : Pr T) : Prop where
  m : Ex P.M P'.M
  h : Ex P.H P'.H
  f : ∀ a, P.M a = none → P'.M a ≠ none → Opn P.H a
variable {T : Tb} {K : PySem.W.Frag}
theorem Le.refl (P : Pr T) : Le P P := ⟨ex_refl _, ex_refl _, fun a h n => absurd h n⟩
theorem loose_back {H H' : Hp} (e : Ex H H') {a : Addr} (h : Loose H' a) : Loose H a := fun o ho => by
  by_cases t : ∃ ps, o = HO.tbl ps
  · exact t
  · exact h o (e a o ho fun ps z => t ⟨ps, z⟩)
theorem opn_back {H H' : Hp} (e : Ex H H') {a : Addr} (h : Opn H' a) : Opn H a := by
  rcases h with h | ⟨vs, h⟩
  · exact .inl (loose_back e h)
  · cases z : H a with
    | none => exact .inl fun o ho => by rw [z] at ho; cases ho
    | some o =>
      by_cases t : ∃ ps, o = HO.tbl ps
      · exact .inl fun o' ho => by
          rw [z] at ho
          cases ho
          exact t
      · have := e a o z fun ps w => t ⟨ps, w⟩
        rw [h] at this
        cases this
        exact .inr ⟨vs, z⟩
theorem Le.trans {P P' P'' : Pr T} (a : Le P P') (b : Le P' P'') : Le P P'' := ⟨a.m.trans b.m, a.h.trans b.h, fun p h n => by
  by_cases z : P'.M p = none
  · exact opn_back a.h (b.f p z n)
  · exact a.f p h z⟩
theorem loose_none {H : Hp} {a : Addr} (h : H a = none) : Loose H a := fun o e => by rw [h] at e; cases e
theorem Loose.lst {H : Hp} {a : Addr} {xs : List V} (h : Loose H a) (e : H a = some (.lst xs)) : False := by
  obtain ⟨ps, z⟩ := h _ e
  cases z
theorem Loose.dT {H : Hp} {a : Addr} {xs : List (List Key × V)} (h : Loose H a) (e : H a = some (.dT xs)) : False := by
  obtain ⟨ps, z⟩ := h _ e
  cases z
theorem Loose.dK {H : Hp} {a : Addr} {xs : List (Key × V)} (h : Loose H a) (e : H a = some (.dK xs)) : False := by
  obtain ⟨ps, z⟩ := h _ e
  cases z
/-- o is no table -/
def Plain (o : HO) : Prop := ∀ ps, o ≠ .tbl ps
theorem Pr.none (P : Pr T) {p : Addr} (h : P.H p = Option.none) : P.M p = Option.none := by
  cases e : P.M p with
  | none => rfl
  | some o =>
    have := P.sub p o e fun ps z => P.nt p ps (by rw [e, z])
    rw [h] at this
    cases this
theorem ex_upd {M H : Hp} (s : Ex M H) {p : Addr} {o : HO} (h : H p = none) : Ex M (upd H p o) := fun b u e n => by
  have := s b u e n
  rw [upd_ne (ne_of_none this h)]
  exact this
theorem ex_upd2 {M H : Hp} (s : Ex M H) {p : Addr} {o : HO} : Ex (upd M p o) (upd H p o) := fun b u e n => by
  by_cases z : b = p
  · subst z
    rw [upd_same] at e ⊢
    exact e
  · rw [upd_ne z] at e ⊢
    exact s b u e n
theorem ex_updM {M H : Hp} (s : Ex M H) {p : Addr} {o : HO} (h : H p = none) : Ex M (upd M p o) := fun b u e n => by
  have := s b u e n
  rw [upd_ne (ne_of_none this h)]
  exact e
theorem nt_upd {M : Hp} {p : Addr} {o : HO} (h : ∀ a ps, M a ≠ some (.tbl ps)) (n : Plain o) : ∀ a ps, upd M p o a ≠ some (.tbl ps) := fun a ps z => by
  by_cases e : a = p
  · subst e
    rw [upd_same] at z
    exact n ps (Option.some.inj z)
  · rw [upd_ne e] at z
    exact h a ps z
/-- a new object that data may stand on -/
def Pr.put (P : Pr T) (p : Addr) (o : HO) (h : P.H p = Option.none) (n : Plain o := by exact fun _ z => nomatch z) : Pr T := ⟨upd P.M p o, upd P.H p o, ex_upd2 P.sub, (gw_new (T := T) h).2 P.tab, nt_upd P.nt n⟩
/-- a new object of its own -/
def Pr.hid (P : Pr T) (p : Addr) (o : HO) (h : P.H p = Option.none) : Pr T := ⟨P.M, upd P.H p o, ex_upd P.sub h, (gw_new (T := T) h).2 P.tab, P.nt⟩
theorem le_put (P : Pr T) {p : Addr} {o : HO} (h : P.H p = none) (n : Plain o := by exact fun _ z => nomatch z) : Le P (P.put p o h n) := ⟨ex_updM P.sub h, ex_new h, fun a z n => by
  by_cases e : a = p
  · subst e
    exact .inl (loose_none h)
  · exact absurd z (by
      have : (upd P.M p o) a ≠ none := n
      rw [upd_ne e] at this
      exact this)⟩
theorem le_hid (P : Pr T) {p : Addr} {o : HO} (h : P.H p = none) : Le P (P.hid p o h) := ⟨ex_refl _, ex_new h, fun a z n => absurd z n⟩
/-! ### what stands in a slot -/
inductive Sl where
  | no | val (d : PyData) | own (d : PyData) | exn (a : Addr) | ods (ds : List (Str × PyData)) | lck (ds : List (PyData × PyData))
abbrev Ev := List Sl
def DT (K : PySem.W.Frag) (M : Hp) (e : List Key × V) (f : PyData × PyData) : Prop := f.1 = .tuple (e.1.map keyD) ∧ Rp K M e.2 f.2
def DS (K : PySem.W.Frag) (M : Hp) (e : Key × V) (f : Str × PyData) : Prop := e.1 = .inr f.1 ∧ Rp K M e.2 f.2
inductive OwnAt (K : PySem.W.Frag) (P : Pr T) (p : Addr) : PyData → Prop
  | lst {xs : List V} {ds : List PyData} : P.M p = none → P.H p = some (.lst xs) → RpAll K P.M xs ds → OwnAt K P p (.list ds)
  | dT {kvs : List (List Key × V)} {ds : List (PyData × PyData)} : P.M p = none → P.H p = some (.dT kvs) → PySem.W.EachIs (DT K P.M) kvs ds → OwnAt K P p (.dict ds)
theorem own_none {P P' : Pr T} (l : Le P P') {p : Addr} {o : HO} (h : P.M p = none) (e : P.H p = some o) (n : Plain o) (n2 : ∀ vs, o ≠ .tup vs) : P'.M p = none := by
  cases z : P'.M p with
  | none => rfl
  | some u =>
    rcases l.f p h (by rw [z]; exact fun q => nomatch q) with w | ⟨vs, w⟩
    · obtain ⟨ps, w⟩ := w o e
      exact absurd w (n ps)
    · rw [e] at w
      exact absurd (Option.some.inj w) (n2 vs)
theorem OwnAt.up {P P' : Pr T} (l : Le P P') {p : Addr} {d : PyData} (h : OwnAt K P p d) : OwnAt K P' p d := by
  cases h with
  | lst h1 h2 h3 => exact .lst (own_none l h1 h2 (fun _ z => nomatch z) fun _ z => nomatch z) (l.h _ _ h2 fun _ z => nomatch z) (h3.ext l.m)
  | dT h1 h2 h3 => exact .dT (own_none l h1 h2 (fun _ z => nomatch z) fun _ z => nomatch z) (l.h _ _ h2 fun _ z => nomatch z) (h3.mono fun _ _ r => ⟨r.1, r.2.ext l.m⟩)
/-- the object of an own thing -/
theorem OwnAt.obj {P : Pr T} {p : Addr} {d : PyData} (h : OwnAt K P p d) : P.M p = none ∧ ∃ o, P.H p = some o ∧ Plain o := by
  cases h with
  | lst h1 h2 h3 => exact ⟨h1, _, h2, fun _ z => nomatch z⟩
  | dT h1 h2 h3 => exact ⟨h1, _, h2, fun _ z => nomatch z⟩
theorem OwnAt.tight {P : Pr T} {p : Addr} {d : PyData} (h : OwnAt K P p d) (l : Loose P.H p) : False := by
  obtain ⟨_, o, h1, h2⟩ := h.obj
  obtain ⟨ps, z⟩ := l o h1
  exact h2 ps z
inductive SlOk (K : PySem.W.Frag) (P : Pr T) : Option V → Sl → Prop
  | no {o : Option V} : SlOk K P o .no
  | val {v : V} {d : PyData} : Rp K P.M v d → SlOk K P (some v) (.val d)
  | own {p : Addr} {d : PyData} : OwnAt K P p d → SlOk K P (some (.ref p)) (.own d)
  | exn {a : Addr} : SlOk K P (some (.ref a)) (.exn a)
  | ods {p : Addr} {kvs : List (Key × V)} {ds : List (Str × PyData)} : P.M p = none → P.H p = some (.dK kvs) → PySem.W.EachIs (DS K P.M) kvs ds → SlOk K P (some (.ref p)) (.ods ds)
  | lck {p : Addr} {od : Obj} {kvs : List (List Key × V)} {ds : List (PyData × PyData)} : P.M p = none → P.H p = some (.frz od (.dT kvs)) → PySem.W.EachIs (DT K P.M) kvs ds → SlOk K P (some (.ref p)) (.lck ds)
theorem SlOk.up {P P' : Pr T} (l : Le P P') {o : Option V} {s : Sl} (h : SlOk K P o s) : SlOk K P' o s := by
  cases h with
  | no => exact .no
  | val h => exact .val (h.ext l.m)
  | own h => exact .own (h.up l)
  | exn => exact .exn
  | ods h1 h2 h3 => exact .ods (own_none l h1 h2 (fun _ z => nomatch z) fun _ z => nomatch z) (l.h _ _ h2 fun _ z => nomatch z) (h3.mono fun _ _ r => ⟨r.1, r.2.ext l.m⟩)
  | lck h1 h2 h3 => exact .lck (own_none l h1 h2 (fun _ z => nomatch z) fun _ z => nomatch z) (l.h _ _ h2 fun _ z => nomatch z) (h3.mono fun _ _ r => ⟨r.1, r.2.ext l.m⟩)
/-- dicts of one's own that are rows of names -/
def Ods (P0 : Pr T) (σ : L2.St) (ρ : Ev) : Prop := (∀ (i j : Nat) p ks ls, i ≠ j → ρ[i]? = some (.ods ks) → ρ[j]? = some (.ods ls) → σ[i]? = some (some (.ref p)) → σ[j]? = some (some (.ref p)) → False) ∧ ∀ (i : Nat) ks p, ρ[i]? = some (.ods ks) → σ[i]? = some (some (.ref p)) → Loose P0.H p
structure St (K : PySem.W.Frag) (P0 P : Pr T) (σ : L2.St) (ρ : Ev) : Prop where
  le : Le P0 P
  len : σ.length = ρ.length
  ok : ∀ (i : Nat) s, ρ[i]? = some s → ∃ o, σ[i]? = some o ∧ SlOk K P o s
  dis : ∀ (i j : Nat) p d e, i ≠ j → ρ[i]? = some (.own d) → ρ[j]? = some (.own e) → σ[i]? = some (some (.ref p)) → σ[j]? = some (some (.ref p)) → False
  fr : ∀ (i : Nat) d p, ρ[i]? = some (.own d) → σ[i]? = some (some (.ref p)) → Loose P0.H p
  od : Ods P0 σ ρ
variable {P0 P P' : Pr T} {σ : L2.St} {ρ : Ev}
theorem St.up (s : St K P0 P σ ρ) (l : Le P P') : St K P0 P' σ ρ := ⟨s.le.trans l, s.len, fun i x h => let ⟨o, h1, h2⟩ := s.ok i x h; ⟨o, h1, h2.up l⟩, s.dis, s.fr, s.od⟩
theorem getset {α : Type} {l : List α} {i j : Nat} {x y : α} (h : (l.set i x)[j]? = some y) : (i = j ∧ y = x ∧ j < l.length) ∨ (i ≠ j ∧ l[j]? = some y) := by
  by_cases e : i = j
  · subst e
    have hl : i < l.length := by
      have := (List.getElem?_eq_some_iff.mp h).1
      simpa using this
    rw [List.getElem?_set_self hl] at h
    exact .inl ⟨rfl, (Option.some.inj h).symm, hl⟩
  · rw [List.getElem?_set_ne e] at h
    exact .inr ⟨e, h⟩
theorem Ods.put {P0 : Pr T} {σ : L2.St} {ρ : Ev} (h : Ods P0 σ ρ) (i : Nat) (o : Option V) (s : Sl) (hs : ∀ ks, s ≠ .ods ks) : Ods P0 (σ.set i o) (ρ.set i s) := by
  refine ⟨fun j k p ks ls ne h1 h2 h3 h4 => ?_, fun j ks p h1 h2 => ?_⟩
  · rcases getset h1 with ⟨_, z, _⟩ | ⟨n1, h1⟩
    · exact hs ks z.symm
    rcases getset h2 with ⟨_, z, _⟩ | ⟨n2, h2⟩
    · exact hs ls z.symm
    rw [List.getElem?_set_ne n1] at h3
    rw [List.getElem?_set_ne n2] at h4
    exact h.1 j k p ks ls ne h1 h2 h3 h4
  · rcases getset h1 with ⟨_, z, _⟩ | ⟨n1, h1⟩
    · exact absurd z.symm (hs ks)
    rw [List.getElem?_set_ne n1] at h2
    exact h.2 j ks p h1 h2
theorem Ods.same {P0 : Pr T} {σ : L2.St} {ρ : Ev} (h : Ods P0 σ ρ) (i : Nat) (s : Sl) (hs : ∀ ks, s ≠ .ods ks) : Ods P0 σ (ρ.set i s) := by
  refine ⟨fun j k p ks ls ne h1 h2 h3 h4 => ?_, fun j ks p h1 h2 => ?_⟩
  · rcases getset h1 with ⟨_, z, _⟩ | ⟨n1, h1⟩
    · exact hs ks z.symm
    rcases getset h2 with ⟨_, z, _⟩ | ⟨n2, h2⟩
    · exact hs ls z.symm
    exact h.1 j k p ks ls ne h1 h2 h3 h4
  · rcases getset h1 with ⟨_, z, _⟩ | ⟨n1, h1⟩
    · exact absurd z.symm (hs ks)
    exact h.2 j ks p h1 h2
theorem St.set (s : St K P0 P σ ρ) {v : V} {d : PyData} (r : Rp K P.M v d) (i : Nat) : St K P0 P (σ.set i (some v)) (ρ.set i (.val d)) := by
  refine ⟨s.le, by rw [List.length_set, List.length_set]; exact s.len, fun j x h => ?_, fun j k p d1 e ne h1 h2 h3 h4 => ?_, fun j e p h1 h2 => ?_, s.od.put i _ _ fun _ z => nomatch z⟩
  · rcases getset h with ⟨rfl, rfl, hl⟩ | ⟨ne, h⟩
    · exact ⟨_, List.getElem?_set_self (by rw [s.len]; exact hl), .val r⟩
    · rw [List.getElem?_set_ne ne]
      exact s.ok j x h
  · rcases getset h1 with ⟨_, z, _⟩ | ⟨ne1, h1⟩
    · cases z
    rcases getset h2 with ⟨_, z, _⟩ | ⟨ne2, h2⟩
    · cases z
    rw [List.getElem?_set_ne ne1] at h3
    rw [List.getElem?_set_ne ne2] at h4
    exact s.dis j k p d1 e ne h1 h2 h3 h4
  · rcases getset h1 with ⟨_, z, _⟩ | ⟨ne1, h1⟩
    · cases z
    rw [List.getElem?_set_ne ne1] at h2
    exact s.fr j e p h1 h2
/-- a slot is forgotten -/
theorem St.wipe (s : St K P0 P σ ρ) (i : Nat) (o : Option V) : St K P0 P (σ.set i o) (ρ.set i .no) := by
  refine ⟨s.le, by rw [List.length_set, List.length_set]; exact s.len, fun j x h => ?_, fun j k p d1 e ne h1 h2 h3 h4 => ?_, fun j e p h1 h2 => ?_, s.od.put i _ _ fun _ z => nomatch z⟩
  · rcases getset h with ⟨rfl, rfl, hl⟩ | ⟨ne, h⟩
    · exact ⟨_, List.getElem?_set_self (by rw [s.len]; exact hl), .no⟩
    · rw [List.getElem?_set_ne ne]
      exact s.ok j x h
  · rcases getset h1 with ⟨_, z, _⟩ | ⟨ne1, h1⟩
    · cases z
    rcases getset h2 with ⟨_, z, _⟩ | ⟨ne2, h2⟩
    · cases z
    rw [List.getElem?_set_ne ne1] at h3
    rw [List.getElem?_set_ne ne2] at h4
    exact s.dis j k p d1 e ne h1 h2 h3 h4
  · rcases getset h1 with ⟨_, z, _⟩ | ⟨ne1, h1⟩
    · cases z
    rw [List.getElem?_set_ne ne1] at h2
    exact s.fr j e p h1 h2
theorem St.setO (s : St K P0 P σ ρ) {p : Addr} {d : PyData} (r : OwnAt K P p d) (l : Loose P0.H p) (i : Nat) (ap : ∀ (j : Nat) e q, ρ[j]? = some (.own e) → σ[j]? = some (some (.ref q)) → q ≠ p) : St K P0 P (σ.set i (some (.ref p))) (ρ.set i (.own d)) := by
  refine ⟨s.le, by rw [List.length_set, List.length_set]; exact s.len, fun j x h => ?_, fun j k q d1 e ne h1 h2 h3 h4 => ?_, fun j e q h1 h2 => ?_, s.od.put i _ _ fun _ z => nomatch z⟩
  · rcases getset h with ⟨rfl, rfl, hl⟩ | ⟨ne, h⟩
    · exact ⟨_, List.getElem?_set_self (by rw [s.len]; exact hl), .own r⟩
    · rw [List.getElem?_set_ne ne]
      exact s.ok j x h
  · rcases getset h1 with ⟨rfl, z, hl⟩ | ⟨ne1, h1⟩
    · rcases getset h2 with ⟨z2, _, _⟩ | ⟨ne2, h2⟩
      · exact ne z2
      · rw [List.getElem?_set_self (by rw [s.len]; exact hl)] at h3
        cases h3
        rw [List.getElem?_set_ne ne2] at h4
        exact ap k e _ h2 h4 rfl
    · rcases getset h2 with ⟨rfl, z, hl⟩ | ⟨ne2, h2⟩
      · rw [List.getElem?_set_self (by rw [s.len]; exact hl)] at h4
        cases h4
        rw [List.getElem?_set_ne ne1] at h3
        exact ap j d1 _ h1 h3 rfl
      · rw [List.getElem?_set_ne ne1] at h3
        rw [List.getElem?_set_ne ne2] at h4
        exact s.dis j k q d1 e ne h1 h2 h3 h4
  · rcases getset h1 with ⟨rfl, z, hl⟩ | ⟨ne1, h1⟩
    · rw [List.getElem?_set_self (by rw [s.len]; exact hl)] at h2
      cases h2
      exact l
    · rw [List.getElem?_set_ne ne1] at h2
      exact s.fr j e q h1 h2
theorem tabs_mut {H : Hp} {p : Addr} {o o' : HO} (t : LamX.Tabs T H) (hp : H p = some o) (n : Plain o) (nc : ∀ c q, o ≠ LamX.CodeO c q) : LamX.Tabs T (upd H p o') := fun q hq => by
  obtain ⟨ps, h1, h2, h3⟩ := t q hq
  have ne1 : q.1 ≠ p := fun z => by
    rw [z, hp] at h1
    exact n ps (Option.some.inj h1)
  refine ⟨ps, by rw [upd_ne ne1]; exact h1, h2, fun pos cv hc => ?_⟩
  obtain ⟨c, e1, e2⟩ := h3 pos cv hc
  have ne2 : c ≠ p := fun z => by
    rw [z, hp] at e2
    exact nc _ _ (Option.some.inj e2)
  exact ⟨c, e1, by rw [upd_ne ne2]; exact e2⟩
/-- an own thing is changed -/
theorem St.mut (s : St K P0 P σ ρ) {i : Nat} {p : Addr} {d d' : PyData} {o o' : HO} (hρ : ρ[i]? = some (.own d)) (hσ : σ[i]? = some (some (.ref p))) (hM : P.M p = none) (hp : P.H p = some o) (n : Plain o) (nc : ∀ c q, o ≠ LamX.CodeO c q)
    (hd : ∀ Q : Pr T, Q.M = P.M → Q.H = upd P.H p o' → OwnAt K Q p d') : ∃ Q : Pr T, Q.M = P.M ∧ Q.H = upd P.H p o' ∧ St K P0 Q σ (ρ.set i (.own d')) := by
  have hl : i < ρ.length := (List.getElem?_eq_some_iff.mp hρ).1
  have lo := s.fr i d p hρ hσ
  refine ⟨⟨P.M, upd P.H p o', fun b u e q => ?_, tabs_mut P.tab hp n nc, P.nt⟩, rfl, rfl, ⟨⟨s.le.m, fun b u e q => ?_, s.le.f⟩, by rw [List.length_set]; exact s.len, fun j x h => ?_, fun j k q d1 e ne h1 h2 h3 h4 => ?_, fun j e q h1 h2 => ?_, s.od.same i _ fun _ z => nomatch z⟩⟩
  · have ne : b ≠ p := fun z => by rw [z, hM] at e; cases e
    rw [upd_ne ne]
    exact P.sub b u e q
  · have ne : b ≠ p := fun z => by
      rw [z] at e
      obtain ⟨ps, w⟩ := lo u e
      exact q ps w
    show upd P.H p o' b = some u
    rw [upd_ne ne]
    exact s.le.h b u e q
  · rcases getset h with ⟨rfl, rfl, _⟩ | ⟨ne, h⟩
    · exact ⟨_, hσ, .own (hd _ rfl rfl)⟩
    · obtain ⟨u, h1, h2⟩ := s.ok j x h
      refine ⟨u, h1, ?_⟩
      cases h2 with
      | no => exact .no
      | val r => exact .val r
      | exn => exact .exn
      | @ods q kvs ks b1 b2 b3 =>
        have nq : q ≠ p := fun z => by
          obtain ⟨u', k1, k2⟩ := s.ok i _ hρ
          rw [hσ] at k1
          cases k1
          rw [z] at b2
          cases k2 with
          | own r =>
            cases r with
            | lst a1 a2 a3 =>
              rw [b2] at a2
              cases a2
            | dT a1 a2 a3 =>
              rw [b2] at a2
              cases a2
        exact .ods b1 (by show upd P.H p o' q = _; rw [upd_ne nq]; exact b2) b3
      | @lck q od kvs ds b1 b2 b3 =>
        have nq : q ≠ p := fun z => by
          obtain ⟨u', k1, k2⟩ := s.ok i _ hρ
          rw [hσ] at k1
          cases k1
          rw [z] at b2
          cases k2 with
          | own r =>
            cases r with
            | lst a1 a2 a3 =>
              rw [b2] at a2
              cases a2
            | dT a1 a2 a3 =>
              rw [b2] at a2
              cases a2
        exact .lck b1 (by show upd P.H p o' q = _; rw [upd_ne nq]; exact b2) b3
      | @own q e r =>
        have nq : q ≠ p := fun z => s.dis i j p d e ne hρ h hσ (by rw [h1, z])
        refine .own ?_
        cases r with
        | lst a1 a2 a3 => exact .lst a1 (by show upd P.H p o' q = _; rw [upd_ne nq]; exact a2) a3
        | dT a1 a2 a3 => exact .dT a1 (by show upd P.H p o' q = _; rw [upd_ne nq]; exact a2) a3
  · have g1 : ∃ d1', ρ[j]? = some (.own d1') := by
      rcases getset h1 with ⟨rfl, _, _⟩ | ⟨_, h⟩
      · exact ⟨d, hρ⟩
      · exact ⟨d1, h⟩
    have g2 : ∃ d1', ρ[k]? = some (.own d1') := by
      rcases getset h2 with ⟨rfl, _, _⟩ | ⟨_, h⟩
      · exact ⟨d, hρ⟩
      · exact ⟨e, h⟩
    obtain ⟨u1, g1⟩ := g1
    obtain ⟨u2, g2⟩ := g2
    exact s.dis j k q u1 u2 ne g1 g2 h3 h4
  · rcases getset h1 with ⟨rfl, _, _⟩ | ⟨_, h⟩
    · exact s.fr i d q hρ h2
    · exact s.fr j e q h h2
/-! ### shallow readings -/
def Rw (K : PySem.W.Frag) (P : Pr T) (v : V) (d : PyData) : Prop := Rp K P.M v d ∨ ∃ p, v = .ref p ∧ OwnAt K P p d
theorem Rw.up {v : V} {d : PyData} (h : Rw K P v d) (l : Le P P') : Rw K P' v d := h.elim (fun r => .inl (r.ext l.m)) fun ⟨p, e, r⟩ => .inr ⟨p, e, r.up l⟩
theorem Rw.int {v : V} {i : Int} (h : Rw K P v (.int i)) : v = .int i := by
  rcases h with h | ⟨p, _, h⟩
  · cases h
    rfl
  · cases h
theorem Rw.str {v : V} {i : Str} (h : Rw K P v (.str i)) : v = .str i := by
  rcases h with h | ⟨p, _, h⟩
  · cases h
    rfl
  · cases h
theorem Rw.bool {v : V} {i : Bool} (h : Rw K P v (.bool i)) : v = .bl i := by
  rcases h with h | ⟨p, _, h⟩
  · cases h
    rfl
  · cases h
theorem Rw.tuple {v : V} {ds : List PyData} (h : Rw K P v (.tuple ds)) : ∃ a xs, v = .ref a ∧ P.M a = some (.tup xs) ∧ SqT K P.H a xs ∧ RpAll K P.M xs ds := by
  rcases h with h | ⟨p, _, h⟩
  · cases h with
    | tup hs ra => exact ⟨_, _, rfl, hs, ex_t P.sub (SqT.of hs), ra⟩
  · cases h
theorem Rw.list {v : V} {ds : List PyData} (h : Rw K P v (.list ds)) : ∃ a xs, v = .ref a ∧ SqL K P.H a xs ∧ RpAll K P.M xs ds := by
  rcases h with h | ⟨p, rfl, h⟩
  · cases h with
    | lst hs ra => exact ⟨_, _, rfl, ex_l P.sub hs, ra⟩
  · cases h with
    | lst h1 h2 h3 => exact ⟨_, _, rfl, SqL.of h2, h3⟩
theorem Rp.up {v : V} {d : PyData} (h : Rp K P.M v d) (l : Le P P') : Rp K P'.M v d := h.ext l.m
end PM
namespace PM
open PySem PySem.Spec PyProof.Rows L2 LB
theorem bind_eq {α β : Type} {o : Option α} {f : α → Option β} {b : β} (h : o.bind f = some b) : ∃ a, o = some a ∧ f a = some b := by
  cases o with
  | none => cases h
  | some a => exact ⟨a, rfl, h⟩
theorem map_eq {α β : Type} {o : Option α} {f : α → β} {b : β} (h : o.map f = some b) : ∃ a, o = some a ∧ f a = b := by
  cases o with
  | none => cases h
  | some a => exact ⟨a, rfl, Option.some.inj h⟩
abbrev ME := Ev → Option PyData
abbrev MT := Ev → Option Bool
abbrev MA := Ev → Option (List PyData)
section
variable (K : PySem.W.Frag) (T : Tb)
def tD (m : ME) : TE := fun σ H Q => ∃ (P0 P : Pr T) (ρ : Ev) (d : PyData), P.H = H ∧ St K P0 P σ ρ ∧ m ρ = some d ∧ ∀ v (P' : Pr T), Le P P' → Rp K P'.M v d → Q v P'.H
def tW (m : ME) : TE := fun σ H Q => ∃ (P0 P : Pr T) (ρ : Ev) (d : PyData), P.H = H ∧ St K P0 P σ ρ ∧ m ρ = some d ∧ ∀ v (P' : Pr T), Le P P' → Rw K P' v d → Q v P'.H
def tF (m : ME) : TE := fun σ H Q => ∃ (P0 P : Pr T) (ρ : Ev) (d : PyData), P.H = H ∧ St K P0 P σ ρ ∧ m ρ = some d ∧ ∀ p (P' : Pr T), Le P P' → OwnAt K P' p d → Loose P.H p → Q (.ref p) P'.H
def tQ (m : MT) : TT := fun σ H Q => ∃ (P0 P : Pr T) (ρ : Ev) (b : Bool), P.H = H ∧ St K P0 P σ ρ ∧ m ρ = some b ∧ ∀ (P' : Pr T), Le P P' → Q b P'.H
def tA (m : MA) : TA := fun σ H Q => ∃ (P0 P : Pr T) (ρ : Ev) (ds : List PyData), P.H = H ∧ St K P0 P σ ρ ∧ m ρ = some ds ∧ ∀ vs (P' : Pr T), Le P P' → RpAll K P'.M vs ds → Q vs P'.H
inductive RwAll (P : Pr T) : List V → List PyData → Prop
  | nil : RwAll P [] []
  | cons {v : V} {vs : List V} {d : PyData} {ds : List PyData} : Rw K P v d → RwAll P vs ds → RwAll P (v :: vs) (d :: ds)
def tAw (m : MA) : TA := fun σ H Q => ∃ (P0 P : Pr T) (ρ : Ev) (ds : List PyData), P.H = H ∧ St K P0 P σ ρ ∧ m ρ = some ds ∧ ∀ vs (P' : Pr T), Le P P' → RwAll K T P' vs ds → Q vs P'.H
def tP (m : Ev → Option (Option Int)) : TO := fun σ H Q => ∃ (P0 P : Pr T) (ρ : Ev) (o : Option Int), P.H = H ∧ St K P0 P σ ρ ∧ m ρ = some o ∧ ∀ (P' : Pr T), Le P P' → Q o P'.H
end
variable {T : Tb} {K : PySem.W.Frag} {X : Cx} {e : Expr}
theorem RwAll.up {P P' : Pr T} (l : Le P P') : ∀ {vs : List V} {ds : List PyData}, RwAll K T P vs ds → RwAll K T P' vs ds
  | _, _, .nil => .nil
  | _, _, .cons h r => .cons (h.up l) (RwAll.up l r)
theorem pe_to {t t' : TE} (h : PE X e t) (i : ∀ σ H Q, t' σ H Q → t σ H Q) : PE X e t' := ⟨fun pins s σ H Q I q => h.run pins s σ H Q I (i σ H Q q)⟩
theorem pt_to {t t' : TT} (h : PT X e t) (i : ∀ σ H Q, t' σ H Q → t σ H Q) : PT X e t' := ⟨fun pins s σ H Q I q => h.run pins s σ H Q I (i σ H Q q)⟩
theorem pw_to {t t' : TT} (h : PW X e t) (i : ∀ σ H Q, t' σ H Q → t σ H Q) : PW X e t' := ⟨fun w pins s σ H Q I q => h.run w pins s σ H Q I (i σ H Q q)⟩
theorem pa_to {es : List Expr} {t t' : TA} (h : PA X es t) (i : ∀ σ H Q, t' σ H Q → t σ H Q) : PA X es t' := ⟨fun p pins s σ H Q I q => h.run p pins s σ H Q I (i σ H Q q)⟩
theorem po_to {o : Option Expr} {t t' : TO} (h : PO X o t) (i : ∀ σ H Q, t' σ H Q → t σ H Q) : PO X o t' := ⟨fun pins s σ H Q I q => h.run pins s σ H Q I (i σ H Q q)⟩
theorem pi_to {tg : Expr} {t t' : TI} (h : PI X tg e t) (i : ∀ σ H Q, t' σ H Q → t σ H Q) : PI X tg e t' := ⟨fun pins s σ H Q I q => h.run pins s σ H Q I (i σ H Q q)⟩
theorem pg_to {t t' : TG} (h : PG X e t) (i : ∀ v σ H Q, t' v σ H Q → t v σ H Q) : PG X e t' := ⟨fun pins s σ H v u Q I r q => h.run pins s σ H v u Q I r (i v σ H Q q)⟩
theorem ps_to {st : Stmt} {t t' : TS} (h : PS X st t) (i : ∀ D σ H, t' D σ H → t D σ H) : PS X st t' := ⟨fun pins s σ H D I q => h.run pins s σ H D I (i D σ H q)⟩
theorem pss_to {st : List Stmt} {t t' : TS} (h : PSs X st t) (i : ∀ D σ H, t' D σ H → t D σ H) : PSs X st t' := ⟨fun pins s σ H D I q => h.run pins s σ H D I (i D σ H q)⟩
theorem pts_to {st : List Expr} {t t' : TT} (h : PTs X st t) (i : ∀ D σ H, t' D σ H → t D σ H) : PTs X st t' := ⟨fun pins s σ H D I q => h.run pins s σ H D I (i σ H D q)⟩
/-- what is deep is shallow -/
theorem c_w {m : ME} (h : PE X e (tD K T m)) : PE X e (tW K T m) := pe_to h fun σ H Q ⟨P0, P, ρ, d, h1, s, h2, q⟩ => ⟨P0, P, ρ, d, h1, s, h2, fun v P' l r => q v P' l (.inl r)⟩
theorem c_fw {m : ME} (h : PE X e (tF K T m)) : PE X e (tW K T m) := pe_to h fun σ H Q ⟨P0, P, ρ, d, h1, s, h2, q⟩ => ⟨P0, P, ρ, d, h1, s, h2, fun p P' l r lo => q _ P' l (.inr ⟨p, rfl, r⟩)⟩
/-- an own new list becomes one that data may stand on -/
theorem own_put {P P' : Pr T} {p : Addr} {ds : List PyData} (l : Le P P') (r : OwnAt K P' p (.list ds)) (lo : Loose P.H p) : ∃ P'' : Pr T, P''.H = P'.H ∧ Le P P'' ∧ Rp K P''.M (.ref p) (.list ds) := by
  cases r with
  | @lst xs _ a1 a2 a3 =>
    have eM : Ex P'.M (upd P'.M p (.lst xs)) := fun b u e q => by
      have ne : b ≠ p := fun z => by rw [z, a1] at e; cases e
      rw [upd_ne ne]
      exact e
    refine ⟨⟨upd P'.M p (.lst xs), P'.H, fun b u e q => ?_, P'.tab, nt_upd P'.nt fun _ z => nomatch z⟩, rfl, ⟨l.m.trans eM, l.h, fun a h1 h2 => ?_⟩, .lst (SqL.of upd_same) (a3.ext eM)⟩
    · by_cases z : b = p
      · subst z
        rw [upd_same] at e
        cases e
        exact a2
      · rw [upd_ne z] at e
        exact P'.sub b u e q
    · by_cases z : a = p
      · subst z
        exact .inl lo
      · refine l.f a h1 ?_
        have h2 : upd P'.M p (.lst xs) a ≠ none := h2
        rw [upd_ne z] at h2
        exact h2
def isLst : PyData → Bool
  | .list _ => true
  | _ => false
theorem fd_in {m : ME} (hl : ∀ ρ d, m ρ = some d → isLst d = true) {σ : L2.St} {H : Hp} {Q : VK} (h : tD K T m σ H Q) : tF K T m σ H Q := by
  obtain ⟨P0, P, ρ, d, h1, s, h2, q⟩ := h
  refine ⟨P0, P, ρ, d, h1, s, h2, fun p P' l r lo => ?_⟩
  have hi := hl ρ d h2
  match d, hi with
  | .list ds, _ =>
    obtain ⟨P'', e, l'', r''⟩ := own_put l r lo
    rw [← e]
    exact q _ P'' l'' r''
theorem c_f {m : ME} (h : PE X e (tF K T m)) (hl : ∀ ρ d, m ρ = some d → isLst d = true) : PE X e (tD K T m) := pe_to h fun σ H Q z => fd_in hl z
/-! ### names, constants -/
def mC (d : PyData) : ME := fun _ => some d
def mV (i : Nat) : ME := fun ρ => match ρ[i]? with
  | some (.val d) => some d
  | _ => none
def mW (i : Nat) : ME := fun ρ => match ρ[i]? with
  | some (.val d) => some d
  | some (.own d) => some d
  | _ => none
theorem c_c {v : V} {d : PyData} (h : PE X e (tC v)) (r : ∀ M, Rp K M v d) : PE X e (tD K T (mC d)) := pe_to h fun σ H Q ⟨P0, P, ρ, d', h1, s, h2, q⟩ => by
  cases h2
  subst h1
  exact q v P (Le.refl P) (r _)
theorem c_v {i : Nat} (h : PE X e (tVar i)) : PE X e (tD K T (mV i)) := pe_to h fun σ H Q ⟨P0, P, ρ, d', h1, s, h2, q⟩ => by
  subst h1
  unfold mV at h2
  split at h2
  · rename_i d hd
    cases h2
    obtain ⟨o, g1, g2⟩ := s.ok i _ hd
    cases g2 with
    | val r => exact ⟨_, g1, q _ P (Le.refl P) r⟩
  · cases h2
theorem c_vw {i : Nat} (h : PE X e (tVar i)) : PE X e (tW K T (mW i)) := pe_to h fun σ H Q ⟨P0, P, ρ, d', h1, s, h2, q⟩ => by
  subst h1
  unfold mW at h2
  split at h2
  · rename_i d hd
    cases h2
    obtain ⟨o, g1, g2⟩ := s.ok i _ hd
    cases g2 with
    | val r => exact ⟨_, g1, q _ P (Le.refl P) (.inl r)⟩
  · rename_i d hd
    cases h2
    obtain ⟨o, g1, g2⟩ := s.ok i _ hd
    cases g2 with
    | own r => exact ⟨_, g1, q _ P (Le.refl P) (.inr ⟨_, rfl, r⟩)⟩
  · cases h2
/-! ### two-place operations -/
def OpD (K : PySem.W.Frag) (T : Tb) (r : R2) (f : PyData → PyData → Option PyData) : Prop := ∀ (P : Pr T) x y a b d, Rw K P x a → Rw K P y b → f a b = some d → ∀ Q : VK, (∀ v (P' : Pr T), Le P P' → Rp K P'.M v d → Q v P'.H) → r x y P.H Q
def mOp (f : PyData → PyData → Option PyData) (a b : ME) : ME := fun ρ => (a ρ).bind fun x => (b ρ).bind fun y => f x y
theorem c_op {r : R2} {f : PyData → PyData → Option PyData} {a b : ME} (hD : OpD K T r f) (h : PE X e (tOp r (tW K T a) (tW K T b))) : PE X e (tD K T (mOp f a b)) := pe_to h fun σ H Q ⟨P0, P, ρ, d, h1, s, h2, q⟩ => by
  subst h1
  obtain ⟨x, ex, h2⟩ := bind_eq h2
  obtain ⟨y, ey, h2⟩ := bind_eq h2
  exact ⟨P0, P, ρ, x, rfl, s, ex, fun v P1 l1 r1 => ⟨P0, P1, ρ, y, rfl, s.up l1, ey, fun u P2 l2 r2 => hD P2 v u x y d (r1.up l2) r2 h2 Q fun w P3 l3 r3 => q w P3 ((l1.trans l2).trans l3) r3⟩⟩
/-- the test of a comparison -/
def asB : PyData → Option Bool
  | .bool b => some b
  | _ => none
def qV (a : ME) : MT := fun ρ => (a ρ).bind asB
theorem asB_eq {d : PyData} {b : Bool} (h : asB d = some b) : d = .bool b := by
  unfold asB at h
  split at h
  · cases h
    rfl
  · cases h
theorem c_opT {r : R2} {f : PyData → PyData → Option PyData} {a b : ME} (hD : OpD K T r f) (h : PT X e (tTest (tOp r (tW K T a) (tW K T b)))) : PT X e (tQ K T (qV (mOp f a b))) := pt_to h fun σ H Q ⟨P0, P, ρ, c, h1, s, h2, q⟩ => by
  subst h1
  obtain ⟨z, h2, ez⟩ := bind_eq h2
  rw [asB_eq ez] at h2
  obtain ⟨x, ex, h2⟩ := bind_eq h2
  obtain ⟨y, ey, h2⟩ := bind_eq h2
  refine ⟨P0, P, ρ, x, rfl, s, ex, fun v P1 l1 r1 => ⟨P0, P1, ρ, y, rfl, s.up l1, ey, fun u P2 l2 r2 => hD P2 v u x y _ (r1.up l2) r2 h2 _ fun w P3 l3 r3 => ?_⟩⟩
  cases r3
  exact ⟨c, rfl, q P3 ((l1.trans l2).trans l3)⟩
theorem c_tv {a : ME} (h : PT X e (tB (tD K T a))) : PT X e (tQ K T (qV a)) := pt_to h fun σ H Q ⟨P0, P, ρ, c, h1, s, h2, q⟩ => by
  subst h1
  obtain ⟨z, h2, ez⟩ := bind_eq h2
  rw [asB_eq ez] at h2
  refine ⟨P0, P, ρ, _, rfl, s, h2, fun v P1 l1 r1 => ?_⟩
  cases r1
  exact ⟨c, rfl, q P1 l1⟩
def qNot (a : MT) : MT := fun ρ => (a ρ).map fun b => !b
def qAnd (a b : MT) : MT := fun ρ => (a ρ).bind fun c => if c = true then b ρ else some false
def qOr (a b : MT) : MT := fun ρ => (a ρ).bind fun c => if c = true then some true else b ρ
theorem c_not {a : MT} (h : PT X e (tNot (tQ K T a))) : PT X e (tQ K T (qNot a)) := pt_to h fun σ H Q ⟨P0, P, ρ, c, h1, s, h2, q⟩ => by
  obtain ⟨b, h3, rfl⟩ := map_eq h2
  exact ⟨P0, P, ρ, b, h1, s, h3, q⟩
theorem c_and {a b : MT} (h : PW X e (tAnd (tQ K T a) (tQ K T b))) : PW X e (tQ K T (qAnd a b)) := pw_to h fun σ H Q ⟨P0, P, ρ, c, h1, s, h2, q⟩ => by
  subst h1
  obtain ⟨x, ex, h2⟩ := bind_eq h2
  refine ⟨P0, P, ρ, x, rfl, s, ex, fun P1 l1 => ?_⟩
  cases x with
  | true => exact iteT ⟨P0, P1, ρ, c, rfl, s.up l1, by simpa using h2, fun P2 l2 => q P2 (l1.trans l2)⟩
  | false =>
    have : c = false := by simpa using h2.symm
    subst this
    exact iteF (q P1 l1)
theorem c_or {a b : MT} (h : PW X e (tOr (tQ K T a) (tQ K T b))) : PW X e (tQ K T (qOr a b)) := pw_to h fun σ H Q ⟨P0, P, ρ, c, h1, s, h2, q⟩ => by
  subst h1
  obtain ⟨x, ex, h2⟩ := bind_eq h2
  refine ⟨P0, P, ρ, x, rfl, s, ex, fun P1 l1 => ?_⟩
  cases x with
  | false => exact iteF ⟨P0, P1, ρ, c, rfl, s.up l1, by simpa using h2, fun P2 l2 => q P2 (l1.trans l2)⟩
  | true =>
    have : c = true := by simpa using h2.symm
    subst this
    exact iteT (q P1 l1)
/-! ### and, or, not as values; chains -/
def mAnd (a b : ME) : ME := fun ρ => (a ρ).bind fun x => (asB x).bind fun c => if c = true then b ρ else some (.bool false)
def mNot (a : ME) : ME := fun ρ => (a ρ).bind fun x => (asB x).map fun c => .bool (!c)
theorem c_andV {a b : ME} (h : PE X e (tAndV (tD K T a) (tD K T b))) : PE X e (tD K T (mAnd a b)) := pe_to h fun σ H Q ⟨P0, P, ρ, d, h1, s, h2, q⟩ => by
  subst h1
  obtain ⟨x, ex, h2⟩ := bind_eq h2
  obtain ⟨c, ec, h3⟩ := bind_eq h2
  have := asB_eq ec
  subst this
  refine ⟨P0, P, ρ, _, rfl, s, ex, fun v P1 l1 r1 => ?_⟩
  cases r1
  refine ⟨c, rfl, ?_⟩
  cases c with
  | true => exact iteT ⟨P0, P1, ρ, d, rfl, s.up l1, by simpa using h3, fun v P2 l2 r2 => q v P2 (l1.trans l2) r2⟩
  | false =>
    have : d = .bool false := by simpa using h3.symm
    subst this
    exact iteF (q _ P1 l1 (.bl _))
theorem c_notV {a : ME} (h : PE X e (tNotV (tD K T a))) : PE X e (tD K T (mNot a)) := pe_to h fun σ H Q ⟨P0, P, ρ, d, h1, s, h2, q⟩ => by
  subst h1
  obtain ⟨x, ex, h2⟩ := bind_eq h2
  obtain ⟨c, ec, rfl⟩ := map_eq h2
  have := asB_eq ec
  subst this
  refine ⟨P0, P, ρ, _, rfl, s, ex, fun v P1 l1 r1 => ?_⟩
  cases r1
  exact ⟨c, rfl, q _ P1 l1 (.bl _)⟩
def mCh (f g : PyData → PyData → Option PyData) (a b c : ME) : ME := fun ρ => (a ρ).bind fun x => (b ρ).bind fun y => (f x y).bind fun z => (asB z).bind fun k => if k = true then (c ρ).bind fun w => g y w else some (.bool false)
theorem ch_in {r r' : R2} {f g : PyData → PyData → Option PyData} {a b c : ME} (hD : OpD K T r f) (hD' : OpD K T r' g) {σ : L2.St} {H : Hp} {Q : VK} (h : tD K T (mCh f g a b c) σ H Q) : tChain r r' (tW K T a) (tW K T b) (tW K T c) σ H Q := by
  obtain ⟨P0, P, ρ, d, h1, s, h2, q⟩ := h
  subst h1
  obtain ⟨x, ex, h2⟩ := bind_eq h2
  obtain ⟨y, ey, h2⟩ := bind_eq h2
  obtain ⟨z, ez, h2⟩ := bind_eq h2
  obtain ⟨k, ek, h3⟩ := bind_eq h2
  have := asB_eq ek
  subst this
  refine ⟨P0, P, ρ, x, rfl, s, ex, fun v P1 l1 r1 => ⟨P0, P1, ρ, y, rfl, s.up l1, ey, fun u P2 l2 r2 => hD P2 v u x y _ (r1.up l2) r2 ez _ fun w P3 l3 r3 => ?_⟩⟩
  cases r3
  refine ⟨k, rfl, ?_⟩
  cases k with
  | false =>
    have : d = .bool false := by simpa using h3.symm
    subst this
    exact iteF (q _ P3 ((l1.trans l2).trans l3) (.bl _))
  | true =>
    obtain ⟨w, ew, h2⟩ := bind_eq (show ((c ρ).bind fun w => g y w) = some d by simpa using h3)
    exact iteT ⟨P0, P3, ρ, w, rfl, s.up ((l1.trans l2).trans l3), ew, fun v' P4 l4 r4 => hD' P4 u v' y w d ((r2.up l3).up l4) r4 h2 Q fun w' P5 l5 r5 => q w' P5 (((l1.trans l2).trans l3).trans (l4.trans l5)) r5⟩
theorem c_ch {r r' : R2} {f g : PyData → PyData → Option PyData} {a b c : ME} (hD : OpD K T r f) (hD' : OpD K T r' g) (h : PE X e (tChain r r' (tW K T a) (tW K T b) (tW K T c))) : PE X e (tD K T (mCh f g a b c)) := pe_to h fun σ H Q z => ch_in hD hD' z
theorem c_chT {r r' : R2} {f g : PyData → PyData → Option PyData} {a b c : ME} (hD : OpD K T r f) (hD' : OpD K T r' g) (h : PT X e (tTest (tChain r r' (tW K T a) (tW K T b) (tW K T c)))) : PT X e (tQ K T (qV (mCh f g a b c))) := pt_to h fun σ H Q ⟨P0, P, ρ, k, h1, s, h2, q⟩ => by
  obtain ⟨z, h2, ez⟩ := bind_eq h2
  rw [asB_eq ez] at h2
  refine ch_in hD hD' ⟨P0, P, ρ, _, h1, s, h2, fun v P' l r => ?_⟩
  cases r
  exact ⟨k, rfl, q P' l⟩
/-! ### one place -/
def mUn (f : PyData → Option PyData) (a : ME) : ME := fun ρ => (a ρ).bind f
def oNeg : PyData → Option PyData
  | .int i => some (.int (-i))
  | _ => none
theorem c_neg {a : ME} (h : PE X e (tUn (rU fun i => .int (-i)) (tD K T a))) : PE X e (tD K T (mUn oNeg a)) := pe_to h fun σ H Q ⟨P0, P, ρ, d, h1, s, h2, q⟩ => by
  subst h1
  obtain ⟨x, ex, h2⟩ := bind_eq h2
  unfold oNeg at h2
  split at h2
  · cases h2
    refine ⟨P0, P, ρ, _, rfl, s, ex, fun v P1 l1 r1 => ?_⟩
    cases r1
    exact ⟨_, rfl, q _ P1 l1 (.int _)⟩
  · cases h2
/-! ### rows of expressions -/
def aNil : MA := fun _ => some []
def aCons (a : ME) (b : MA) : MA := fun ρ => (a ρ).bind fun x => (b ρ).map fun xs => x :: xs
theorem a_nil {es : List Expr} (h : PA X es tNil) : PA X es (tA K T aNil) := pa_to h fun σ H Q ⟨P0, P, ρ, d, h1, s, h2, q⟩ => by
  cases h2
  subst h1
  exact q [] P (Le.refl P) .nil
theorem a_cons {es : List Expr} {a : ME} {b : MA} (h : PA X es (tCons (tD K T a) (tA K T b))) : PA X es (tA K T (aCons a b)) := pa_to h fun σ H Q ⟨P0, P, ρ, d, h1, s, h2, q⟩ => by
  subst h1
  obtain ⟨x, ex, h2⟩ := bind_eq h2
  obtain ⟨xs, es', rfl⟩ := map_eq h2
  exact ⟨P0, P, ρ, x, rfl, s, ex, fun v P1 l1 r1 => ⟨P0, P1, ρ, xs, rfl, s.up l1, es', fun vs P2 l2 r2 => q _ P2 (l1.trans l2) (.cons (r1.ext l2.m) r2)⟩⟩
theorem a_nilw {es : List Expr} (h : PA X es tNil) : PA X es (tAw K T aNil) := pa_to h fun σ H Q ⟨P0, P, ρ, d, h1, s, h2, q⟩ => by
  cases h2
  subst h1
  exact q [] P (Le.refl P) .nil
theorem a_consw {es : List Expr} {a : ME} {b : MA} (h : PA X es (tCons (tW K T a) (tAw K T b))) : PA X es (tAw K T (aCons a b)) := pa_to h fun σ H Q ⟨P0, P, ρ, d, h1, s, h2, q⟩ => by
  subst h1
  obtain ⟨x, ex, h2⟩ := bind_eq h2
  obtain ⟨xs, es', rfl⟩ := map_eq h2
  exact ⟨P0, P, ρ, x, rfl, s, ex, fun v P1 l1 r1 => ⟨P0, P1, ρ, xs, rfl, s.up l1, es', fun vs P2 l2 r2 => q _ P2 (l1.trans l2) (.cons (r1.up l2) r2)⟩⟩
def oFew (ds : List PyData) : Option (List PyData) := if ds.length ≤ 100000 then some ds else none
theorem oFew_eq {ds es : List PyData} (h : oFew ds = some es) : es = ds ∧ ds.length ≤ 100000 := by
  unfold oFew at h
  split at h
  · cases h
    exact ⟨rfl, by assumption⟩
  · cases h
def mTup (a : MA) : ME := fun ρ => (a ρ).bind fun xs => (oFew xs).map fun ys => .tuple ys
def mLst (a : MA) : ME := fun ρ => (a ρ).bind fun xs => (oFew xs).map fun ys => .list ys
theorem c_tup {a : MA} (h : PE X e (tTup (tA K T a))) : PE X e (tD K T (mTup a)) := pe_to h fun σ H Q ⟨P0, P, ρ, d, h1, s, h2, q⟩ => by
  subst h1
  obtain ⟨xs, ex, h2⟩ := bind_eq h2
  obtain ⟨ys, ey, rfl⟩ := map_eq h2
  obtain ⟨rfl, hl⟩ := oFew_eq ey
  exact ⟨P0, P, ρ, _, rfl, s, ex, fun vs P1 l1 r1 => ⟨Nat.le_trans (by rw [r1.length]; exact hl) (by decide), fun p hp => q _ (P1.put p (.tup vs) hp) (l1.trans (le_put P1 hp)) (.tup upd_same (r1.ext (le_put P1 hp).m))⟩⟩
theorem c_lst {a : MA} (h : PE X e (tLst (tA K T a))) : PE X e (tF K T (mLst a)) := pe_to h fun σ H Q ⟨P0, P, ρ, d, h1, s, h2, q⟩ => by
  subst h1
  obtain ⟨xs, ex, h2⟩ := bind_eq h2
  obtain ⟨ys, ey, rfl⟩ := map_eq h2
  obtain ⟨rfl, hl⟩ := oFew_eq ey
  refine ⟨P0, P, ρ, _, rfl, s, ex, fun vs P1 l1 r1 => ⟨Nat.le_trans (by rw [r1.length]; exact hl) (by decide), fun p hp => q _ (P1.hid p (.lst vs) hp) (l1.trans (le_hid P1 hp)) (.lst (P1.none hp) upd_same r1) (loose_back l1.h (loose_none hp))⟩⟩
theorem mLst_is {a : MA} (ρ : Ev) (d : PyData) (h : mLst a ρ = some d) : isLst d = true := by
  obtain ⟨xs, ex, h2⟩ := bind_eq h
  obtain ⟨ys, ey, rfl⟩ := map_eq h2
  rfl
end PM
namespace PM
open PySem PySem.Spec PyProof.Rows L2 LB
variable {T : Tb} {K : PySem.W.Frag} {X : Cx} {e : Expr}
theorem opR_or {g : Value → Value → Sem Value} {r r' : R2} (h1 : OpR X g r) (h2 : OpR X g r') : OpR X g (fun x y H Q => r x y H Q ∨ r' x y H Q) := fun pins s σ H x y v u Q I rx ry h => h.elim (h1 pins s σ H x y v u Q I rx ry) (h2 pins s σ H x y v u Q I rx ry)
/-! ### ints -/
def oI (c : Int → Int → Bool) (g : Int → Int → PyData) : PyData → PyData → Option PyData
  | .int i, .int j => if c i j = true then some (g i j) else none
  | _, _ => none
theorem od_I {C : Int → Int → Prop} {gv : Int → Int → V} {c : Int → Int → Bool} {g : Int → Int → PyData} (hc : ∀ i j, c i j = true → C i j) (hr : ∀ M i j, Rp K M (gv i j) (g i j)) : OpD K T (rI C gv) (oI c g) := by
  intro P x y a b d ra rb h Q q
  unfold oI at h
  split at h
  · split at h
    · cases h
      rename_i i j hh
      exact ⟨i, j, ra.int, rb.int, hc i j hh, q _ P (Le.refl P) (hr _ _ _)⟩
    · cases h
  · cases h
theorem od_I0 {gv : Int → Int → V} {g : Int → Int → PyData} (hr : ∀ M i j, Rp K M (gv i j) (g i j)) : OpD K T (rI0 gv) (oI (fun _ _ => true) g) := by
  intro P x y a b d ra rb h Q q
  unfold oI at h
  split at h
  · rename_i i j
    rw [if_pos rfl] at h
    cases h
    exact ⟨i, j, ra.int, rb.int, q _ P (Le.refl P) (hr _ _ _)⟩
  · cases h
def oSub := oI (fun _ _ => true) fun i j => .int (i - j)
theorem od_sub : OpD K T (rI0 fun i j => .int (i - j)) oSub := od_I0 fun _ _ _ => .int _
def oMod := oI (fun _ j => decide (j ≠ 0)) fun i j => .int (i.fmod j)
theorem od_mod : OpD K T (rI (fun _ j => j ≠ 0) fun i j => .int (i.fmod j)) oMod := od_I (fun _ _ h => of_decide_eq_true h) fun _ _ _ => .int _
def oFdv := oI (fun _ j => decide (j ≠ 0 ∧ j.natAbs < 2 ^ 250)) fun i j => .int (i.fdiv j)
theorem od_fdv : OpD K T (rI CDivG fun i j => .int (i.fdiv j)) oFdv := od_I (fun _ _ h => let ⟨h1, h2⟩ := of_decide_eq_true h; divG (b := 250) h1 h2 (by decide) (by decide)) fun _ _ _ => .int _
def oPow := oI (fun i j => decide (0 ≤ j ∧ j ≤ 1000 ∧ i.natAbs < 1000)) fun i j => .int (i ^ j.toNat)
theorem od_pow : OpD K T (rI CPow fun i j => .int (i ^ j.toNat)) oPow := od_I (fun i j h => by
  obtain ⟨h1, h2, h3⟩ := of_decide_eq_true h
  exact ⟨h1, by omega, by omega⟩) fun _ _ _ => .int _
def oLe := oI (fun _ _ => true) fun i j => .bool (decide (i ≤ j))
theorem od_le : OpD K T (rI0 fun i j => .bl (decide (i ≤ j))) oLe := od_I0 fun _ _ _ => .bl _
def oGt := oI (fun _ _ => true) fun i j => .bool (decide (j < i))
theorem od_gt : OpD K T (rI0 fun i j => .bl (decide (j < i))) oGt := od_I0 fun _ _ _ => .bl _
def oGe := oI (fun _ _ => true) fun i j => .bool (decide (j ≤ i))
theorem od_ge : OpD K T (rI0 fun i j => .bl (decide (j ≤ i))) oGe := od_I0 fun _ _ _ => .bl _
/-! ### ints or texts -/
def oLt : PyData → PyData → Option PyData
  | .int i, .int j => some (.bool (decide (i < j)))
  | .str i, .str j => some (.bool (decide (i.cps.toList < j.cps.toList)))
  | _, _ => none
def uLt : R2 := fun x y H Q => rI0 (fun i j => .bl (decide (i < j))) x y H Q ∨ (∃ i j, x = .str i ∧ y = .str j ∧ Q (.bl (decide (i.cps.toList < j.cps.toList))) H)
theorem op_uLt : OpR X (compareOp .Lt) uLt := opR_or op_lt op_lt_str
theorem od_lt : OpD K T uLt oLt := by
  intro P x y a b d ra rb h Q q
  unfold oLt at h
  split at h
  · cases h
    exact .inl ⟨_, _, ra.int, rb.int, q _ P (Le.refl P) (.bl _)⟩
  · cases h
    exact .inr ⟨_, _, ra.str, rb.str, q _ P (Le.refl P) (.bl _)⟩
  · cases h
def oMul : PyData → PyData → Option PyData
  | .int i, .int j => if i.natAbs < 2 ^ 200 ∧ j.natAbs < 2 ^ 200 then some (.int (i * j)) else none
  | .str z, .int n => if 0 ≤ n ∧ n ≤ 1000 ∧ z.length ≤ 1000 then some (.str (repS z n.toNat)) else none
  | _, _ => none
def uMul : R2 := fun x y H Q => rI CMulW (fun i j => .int (i * j)) x y H Q ∨ rRepS x y H Q
theorem op_uMul : OpR X (binaryOp .Mult) uMul := opR_or op_mulW op_repS
theorem od_mul : OpD K T uMul oMul := by
  intro P x y a b d ra rb h Q q
  unfold oMul at h
  split at h
  · split at h
    · cases h
      rename_i hh
      exact .inl ⟨_, _, ra.int, rb.int, wide_mul (a := 200) (b := 200) hh.1 hh.2 (by decide) (by decide) (by decide), q _ P (Le.refl P) (.int _)⟩
    · cases h
  · split at h
    · cases h
      rename_i z n hh
      refine .inr ⟨z, n.toNat, ra.str, ?_, by omega, hh.2.2, q _ P (Le.refl P) (.str _)⟩
      rw [rb.int]
      congr 1
      omega
    · cases h
  · cases h
/-! ### + -/
def rCatL (K : PySem.W.Frag) : R2 := fun x y H Q => ∃ l b xs zs, x = .ref l ∧ y = .ref b ∧ SqL K H l xs ∧ SqL K H b zs ∧ xs.length + zs.length ≤ sizeLine ∧ ∀ p, H p = none → Q (.ref p) (upd H p (.lst (xs ++ zs)))
theorem op_catLL (hK : X.K = K := by rfl) : OpR X (binaryOp .Add) (rCatL K) := by
  subst hK
  intro pins s σ H x y v u Q I rx ry h
  obtain ⟨l, b, xs, zs, rfl, rfl, hH, hB, hz, q⟩ := h
  cases rx
  cases ry
  obtain ⟨its, r, pl, _⟩ := I.list hH
  obtain ⟨its2, r2, pl2, _⟩ := I.list hB
  obtain ⟨⟨cls, dd, data, sl⟩, ho, hc, n, hd⟩ := pl.isList
  obtain ⟨⟨cls2, dd2, data2, sl2⟩, ho2, hc2, n2, hd2⟩ := pl2.isList
  simp only at hc hd hc2 hd2
  subst hc hd hc2 hd2
  have l1 := r.length
  have l2 := r2.length
  have ea : its.toArray ++ its2.toArray = (its ++ its2).toArray := by simp
  refine concat_meets ⟨_, ho, rfl⟩ ⟨_, ho2, rfl⟩ noFill_list_add seq_list_add PySem.F.slot_list_add PySem.F.entry_list_add (PySem.F.args_list_add_2 _ _) (list_addW l b its.toArray its2.toArray n n2 dd dd2 sl sl2 (by rw [List.size_toArray, List.size_toArray]; omega)) ⟨ho, ho2, ?_⟩
  rw [ea]
  show EP X pins σ Q (.ref s.heap.objs.size) _
  exact ⟨.ref _, _, I.lnew (t' := s.toks) (r.append r2) (by rw [List.length_append]; omega), rfl, q _ I.fresh⟩
def oAdd : PyData → PyData → Option PyData
  | .int i, .int j => some (.int (i + j))
  | .str x, .str y => if x.length + y.length ≤ 10000 then some (.str (x ++ y)) else none
  | .list x, .list y => if x.length + y.length ≤ 100000 then some (.list (x ++ y)) else none
  | .tuple x, .tuple y => if x.length + y.length ≤ 100000 then some (.tuple (x ++ y)) else none
  | _, _ => none
def uAdd (K : PySem.W.Frag) : R2 := fun x y H Q => rI0 (fun i j => .int (i + j)) x y H Q ∨ (rAddS x y H Q ∨ (rCatL K x y H Q ∨ rCatA K x y H Q))
theorem op_uAdd (hK : X.K = K := by rfl) : OpR X (binaryOp .Add) (uAdd K) := by
  subst hK
  exact opR_or op_add (opR_or op_addS (opR_or op_catLL op_catA))
theorem od_add : OpD K T (uAdd K) oAdd := by
  intro P x y a b d ra rb h Q q
  unfold oAdd at h
  split at h
  · cases h
    exact .inl ⟨_, _, ra.int, rb.int, q _ P (Le.refl P) (.int _)⟩
  · split at h
    · cases h
      rename_i hh
      exact .inr (.inl ⟨_, _, ra.str, rb.str, Nat.le_trans hh (by decide), q _ P (Le.refl P) (.str _)⟩)
    · cases h
  · split at h
    · cases h
      rename_i hh
      obtain ⟨l, xs, rfl, hs, r1⟩ := ra.list
      obtain ⟨l2, ys, rfl, hs2, r2⟩ := rb.list
      refine .inr (.inr (.inl ⟨l, l2, xs, ys, rfl, rfl, hs, hs2, Nat.le_trans (by rw [r1.length, r2.length]; exact hh) (by decide), fun p hp => q _ (P.put p (.lst (xs ++ ys)) hp) (le_put P hp) (.lst (SqL.of upd_same) ((RpAll.append r1 r2).ext (le_put P hp).m))⟩))
    · cases h
  · split at h
    · cases h
      rename_i hh
      obtain ⟨l, xs, rfl, hm, hs, r1⟩ := ra.tuple
      obtain ⟨l2, ys, rfl, hm2, hs2, r2⟩ := rb.tuple
      refine .inr (.inr (.inr ⟨l, l2, xs, ys, rfl, rfl, hs, hs2, Nat.le_trans (by rw [r1.length, r2.length]; exact hh) (by decide), fun z => q _ P (Le.refl P) ?_, fun _ z => q _ P (Le.refl P) ?_, fun _ _ p hp => q _ (P.put p (.tup (xs ++ ys)) hp) (le_put P hp) (.tup upd_same ((RpAll.append r1 r2).ext (le_put P hp).m))⟩))
      · subst z
        cases r1
        exact .tup hm2 r2
      · subst z
        cases r2
        rw [List.append_nil]
        exact .tup hm r1
    · cases h
  · cases h
/-! ### ==, != -/
mutual
theorem rp_dp {M : Hp} : ∀ {v : V} {d : PyData}, d.canLay0 = true → Rp K M v d → Dp K M v d
  | _, _, _, .non => .non
  | _, _, _, .bl b => .bl b
  | _, _, _, .int i => .int i
  | _, _, _, .str x => .str x
  | _, _, h, .lst hs r => .lst hs (rps_dp (by simpa [PyData.canLay0] using h) r)
  | _, _, h, .tup hs r => .tup (SqT.of hs) (rps_dp (by simpa [PyData.canLay0] using h) r)
  | _, _, h, .dct _ _ _ => absurd h (by simp [PyData.canLay0])
  | _, _, h, .dcT _ _ _ => absurd h (by simp [PyData.canLay0])
theorem rps_dp {M : Hp} : ∀ {v : List V} {d : List PyData}, PyData.canLayAll0 d = true → RpAll K M v d → DpAll K M v d
  | _, _, _, .nil => .nil
  | _, _, h, .cons h1 r => by
    unfold PyData.canLayAll0 at h
    rw [Bool.and_eq_true] at h
    exact .cons (rp_dp h.1 h1) (rps_dp h.2 r)
end
theorem Rw.dp {P : Pr T} {v : V} {d : PyData} (h : Rw K P v d) (hc : d.canLay0 = true) : Dp K P.H v d := by
  refine rp_dp hc ?_
  rcases h with h | ⟨p, rfl, h⟩
  · exact h.ext P.sub
  · cases h with
    | lst h1 h2 h3 => exact .lst (SqL.of h2) (h3.ext P.sub)
    | dT h1 h2 h3 => simp [PyData.canLay0] at hc
def oEq (a b : PyData) : Option PyData := if SeqAt.shaped a = true ∧ SeqAt.shaped b = true then some (.bool (PyData.eqv a b)) else none
def oNe (a b : PyData) : Option PyData := if SeqAt.shaped a = true ∧ SeqAt.shaped b = true then some (.bool (!PyData.eqv a b)) else none
theorem op_eqK (hu : X.A.units + 64 < cLine) (hK : X.K = K := by rfl) : OpR X (compareOp .Eq) (rEqD K) := by
  subst hK
  exact op_eqD hu
theorem op_neK (hu : X.A.units + 64 < cLine) (hK : X.K = K := by rfl) : OpR X (compareOp .NotEq) (rNeD K) := by
  subst hK
  exact op_neD hu
theorem od_eq : OpD K T (rEqD K) oEq := by
  intro P x y a b d ra rb h Q q
  unfold oEq at h
  split at h
  · cases h
    rename_i hh
    exact ⟨a, b, ra.dp (SeqAt.canLay_of_shaped hh.1), rb.dp (SeqAt.canLay_of_shaped hh.2), hh.1, hh.2, q _ P (Le.refl P) (.bl _)⟩
  · cases h
theorem od_ne : OpD K T (rNeD K) oNe := by
  intro P x y a b d ra rb h Q q
  unfold oNe at h
  split at h
  · cases h
    rename_i hh
    exact ⟨a, b, ra.dp (SeqAt.canLay_of_shaped hh.1), rb.dp (SeqAt.canLay_of_shaped hh.2), hh.1, hh.2, q _ P (Le.refl P) (.bl _)⟩
  · cases h
/-! ### in, not in -/
def flD : PyData → Bool
  | .none => true
  | .bool _ => true
  | .int _ => true
  | .str _ => true
  | _ => false
theorem fl_v {M : Hp} {v : V} {d : PyData} (r : Rp K M v d) (h : flD d = true) : flatV v = true := by
  cases r <;> first | rfl | (simp [flD] at h)
theorem fl_vs {M : Hp} : ∀ {vs : List V} {ds : List PyData}, RpAll K M vs ds → ds.all flD = true → vs.all flatV = true
  | _, _, .nil, _ => rfl
  | _, _, .cons h r, q => by
    rw [List.all_cons, Bool.and_eq_true] at q
    rw [List.all_cons, Bool.and_eq_true]
    exact ⟨fl_v h q.1, fl_vs r q.2⟩
theorem fl_eq {M : Hp} {v u : V} {d e : PyData} (r : Rp K M v d) (h : flD d = true) (r' : Rp K M u e) (h' : flD e = true) : eqV v u = PyData.eqv d e := by
  cases r <;> cases r' <;> first | rfl | (simp [flD] at h) | (simp [flD] at h')
theorem fl_in {M : Hp} {v : V} {d : PyData} (r : Rp K M v d) (h : flD d = true) : ∀ {vs : List V} {ds : List PyData}, RpAll K M vs ds → ds.all flD = true → inV v vs = ds.any fun z => PyData.eqv z d
  | _, _, .nil, _ => rfl
  | _, _, .cons h1 r1, q => by
    rw [List.all_cons, Bool.and_eq_true] at q
    have ih := fl_in r h r1 q.2
    unfold inV at ih ⊢
    rw [List.any_cons, List.any_cons, ih, fl_eq h1 q.1 r h]
def itemsD : PyData → Option (List PyData)
  | .list xs => some xs
  | .tuple xs => some xs
  | _ => none
def oIn (x y : PyData) : Option PyData := (itemsD y).bind fun ds => if flD x = true ∧ ds.all flD = true then some (.bool (ds.any fun z => PyData.eqv z x)) else none
def oNin (x y : PyData) : Option PyData := (itemsD y).bind fun ds => if flD x = true ∧ ds.all flD = true then some (.bool (!ds.any fun z => PyData.eqv z x)) else none
theorem Rw.fl {P : Pr T} {v : V} {d : PyData} (h : Rw K P v d) (f : flD d = true) : Rp K P.M v d := by
  rcases h with h | ⟨p, rfl, h⟩
  · exact h
  · cases h <;> simp [flD] at f
theorem items_of {P : Pr T} {v : V} {d : PyData} {ds : List PyData} (h : Rw K P v d) (e : itemsD d = some ds) : ∃ p xs, v = .ref p ∧ (SqL K P.H p xs ∨ SqT K P.H p xs) ∧ RpAll K P.M xs ds := by
  unfold itemsD at e
  split at e
  · cases e
    obtain ⟨a, xs, rfl, hs, r⟩ := h.list
    exact ⟨a, xs, rfl, .inl hs, r⟩
  · cases e
    obtain ⟨a, xs, rfl, _, hs, r⟩ := h.tuple
    exact ⟨a, xs, rfl, .inr hs, r⟩
  · cases e
theorem od_in : OpD K T (rIn K false) oIn := by
  intro P x y a b d ra rb h Q q
  obtain ⟨ds, ed, h⟩ := bind_eq h
  split at h
  · cases h
    rename_i hh
    obtain ⟨p, xs, rfl, hs, r⟩ := items_of rb ed
    have r1 := ra.fl hh.1
    refine ⟨p, xs, rfl, hs, fl_v r1 hh.1, fl_vs r hh.2, ?_⟩
    have e1 := fl_in r1 hh.1 r hh.2
    show Q (.bl (inV x xs)) P.H
    rw [e1]
    exact q _ P (Le.refl P) (.bl _)
  · cases h
theorem od_nin : OpD K T (rIn K true) oNin := by
  intro P x y a b d ra rb h Q q
  obtain ⟨ds, ed, h⟩ := bind_eq h
  split at h
  · cases h
    rename_i hh
    obtain ⟨p, xs, rfl, hs, r⟩ := items_of rb ed
    have r1 := ra.fl hh.1
    refine ⟨p, xs, rfl, hs, fl_v r1 hh.1, fl_vs r hh.2, ?_⟩
    have e1 := fl_in r1 hh.1 r hh.2
    show Q (.bl (!inV x xs)) P.H
    rw [e1]
    exact q _ P (Le.refl P) (.bl _)
  · cases h
/-! ### a[i] -/
def oIx : PyData → PyData → Option PyData
  | .list xs, .int i => atI xs i
  | .tuple xs, .int i => atI xs i
  | .str z, .int i => if z.length ≤ 1000 then (atI z.cps.toList i).map fun c => .str ⟨#[c]⟩ else none
  | _, _ => none
def uIx (K : PySem.W.Frag) : R2 := fun x y H Q => rIxL K x y H Q ∨ (rIxT K x y H Q ∨ rIxS x y H Q)
theorem ix_u (hK : X.K = K := by rfl) : IxR X (uIx K) := by
  subst hK
  exact IxR.or ix_list (IxR.or ix_tup ix_str)
theorem od_ix : OpD K T (uIx K) oIx := by
  intro P x y a b d ra rb h Q q
  unfold oIx at h
  split at h
  · obtain ⟨p, xs, rfl, hs, r⟩ := ra.list
    obtain ⟨v, hv, rv⟩ := rpAll_at r h
    exact .inl ⟨p, xs, _, v, rfl, rb.int, hs, hv, q _ P (Le.refl P) rv⟩
  · obtain ⟨p, xs, rfl, _, hs, r⟩ := ra.tuple
    obtain ⟨v, hv, rv⟩ := rpAll_at r h
    exact .inr (.inl ⟨p, xs, _, v, rfl, rb.int, hs, hv, q _ P (Le.refl P) rv⟩)
  · split at h
    · rename_i hh
      obtain ⟨c, hc, rfl⟩ := map_eq h
      exact .inr (.inr ⟨_, _, c, ra.str, rb.int, Nat.le_trans hh (by decide), hc, q _ P (Le.refl P) (.str _)⟩)
    · cases h
  · cases h
/-! ### a[lo:hi] -/
def pNo : Ev → Option (Option Int) := fun _ => some none
def asI : PyData → Option Int
  | .int i => some i
  | _ => none
theorem asI_eq {d : PyData} {b : Int} (h : asI d = some b) : d = .int b := by
  unfold asI at h
  split at h
  · cases h
    rfl
  · cases h
def pSo (a : ME) : Ev → Option (Option Int) := fun ρ => (a ρ).bind fun x => (asI x).map some
theorem c_pno {o : Option Expr} (h : PO X o tNoPart) : PO X o (tP K T pNo) := po_to h fun σ H Q ⟨P0, P, ρ, d, h1, s, h2, q⟩ => by
  cases h2
  subst h1
  exact q P (Le.refl P)
theorem c_pso {o : Option Expr} {a : ME} (h : PO X o (tPart (tD K T a))) : PO X o (tP K T (pSo a)) := po_to h fun σ H Q ⟨P0, P, ρ, d, h1, s, h2, q⟩ => by
  subst h1
  obtain ⟨x, ex, h2⟩ := bind_eq h2
  obtain ⟨i, ei, rfl⟩ := map_eq h2
  rw [asI_eq ei] at ex
  refine ⟨P0, P, ρ, _, rfl, s, ex, fun v P1 l r => ?_⟩
  cases r
  exact ⟨i, rfl, q P1 l⟩
def oSl (x : PyData) (lo hi : Option Int) : Option PyData := match x with
  | .list xs => some (.list (LB.cutD xs lo hi))
  | .tuple xs => some (.tuple (LB.cutD xs lo hi))
  | .str z => if z.length ≤ 10000 then some (.str (cutS z lo hi)) else none
  | _ => none
def uSl (K : PySem.W.Frag) : V → Option Int → Option Int → Hp → VK → Prop := fun x lo hi H Q => rSlL K x lo hi H Q ∨ (rSlA K x lo hi H Q ∨ rSlS x lo hi H Q)
theorem sl_u (hK : X.K = K := by rfl) : SlR X (uSl K) := by
  subst hK
  exact SlR.or sl_list (SlR.or sl_tupA sl_str)
def mSl (a : ME) (lo hi : Ev → Option (Option Int)) : ME := fun ρ => (a ρ).bind fun x => (lo ρ).bind fun l => (hi ρ).bind fun u => oSl x l u
theorem c_sl {a : ME} {lo hi : Ev → Option (Option Int)} (h : PE X e (tSl (uSl K) (tW K T a) (tP K T lo) (tP K T hi))) : PE X e (tD K T (mSl a lo hi)) := pe_to h fun σ H Q ⟨P0, P, ρ, d, h1, s, h2, q⟩ => by
  subst h1
  obtain ⟨x, ex, h3⟩ := bind_eq h2
  obtain ⟨l, el, h4⟩ := bind_eq h3
  obtain ⟨u, eu, h5⟩ := bind_eq h4
  clear h2 h3 h4
  refine ⟨P0, P, ρ, x, rfl, s, ex, fun v P1 l1 r1 => ⟨P0, P1, ρ, l, rfl, s.up l1, el, fun P2 l2 => ⟨P0, P2, ρ, u, rfl, s.up (l1.trans l2), eu, fun P3 l3 => ?_⟩⟩⟩
  have r3 := r1.up (l2.trans l3)
  have q3 : ∀ v (P' : Pr T), Le P3 P' → Rp K P'.M v d → Q v P'.H := fun v P' l' r' => q v P' ((l1.trans (l2.trans l3)).trans l') r'
  unfold oSl at h5
  split at h5
  · cases h5
    obtain ⟨p, xs, rfl, hs, r⟩ := r3.list
    exact .inl ⟨p, xs, rfl, hs, fun p' hp => q3 _ (P3.put p' (.lst (cutV xs l u)) hp) (le_put P3 hp) (.lst (SqL.of upd_same) ((RpAll.cut r l u).ext (le_put P3 hp).m))⟩
  · cases h5
    obtain ⟨p, xs, rfl, hm, hs, r⟩ := r3.tuple
    refine .inr (.inl ⟨p, xs, rfl, hs, fun hw => q3 _ P3 (Le.refl P3) ?_, fun _ p' hp => q3 _ (P3.put p' (.tup (cutV xs l u)) hp) (le_put P3 hp) (.tup upd_same ((RpAll.cut r l u).ext (le_put P3 hp).m))⟩)
    rename_i ds
    have e : LB.cutD ds l u = ds := by
      unfold LB.cutD
      rw [r.length] at hw
      rw [hw.1, hw.2]
      simp
    rw [e]
    exact .tup hm r
  · split at h5
    · cases h5
      rename_i hh
      exact .inr (.inr ⟨_, r3.str, Nat.le_trans hh (by decide), q3 _ P3 (Le.refl P3) (.str _)⟩)
    · cases h5
  · cases h5
def oRev : PyData → Option PyData
  | .tuple xs => some (.tuple xs.reverse)
  | _ => none
theorem pe_revK {e0 : Expr} {te : TE} {k : Nat} {p1 p2 p3 pos : Pos} (he : PE X e0 te) (hK : X.K = K := by rfl) : PE X (.Subscript e0 (.Slice none none (some (.UnaryOp .USub (.Constant (.int 1) k p1) p2)) p3) pos) (tRevT K te) := by
  subst hK
  exact pe_revT he
theorem c_rev {a : ME} (h : PE X e (tRevT K (tW K T a))) : PE X e (tD K T (mUn oRev a)) := pe_to h fun σ H Q ⟨P0, P, ρ, d, h1, s, h2, q⟩ => by
  subst h1
  obtain ⟨x, ex, h2⟩ := bind_eq h2
  refine ⟨P0, P, ρ, x, rfl, s, ex, fun v P1 l1 r1 => ?_⟩
  unfold oRev at h2
  split at h2
  · cases h2
    obtain ⟨p, xs, rfl, hm, hs, r⟩ := r1.tuple
    exact ⟨p, xs, rfl, hs, fun p' hp => q _ (P1.put p' (.tup xs.reverse) hp) (l1.trans (le_put P1 hp)) (.tup upd_same ((RpAll.reverse r).ext (le_put P1 hp).m))⟩
  · cases h2
/-! ### calls of builtins -/
def CbD (K : PySem.W.Frag) (T : Tb) (r : List V → Hp → VK → Prop) (f : List PyData → Option PyData) : Prop := ∀ (P : Pr T) vs ds d, RwAll K T P vs ds → f ds = some d → ∀ Q : VK, (∀ v (P' : Pr T), Le P P' → Rp K P'.M v d → Q v P'.H) → r vs P.H Q
def CbF (K : PySem.W.Frag) (T : Tb) (r : List V → Hp → VK → Prop) (f : List PyData → Option PyData) : Prop := ∀ (P : Pr T) vs ds d, RwAll K T P vs ds → f ds = some d → ∀ Q : VK, (∀ p (P' : Pr T), Le P P' → OwnAt K P' p d → Loose P.H p → Q (.ref p) P'.H) → r vs P.H Q
def mCb (f : List PyData → Option PyData) (a : MA) : ME := fun ρ => (a ρ).bind f
theorem c_cb {r : List V → Hp → VK → Prop} {f : List PyData → Option PyData} {a : MA} (hD : CbD K T r f) (h : PE X e (tCB r (tAw K T a))) : PE X e (tD K T (mCb f a)) := pe_to h fun σ H Q ⟨P0, P, ρ, d, h1, s, h2, q⟩ => by
  subst h1
  obtain ⟨x, ex, h2⟩ := bind_eq h2
  exact ⟨P0, P, ρ, x, rfl, s, ex, fun vs P1 l1 r1 => hD P1 vs x d r1 h2 Q fun v P2 l2 r2 => q v P2 (l1.trans l2) r2⟩
theorem c_cbF {r : List V → Hp → VK → Prop} {f : List PyData → Option PyData} {a : MA} (hD : CbF K T r f) (h : PE X e (tCB r (tAw K T a))) : PE X e (tF K T (mCb f a)) := pe_to h fun σ H Q ⟨P0, P, ρ, d, h1, s, h2, q⟩ => by
  subst h1
  obtain ⟨x, ex, h2⟩ := bind_eq h2
  exact ⟨P0, P, ρ, x, rfl, s, ex, fun vs P1 l1 r1 => hD P1 vs x d r1 h2 Q fun v P2 l2 r2 lo => q v P2 (l1.trans l2) r2 (loose_back l1.h lo)⟩
def oLen : List PyData → Option PyData
  | [.list xs] => some (.int (xs.length : Int))
  | [.tuple xs] => some (.int (xs.length : Int))
  | [.str z] => if z.length ≤ 10000 then some (.int (z.length : Int)) else none
  | _ => none
theorem cb_len : CbD K T (fun xs H Q => ∃ x n, xs = [x] ∧ LenV K x H n ∧ Q (.int n) H) oLen := by
  intro P vs ds d ra h Q q
  unfold oLen at h
  split at h
  · cases h
    cases ra with
    | cons r1 r2 =>
      cases r2
      obtain ⟨p, xs, rfl, hs, r⟩ := r1.list
      exact ⟨_, _, rfl, .inl ⟨xs, hs, r.length.symm⟩, q _ P (Le.refl P) (.int _)⟩
  · cases h
    cases ra with
    | cons r1 r2 =>
      cases r2
      obtain ⟨p, xs, rfl, _, hs, r⟩ := r1.tuple
      exact ⟨_, _, rfl, .inr ⟨xs, hs, r.length.symm⟩, q _ P (Le.refl P) (.int _)⟩
  · split at h
    · cases h
      rename_i hh
      cases ra with
      | cons r1 r2 =>
        cases r2
        rw [r1.str]
        exact ⟨_, _, rfl, ⟨Nat.le_trans hh (by decide), rfl⟩, q _ P (Le.refl P) (.int _)⟩
    · cases h
  · cases h
def oAbs : List PyData → Option PyData
  | [.int i] => some (.int (if i < 0 then -i else i))
  | _ => none
theorem cb_abs : CbD K T (fun xs H Q => ∃ i, xs = [.int i] ∧ Q (.int (if i < 0 then -i else i)) H) oAbs := by
  intro P vs ds d ra h Q q
  unfold oAbs at h
  split at h
  · cases h
    cases ra with
    | cons r1 r2 =>
      cases r2
      rw [r1.int]
      exact ⟨_, rfl, q _ P (Le.refl P) (.int _)⟩
  · cases h
def oInt : List PyData → Option PyData
  | [.int i] => some (.int i)
  | [.bool k] => some (.int (if k = true then 1 else 0))
  | _ => none
theorem cb_int : CbD K T (fun xs H Q => (∃ i, xs = [.int i] ∧ Q (.int i) H) ∨ ∃ k, xs = [.bl k] ∧ Q (.int (if k = true then 1 else 0)) H) oInt := by
  intro P vs ds d ra h Q q
  unfold oInt at h
  split at h
  · cases h
    cases ra with
    | cons r1 r2 =>
      cases r2
      rw [r1.int]
      exact .inl ⟨_, rfl, q _ P (Le.refl P) (.int _)⟩
  · cases h
    cases ra with
    | cons r1 r2 =>
      cases r2
      rw [r1.bool]
      exact .inr ⟨_, rfl, q _ P (Le.refl P) (.int _)⟩
  · cases h
def oMax : List PyData → Option PyData
  | [.int i, .int j] => some (.int (if j > i then j else i))
  | _ => none
theorem cb_max : CbD K T (fun xs H Q => ∃ i j, xs = [.int i, .int j] ∧ Q (.int (if j > i then j else i)) H) oMax := by
  intro P vs ds d ra h Q q
  unfold oMax at h
  split at h
  · cases h
    cases ra with
    | cons r1 r2 =>
      cases r2 with
      | cons r2 r3 =>
        cases r3
        rw [r1.int, r2.int]
        exact ⟨_, _, rfl, q _ P (Le.refl P) (.int _)⟩
  · cases h
def oMin : List PyData → Option PyData
  | [.int i, .int j] => some (.int (if j < i then j else i))
  | _ => none
theorem cb_min : CbD K T (fun xs H Q => ∃ i j, xs = [.int i, .int j] ∧ Q (.int (if j < i then j else i)) H) oMin := by
  intro P vs ds d ra h Q q
  unfold oMin at h
  split at h
  · cases h
    cases ra with
    | cons r1 r2 =>
      cases r2 with
      | cons r2 r3 =>
        cases r3
        rw [r1.int, r2.int]
        exact ⟨_, _, rfl, q _ P (Le.refl P) (.int _)⟩
  · cases h
def bls : List PyData → Option (List Bool)
  | [] => some []
  | .bool b :: r => (bls r).map fun l => b :: l
  | _ :: _ => none
theorem bls_rp {M : Hp} : ∀ {vs : List V} {ds : List PyData} {bs : List Bool}, RpAll K M vs ds → bls ds = some bs → vs = bs.map V.bl
  | _, _, _, .nil, h => by
    cases h
    rfl
  | _, _, _, .cons h1 r, h => by
    unfold bls at h
    split at h
    · rename_i e
      cases e
    · rename_i e
      cases e
      obtain ⟨l, hl, rfl⟩ := map_eq h
      cases h1
      rw [bls_rp r hl]
      rfl
    · cases h
def oAll : List PyData → Option PyData
  | [.list xs] => (bls xs).map fun l => .bool (l.all id)
  | _ => none
theorem cb_all : CbD K T (rAll K) oAll := by
  intro P vs ds d ra h Q q
  unfold oAll at h
  split at h
  · obtain ⟨l, hl, rfl⟩ := map_eq h
    cases ra with
    | cons r1 r2 =>
      cases r2
      obtain ⟨p, xs, rfl, hs, r⟩ := r1.list
      rw [bls_rp r hl] at hs
      exact ⟨p, l, rfl, hs, q _ P (Le.refl P) (.bl _)⟩
  · cases h
theorem cr_allK (hc : X.calm = true) (hK : X.K = K := by rfl) : CallR X (.builtin "all") (rAll K) := by
  subst hK
  exact cr_all hc
def rListOf (K : PySem.W.Frag) : List V → Hp → VK → Prop := fun xs H Q => ∃ p ys, xs = [.ref p] ∧ (SqL K H p ys ∨ SqT K H p ys) ∧ ∀ l, H l = none → Q (.ref l) (upd H l (.lst ys))
theorem call_listK (hK : X.K = K := by rfl) : CallR X (.type "list") (rListOf K) := by
  subst hK
  exact call_list_of
def oList : List PyData → Option PyData
  | [x] => (itemsD x).map .list
  | _ => none
theorem cb_list : CbF K T (rListOf K) oList := by
  intro P vs ds d ra h Q q
  unfold oList at h
  split at h
  · obtain ⟨l, hl, rfl⟩ := map_eq h
    cases ra with
    | cons r1 r2 =>
      cases r2
      obtain ⟨p, xs, rfl, hs, r⟩ := items_of r1 hl
      exact ⟨p, xs, rfl, hs, fun l hl => q _ (P.hid l (.lst xs) hl) (le_hid P hl) (.lst (P.none hl) upd_same r) (loose_none hl)⟩
  · cases h
def oTuple : List PyData → Option PyData
  | [x] => (itemsD x).map .tuple
  | _ => none
theorem cb_tuple : CbD K T (fun xs H Q => ∃ p ys, xs = [.ref p] ∧ ((SqL K H p ys ∧ ∀ l, H l = none → Q (.ref l) (upd H l (.tup ys))) ∨ (SqT K H p ys ∧ Q (.ref p) H))) oTuple := by
  intro P vs ds d ra h Q q
  unfold oTuple at h
  split at h
  · obtain ⟨l, hl, rfl⟩ := map_eq h
    cases ra with
    | cons r1 r2 =>
      cases r2
      unfold itemsD at hl
      split at hl
      · cases hl
        obtain ⟨p, xs, rfl, hs, r⟩ := r1.list
        exact ⟨p, xs, rfl, .inl ⟨hs, fun l hl => q _ (P.put l (.tup xs) hl) (le_put P hl) (.tup upd_same (r.ext (le_put P hl).m))⟩⟩
      · cases hl
        obtain ⟨p, xs, rfl, hm, hs, r⟩ := r1.tuple
        exact ⟨p, xs, rfl, .inr ⟨hs, q _ P (Le.refl P) (.tup hm r)⟩⟩
      · cases hl
  · cases h
/-! sorted -/
open PySem.W PySem.SeqAt in
theorem each_m {M : Hp} : ∀ {ds : List PyData} {vs : List V} {us : List Value}, RpAll K M vs ds → Vals vs us → EachIs (fun u d => ∃ v, Rp K M v d ∧ RelV v u) us ds
  | [], _, _, .nil, .nil => .nil
  | d :: ds, _, _, .cons h1 h2, .cons r1 r2 => .cons ⟨_, h1, r1⟩ (each_m h2 r2)
open PySem.W PySem.SeqAt in
theorem m_each {M : Hp} : ∀ {us : List Value} {ds : List PyData}, EachIs (fun u d => ∃ v, Rp K M v d ∧ RelV v u) us ds → ∃ vs, RpAll K M vs ds ∧ Vals vs us
  | _, _, .nil => ⟨[], .nil, .nil⟩
  | _, _, .cons ⟨v, h1, h2⟩ t => by
    obtain ⟨vs, q1, q2⟩ := m_each t
    exact ⟨v :: vs, .cons h1 q1, .cons h2 q2⟩
def rSortM (K : PySem.W.Frag) : List V → Hp → VK → Prop := fun vs H Q => ∃ (M : Hp) (a : Addr) (xs : List V) (ds : List PyData), Ex M H ∧ vs = [.ref a] ∧ SqL K H a xs ∧ RpAll K M xs ds ∧ Srt ds ∧ ∀ (p : Addr) (ys : List V), H p = none → RpAll K M ys (sortD ds) → Q (.ref p) (upd H p (.lst ys))
open PySem.W PySem.SeqAt in
theorem cr_sortM (hu : X.A.units + 64 < cLine) (hK : X.K = K := by rfl) : CallR X (.builtin "sorted") (rSortM K) := by
  subst hK
  intro pins s σ H xs us Q I r h
  obtain ⟨M, a, xs, ds, hM, rfl, hs, ra, S, q⟩ := h
  obtain rfl := Vals.ref1 r
  obtain ⟨its, rv, pl, hz⟩ := I.list hs
  obtain ⟨_, e2⟩ := each_of I (fun d hd => S.al d hd d hd) (ra.ext hM) rv
  have e1 := each_m ra rv
  have hL : ds.length ≤ sizeLine := Nat.le_trans S.len (by decide)
  have hd : ∀ b, b ∈ ds → X.A.units + 2 + (id b : PyData).depth < cLine := fun b hb => by
    have := S.dp b hb
    show X.A.units + 2 + b.depth < cLine
    omega
  have fin : ∀ out : List Value, out.length = ds.length → EachIs (fun u d => ∃ v, Rp X.K M v d ∧ RelV v u) out (ds.mergeSort (dataLe false id)) → EP X pins σ Q (.ref (s.heap.objs.size + 1)) { s with heap := sortedAll s.heap its (List.toArray out) } := fun out hl e => by
    obtain ⟨ys, q1, q2⟩ := m_each e
    obtain ⟨c, hc⟩ := sortedAll_at s.heap its out.toArray
    have hn : H (s.heap.objs.size + 1) = none := I.hok.fresh (Nat.le_succ _)
    refine ⟨.ref (s.heap.objs.size + 1), upd H (s.heap.objs.size + 1) (.lst ys), I.laid (t' := s.toks) (fun b o e => sortedAll_old e) (Nat.le_succ _) (show ObjOk X.prog X.w _ _ _ (.lst ys) from ⟨?_, out, c, q2, hc⟩), rfl, q _ ys hn q1⟩
    rw [q2.length, hl]
    exact hL
  rcases S.ok with ok | ok
  · exact sorted_data (enc := id) (R := fun u d => ∃ v, Rp X.K M v d ∧ RelV v u) pl.isList e1 e2 (by rw [List.map_id]; exact S.al) (by rw [List.map_id]; exact ok) hL hd fin
  · exact sorted_led (R := fun u d => ∃ v, Rp X.K M v d ∧ RelV v u) pl.isList e1 e2 S.al ok hL hd fin
open Classical in
noncomputable def oSorted : List PyData → Option PyData
  | [.list xs] => if LB.Srt xs then some (.list (LB.sortD xs)) else none
  | _ => none
theorem cb_sorted : CbF K T (rSortM K) oSorted := by
  intro P vs ds d ra h Q q
  unfold oSorted at h
  split at h
  · split at h
    · cases h
      rename_i hh
      cases ra with
      | cons r1 r2 =>
        cases r2
        obtain ⟨p, xs, rfl, hs, r⟩ := r1.list
        exact ⟨P.M, p, xs, _, P.sub, rfl, hs, r, hh, fun p' ys hp ry => q _ (P.hid p' (.lst ys) hp) (le_hid P hp) (.lst (P.none hp) upd_same ry) (loose_none hp)⟩
    · cases h
  · cases h
theorem mSorted_is {a : MA} (ρ : Ev) (d : PyData) (h : mCb oSorted a ρ = some d) : isLst d = true := by
  obtain ⟨x, _, h⟩ := bind_eq h
  unfold oSorted at h
  split at h
  · split at h
    · cases h
      rfl
    · cases h
  · cases h
theorem mList_is {a : MA} (ρ : Ev) (d : PyData) (h : mCb oList a ρ = some d) : isLst d = true := by
  obtain ⟨x, _, h⟩ := bind_eq h
  unfold oList at h
  split at h
  · obtain ⟨l, _, rfl⟩ := map_eq h
    rfl
  · cases h
/-! isinstance -/
def mIs (n : String) (a : ME) : ME := fun ρ => (a ρ).bind fun d => (kitB (tyN d) n).map .bool
theorem Rw.ty {P : Pr T} {v : V} {d : PyData} (h : Rw K P v d) : TyY K P.H v (.type (tyN d)) := by
  rcases h with h | ⟨p, rfl, h⟩
  · exact (h.ext P.sub).ty
  · cases h with
    | lst h1 h2 h3 => exact .x (.base (.lst h2))
    | dT h1 h2 h3 => exact .x (.base (.dT h2))
theorem c_is {n : String} {a : ME} (h : PE X e (tCB (rIsiY K) (tCons (tW K T a) (tCons (tC (.ty n)) tNil)))) : PE X e (tD K T (mIs n a)) := pe_to h fun σ H Q ⟨P0, P, ρ, d, h1, s, h2, q⟩ => by
  subst h1
  obtain ⟨x, ex, h2⟩ := bind_eq h2
  obtain ⟨b, hb, rfl⟩ := map_eq h2
  exact ⟨P0, P, ρ, x, rfl, s, ex, fun v P1 l1 r1 => ⟨_, _, _, _, b, rfl, .ty n, r1.ty, kit_ty hb, q _ P1 l1 (.bl b)⟩⟩
end PM
namespace PM
open PySem PySem.Spec PyProof.Rows L2 LB
variable {T : Tb} {K : PySem.W.Frag} {X : Cx} {e : Expr}
/-! ### iterators -/
structure WkM (K : PySem.W.Frag) (P1 : Pr T) (J : It) (ds : List PyData) : Prop where
  stop : ∀ P' : Pr T, Ex P1.M P'.M → J.stop ds.length P'.H
  go : ∀ i (P' : Pr T), i < ds.length → Ex P1.M P'.M → J.go i P'.H
  yld : ∀ i (P' : Pr T) x H'', i < ds.length → Ex P1.M P'.M → J.yld i P'.H x H'' → ∃ P'' : Pr T, P''.H = H'' ∧ Le P' P'' ∧ ∃ d, ds[i]? = some d ∧ Rp K P''.M x d
structure WkH (K : PySem.W.Frag) (P1 : Pr T) (J : It) (ds : List PyData) : Prop where
  stop : ∀ P' : Pr T, Le P1 P' → J.stop ds.length P'.H
  go : ∀ i (P' : Pr T), i < ds.length → Le P1 P' → J.go i P'.H
  yld : ∀ i (P' : Pr T) x H'', i < ds.length → Le P1 P' → J.yld i P'.H x H'' → ∃ P'' : Pr T, P''.H = H'' ∧ Le P' P'' ∧ ∃ d, ds[i]? = some d ∧ Rp K P''.M x d
theorem WkM.h {P1 : Pr T} {J : It} {ds : List PyData} (w : WkM K P1 J ds) : WkH K P1 J ds := ⟨fun P' l => w.stop P' l.m, fun i P' h l => w.go i P' h l.m, fun i P' x H'' h l y => w.yld i P' x H'' h l.m y⟩
def tI (K : PySem.W.Frag) (T : Tb) (m : MA) : TI := fun σ H R => ∃ (P0 P : Pr T) (ρ : Ev) (ds : List PyData), P.H = H ∧ St K P0 P σ ρ ∧ m ρ = some ds ∧ ∀ J (P' : Pr T), Le P P' → WkM K P' J ds → R J P'.H
def tIh (K : PySem.W.Frag) (T : Tb) (m : MA) : TI := fun σ H R => ∃ (P0 P : Pr T) (ρ : Ev) (ds : List PyData), P.H = H ∧ St K P0 P σ ρ ∧ m ρ = some ds ∧ ∀ J (P' : Pr T), Le P P' → WkH K P' J ds → R J P'.H
theorem c_ih {tg : Expr} {m : MA} (h : PI X tg e (tI K T m)) : PI X tg e (tIh K T m) := pi_to h fun σ H Q ⟨P0, P, ρ, d, h1, s, h2, q⟩ => ⟨P0, P, ρ, d, h1, s, h2, fun J P' l w => q J P' l w.h⟩
/-- a list, a tuple or a text -/
def iSeq (K : PySem.W.Frag) (tl : TE) : TI := fun σ H R => tl σ H fun x H1 => (∃ a, x = .ref a ∧ (∃ xs, SqL K H1 a xs) ∧ R (Itl K a) H1) ∨ (∃ a, x = .ref a ∧ (∃ xs, SqT K H1 a xs) ∧ R (Itt K a) H1) ∨ ∃ z, x = .str z ∧ R (Its z) H1
theorem pi_seq {tg l : Expr} {tl : TE} (hl : PE X l tl) (hK : X.K = K := by rfl) : PI X tg l (iSeq K tl) := by
  subst hK
  refine ⟨fun pins s σ H R I h => thn (hl.run pins s σ H _ I h) fun v s1 ⟨x, H1, I1, r1, q1⟩ => ?_⟩
  rcases q1 with ⟨a, rfl, ⟨xs, hq⟩, q⟩ | ⟨a, rfl, ⟨xs, hq⟩, q⟩ | ⟨z, rfl, q⟩
  · cases r1
    obtain ⟨its, _, p, _⟩ := I1.list hq
    exact wpAny_pyIter_list p.isList (pi_one (tk := s1.toks) I1 _ (turn_list a _) ⟨_, Heap.get?_push_size _ rfl, rfl, rfl⟩ q)
  · cases r1
    obtain ⟨its, _, p, _⟩ := I1.tuple hq
    exact wpAny_pyIter_tuple (show s1.heap.IsTuple a its.toArray from p) (pi_one (tk := s1.toks) I1 _ (turn_tuple a _) ⟨_, Heap.get?_push_size _ rfl, rfl, rfl⟩ q)
  · obtain ⟨t, rfl⟩ := r1
    cases ha : z.cps.all (· < 128)
    · exact wpAny_pyIter_wide ha (pi_one (tk := s1.toks) I1 _ (turn_str _ z t "str_iterator" (Or.inr rfl)) ⟨_, Heap.get?_push_size _ rfl, rfl, rfl⟩ q)
    · exact wpAny_pyIter_ascii ha (pi_one (tk := s1.toks) I1 _ (turn_str _ z t "str_ascii_iterator" (Or.inl rfl)) ⟨_, Heap.get?_push_size _ rfl, rfl, rfl⟩ q)
theorem wk_l {P1 : Pr T} {a : Addr} {xs : List V} {ds : List PyData} (hs : SqL K P1.M a xs) (ra : RpAll K P1.M xs ds) : WkM K P1 (Itl K a) ds := by
  have g : ∀ {P' : Pr T}, Ex P1.M P'.M → SqL K P'.H a xs := fun {P'} x => ex_l P'.sub (ex_l x hs)
  refine ⟨fun P' x => ⟨xs, g x, by rw [ra.length]; exact Nat.le_refl _⟩, fun i P' hi x => ?_, fun i P' v H'' hi x y => ⟨P', y.1.symm, Le.refl P', ?_⟩⟩
  · exact ⟨xs, xs[i]'(by rw [ra.length]; exact hi), g x, List.getElem?_eq_getElem _⟩
  · obtain ⟨d, h1, h2⟩ := ra.get (y.2 xs (g x))
    exact ⟨d, h1, h2.ext x⟩
theorem wk_t {P1 : Pr T} {a : Addr} {xs : List V} {ds : List PyData} (hs : SqT K P1.M a xs) (ra : RpAll K P1.M xs ds) : WkM K P1 (Itt K a) ds := by
  have g : ∀ {P' : Pr T}, Ex P1.M P'.M → SqT K P'.H a xs := fun {P'} x => ex_t P'.sub (ex_t x hs)
  refine ⟨fun P' x => ⟨xs, g x, by rw [ra.length]; exact Nat.le_refl _⟩, fun i P' hi x => ?_, fun i P' v H'' hi x y => ⟨P', y.1.symm, Le.refl P', ?_⟩⟩
  · exact ⟨xs, xs[i]'(by rw [ra.length]; exact hi), g x, List.getElem?_eq_getElem _⟩
  · obtain ⟨d, h1, h2⟩ := ra.get (y.2 xs (g x))
    exact ⟨d, h1, h2.ext x⟩
def signsD (z : Str) : List PyData := z.cps.toList.map fun c => .str ⟨#[c]⟩
theorem wk_s {P1 : Pr T} {z : Str} : WkM K P1 (Its z) (signsD z) := by
  have l : (signsD z).length = z.cps.size := by simp [signsD]
  refine ⟨fun P' x => by show z.cps.size ≤ _; omega, fun i P' hi x => by show i < z.cps.size; omega, fun i P' v H'' hi x y => ⟨P', y.1.symm, Le.refl P', ?_⟩⟩
  obtain ⟨c, hc, rfl⟩ := y.2
  refine ⟨.str ⟨#[c]⟩, ?_, .str _⟩
  unfold signsD
  rw [List.getElem?_map, Array.getElem?_toList, hc] <;> rfl
theorem wk_r {P1 : Pr T} {m : Nat} : WkM K P1 (Itr 0 m) (rngD m) := by
  have l := rngD_length m
  refine ⟨fun P' x => by show m ≤ _; omega, fun i P' hi x => by show i < m; omega, fun i P' v H'' hi x y => ⟨P', y.1.symm, Le.refl P', .int (i : Int), ?_, ?_⟩⟩
  · unfold rngD
    rw [List.getElem?_map, List.getElem?_range (by omega)] <;> rfl
  · rw [y.2, show (0 : Int) + (i : Int) = (i : Int) by omega]
    exact .int _
def seqD : PyData → Option (List PyData)
  | .list xs => some xs
  | .tuple xs => some xs
  | .str z => some (signsD z)
  | _ => none
def iS (a : ME) : MA := fun ρ => (a ρ).bind seqD
theorem c_iseq {tg : Expr} {a : ME} (h : PI X tg e (iSeq K (tD K T a))) : PI X tg e (tI K T (iS a)) := pi_to h fun σ H Q ⟨P0, P, ρ, ds, h1, s, h2, q⟩ => by
  subst h1
  obtain ⟨x, ex, h3⟩ := bind_eq h2
  refine ⟨P0, P, ρ, x, rfl, s, ex, fun v P1 l1 r1 => ?_⟩
  unfold seqD at h3
  split at h3
  · cases h3
    cases r1 with
    | lst hs ra => exact .inl ⟨_, rfl, ⟨_, ex_l P1.sub hs⟩, q _ P1 l1 (wk_l hs ra)⟩
  · cases h3
    cases r1 with
    | tup hs ra => have hs := SqT.of (K := K) hs; exact .inr (.inl ⟨_, rfl, ⟨_, ex_t P1.sub hs⟩, q _ P1 l1 (wk_t hs ra)⟩)
  · cases h3
    cases r1
    exact .inr (.inr ⟨_, rfl, q _ P1 l1 wk_s⟩)
  · cases h3
/-- an own list, for a comprehension -/
theorem wh_l {P1 : Pr T} {a : Addr} {xs : List V} {ds : List PyData} (hs : SqL K P1.H a xs) (ra : RpAll K P1.M xs ds) : WkH K P1 (Itl K a) ds := by
  have g : ∀ {P' : Pr T}, Le P1 P' → SqL K P'.H a xs := fun {P'} x => ex_l x.h hs
  refine ⟨fun P' x => ⟨xs, g x, by rw [ra.length]; exact Nat.le_refl _⟩, fun i P' hi x => ?_, fun i P' v H'' hi x y => ⟨P', y.1.symm, Le.refl P', ?_⟩⟩
  · exact ⟨xs, xs[i]'(by rw [ra.length]; exact hi), g x, List.getElem?_eq_getElem _⟩
  · obtain ⟨d, h1, h2⟩ := ra.get (y.2 xs (g x))
    exact ⟨d, h1, h2.ext x.m⟩
theorem c_iseqw {tg : Expr} {a : ME} (h : PI X tg e (iSeq K (tW K T a))) : PI X tg e (tIh K T (iS a)) := pi_to h fun σ H Q ⟨P0, P, ρ, ds, h1, s, h2, q⟩ => by
  subst h1
  obtain ⟨x, ex, h3⟩ := bind_eq h2
  refine ⟨P0, P, ρ, x, rfl, s, ex, fun v P1 l1 r1 => ?_⟩
  unfold seqD at h3
  split at h3
  · cases h3
    obtain ⟨p, xs, rfl, hs, ra⟩ := r1.list
    exact .inl ⟨_, rfl, ⟨_, hs⟩, q _ P1 l1 (wh_l hs ra)⟩
  · cases h3
    obtain ⟨p, xs, rfl, hm, hs, ra⟩ := r1.tuple
    exact .inr (.inl ⟨_, rfl, ⟨_, hs⟩, q _ P1 l1 (wk_t (SqT.of hm) ra).h⟩)
  · cases h3
    have := r1.str
    subst this
    exact .inr (.inr ⟨_, rfl, q _ P1 l1 wk_s.h⟩)
  · cases h3
/-- range(n) -/
def oRng : List PyData → Option (List PyData)
  | [.int j] => if -100000 ≤ j ∧ j < 100000 then some (rngD j.toNat) else none
  | _ => none
def iR (a : MA) : MA := fun ρ => (a ρ).bind oRng
theorem c_irng {tg : Expr} {a : MA} (h : PI X tg e (iRng1 (tA K T a))) : PI X tg e (tI K T (iR a)) := pi_to h fun σ H Q ⟨P0, P, ρ, ds, h1, s, h2, q⟩ => by
  subst h1
  obtain ⟨x, ex, h3⟩ := bind_eq h2
  unfold oRng at h3
  split at h3
  · split at h3
    · cases h3
      rename_i j hh
      refine ⟨P0, P, ρ, _, rfl, s, ex, fun vs P1 l1 r1 => ?_⟩
      cases r1 with
      | cons r1 r2 =>
        cases r2
        cases r1
        exact ⟨j, rfl, by omega, by omega, q _ P1 l1 wk_r⟩
    · cases h3
  · cases h3
end PM
namespace PM
open PySem PySem.Spec PyProof.Rows L2 LB
variable {T : Tb} {K : PySem.W.Frag} {X : Cx} {e : Expr}
/-! ### zip -/
def zipD (xs ys : List PyData) : List PyData := (xs.zip ys).map fun p => .tuple [p.1, p.2]
theorem zipD_at {xs ys : List PyData} {i : Nat} {a b : PyData} (h1 : xs[i]? = some a) (h2 : ys[i]? = some b) : (zipD xs ys)[i]? = some (.tuple [a, b]) := by
  unfold zipD
  rw [List.getElem?_map, List.getElem?_zip_eq_some (z := (a, b)).mpr ⟨h1, h2⟩] <;> rfl
theorem zipD_len (xs ys : List PyData) : (zipD xs ys).length = min xs.length ys.length := by simp [zipD]
def oZip : List PyData → Option (List PyData)
  | [.list xs, .list ys] => some (zipD xs ys)
  | [.tuple xs, .tuple ys] => some (zipD xs ys)
  | _ => none
def iZ (a : MA) : MA := fun ρ => (a ρ).bind oZip
theorem wk_zl {P1 : Pr T} {a b : Addr} {xs ys : List V} {ds es : List PyData} (hs : SqL K P1.M a xs) (ra : RpAll K P1.M xs ds) (hs2 : SqL K P1.M b ys) (rb : RpAll K P1.M ys es) : WkM K P1 (Itz K a b) (zipD ds es) := by
  have g : ∀ {P' : Pr T}, Ex P1.M P'.M → SqL K P'.H a xs := fun {P'} x => ex_l P'.sub (ex_l x hs)
  have g2 : ∀ {P' : Pr T}, Ex P1.M P'.M → SqL K P'.H b ys := fun {P'} x => ex_l P'.sub (ex_l x hs2)
  have l := zipD_len ds es
  have l1 := ra.length
  have l2 := rb.length
  refine ⟨fun P' x => ⟨xs, ys, g x, g2 x, by omega⟩, fun i P' hi x => ?_, fun i P' v H'' hi x y => ?_⟩
  · exact ⟨xs, ys, xs[i]'(by omega), ys[i]'(by omega), g x, g2 x, List.getElem?_eq_getElem _, List.getElem?_eq_getElem _⟩
  · obtain ⟨t, v1, v2, rfl, hn, rfl, h1, h2⟩ := y
    obtain ⟨d1, e1, r1⟩ := ra.get (h1 xs (g x))
    obtain ⟨d2, e2, r2⟩ := rb.get (h2 ys (g2 x))
    have lp := (le_put P' (o := .tup [v1, v2]) hn).m
    exact ⟨P'.put t (.tup [v1, v2]) hn, rfl, le_put P' hn, _, zipD_at e1 e2, .tup upd_same (.cons ((r1.ext x).ext lp) (.cons ((r2.ext x).ext lp) .nil))⟩
theorem wk_zt {P1 : Pr T} {a b : Addr} {xs ys : List V} {ds es : List PyData} (hs : SqT K P1.M a xs) (ra : RpAll K P1.M xs ds) (hs2 : SqT K P1.M b ys) (rb : RpAll K P1.M ys es) : WkM K P1 (RZ.ItzT K a b) (zipD ds es) := by
  have g : ∀ {P' : Pr T}, Ex P1.M P'.M → SqT K P'.H a xs := fun {P'} x => ex_t P'.sub (ex_t x hs)
  have g2 : ∀ {P' : Pr T}, Ex P1.M P'.M → SqT K P'.H b ys := fun {P'} x => ex_t P'.sub (ex_t x hs2)
  have l := zipD_len ds es
  have l1 := ra.length
  have l2 := rb.length
  refine ⟨fun P' x => ⟨xs, ys, g x, g2 x, by omega⟩, fun i P' hi x => ?_, fun i P' v H'' hi x y => ?_⟩
  · exact ⟨xs, ys, xs[i]'(by omega), ys[i]'(by omega), g x, g2 x, List.getElem?_eq_getElem _, List.getElem?_eq_getElem _⟩
  · obtain ⟨t, v1, v2, rfl, hn, rfl, h1, h2⟩ := y
    obtain ⟨d1, e1, r1⟩ := ra.get (h1 xs (g x))
    obtain ⟨d2, e2, r2⟩ := rb.get (h2 ys (g2 x))
    have lp := (le_put P' (o := .tup [v1, v2]) hn).m
    exact ⟨P'.put t (.tup [v1, v2]) hn, rfl, le_put P' hn, _, zipD_at e1 e2, .tup upd_same (.cons ((r1.ext x).ext lp) (.cons ((r2.ext x).ext lp) .nil))⟩
theorem c_izip {tg : Expr} {a : MA} (h : PI X tg e (RZ.iZipA K (tA K T a))) : PI X tg e (tI K T (iZ a)) := pi_to h fun σ H Q ⟨P0, P, ρ, ds, h1, s, h2, q⟩ => by
  subst h1
  obtain ⟨x, ex, h3⟩ := bind_eq h2
  refine ⟨P0, P, ρ, x, rfl, s, ex, fun vs P1 l1 r1 => ?_⟩
  unfold oZip at h3
  split at h3
  · cases h3
    cases r1 with
    | cons r1 r2 =>
      cases r2 with
      | cons r2 r3 =>
        cases r3
        cases r1 with
        | lst hs ra =>
          cases r2 with
          | lst hs2 rb => exact ⟨_, _, _, _, rfl, .inl ⟨ex_l P1.sub hs, ex_l P1.sub hs2, q _ P1 l1 (wk_zl hs ra hs2 rb)⟩⟩
  · cases h3
    cases r1 with
    | cons r1 r2 =>
      cases r2 with
      | cons r2 r3 =>
        cases r3
        cases r1 with
        | tup hs0 ra =>
          have hs := SqT.of (K := K) hs0
          cases r2 with
          | tup hs2 rb => have hs2 := SqT.of (K := K) hs2; exact ⟨_, _, _, _, rfl, .inr ⟨ex_t P1.sub hs, ex_t P1.sub hs2, q _ P1 l1 (wk_zt hs ra hs2 rb)⟩⟩
  · cases h3
theorem pi_zipK {e1 e2 : Expr} {ta : TA} {p pos tpos : Pos} {elts : List Expr} {kk : Nat} (hg : Gl X "zip") (hm : X.mg "zip" = none) (ha : PA X [e1, e2] ta) (hK : X.K = K := by rfl)
    (hs : starEach [e1, e2] X.env = (false, eval e1 X.env) :: starEach [e2] X.env := by rfl) (hpl : (backTo pos (starEach [e2] X.env)).any (·.1) = false := by rfl) : PI X (.Tuple elts kk tpos) (.Call (.Name "zip" p) [e1, e2] [] pos) (RZ.iZipA K ta) := by
  subst hK
  exact RZ.pi_zipA hg hm ha hs hpl
/-! ### targets -/
abbrev MG := PyData → Ev → Option Ev
def tG (K : PySem.W.Frag) (T : Tb) (vs : List Nat) (gm : MG) : TG := fun v σ H Q => ∃ (P0 P : Pr T) (ρ : Ev) (d : PyData) (ρ' : Ev), P.H = H ∧ St K P0 P σ ρ ∧ Rp K P.M v d ∧ gm d ρ = some ρ' ∧ ∀ σ', St K P0 P σ' ρ' → σ'.length = σ.length → (∀ k, k ∉ vs → σ'[k]? = σ[k]?) → Q σ' H
def gN (i : Nat) : MG := fun d ρ => some (ρ.set i (.val d))
theorem c_gn {i : Nat} (h : PG X e (gName i)) : PG X e (tG K T [i] (gN i)) := pg_to h fun v σ H Q ⟨P0, P, ρ, d, ρ', h1, s, r, h2, q⟩ => by
  subst h1
  cases h2
  exact q _ (s.set r i) (by simp) fun k hk => List.getElem?_set_ne fun z => hk (by simp [z])
def gNs : List Nat → TGs
  | [] => gNil
  | i :: is => gCons (gName i) (gNs is)
def setAll : List Nat → List PyData → Ev → Ev
  | i :: is, d :: ds, ρ => setAll is ds (ρ.set i (.val d))
  | _, _, ρ => ρ
def gT (is : List Nat) : MG := fun d ρ => match d with
  | .tuple ds => if ds.length = is.length then some (setAll is ds ρ) else none
  | _ => none
theorem gns_ok {P0 P : Pr T} {H : Hp} {Q : L2.St → Hp → Prop} : ∀ (is : List Nat) (xs : List V) (ds : List PyData) (σ : L2.St) (ρ : Ev), ds.length = is.length → RpAll K P.M xs ds → St K P0 P σ ρ → (∀ σ', St K P0 P σ' (setAll is ds ρ) → σ'.length = σ.length → (∀ k, k ∉ is → σ'[k]? = σ[k]?) → Q σ' H) → gNs is xs σ H Q
  | [], _, _, σ, ρ, hl, .nil, s, q => ⟨rfl, q σ s rfl fun _ _ => rfl⟩
  | [], _, _, σ, ρ, hl, .cons _ _, s, q => by simp at hl
  | i :: is, _, _, σ, ρ, hl, .nil, s, q => by simp at hl
  | i :: is, _, _, σ, ρ, hl, .cons r rr, s, q => ⟨_, _, rfl, gns_ok is _ _ _ _ (by simpa using hl) rr (s.set r i) fun σ' s' l' f' => q σ' s' (by rw [l']; simp) fun k hk => by
      rw [f' k fun z => hk (List.mem_cons_of_mem _ z), List.getElem?_set_ne fun z => hk (by simp [z])]⟩
theorem c_gt {n : Nat} (is : List Nat) (h : PG X e (gTup K n (gNs is))) (hn : is.length = n := by rfl) : PG X e (tG K T is (gT is)) := pg_to h fun v σ H Q ⟨P0, P, ρ, d, ρ', h1, s, r, h2, q⟩ => by
  subst h1
  unfold gT at h2
  split at h2
  · split at h2
    · cases h2
      rename_i hl
      cases r with
      | tup hs ra => have hs := SqT.of (K := K) hs; exact ⟨_, _, rfl, ex_t P.sub hs, by rw [ra.length, hl, hn], gns_ok is _ _ σ ρ hl ra s q⟩
    · cases h2
  · cases h2
theorem pg_tupK {es : List Expr} {k : Nat} {t : TGs} {n : Nat} {pos : Pos} (hc : X.calm = true) (h : PGs X es t) (hK : X.K = K := by rfl)
    (hn : (assignEach es X.env).length = n := by rfl) (hst : (assignEach es X.env).findIdx? (·.1) = none := by rfl) : PG X (.Tuple es k pos) (gTup K n t) := by
  subst hK
  exact pg_tup hc h hn hst
/-! ### blocks -/
def wipeM (ρ : Ev) : List Nat → Ev
  | [] => ρ
  | v :: vs => (wipeM ρ vs).set v .no
theorem st_wipe {P0 P : Pr T} {σ : L2.St} {ρ : Ev} (s : St K P0 P σ ρ) : ∀ vs, St K P0 P (wipe σ vs) (wipeM ρ vs)
  | [] => s
  | v :: vs => by
    unfold wipe wipeM
    exact (st_wipe s vs).wipe v none
theorem wipe_in {σ : L2.St} {i : Nat} : ∀ {vs : List Nat}, i ∈ vs → i < σ.length → (wipe σ vs)[i]? = some none
  | v :: vs, h, hl => by
    unfold wipe
    by_cases z : v = i
    · subst z
      exact List.getElem?_set_self (by rw [wipe_length]; exact hl)
    · rw [List.getElem?_set_ne z]
      rcases List.mem_cons.mp h with h | h
      · exact absurd h.symm z
      · exact wipe_in h hl
theorem wipe_frame {σ σ2 : L2.St} {vs : List Nat} (hl : σ2.length = (wipe σ vs).length) (hf : ∀ k, k ∉ vs → σ2[k]? = (wipe σ vs)[k]?) : wipe σ2 vs = wipe σ vs := by
  rw [wipe_length] at hl
  refine List.ext_getElem? fun k => ?_
  by_cases h : k ∈ vs
  · by_cases hk : k < σ.length
    · rw [wipe_in h hk, wipe_in h (by omega)]
    · rw [List.getElem?_eq_none (by rw [wipe_length]; omega), List.getElem?_eq_none (by rw [wipe_length]; omega)]
  · rw [wipe_out h, hf k h]
def lcGo (gm : MG) (mt : MT) (me : ME) (ρ : Ev) : List PyData → Option (List PyData)
  | [] => some []
  | d :: ds => (gm d ρ).bind fun ρ1 => (mt ρ1).bind fun b => if b = true then (me ρ1).bind fun x => (lcGo gm mt me ρ ds).map fun l => x :: l else lcGo gm mt me ρ ds
def mLc (mi : MA) (vs : List Nat) (gm : MG) (mt : MT) (me : ME) : ME := fun ρ => (mi ρ).bind fun ds0 => (oFew ds0).bind fun ds => (lcGo gm mt me (wipeM ρ vs) ds).map .list
theorem mLc_is {mi : MA} {vs : List Nat} {gm : MG} {mt : MT} {me : ME} (ρ : Ev) (d : PyData) (h : mLc mi vs gm mt me ρ = some d) : isLst d = true := by
  obtain ⟨_, _, h⟩ := bind_eq h
  obtain ⟨_, _, h⟩ := bind_eq h
  obtain ⟨_, _, rfl⟩ := map_eq h
  rfl
theorem drop_some {α : Type} {l : List α} {i : Nat} {x : α} (h : l[i]? = some x) : l.drop i = x :: l.drop (i + 1) := by
  obtain ⟨hi, e⟩ := List.getElem?_eq_some_iff.mp h
  rw [List.drop_eq_getElem_cons hi, e]
/-- an own list grows -/
theorem own_grow {P1 P5 : Pr T} {D : Addr} {acc : List V} {out : List PyData} {y : V} {d : PyData} (l : Le P1 P5) (hD : Loose P1.H D) (hM : P5.M D = none) (hp : P5.H D = some (.lst acc)) (ra : RpAll K P5.M acc out) (r : Rp K P5.M y d) :
    ∃ Pn : Pr T, Pn.H = upd P5.H D (.lst (acc ++ [y])) ∧ Le P1 Pn ∧ OwnAt K Pn D (.list (out ++ [d])) := by
  refine ⟨⟨P5.M, upd P5.H D (.lst (acc ++ [y])), fun b u e q => ?_, tabs_mut P5.tab hp (fun _ z => nomatch z) (fun _ _ z => by unfold LamX.CodeO at z; cases z), P5.nt⟩, rfl, ⟨l.m, fun b u e q => ?_, l.f⟩, .lst hM upd_same (RpAll.append ra (.cons r .nil))⟩
  · have ne : b ≠ D := fun z => by rw [z, hM] at e; cases e
    rw [upd_ne ne]
    exact P5.sub b u e q
  · have ne : b ≠ D := fun z => by
      rw [z] at e
      obtain ⟨ps, w⟩ := hD u e
      exact q ps w
    show upd P5.H D _ b = some u
    rw [upd_ne ne]
    exact l.h b u e q
theorem lc_in {mi : MA} {vs : List Nat} {gm : MG} {mt : MT} {me : ME} {σ : L2.St} {H : Hp} {Q : VK} (h : tF K T (mLc mi vs gm mt me) σ H Q) : tLc (tIh K T mi) (tG K T vs gm) (tQ K T mt) (tD K T me) vs σ H Q := by
  obtain ⟨P0, P, ρ, d, h1, s, h2, q⟩ := h
  subst h1
  obtain ⟨ds0, e0, h3⟩ := bind_eq h2
  obtain ⟨ds, e1, h4⟩ := bind_eq h3
  obtain ⟨tot, et, rfl⟩ := map_eq h4
  obtain ⟨rfl, hl⟩ := oFew_eq e1
  refine ⟨P0, P, ρ, ds, rfl, s, e0, fun J P1 l1 wk D hD => ?_⟩
  have lo : Loose P1.H D := loose_none hD
  refine ⟨fun i m H' => m = ds.length - i ∧ i ≤ ds.length ∧ ∃ (Pc : Pr T) (out rest : List PyData), Pc.H = H' ∧ Le P1 Pc ∧ OwnAt K Pc D (.list out) ∧ lcGo gm mt me (wipeM ρ vs) (ds.drop i) = some rest ∧ out ++ rest = tot ∧ out.length ≤ i, ⟨ds.length, by simp, Nat.zero_le _, P1.hid D (.lst []) hD, [], tot, rfl, le_hid P1 hD, .lst (P1.none hD) upd_same .nil, et, rfl, Nat.le_refl _⟩, ?_⟩
  rintro i m H' ⟨rfl, hi, Pc, out, rest, rfl, lc, ow, eg, eo, el⟩
  by_cases hlt : i < ds.length
  · refine .inr ⟨wk.go i Pc hlt lc, fun H'' => ∃ m', m' < ds.length - i ∧ (m' = ds.length - (i + 1) ∧ i + 1 ≤ ds.length ∧ ∃ (Pc : Pr T) (out rest : List PyData), Pc.H = H'' ∧ Le P1 Pc ∧ OwnAt K Pc D (.list out) ∧ lcGo gm mt me (wipeM ρ vs) (ds.drop (i + 1)) = some rest ∧ out ++ rest = tot ∧ out.length ≤ i + 1), fun H'' hh => hh, fun x H'' y => ?_⟩
    obtain ⟨P3, rfl, l3, dd, hdd, rx⟩ := wk.yld i Pc x H'' hlt lc y
    rw [drop_some hdd] at eg
    obtain ⟨ρ1, eρ, eg⟩ := bind_eq eg
    obtain ⟨b, eb, eg⟩ := bind_eq eg
    refine ⟨P0, P3, wipeM ρ vs, dd, ρ1, rfl, (st_wipe s vs).up (l1.trans (lc.trans l3)), rx, eρ, fun σ2 s2 hl2 hf2 => ⟨wipe_frame hl2 hf2, P0, P3, ρ1, b, rfl, s2, eb, fun P4 l4 => ?_⟩⟩
    cases b with
    | false =>
      refine iteF ⟨_, by omega, rfl, hlt, P4, out, rest, rfl, lc.trans (l3.trans l4), ow.up (l3.trans l4), by simpa using eg, eo, by omega⟩
    | true =>
      rw [if_pos rfl] at eg
      obtain ⟨z, ez, eg⟩ := bind_eq eg
      obtain ⟨rest', er, rfl⟩ := map_eq eg
      refine iteT ⟨P0, P4, ρ1, z, rfl, s2.up l4, ez, fun yv P5 l5 r5 => ?_⟩
      have ow5 := ow.up (l3.trans (l4.trans l5))
      cases ow5 with
      | @lst acc _ a1 a2 a3 =>
        obtain ⟨Pn, en, ln, on⟩ := own_grow (lc.trans (l3.trans (l4.trans l5))) lo a1 a2 a3 r5
        have : acc.length = out.length := a3.length
        exact ⟨acc, a2, szl' (by omega) hl, _, by omega, rfl, hlt, Pn, out ++ [z], rest', en, ln, on, er, by rw [← eo]; simp, by rw [List.length_append]; show _ + 1 ≤ _; omega⟩
  · have ei : i = ds.length := by omega
    subst ei
    rw [List.drop_length] at eg
    cases eg
    rw [List.append_nil] at eo
    subst eo
    exact .inl ⟨wk.stop Pc lc, q _ Pc (l1.trans lc) ow (loose_back l1.h lo)⟩
theorem c_lc {mi : MA} {vs : List Nat} {gm : MG} {mt : MT} {me : ME} (h : PE X e (tLc (tIh K T mi) (tG K T vs gm) (tQ K T mt) (tD K T me) vs)) : PE X e (tF K T (mLc mi vs gm mt me)) := pe_to h fun σ H Q z => lc_in z
theorem s_lc {st : Stmt} {i : Nat} {mi : MA} {vs : List Nat} {gm : MG} {mt : MT} {me : ME} (h : PS X st (tAsg (tLc (tIh K T mi) (tG K T vs gm) (tQ K T mt) (tD K T me) vs) (gName i))) : PS X st (tAsg (tF K T (mLc mi vs gm mt me)) (gName i)) := ps_to h fun D σ H z => lc_in z
theorem s_fd {st : Stmt} {g : TG} {m : ME} (h : PS X st (tAsg (tF K T m) g)) (hl : ∀ ρ d, m ρ = some d → isLst d = true) : PS X st (tAsg (tD K T m) g) := ps_to h fun D σ H z => fd_in hl z
def qT : MT := fun _ => some true
theorem q_nil {ifs : List Expr} (h : PTs X ifs tYes) : PTs X ifs (tQ K T qT) := pts_to h fun σ H Q ⟨P0, P, ρ, b, h1, s, h2, q⟩ => by
  subst h1
  cases h2
  exact q P (Le.refl P)
/-! ### generator expressions -/
def agGo (gm : MG) (mt : MT) (me : ME) (ρ : Ev) : List PyData → Option Bool
  | [] => some true
  | d :: ds => (gm d ρ).bind fun ρ1 => (mt ρ1).bind fun b => if b = true then (me ρ1).bind fun x => (asB x).bind fun c => if c = true then agGo gm mt me ρ ds else some false else agGo gm mt me ρ ds
def mAg (mi : MA) (vs : List Nat) (gm : MG) (mt : MT) (me : ME) : ME := fun ρ => (mi ρ).bind fun ds => (agGo gm mt me (wipeM ρ vs) ds).map .bool
theorem ext_pr (P1 : Pr T) {H2 : Hp} (h : LamX.ExtN P1.H H2) (t : LamX.Tabs T H2) : ∃ P2 : Pr T, P2.H = H2 ∧ Le P1 P2 := ⟨⟨P1.M, H2, P1.sub.trans h, t, P1.nt⟩, rfl, ex_refl _, h, fun _ a b => absurd a b⟩
theorem c_ag {mi : MA} {vs : List Nat} {gm : MG} {mt : MT} {me : ME} (h : PE X e (GX.tAllG T (tIh K T mi) (tG K T vs gm) (tQ K T mt) (tD K T me) vs)) : PE X e (tD K T (mAg mi vs gm mt me)) := pe_to h fun σ H Q ⟨P0, P, ρ, d, h1, s, h2, q⟩ => by
  subst h1
  obtain ⟨ds, e0, h3⟩ := bind_eq h2
  obtain ⟨tot, et, rfl⟩ := map_eq h3
  refine ⟨P0, P, ρ, ds, rfl, s, e0, fun J P1 l1 wk => ⟨P1.tab, fun H2 hx ht => ?_⟩⟩
  obtain ⟨P2, rfl, l2⟩ := ext_pr P1 hx ht
  refine ⟨fun i m H' => m = ds.length - i ∧ i ≤ ds.length ∧ ∃ (Pc : Pr T), Pc.H = H' ∧ Le P2 Pc ∧ agGo gm mt me (wipeM ρ vs) (ds.drop i) = some tot, ⟨ds.length, by simp, Nat.zero_le _, P2, rfl, Le.refl P2, et⟩, ?_⟩
  rintro i m H' ⟨rfl, hi, Pc, rfl, lc, eg⟩
  have l12 := l2.trans lc
  by_cases hlt : i < ds.length
  · refine .inr ⟨wk.go i Pc hlt l12, fun x H'' y => ?_⟩
    obtain ⟨P3, rfl, l3, dd, hdd, rx⟩ := wk.yld i Pc x H'' hlt l12 y
    rw [drop_some hdd] at eg
    obtain ⟨ρ1, eρ, eg⟩ := bind_eq eg
    obtain ⟨b, eb, eg⟩ := bind_eq eg
    refine ⟨P0, P3, wipeM ρ vs, dd, ρ1, rfl, (st_wipe s vs).up (l1.trans (l12.trans l3)), rx, eρ, fun σ2 s2 hl2 hf2 => ⟨wipe_frame hl2 hf2, P0, P3, ρ1, b, rfl, s2, eb, fun P4 l4 => ?_⟩⟩
    cases b with
    | false => exact iteF ⟨_, by omega, rfl, hlt, P4, rfl, lc.trans (l3.trans l4), by simpa using eg⟩
    | true =>
      rw [if_pos rfl] at eg
      obtain ⟨z, ez, eg⟩ := bind_eq eg
      obtain ⟨c, ec, eg2⟩ := bind_eq eg
      rw [asB_eq ec] at ez
      refine iteT ⟨P0, P4, ρ1, _, rfl, s2.up l4, ez, fun yv P5 l5 r5 => ?_⟩
      cases r5
      refine ⟨c, rfl, fun hc => ⟨_, Nat.sub_lt_sub_left hlt (Nat.lt_succ_self i), rfl, hlt, P5, rfl, lc.trans (l3.trans (l4.trans l5)), ?_⟩, fun hc => ?_⟩
      · rw [if_pos hc] at eg2
        exact eg2
      · rw [if_neg (by rw [hc]; decide)] at eg2
        cases eg2
        exact q _ P5 (l1.trans (l12.trans (l3.trans (l4.trans l5)))) (.bl _)
  · have ei : i = ds.length := by omega
    subst ei
    rw [List.drop_length] at eg
    cases eg
    exact .inl ⟨wk.stop Pc l12, q _ Pc (l1.trans l12) (.bl _)⟩
def mTg (mi : MA) (vs : List Nat) (gm : MG) (mt : MT) (me : ME) : ME := fun ρ => (mi ρ).bind fun ds0 => (oFew ds0).bind fun ds => (lcGo gm mt me (wipeM ρ vs) ds).map .tuple
theorem c_tg {mi : MA} {vs : List Nat} {gm : MG} {mt : MT} {me : ME} (h : PE X e (GX.tTupG (GX.tGx T (tIh K T mi) (tG K T vs gm) (tQ K T mt) (tD K T me) vs))) : PE X e (tD K T (mTg mi vs gm mt me)) := pe_to h fun σ H Q ⟨P0, P, ρ, d, h1, s, h2, q⟩ => by
  subst h1
  obtain ⟨ds0, e0, h3⟩ := bind_eq h2
  obtain ⟨ds, e1, h4⟩ := bind_eq h3
  obtain ⟨tot, et, rfl⟩ := map_eq h4
  obtain ⟨rfl, hl⟩ := oFew_eq e1
  refine ⟨P0, P, ρ, ds, rfl, s, e0, fun J P1 l1 wk => ⟨P1.tab, fun H2 hx ht => ?_⟩⟩
  obtain ⟨P2, rfl, l2⟩ := ext_pr P1 hx ht
  refine ⟨fun i m ys H' => m = ds.length - i ∧ i ≤ ds.length ∧ ∃ (Pc : Pr T) (out rest : List PyData), Pc.H = H' ∧ Le P2 Pc ∧ RpAll K Pc.M ys out ∧ lcGo gm mt me (wipeM ρ vs) (ds.drop i) = some rest ∧ out ++ rest = tot ∧ out.length ≤ i, ⟨ds.length, by simp, Nat.zero_le _, P2, [], tot, rfl, Le.refl P2, .nil, et, rfl, Nat.le_refl _⟩, ?_⟩
  rintro i m ys H' ⟨rfl, hi, Pc, out, rest, rfl, lc, ra, eg, eo, el⟩
  have l12 := l2.trans lc
  by_cases hlt : i < ds.length
  · refine .inr ⟨wk.go i Pc hlt l12, fun x H'' y => ?_⟩
    obtain ⟨P3, rfl, l3, dd, hdd, rx⟩ := wk.yld i Pc x H'' hlt l12 y
    rw [drop_some hdd] at eg
    obtain ⟨ρ1, eρ, eg⟩ := bind_eq eg
    obtain ⟨b, eb, eg⟩ := bind_eq eg
    refine ⟨P0, P3, wipeM ρ vs, dd, ρ1, rfl, (st_wipe s vs).up (l1.trans (l12.trans l3)), rx, eρ, fun σ2 s2 hl2 hf2 => ⟨wipe_frame hl2 hf2, P0, P3, ρ1, b, rfl, s2, eb, fun P4 l4 => ?_⟩⟩
    cases b with
    | false => exact iteF ⟨_, by omega, rfl, hlt, P4, out, rest, rfl, lc.trans (l3.trans l4), ra.ext (l3.trans l4).m, by simpa using eg, eo, by omega⟩
    | true =>
      rw [if_pos rfl] at eg
      obtain ⟨z, ez, eg⟩ := bind_eq eg
      obtain ⟨rest', er, rfl⟩ := map_eq eg
      refine iteT ⟨P0, P4, ρ1, z, rfl, s2.up l4, ez, fun yv P5 l5 r5 => ?_⟩
      have := ra.length
      exact ⟨szl' (by omega) hl, _, Nat.sub_lt_sub_left hlt (Nat.lt_succ_self i), rfl, hlt, P5, out ++ [z], rest', rfl, lc.trans (l3.trans (l4.trans l5)), RpAll.append (ra.ext (l3.trans (l4.trans l5)).m) (.cons r5 .nil), er, by rw [← eo]; simp, by rw [List.length_append]; show _ + 1 ≤ _; omega⟩
  · have ei : i = ds.length := by omega
    subst ei
    rw [List.drop_length] at eg
    cases eg
    rw [List.append_nil] at eo
    subst eo
    refine .inl ⟨wk.stop Pc l12, fun p hp => q _ (Pc.put p (.tup ys) hp) ((l1.trans l12).trans (le_put Pc hp)) (.tup upd_same (ra.ext (le_put Pc hp).m))⟩
/-! ### calls of defs -/
def spM (K : PySem.W.Frag) (T : Tb) (f : List PyData → Option PyData) : Sp := fun vs H Q _ => ∃ (P : Pr T) (ds : List PyData) (d : PyData), P.H = H ∧ RpAll K P.M vs ds ∧ f ds = some d ∧ ∀ v (P' : Pr T), Le P P' → Rp K P'.M v d → Q v P'.H
theorem c_call {E : XK} {f : List PyData → Option PyData} {a : MA} (h : PE X e (tCall (spM K T f) [] E (tA K T a))) : PE X e (tD K T (mCb f a)) := pe_to h fun σ H Q ⟨P0, P, ρ, d, h1, s, h2, q⟩ => by
  subst h1
  obtain ⟨x, ex, h3⟩ := bind_eq h2
  refine ⟨P0, P, ρ, x, rfl, s, ex, fun vs P1 l1 r1 => ?_⟩
  show spM K T f (vs ++ []) P1.H Q E
  rw [List.append_nil]
  exact ⟨P1, x, d, rfl, r1, h3, fun v P2 l2 r2 => q v P2 (l1.trans l2) r2⟩
end PM
namespace PM
open PySem PySem.Spec PyProof.Rows L2 LB
variable {T : Tb} {K : PySem.W.Frag} {X : Cx} {e : Expr} {st : Stmt} {sts : List Stmt}
inductive Out where
  | nx (ρ : Ev) | rt (d : PyData) | rf (d : PyData) | bk (ρ : Ev) | ct (ρ : Ev) | er (c : Str) (ρ : Ev)
/-- what is wanted where a class is raised -/
abbrev ER := Str → L2.St → Hp → Prop
abbrev MS := Ev → Option Out
def Endk (K : PySem.W.Frag) (R : ER) (P0 : Pr T) (D : Ends) : Out → Prop
  | .nx ρ => ∀ (P : Pr T) σ, St K P0 P σ ρ → D.nx σ P.H
  | .rt d => ∀ v (P : Pr T), Le P0 P → Rp K P.M v d → D.rt v P.H
  | .rf d => ∀ p (P : Pr T), Le P0 P → OwnAt K P p d → Loose P0.H p → D.rt (.ref p) P.H
  | .bk ρ => ∀ (P : Pr T) σ, St K P0 P σ ρ → D.bk σ P.H
  | .ct ρ => ∀ (P : Pr T) σ, St K P0 P σ ρ → D.ct σ P.H
  | .er c ρ => ∀ (P : Pr T) σ, St K P0 P σ ρ → R c σ P.H
def tSR (K : PySem.W.Frag) (T : Tb) (R : ER) (m : MS) : TS := fun D σ H => ∃ (P0 P : Pr T) (ρ : Ev) (o : Out), P.H = H ∧ St K P0 P σ ρ ∧ m ρ = some o ∧ Endk K R P0 D o
abbrev noR : ER := fun _ _ _ => False
abbrev tS (K : PySem.W.Frag) (T : Tb) (m : MS) : TS := tSR K T noR m
variable {R : ER}
def mNx : MS := fun ρ => some (.nx ρ)
theorem s_nil (h : PSs X sts tNext) : PSs X sts (tSR K T R mNx) := pss_to h fun D σ H ⟨P0, P, ρ, o, h1, s, h2, q⟩ => by
  subst h1
  cases h2
  exact q P σ s
def mSeq (a b : MS) : MS := fun ρ => (a ρ).bind fun o => match o with
  | .nx ρ' => b ρ'
  | o => some o
theorem s_seq {a b : MS} (h : PSs X sts (tSeq (tSR K T R a) (tSR K T R b))) : PSs X sts (tSR K T R (mSeq a b)) := pss_to h fun D σ H ⟨P0, P, ρ, o, h1, s, h2, q⟩ => by
  subst h1
  obtain ⟨o1, e1, h3⟩ := bind_eq h2
  refine ⟨P0, P, ρ, o1, rfl, s, e1, ?_⟩
  cases o1 with
  | nx ρ' => exact fun P' σ' s' => ⟨P0, P', ρ', o, rfl, s', h3, q⟩
  | rt d =>
    cases h3
    exact q
  | rf d =>
    cases h3
    exact q
  | bk d =>
    cases h3
    exact q
  | ct d =>
    cases h3
    exact q
  | er d ρ2 =>
    cases h3
    exact q
def mRet (a : ME) : MS := fun ρ => (a ρ).map .rt
theorem s_ret {a : ME} (h : PS X st (tRet (tD K T a))) : PS X st (tSR K T R (mRet a)) := ps_to h fun D σ H ⟨P0, P, ρ, o, h1, s, h2, q⟩ => by
  obtain ⟨d, e1, rfl⟩ := map_eq h2
  exact ⟨P0, P, ρ, d, h1, s, e1, fun v P' l r => q v P' (s.le.trans l) r⟩
/-- return x, x an own list -/
def mRetO (i : Nat) : MS := fun ρ => match ρ[i]? with
  | some (.own d) => some (.rf d)
  | _ => none
theorem s_retO {i : Nat} (h : PS X st (tRet (tVar i))) : PS X st (tSR K T R (mRetO i)) := ps_to h fun D σ H ⟨P0, P, ρ, o, h1, s, h2, q⟩ => by
  subst h1
  unfold mRetO at h2
  split at h2
  · rename_i d hd
    cases h2
    obtain ⟨u, g1, g2⟩ := s.ok i _ hd
    cases g2 with
    | own r => exact ⟨_, g1, q _ P s.le r (s.fr i _ _ hd g1)⟩
  · cases h2
def mSet (i : Nat) (a : ME) : MS := fun ρ => (a ρ).map fun d => .nx (ρ.set i (.val d))
theorem s_set {i : Nat} {a : ME} (h : PS X st (tAsg (tD K T a) (gName i))) : PS X st (tSR K T R (mSet i a)) := ps_to h fun D σ H ⟨P0, P, ρ, o, h1, s, h2, q⟩ => by
  obtain ⟨d, e1, rfl⟩ := map_eq h2
  exact ⟨P0, P, ρ, d, h1, s, e1, fun v P' l r => q P' _ ((s.up l).set r i)⟩
def mSetO (i : Nat) (a : ME) : MS := fun ρ => (a ρ).map fun d => .nx (ρ.set i (.own d))
theorem s_setO {i : Nat} {a : ME} (h : PS X st (tAsg (tF K T a) (gName i))) : PS X st (tSR K T R (mSetO i a)) := ps_to h fun D σ H ⟨P0, P, ρ, o, h1, s, h2, q⟩ => by
  subst h1
  obtain ⟨d, e1, rfl⟩ := map_eq h2
  refine ⟨P0, P, ρ, d, rfl, s, e1, fun p P' l r lo => q P' _ ((s.up l).setO r (loose_back s.le.h lo) i fun j e' q' h1 h2 z => ?_)⟩
  obtain ⟨u, g1, g2⟩ := s.ok j _ h1
  rw [h2] at g1
  cases g1
  cases g2 with
  | own r' =>
    subst z
    exact r'.tight lo
def mAsg (a : ME) (gm : MG) : MS := fun ρ => (a ρ).bind fun d => (gm d ρ).map .nx
theorem s_asg {vs : List Nat} {a : ME} {gm : MG} (h : PS X st (tAsg (tD K T a) (tG K T vs gm))) : PS X st (tSR K T R (mAsg a gm)) := ps_to h fun D σ H ⟨P0, P, ρ, o, h1, s, h2, q⟩ => by
  subst h1
  obtain ⟨d, e1, h3⟩ := bind_eq h2
  obtain ⟨ρ', e2, rfl⟩ := map_eq h3
  exact ⟨P0, P, ρ, d, rfl, s, e1, fun v P' l r => ⟨P0, P', ρ, d, ρ', rfl, s.up l, r, e2, fun σ' s' _ _ => q P' σ' s'⟩⟩
def mIfS (t : MT) (a b : MS) : MS := fun ρ => (t ρ).bind fun c => if c = true then a ρ else b ρ
theorem s_if {t : MT} {a b : MS} (h : PS X st (tIfS (tQ K T t) (tSR K T R a) (tSR K T R b))) : PS X st (tSR K T R (mIfS t a b)) := ps_to h fun D σ H ⟨P0, P, ρ, o, h1, s, h2, q⟩ => by
  subst h1
  obtain ⟨c, e1, h3⟩ := bind_eq h2
  refine ⟨P0, P, ρ, c, rfl, s, e1, fun P' l => ?_⟩
  cases c with
  | true => exact iteT ⟨P0, P', ρ, o, rfl, s.up l, by simpa using h3, q⟩
  | false => exact iteF ⟨P0, P', ρ, o, rfl, s.up l, by simpa using h3, q⟩
/-! own lists change -/
def mApp (i : Nat) (a : ME) : MS := fun ρ => (a ρ).bind fun d => match ρ[i]? with
  | some (.own (.list ds)) => if ds.length < 100000 then some (.nx (ρ.set i (.own (.list (ds ++ [d]))))) else none
  | _ => none
theorem s_app {i : Nat} {a : ME} (h : PS X st (tDrop (tBM K "list" rAppend (tVar i) (tCons (tD K T a) tNil)))) : PS X st (tSR K T R (mApp i a)) := ps_to h fun D σ H ⟨P0, P, ρ, o, h1, s, h2, q⟩ => by
  subst h1
  obtain ⟨d, e1, h3⟩ := bind_eq h2
  split at h3
  · rename_i ds hd
    split at h3
    · rename_i hlt
      cases h3
      obtain ⟨u, g1, g2⟩ := s.ok i _ hd
      cases g2 with
      | @own p _ r =>
        refine ⟨_, g1, .inl ⟨rfl, ?_⟩, P0, P, ρ, d, rfl, s, e1, fun v P' l rv => ?_⟩
        · cases r with
          | lst a1 a2 a3 => exact ⟨_, SqL.of a2⟩
        · have r' := r.up l
          cases r' with
          | @lst xs _ a1 a2 a3 =>
            obtain ⟨Q', hQ, hQ', s'⟩ := (s.up l).mut (o' := .lst (xs ++ [v])) (d' := .list (ds ++ [d])) hd g1 a1 a2 (fun _ z => nomatch z) (fun _ _ z => by unfold LamX.CodeO at z; cases z) fun R hM hH => .lst (by rw [hM]; exact a1) (by rw [hH]; exact upd_same) (by rw [hM]; exact RpAll.append a3 (.cons rv .nil))
            refine ⟨p, xs, v, rfl, rfl, a2, szl (by rw [a3.length]; exact hlt), ?_⟩
            rw [← hQ']
            exact q Q' σ s'
    · cases h3
  · cases h3
/-! loops -/
theorem St.base {P0 Pb P : Pr T} {σ : L2.St} {ρ : Ev} (l : Le P0 Pb) (s : St K Pb P σ ρ) : St K P0 P σ ρ := ⟨l.trans s.le, s.len, s.ok, s.dis, fun i d p h1 h2 => loose_back l.h (s.fr i d p h1 h2), s.od.1, fun i ks p h1 h2 => loose_back l.h (s.od.2 i ks p h1 h2)⟩
open Classical in
/-- the same from a later entry, on which all data stands that stands now -/
theorem St.rebase {P0 P : Pr T} {σ : L2.St} {ρ : Ev} (s : St K P0 P σ ρ) : ∃ Pb : Pr T, Pb.M = P.M ∧ Le P0 Pb ∧ St K Pb P σ ρ := by
  have agree : ∀ {b : Addr} {u o : HO}, P.M b = some u → P0.H b = some o → Plain o → u = o := fun {b u o} h1 h2 n => by
    have e1 := P.sub b u h1 fun ps z => P.nt b ps (by rw [h1, z])
    have e2 := s.le.h b o h2 n
    rw [e1] at e2
    exact Option.some.inj e2
  refine ⟨⟨P.M, fun a => if P.M a = none then P0.H a else P.M a, fun b u h n => ?_, fun q hq => ?_, P.nt⟩, rfl, ⟨s.le.m, fun b o h n => ?_, s.le.f⟩, ⟨⟨ex_refl _, fun b o h n => ?_, fun a h1 h2 => absurd h1 h2⟩, s.len, s.ok, s.dis, fun i d p h1 h2 => ?_, s.od.1, fun i ks p h1 h2 => ?_⟩⟩
  · show (if P.M b = none then P0.H b else P.M b) = some u
    rw [if_neg (by rw [h]; exact fun z => nomatch z)]
    exact h
  · obtain ⟨ps, h1, h2, h3⟩ := P0.tab q hq
    have e : ∀ {a : Addr} {o : HO}, P0.H a = some o → (∀ u, P.M a = some u → u = o) → (if P.M a = none then P0.H a else P.M a) = some o := fun {a o} h hu => by
      cases z : P.M a with
      | none =>
        rw [if_pos rfl]
        exact h
      | some u =>
        rw [if_neg (fun z => nomatch z), hu u z]
    refine ⟨ps, e h1 fun u hu => ?_, h2, fun pos cv hc => ?_⟩
    · obtain ⟨ps', h1', _⟩ := P.tab q hq
      have := P.sub _ u hu fun ps z => P.nt _ ps (by rw [hu, z])
      rw [h1'] at this
      exact absurd hu (by rw [← Option.some.inj this]; exact P.nt _ _)
    · obtain ⟨c, e1, e2⟩ := h3 pos cv hc
      exact ⟨c, e1, e e2 fun u hu => agree hu e2 LamX.codeO_ne⟩
  · show (if P.M b = none then P0.H b else P.M b) = some o
    cases z : P.M b with
    | none =>
      rw [if_pos rfl]
      exact h
    | some u => rw [if_neg (fun z => nomatch z), agree z h n]
  · have h : (if P.M b = none then P0.H b else P.M b) = some o := h
    cases z : P.M b with
    | none =>
      rw [z, if_pos rfl] at h
      exact s.le.h b o h n
    | some u =>
      rw [z, if_neg (fun z => nomatch z)] at h
      cases h
      exact P.sub b o z n
  · intro o h
    have h : (if P.M p = none then P0.H p else P.M p) = some o := h
    obtain ⟨u, g1, g2⟩ := s.ok i _ h1
    rw [h2] at g1
    cases g1
    cases g2 with
    | own r =>
      rw [if_pos r.obj.1] at h
      exact s.fr i d p h1 h2 o h
  · intro o h
    have h : (if P.M p = none then P0.H p else P.M p) = some o := h
    obtain ⟨u, g1, g2⟩ := s.ok i _ h1
    rw [h2] at g1
    cases g1
    cases g2 with
    | ods b1 b2 b3 =>
      rw [if_pos b1] at h
      exact s.od.2 i ks p h1 h2 o h
theorem Endk.base {P0 Pb : Pr T} {D : Ends} {o : Out} (l : Le P0 Pb) (h : Endk K R P0 D o) : Endk K R Pb D o := by
  cases o with
  | nx ρ => exact fun P σ s => h P σ (s.base l)
  | rt d => exact fun v P l' r => h v P (l.trans l') r
  | rf d => exact fun p P l' r lo => h p P (l.trans l') r (loose_back l.h lo)
  | bk ρ => exact fun P σ s => h P σ (s.base l)
  | ct ρ => exact fun P σ s => h P σ (s.base l)
  | er c ρ => exact fun P σ s => h P σ (s.base l)
def forGo (gm : MG) (mb : MS) : List PyData → Ev → Option Out
  | [], ρ => some (.nx ρ)
  | d :: ds, ρ => (gm d ρ).bind fun ρ1 => (mb ρ1).bind fun o => match o with
    | .nx ρ2 => forGo gm mb ds ρ2
    | .ct ρ2 => forGo gm mb ds ρ2
    | .bk ρ2 => some (.nx ρ2)
    | .rt d => some (.rt d)
    | .rf d => some (.rf d)
    | .er c ρ2 => some (.er c ρ2)
def mFor (mi : MA) (gm : MG) (mb : MS) : MS := fun ρ => (mi ρ).bind fun ds => forGo gm mb ds ρ
theorem s_for {vs : List Nat} {mi : MA} {gm : MG} {mb : MS} (h : PS X st (tFor (tI K T mi) (tG K T vs gm) (tSR K T R mb))) : PS X st (tSR K T R (mFor mi gm mb)) := ps_to h fun D σ H ⟨P0, P, ρ, o, h1, s, h2, q⟩ => by
  subst h1
  obtain ⟨ds, e0, h3⟩ := bind_eq h2
  refine ⟨P0, P, ρ, ds, rfl, s, e0, fun J P1 l1 wk => ?_⟩
  refine ⟨fun i m σ' H' => m = ds.length - i ∧ i ≤ ds.length ∧ ∃ (Pc : Pr T) (ρ' : Ev), Pc.H = H' ∧ Ex P1.M Pc.M ∧ St K P0 Pc σ' ρ' ∧ forGo gm mb (ds.drop i) ρ' = some o, ⟨ds.length, by simp, Nat.zero_le _, P1, ρ, rfl, ex_refl _, s.up l1, h3⟩, ?_⟩
  rintro i m σ' H' ⟨rfl, hi, Pc, ρ', rfl, lc, sc, eg⟩
  by_cases hlt : i < ds.length
  · refine .inr ⟨wk.go i Pc hlt lc, fun σ2 H2 => ∃ m', m' < ds.length - i ∧ (m' = ds.length - (i + 1) ∧ i + 1 ≤ ds.length ∧ ∃ (Pc : Pr T) (ρ' : Ev), Pc.H = H2 ∧ Ex P1.M Pc.M ∧ St K P0 Pc σ2 ρ' ∧ forGo gm mb (ds.drop (i + 1)) ρ' = some o), fun σ2 H2 hh => hh, fun x H'' y => ?_⟩
    obtain ⟨P3, rfl, l3, dd, hdd, rx⟩ := wk.yld i Pc x H'' hlt lc y
    rw [drop_some hdd] at eg
    obtain ⟨ρ1, eρ, eg⟩ := bind_eq eg
    obtain ⟨o1, eo, eg⟩ := bind_eq eg
    refine ⟨P0, P3, ρ', dd, ρ1, rfl, sc.up l3, rx, eρ, fun σ2 s2 _ _ => ?_⟩
    have lm : Ex P1.M P3.M := lc.trans l3.m
    obtain ⟨Pb, hb, lb, s2'⟩ := s2.rebase
    have q' := Endk.base lb q
    refine ⟨Pb, P3, ρ1, o1, rfl, s2', eo, ?_⟩
    have nxt : ∀ (P' : Pr T) σ3 ρ2, forGo gm mb (ds.drop (i + 1)) ρ2 = some o → St K Pb P' σ3 ρ2 → ∃ m', m' < ds.length - i ∧ (m' = ds.length - (i + 1) ∧ i + 1 ≤ ds.length ∧ ∃ (Pc : Pr T) (ρ' : Ev), Pc.H = P'.H ∧ Ex P1.M Pc.M ∧ St K P0 Pc σ3 ρ' ∧ forGo gm mb (ds.drop (i + 1)) ρ' = some o) := fun P' σ3 ρ2 hg s3 => ⟨_, Nat.sub_lt_sub_left hlt (Nat.lt_succ_self i), rfl, hlt, P', ρ2, rfl, lm.trans (by rw [← hb]; exact s3.le.m), s3.base lb, hg⟩
    cases o1 with
    | nx ρ2 => exact fun P' σ3 s3 => nxt P' σ3 ρ2 eg s3
    | ct ρ2 => exact fun P' σ3 s3 => nxt P' σ3 ρ2 eg s3
    | bk ρ2 =>
      cases eg
      exact q'
    | rt d =>
      cases eg
      exact q'
    | rf d =>
      cases eg
      exact q'
    | er c ρ2 =>
      cases eg
      exact q'
  · have ei : i = ds.length := by omega
    subst ei
    rw [List.drop_length] at eg
    cases eg
    exact .inl ⟨wk.stop Pc lc, q Pc σ' sc⟩
/-! ### defs -/
def outR : Out → Option PyData
  | .rt d => some d
  | .rf (.list ds) => some (.list ds)
  | .nx _ => some .none
  | _ => none
def evOf (n N : Nat) (ds : List PyData) : Ev := ds.map .val ++ List.replicate (N - n) .no
def fnM (n N : Nat) (m : MS) : List PyData → Option PyData := fun ds => if ds.length = n then (m (evOf n N ds)).bind outR else none
theorem start_st {N : List Str} {P : Pr T} {vs : List V} {ds : List PyData} {n : Nat} (r : RpAll K P.M vs ds) (hn : ds.length = n) : St K P P (L2.start N vs) (evOf n N.length ds) := by
  have hl := r.length
  refine ⟨Le.refl P, ?_, fun i x h => ?_, fun i j p d e ne h1 h2 h3 h4 => ?_, fun i d p h1 h2 => ?_, fun i j p ks ls ne h1 h2 h3 h4 => ?_, fun i ks p h1 h2 => ?_⟩
  · unfold L2.start evOf
    simp [hl, hn]
  · unfold evOf at h
    unfold L2.start
    by_cases hi : i < ds.length
    · rw [List.getElem?_append_left (by simpa using hi), List.getElem?_map, List.getElem?_eq_getElem hi] at h
      cases h
      rw [List.getElem?_append_left (by simp; omega), List.getElem?_map]
      have hv : i < vs.length := by omega
      obtain ⟨d, h1, h2⟩ := r.get (List.getElem?_eq_getElem hv)
      rw [List.getElem?_eq_getElem hi] at h1
      cases h1
      exact ⟨_, by rw [List.getElem?_eq_getElem hv]; rfl, .val h2⟩
    · rw [List.getElem?_append_right (by simpa using hi)] at h
      have : x = .no := by
        have := List.getElem?_eq_some_iff.mp h
        obtain ⟨h1, h2⟩ := this
        rw [← h2, List.getElem_replicate]
      subst this
      have hr := (List.getElem?_eq_some_iff.mp h).1
      simp at hr
      rw [List.getElem?_append_right (by simp; omega)]
      exact ⟨none, by rw [List.getElem?_eq_getElem (by simp; omega), List.getElem_replicate], .no⟩
  · unfold evOf at h1
    have hm := List.mem_of_getElem? h1
    rcases List.mem_append.mp hm with z | z
    · obtain ⟨_, _, z⟩ := List.mem_map.mp z
      cases z
    · cases List.eq_of_mem_replicate z
  · unfold evOf at h1
    have hm := List.mem_of_getElem? h1
    rcases List.mem_append.mp hm with z | z
    · obtain ⟨_, _, z⟩ := List.mem_map.mp z
      cases z
    · cases List.eq_of_mem_replicate z
  · unfold evOf at h1
    have hm := List.mem_of_getElem? h1
    rcases List.mem_append.mp hm with z | z
    · obtain ⟨_, _, z⟩ := List.mem_map.mp z
      cases z
    · cases List.eq_of_mem_replicate z
  · unfold evOf at h1
    have hm := List.mem_of_getElem? h1
    rcases List.mem_append.mp hm with z | z
    · obtain ⟨_, _, z⟩ := List.mem_map.mp z
      cases z
    · cases List.eq_of_mem_replicate z
theorem spM_len {n N : Nat} {m : MS} {vs : List V} {H : Hp} {Q : VK} {E : XK} (h : spM K T (fnM n N m) vs H Q E) : vs.length = n := by
  obtain ⟨P, ds, d, _, r, h, _⟩ := h
  unfold fnM at h
  split at h
  · rw [r.length]
    assumption
  · cases h
theorem spM_in {R : ER} {N : List Str} {n : Nat} {m : MS} {vs : List V} {H : Hp} {Q : VK} {E : XK} (h : spM K T (fnM n N.length m) vs H Q E) : tSR K T R m { nx := fun _ H' => Q .non H', rt := Q } (L2.start N vs) H := by
  obtain ⟨P, ds, d, rfl, r, h, q⟩ := h
  unfold fnM at h
  split at h
  · rename_i hn
    obtain ⟨o, eo, h⟩ := bind_eq h
    refine ⟨P, P, _, o, rfl, start_st r hn, eo, ?_⟩
    unfold outR at h
    split at h
    · cases h
      exact fun v P' l r' => q v P' l r'
    · cases h
      intro p P' l r' lo
      obtain ⟨P'', e, l'', r''⟩ := own_put l r' lo
      show Q (.ref p) P'.H
      rw [← e]
      exact q _ P'' l'' r''
    · cases h
      exact fun P' σ s => q .non P' s.le .non
    · cases h
  · cases h
end PM
namespace PM
open PySem PySem.Spec PyProof.Rows L2 LB
variable {T : Tb} {K : PySem.W.Frag} {X : Cx} {e : Expr} {st : Stmt} {sts : List Stmt} {R : ER}
/-! ### own dicts with tuples of ints and texts as keys -/
def keyK : PyData → Option Key
  | .int i => some (.inl i)
  | .str x => some (.inr x)
  | _ => none
def keysK : List PyData → Option (List Key)
  | [] => some []
  | d :: ds => (keyK d).bind fun k => (keysK ds).map fun l => k :: l
def keyL : PyData → Option (List Key)
  | .tuple ds => keysK ds
  | _ => none
def putD (kvs : List (PyData × PyData)) (k : List Key) (v : PyData) : List (PyData × PyData) :=
  if (kvs.any fun e => decide (keyL e.1 = some k)) = true then kvs.map (fun e => if keyL e.1 = some k then (e.1, v) else e) else kvs ++ [(.tuple (k.map keyD), v)]
def getD (kvs : List (PyData × PyData)) (k : List Key) : Option PyData := (kvs.find? fun e => decide (keyL e.1 = some k)).map (·.2)
theorem each_app {α β : Type} {R : α → β → Prop} : ∀ {as cs : List α} {bs ds : List β}, PySem.W.EachIs R as bs → PySem.W.EachIs R cs ds → PySem.W.EachIs R (as ++ cs) (bs ++ ds)
  | _, _, _, _, .nil, t => t
  | _, _, _, _, .cons h r, t => .cons h (each_app r t)
/-! ### l.index(x) -/
end PM
namespace PM
open PySem PySem.Spec PyProof.Rows L2 LB
/-! ### tables of the defs that make generators -/
def qOf (x : Str) : Str := x ++ ".<locals>." ++ "<genexpr>"
theorem nodup_map {α β : Type} {f : α → β} : ∀ {l : List α}, (l.map f).Nodup → ∀ {x y : α}, x ∈ l → y ∈ l → f x = f y → x = y
  | [], _, _, _, h, _, _ => (List.not_mem_nil h).elim
  | a :: l, nd, x, y, hx, hy, e => by
    rw [List.map_cons, List.nodup_cons] at nd
    rcases List.mem_cons.mp hx with h1 | h1
    · rcases List.mem_cons.mp hy with h2 | h2
      · rw [h1, h2]
      · exact absurd (List.mem_map.mpr ⟨y, h2, by rw [← e, h1]⟩) nd.1
    · rcases List.mem_cons.mp hy with h2 | h2
      · exact absurd (List.mem_map.mpr ⟨x, h1, by rw [e, h2]⟩) nd.1
      · exact nodup_map nd.2 h1 h2 e
end PM
namespace PM
open PySem PySem.Spec PyProof.Rows L2 LB
/-- a dict is known from now on: it is read, never written -/
def tFrE (te : TE) : TE := fun σ H Q => te σ H fun v H1 => ∃ d u, v = .ref d ∧ H1 d = some u ∧ Mut (some u) ∧ ∀ od, Q v (upd H1 d (.frz od u))
theorem pe_frz {X : Cx} {e : Expr} {te : TE} (h : PE X e te) : PE X e (tFrE te) := by
  refine ⟨fun pins s σ H Q I hw => ?_⟩
  refine thn (h.run pins s σ H _ I hw) fun v s1 q => ?_
  obtain ⟨x, H1, I1, rx, d, u, rfl, hd, mu, q⟩ := q
  obtain ⟨od, I2⟩ := I1.lock hd mu
  exact ⟨_, _, I2, rx, q od⟩
theorem upd_upd {H : Hp} {p : Addr} {o o' : HO} : upd (upd H p o) p o' = upd H p o' := by
  funext b
  by_cases z : b = p
  · subst z
    rw [upd_same, upd_same]
  · rw [upd_ne z, upd_ne z, upd_ne z]
theorem c_dct {T : Tb} {K : PySem.W.Frag} {X : Cx} {e : Expr} (h : PE X e (tFrE tDNewK)) : PE X e (tD K T (mC (.dict []))) := pe_to h fun σ H Q ⟨P0, P, ρ, d, h1, s, h2, q⟩ => by
  subst h1
  cases h2
  refine fun p hp => ⟨p, .dK [], rfl, upd_same, trivial, fun od => ?_⟩
  rw [upd_upd]
  exact q _ (P.put p (.frz od (.dK [])) hp) (le_put P hp) (.dct upd_same rfl .nil)
end PM
namespace PM
open PySem PySem.Spec PyProof.Rows L2 LB
/-! ### reckoning with models -/
section
variable {a b : MS} {ρ ρ' : Ev} {o : Option Out} {d x y : PyData} {i : Nat} {e f : ME} {t : MT}
theorem x_seq (h : a ρ = some (.nx ρ')) (h2 : b ρ' = o) : mSeq a b ρ = o := by
  unfold mSeq
  rw [h]
  exact h2
theorem x_ret (h : a ρ = some (.rt d)) : mSeq a b ρ = some (.rt d) := by
  unfold mSeq
  rw [h]
  rfl
theorem x_set (h : e ρ = some d) : mSet i e ρ = some (.nx (ρ.set i (.val d))) := by
  unfold mSet
  rw [h]
  rfl
theorem x_setO (h : e ρ = some d) : mSetO i e ρ = some (.nx (ρ.set i (.own d))) := by
  unfold mSetO
  rw [h]
  rfl
theorem x_rt (h : e ρ = some d) : mRet e ρ = some (.rt d) := by
  unfold mRet
  rw [h]
  rfl
theorem x_ifT (h : t ρ = some true) (h2 : a ρ = o) : mIfS t a b ρ = o := by
  unfold mIfS
  rw [h]
  exact h2
theorem x_ifF (h : t ρ = some false) (h2 : b ρ = o) : mIfS t a b ρ = o := by
  unfold mIfS
  rw [h]
  exact h2
theorem x_op {g : PyData → PyData → Option PyData} (h1 : e ρ = some x) (h2 : f ρ = some y) (h : g x y = some d) : mOp g e f ρ = some d := by
  unfold mOp
  rw [h1, h2]
  exact h
theorem x_app {ds : List PyData} (h : e ρ = some d) (ho : ρ[i]? = some (.own (.list ds))) (hl : ds.length < 100000) : mApp i e ρ = some (.nx (ρ.set i (.own (.list (ds ++ [d]))))) := by
  unfold mApp
  rw [h, ho]
  show (if ds.length < 100000 then _ else none) = _
  rw [if_pos hl]
theorem x_cb {g : List PyData → Option PyData} {as : MA} {ds : List PyData} (h : as ρ = some ds) (h2 : g ds = some d) : mCb g as ρ = some d := by
  unfold mCb
  rw [h]
  exact h2
theorem x_cons {as : MA} {ds : List PyData} (h : e ρ = some d) (h2 : as ρ = some ds) : aCons e as ρ = some (d :: ds) := by
  unfold aCons
  rw [h, h2]
  rfl
theorem x_tup {as : MA} {ds : List PyData} (h : as ρ = some ds) (hl : ds.length ≤ 100000) : mTup as ρ = some (.tuple ds) := by
  unfold mTup oFew
  rw [h]
  show (if ds.length ≤ 100000 then some ds else none).map _ = _
  rw [if_pos hl]
  rfl
theorem x_lst {as : MA} {ds : List PyData} (h : as ρ = some ds) (hl : ds.length ≤ 100000) : mLst as ρ = some (.list ds) := by
  unfold mLst oFew
  rw [h]
  show (if ds.length ≤ 100000 then some ds else none).map _ = _
  rw [if_pos hl]
  rfl
theorem x_qv {c : Bool} (h : e ρ = some (.bool c)) : qV e ρ = some c := by
  unfold qV
  rw [h]
  rfl
theorem x_not {c : Bool} (h : t ρ = some c) : qNot t ρ = some (!c) := by
  unfold qNot
  rw [h]
  rfl
theorem x_andT {u : MT} {c : Bool} (h : t ρ = some true) (h2 : u ρ = some c) : qAnd t u ρ = some c := by
  unfold qAnd
  rw [h]
  exact h2
theorem x_andF {u : MT} (h : t ρ = some false) : qAnd t u ρ = some false := by
  unfold qAnd
  rw [h]
  rfl
theorem x_orT {u : MT} (h : t ρ = some true) : qOr t u ρ = some true := by
  unfold qOr
  rw [h]
  rfl
theorem x_orF {u : MT} {c : Bool} (h : t ρ = some false) (h2 : u ρ = some c) : qOr t u ρ = some c := by
  unfold qOr
  rw [h]
  exact h2
theorem x_mandT (h : e ρ = some (.bool true)) (h2 : f ρ = some d) : mAnd e f ρ = some d := by
  unfold mAnd
  rw [h]
  exact h2
theorem x_mandF (h : e ρ = some (.bool false)) : mAnd e f ρ = some (.bool false) := by
  unfold mAnd
  rw [h]
  rfl
theorem x_fn {n N : Nat} {m : MS} {ds : List PyData} {q : Out} (hl : ds.length = n) (h : m (evOf n N ds) = some q) (h2 : outR q = some d) : fnM n N m ds = some d := by
  unfold fnM
  rw [if_pos hl, h]
  exact h2
end
theorem mul_ii {i j : Int} (h1 : i.natAbs < 2 ^ 200) (h2 : j.natAbs < 2 ^ 200) : oMul (.int i) (.int j) = some (.int (i * j)) := by
  show (if i.natAbs < 2 ^ 200 ∧ j.natAbs < 2 ^ 200 then some (PyData.int (i * j)) else none) = _
  rw [if_pos ⟨h1, h2⟩]
theorem mul_si {z : Str} {n : Nat} (h1 : n ≤ 1000) (h2 : z.length ≤ 1000) : oMul (.str z) (.int (n : Int)) = some (.str (repS z n)) := by
  show (if 0 ≤ (n : Int) ∧ (n : Int) ≤ 1000 ∧ z.length ≤ 1000 then some (PyData.str (repS z (n : Int).toNat)) else none) = _
  rw [if_pos ⟨by omega, by omega, h2⟩, Int.toNat_natCast]
theorem mul_sk {z : Str} {k : Int} {n : Nat} (hk : k = (n : Int)) (h1 : n ≤ 1000) (h2 : z.length ≤ 1000) : oMul (.str z) (.int k) = some (.str (repS z n)) := by
  rw [hk]
  exact mul_si h1 h2
theorem add_ss {x y : Str} (h : x.length + y.length ≤ 10000) : oAdd (.str x) (.str y) = some (.str (x ++ y)) := by
  show (if x.length + y.length ≤ 10000 then some (PyData.str (x ++ y)) else none) = _
  rw [if_pos h]
theorem add_ll {x y : List PyData} (h : x.length + y.length ≤ 100000) : oAdd (.list x) (.list y) = some (.list (x ++ y)) := by
  show (if x.length + y.length ≤ 100000 then some (PyData.list (x ++ y)) else none) = _
  rw [if_pos h]
theorem add_tt {x y : List PyData} (h : x.length + y.length ≤ 100000) : oAdd (.tuple x) (.tuple y) = some (.tuple (x ++ y)) := by
  show (if x.length + y.length ≤ 100000 then some (PyData.tuple (x ++ y)) else none) = _
  rw [if_pos h]
theorem mod_ii {i j : Int} (h : j ≠ 0) : oMod (.int i) (.int j) = some (.int (i.fmod j)) := by
  show (if decide (j ≠ 0) = true then some (PyData.int (i.fmod j)) else none) = _
  rw [if_pos (decide_eq_true h)]
theorem ix_l {l : List PyData} {i : Int} {d : PyData} (h : atI l i = some d) : oIx (.list l) (.int i) = some d := h
theorem ix_t {l : List PyData} {i : Int} {d : PyData} (h : atI l i = some d) : oIx (.tuple l) (.int i) = some d := h
theorem ix_s {z : Str} {i : Int} {c : Nat} (hz : z.length ≤ 1000) (h : atI z.cps.toList i = some c) : oIx (.str z) (.int i) = some (.str ⟨#[c]⟩) := by
  show (if z.length ≤ 1000 then (atI z.cps.toList i).map fun c => PyData.str ⟨#[c]⟩ else none) = _
  rw [if_pos hz, h] <;> rfl
theorem rng_n {n : Nat} (h : n < 100000) : oRng [.int (n : Int)] = some (rngD n) := by
  show (if -100000 ≤ (n : Int) ∧ (n : Int) < 100000 then some (rngD (n : Int).toNat) else none) = _
  rw [if_pos ⟨by omega, by omega⟩, Int.toNat_natCast]
theorem x_rng {as : MA} {ρ : Ev} {n : Nat} (h : as ρ = some [.int (n : Int)]) (hn : n < 100000) : iR as ρ = some (rngD n) := by
  unfold iR
  rw [h, Option.bind_some]
  exact rng_n hn
theorem eq_ii (i j : Int) : oEq (.int i) (.int j) = some (.bool (decide (i = j))) := by
  show (if SeqAt.shaped (.int i) = true ∧ SeqAt.shaped (.int j) = true then some (PyData.bool (i == j)) else none) = _
  rw [if_pos ⟨rfl, rfl⟩]
  congr 2
theorem ne_ii (i j : Int) : oNe (.int i) (.int j) = some (.bool (!decide (i = j))) := by
  show (if SeqAt.shaped (.int i) = true ∧ SeqAt.shaped (.int j) = true then some (PyData.bool (!(i == j))) else none) = _
  rw [if_pos ⟨rfl, rfl⟩]
  congr 2
/-- a loop by its invariant -/
theorem x_go {gm : MG} {mb : MS} (I : Nat → Ev → Prop) : ∀ (ds : List PyData) (k : Nat) (ρ : Ev), I k ρ → (∀ i d ρ, ds[i]? = some d → I (k + i) ρ → ∃ ρ1 ρ2, gm d ρ = some ρ1 ∧ mb ρ1 = some (.nx ρ2) ∧ I (k + i + 1) ρ2) → ∃ ρ', forGo gm mb ds ρ = some (.nx ρ') ∧ I (k + ds.length) ρ'
  | [], k, ρ, h, _ => ⟨ρ, rfl, h⟩
  | d :: ds, k, ρ, h, hs => by
    obtain ⟨ρ1, ρ2, h1, h2, h3⟩ := hs 0 d ρ rfl h
    obtain ⟨ρ', h4, h5⟩ := x_go I ds (k + 1) ρ2 h3 fun i d' ρ hd hi => by
      have e : k + 1 + i = k + (i + 1) := by omega
      rw [e] at hi ⊢
      exact hs (i + 1) d' ρ hd hi
    refine ⟨ρ', ?_, ?_⟩
    · show (gm d ρ).bind _ = _
      rw [h1]
      show (mb ρ1).bind _ = _
      rw [h2]
      exact h4
    · have e : k + 1 + ds.length = k + (ds.length + 1) := by omega
      rw [e] at h5
      exact h5
theorem x_for {mi : MA} {gm : MG} {mb : MS} {ds : List PyData} {ρ : Ev} (I : Nat → Ev → Prop) (hi : mi ρ = some ds) (h0 : I 0 ρ) (hs : ∀ i d ρ, ds[i]? = some d → I i ρ → ∃ ρ1 ρ2, gm d ρ = some ρ1 ∧ mb ρ1 = some (.nx ρ2) ∧ I (i + 1) ρ2) : ∃ ρ', mFor mi gm mb ρ = some (.nx ρ') ∧ I ds.length ρ' := by
  obtain ⟨ρ', h1, h2⟩ := x_go I ds 0 ρ h0 fun i d ρ hd h => by
    rw [Nat.zero_add] at h ⊢
    exact hs i d ρ hd h
  refine ⟨ρ', ?_, by rw [Nat.zero_add] at h2; exact h2⟩
  unfold mFor
  rw [hi]
  exact h1
/-- m runs, and what comes of it keeps to Post -/
def Run (m : MS) (ρ : Ev) (Post : Out → Prop) : Prop := ∃ q, m ρ = some q ∧ Post q
section
variable {a b rest : MS} {ρ ρ' : Ev} {Post : Out → Prop} {e : ME} {t : MT} {d : PyData} {c : Bool}
theorem r_seq (h : a ρ = some (.nx ρ')) (h2 : Run b ρ' Post) : Run (mSeq a b) ρ Post := by
  obtain ⟨q, h3, h4⟩ := h2
  exact ⟨q, x_seq h h3, h4⟩
theorem r_end (h : a ρ = some (.nx ρ')) (h2 : Post (.nx ρ')) : Run a ρ Post := ⟨_, h, h2⟩
theorem r_ret (h : e ρ = some d) (h2 : Post (.rt d)) : Run (mRet e) ρ Post := ⟨_, x_rt h, h2⟩
theorem r_if (h : t ρ = some c) (h1 : c = true → Run a ρ Post) (h2 : c = false → Run b ρ Post) : Run (mIfS t a b) ρ Post := by
  cases c with
  | true =>
    obtain ⟨q, h3, h4⟩ := h1 rfl
    exact ⟨q, x_ifT h h3, h4⟩
  | false =>
    obtain ⟨q, h3, h4⟩ := h2 rfl
    exact ⟨q, x_ifF h h3, h4⟩
/-- goes on with some environment -/
def Nx (Mid : Ev → Prop) : Out → Prop
  | .nx ρ => Mid ρ
  | _ => False
theorem r_mid (Mid : Ev → Prop) (h : Run a ρ (Nx Mid)) (h2 : ∀ ρ', Mid ρ' → Run b ρ' Post) : Run (mSeq a b) ρ Post := by
  obtain ⟨q, h3, h4⟩ := h
  cases q with
  | nx ρ' => exact r_seq h3 (h2 ρ' h4)
  | rt d => exact h4.elim
  | rf d => exact h4.elim
  | bk d => exact h4.elim
  | ct d => exact h4.elim
  | er d ρ2 => exact h4.elim
theorem r_for {mi : MA} {gm : MG} {mb : MS} {ds : List PyData} (I : Nat → Ev → Prop) (hi : mi ρ = some ds) (h0 : I 0 ρ) (hs : ∀ i d ρ, ds[i]? = some d → I i ρ → ∃ ρ1, gm d ρ = some ρ1 ∧ Run mb ρ1 (Nx (I (i + 1)))) (he : ∀ ρ', I ds.length ρ' → Run rest ρ' Post) : Run (mSeq (mFor mi gm mb) rest) ρ Post := by
  obtain ⟨ρ', h1, h2⟩ := x_for I hi h0 fun i d ρ hd h => by
    obtain ⟨ρ1, h1, q, h2, h3⟩ := hs i d ρ hd h
    cases q with
    | nx ρ2 => exact ⟨ρ1, ρ2, h1, h2, h3⟩
    | rt d => exact h3.elim
    | rf d => exact h3.elim
    | bk d => exact h3.elim
    | ct d => exact h3.elim
    | er d ρ2 => exact h3.elim
  exact r_seq h1 (he ρ' h2)
theorem r_fn {n N : Nat} {m : MS} {ds : List PyData} {Pd : PyData → Prop} (hl : ds.length = n) (h : Run m (evOf n N ds) fun q => ∃ d, outR q = some d ∧ Pd d) : ∃ d, fnM n N m ds = some d ∧ Pd d := by
  obtain ⟨q, h1, d, h2, h3⟩ := h
  exact ⟨d, x_fn hl h1 h2, h3⟩
theorem r_eq {n N : Nat} {m : MS} {ds : List PyData} (hl : ds.length = n) (h : Run m (evOf n N ds) fun q => outR q = some d) : fnM n N m ds = some d := by
  obtain ⟨q, h1, h2⟩ := h
  exact x_fn hl h1 h2
theorem rng_at {n i : Nat} (h : (rngD n)[i]? = some d) : i < n ∧ d = .int (i : Int) := by
  have hi := (List.getElem?_eq_some_iff.mp h).1
  rw [rngD_length] at hi
  unfold rngD at h
  rw [List.getElem?_map, List.getElem?_range hi] at h
  exact ⟨hi, (Option.some.inj h).symm⟩
end
theorem x_few {ds : List PyData} (h : ds.length ≤ 100000) : oFew ds = some ds := if_pos h
theorem x_lc {mi : MA} {vs : List Nat} {gm : MG} {mt : MT} {me : ME} {ρ : Ev} {ds es : List PyData} (hi : mi ρ = some ds) (hl : ds.length ≤ 100000) (h : lcGo gm mt me (wipeM ρ vs) ds = some es) : mLc mi vs gm mt me ρ = some (.list es) := by
  unfold mLc
  rw [hi]
  show (oFew ds).bind _ = _
  rw [x_few hl]
  show (lcGo gm mt me (wipeM ρ vs) ds).map _ = _
  rw [h]
  rfl
theorem x_tg {mi : MA} {vs : List Nat} {gm : MG} {mt : MT} {me : ME} {ρ : Ev} {ds es : List PyData} (hi : mi ρ = some ds) (hl : ds.length ≤ 100000) (h : lcGo gm mt me (wipeM ρ vs) ds = some es) : mTg mi vs gm mt me ρ = some (.tuple es) := by
  unfold mTg
  rw [hi]
  show (oFew ds).bind _ = _
  rw [x_few hl]
  show (lcGo gm mt me (wipeM ρ vs) ds).map _ = _
  rw [h]
  rfl
theorem x_agGo {gm : MG} {mt : MT} {me : ME} {ρ : Ev} (p : PyData → Bool) : ∀ (ds : List PyData), (∀ d ∈ ds, ∃ ρ1, gm d ρ = some ρ1 ∧ mt ρ1 = some true ∧ me ρ1 = some (.bool (p d))) → agGo gm mt me ρ ds = some (ds.all p)
  | [], _ => rfl
  | d :: ds, h => by
    obtain ⟨ρ1, h1, h2, h3⟩ := h d List.mem_cons_self
    have ih := x_agGo p ds fun x hx => h x (List.mem_cons_of_mem _ hx)
    show (gm d ρ).bind _ = _
    rw [h1]
    show (mt ρ1).bind _ = _
    rw [h2]
    show (me ρ1).bind _ = _
    rw [h3, List.all_cons]
    cases hp : p d with
    | true =>
      show agGo gm mt me ρ ds = _
      rw [ih, Bool.true_and]
    | false => rfl
theorem x_ag {mi : MA} {vs : List Nat} {gm : MG} {mt : MT} {me : ME} {ρ : Ev} {ds : List PyData} {c : Bool} (hi : mi ρ = some ds) (h : agGo gm mt me (wipeM ρ vs) ds = some c) : mAg mi vs gm mt me ρ = some (.bool c) := by
  unfold mAg
  rw [hi]
  show (agGo gm mt me (wipeM ρ vs) ds).map _ = _
  rw [h]
  rfl
theorem x_sorted {ds : List PyData} (h : Srt ds) : oSorted [.list ds] = some (.list (sortD ds)) := by
  show (open Classical in if Srt ds then some (PyData.list (sortD ds)) else none) = _
  rw [if_pos h]
theorem cut_mem {α : Type} {l : List α} {lo hi : Option Int} {x : α} (h : x ∈ LB.cutD l lo hi) : x ∈ l := List.mem_of_mem_drop (List.mem_of_mem_take h)
/-! sorted lists of names -/
def leS (a b : Str) : Bool := !decide (b.cps.toList < a.cps.toList)
theorem sort_strs (ns : List Str) : sortD (ns.map PyData.str) = (ns.mergeSort leS).map PyData.str := by
  unfold sortD
  refine (List.map_mergeSort fun a _ b _ => ?_).symm
  show leS a b = !PySem.W.dataLt (.str b) (.str a)
  rw [PySem.W.dataLt_str]
  rfl
theorem srt_strs {ns : List Str} (h : ns.length ≤ 1000) : Srt (ns.map PyData.str) := by
  refine ⟨fun d hd d' hd' => ?_, .inl (.inr fun d hd => ?_), fun d hd => ?_, by rw [List.length_map]; omega⟩
  · obtain ⟨x, _, rfl⟩ := List.mem_map.mp hd
    obtain ⟨y, _, rfl⟩ := List.mem_map.mp hd'
    rfl
  · obtain ⟨x, _, rfl⟩ := List.mem_map.mp hd
    exact ⟨(fun z => nomatch z), (fun _ z => nomatch z)⟩
  · obtain ⟨x, _, rfl⟩ := List.mem_map.mp hd
    exact Nat.zero_le _
theorem leS_sorted (ns : List Str) : (ns.mergeSort leS).Pairwise fun a b => leS a b = true := by
  refine List.pairwise_mergeSort (fun a b c h1 h2 => ?_) (fun a b => ?_) ns
  · unfold leS at *
    simp only [Bool.not_eq_true', decide_eq_false_iff_not] at *
    exact List.not_lt.mpr (List.le_trans (List.not_lt.mp h1) (List.not_lt.mp h2))
  · unfold leS
    simp only [Bool.or_eq_true, Bool.not_eq_true', decide_eq_false_iff_not]
    rcases List.le_total a.cps.toList b.cps.toList with h | h
    · exact .inl (List.not_lt.mpr h)
    · exact .inr (List.not_lt.mpr h)
theorem rise_sort {ns : List Str} (hn : ns.Nodup) : Rise (ns.mergeSort leS) := by
  have nd : (ns.mergeSort leS).Nodup := (List.mergeSort_perm ns leS).nodup_iff.mpr hn
  refine ((leS_sorted ns).and nd).imp fun {a b} ⟨p, q⟩ => ?_
  unfold leS at p
  simp only [Bool.not_eq_true', decide_eq_false_iff_not] at p
  by_cases h : a.cps.toList < b.cps.toList
  · exact h
  · exact absurd (str_ext (List.le_antisymm (List.not_lt.mp p) (List.not_lt.mp h))) q
end PM
namespace PM
open PySem PySem.Spec PyProof.Rows L2 LB
/-! ### cuts, among data -/
theorem cut_tail (l : List PyData) : LB.cutD l (some 1) none = l.drop 1 := by
  unfold LB.cutD
  have e : HT.sIx l.length 0 (some 1) = min 1 l.length := HT.sIx_nat l.length 0 1
  rw [e, show HT.sIx l.length l.length none = l.length from rfl]
  cases l with
  | nil => rfl
  | cons a l =>
    rw [show min 1 (a :: l).length = 1 by simp]
    simp
def txs : List PyData → List Str
  | .str x :: r => x :: txs r
  | _ :: r => txs r
  | [] => []
theorem eqv_str (a b : Str) : PyData.eqv (.str a) (.str b) = (a == b) := by
  first
    | rfl
    | (unfold PyData.eqv; rfl)
theorem any_str {ns : List Str} {x : Str} : ((ns.map PyData.str).any fun z => PyData.eqv z (.str x)) = decide (x ∈ ns) := by
  induction ns with
  | nil => simp
  | cons a ns ih =>
    rw [List.map_cons, List.any_cons, ih, eqv_str]
    by_cases z : a = x
    · subst z
      rw [beq_self_eq_true, Bool.true_or, decide_eq_true List.mem_cons_self]
    · rw [beq_eq_false_iff_ne.mpr z, Bool.false_or]
      exact decide_eq_decide.mpr ⟨List.mem_cons_of_mem _, fun h => (List.mem_cons.mp h).resolve_left fun w => z w.symm⟩
theorem fl_strs (ns : List Str) : (ns.map PyData.str).all flD = true := by
  rw [List.all_eq_true]
  intro d hd
  obtain ⟨x, _, rfl⟩ := List.mem_map.mp hd
  rfl
theorem in_strs {ns : List Str} {x : Str} {c : PyData} (hc : itemsD c = some (ns.map .str)) : oIn (.str x) c = some (.bool (decide (x ∈ ns))) := by
  unfold oIn
  rw [hc]
  show (if flD (.str x) = true ∧ (ns.map PyData.str).all flD = true then _ else none) = _
  rw [if_pos ⟨rfl, fl_strs ns⟩, any_str]
theorem nin_strs {ns : List Str} {x : Str} {c : PyData} (hc : itemsD c = some (ns.map .str)) : oNin (.str x) c = some (.bool (!decide (x ∈ ns))) := by
  unfold oNin
  rw [hc]
  show (if flD (.str x) = true ∧ (ns.map PyData.str).all flD = true then _ else none) = _
  rw [if_pos ⟨rfl, fl_strs ns⟩, any_str]
theorem rise_nodup {ns : List Str} (h : Rise ns) : ns.Nodup := List.nodup_iff_pairwise_ne.mpr (h.imp fun h e => by
  rw [e] at h
  exact absurd h (List.lt_irrefl _))
/-! all cuts -/
/-- data that == takes -/
theorem lay_strs : ∀ {xs : List Str}, (∀ x ∈ xs, PyData.strOk x = true) → PyData.canLayAll0 (xs.map .str) = true
  | [], _ => by
    rw [List.map_nil]
    unfold PyData.canLayAll0
    rfl
  | x :: xs, h => by
    rw [List.map_cons]
    unfold PyData.canLayAll0
    rw [lay_strs fun y hy => h y (List.mem_cons_of_mem _ hy), Bool.and_true]
    unfold PyData.canLay0
    exact h x List.mem_cons_self
end PM
namespace PM
open PySem PySem.Spec PyProof.Rows L2 LB
/-- where a law begins -/
theorem start_pr {T : Tb} {K : PySem.W.Frag} {H : Hp} {a : Addr} {xs : List V} (t : LamX.Tabs T H) (h : SqL K H a xs) : ∃ P : Pr T, P.H = H ∧ SqL K P.M a xs := by
  rcases h with h | h
  · have hn : ∀ ps, H a ≠ some (.tbl ps) := fun ps z => by
      rcases h with h | ⟨o, h⟩
      · rw [z] at h
        cases h
      · rw [z] at h
        cases h
    refine ⟨⟨fun b => if b = a then H a else none, H, fun b u e _ => ?_, t, fun b ps z => ?_⟩, rfl, .inl ?_⟩
    · have e : (if b = a then H a else none) = some u := e
      by_cases q : b = a
      · rw [if_pos q] at e
        rw [q]
        exact e
      · rw [if_neg q] at e
        cases e
    · have z : (if b = a then H a else none) = some (.tbl ps) := z
      by_cases q : b = a
      · rw [if_pos q] at z
        exact hn ps z
      · rw [if_neg q] at z
        cases z
    · rcases h with h | ⟨o, h⟩
      · exact .inl (by show (if a = a then H a else none) = _; rw [if_pos rfl]; exact h)
      · exact .inr ⟨o, by show (if a = a then H a else none) = _; rw [if_pos rfl]; exact h⟩
  · exact ⟨⟨fun _ => none, H, fun b u e _ => (nomatch e), t, fun b ps z => (nomatch z)⟩, rfl, .inr h⟩
end PM
namespace PM
open PySem PySem.Spec PyProof.Rows L2 LB
variable {T : Tb} {K : PySem.W.Frag} {X : Cx} {e : Expr} {st : Stmt} {sts : List Stmt} {R : ER}
/-! ### what is never reached -/
/-! ### x op= y, of ints -/
/-! ### while -/
end PM
namespace PM
open PySem PySem.Spec PyProof.Rows L2 LB
section
variable {T : Tb} {K : PySem.W.Frag} {X : Cx} {e : Expr}
/-! ### list(range(n)), l[::-1] -/
def oRevL : PyData → Option PyData
  | .list xs => some (.list xs.reverse)
  | _ => none
theorem c_revL {a : ME} (h : PE X e (tRevL K (tW K T a))) : PE X e (tD K T (mUn oRevL a)) := pe_to h fun σ H Q ⟨P0, P, ρ, d, h1, s, h2, q⟩ => by
  subst h1
  obtain ⟨x, ex, h3⟩ := bind_eq h2
  refine ⟨P0, P, ρ, x, rfl, s, ex, fun v P1 l1 r1 => ?_⟩
  unfold oRevL at h3
  split at h3
  · cases h3
    obtain ⟨p, xs, rfl, hs, r⟩ := r1.list
    exact ⟨p, xs, rfl, hs, fun p' hp => q _ (P1.put p' (.lst xs.reverse) hp) (l1.trans (le_put P1 hp)) (.lst (SqL.of upd_same) ((RpAll.reverse r).ext (le_put P1 hp).m))⟩
  · cases h3
end
end PM
namespace PM
open PySem PySem.Spec PyProof.Rows L2 LB
section
variable {T : Tb} {K : PySem.W.Frag} {X : Cx} {e : Expr} {st : Stmt} {sts : List Stmt} {R : ER}
/-! ### what may be refused -/
abbrev Rs := Except Str PyData
def ResK (K : PySem.W.Frag) (R : ER) (P : Pr T) (σ : L2.St) (Q : VK) : Rs → Prop
  | .ok d => ∀ v (P' : Pr T), Le P P' → Rp K P'.M v d → Q v P'.H
  | .error c => ∀ (P' : Pr T), Le P P' → R c σ P'.H
theorem ResK.up {P P1 : Pr T} {σ : L2.St} {Q : VK} {r : Rs} (l : Le P P1) (h : ResK K R P σ Q r) : ResK K R P1 σ Q r := by
  cases r with
  | ok d => exact fun v P' l' r' => h v P' (l.trans l') r'
  | error c => exact fun P' l' => h P' (l.trans l')
end
end PM
namespace PM
open PySem PySem.Spec PyProof.Rows L2 LB
section
variable {T : Tb} {K : PySem.W.Frag} {X : Cx}
/-! ### try: body, except C as e: a suite that gives one thing for each class -/
end
end PM
namespace PM
open PySem PySem.Spec PyProof.Rows L2 LB
def g1 (c0 : Str) (d0 : PyData) : Str → Option PyData := fun c => if c = c0 then some d0 else none
end PM
namespace PM
open PySem PySem.Spec PyProof.Rows L2 LB
section
variable {T : Tb} {K : PySem.W.Frag} {X : Cx} {st : Stmt} {R : ER}
theorem St.nw {P0 P : Pr T} {σ : L2.St} {ρ : Ev} (s : St K P0 P σ ρ) {p : Addr} (hp : P.H p = none) (i : Nat) : St K P0 (P.hid p (.lst []) hp) (σ.set i (some (.ref p))) (ρ.set i (.own (.list []))) := by
  refine (s.up (le_hid P hp)).setO (.lst (P.none hp) upd_same .nil) (loose_back s.le.h (loose_none hp)) i fun j e' q' h1 h2 z => ?_
  obtain ⟨u, g1, g2⟩ := s.ok j _ h1
  rw [h2] at g1
  cases g1
  cases g2 with
  | own r' =>
    subst z
    exact r'.tight (loose_none hp)
end
end PM
namespace PM
open PySem PySem.Spec PyProof.Rows L2 LB
section
variable {T : Tb} {K : PySem.W.Frag} {X : Cx} {e : Expr} {st : Stmt} {sts : List Stmt} {R : ER}
/-! ### calls within a try: what is raised is told with the slots -/
/-! ### try: body, except C as e: suite, the suite a model too -/
/-! ### the caught error: isinstance, and a def that is handed it -/
def mE (i : Nat) (a : Addr) (d : PyData) : ME := fun ρ => match ρ[i]? with
  | some (.exn a') => if a' = a then some d else none
  | _ => none
theorem mE_at {P0 P : Pr T} {σ : L2.St} {ρ : Ev} {i : Nat} {a : Addr} {d d' : PyData} (s : St K P0 P σ ρ) (h : mE i a d ρ = some d') : σ[i]? = some (some (.ref a)) ∧ d' = d := by
  unfold mE at h
  split at h
  · rename_i a' ha
    split at h
    · rename_i hh
      subst hh
      cases h
      obtain ⟨o, g1, g2⟩ := s.ok i _ ha
      cases g2
      exact ⟨g1, rfl⟩
    · cases h
  · cases h
/-- isinstance(e, C), C a class of the program or of Python's own -/
theorem c_isE {i : Nat} {a D : Addr} {b : Bool} {c : V} {cv : Value} (hcv : ∀ u, RelV c u → u = cv) (hk : PySem.W.kitOne K (.ref D) cv = some b) (h : PE X e (tCB (rIsE K D a) (tCons (tVar i) (tCons (tC c) tNil)))) : PE X e (tD K T (mE i a (.bool b))) := pe_to h fun σ H Q ⟨P0, P, ρ, d, h1, s, h2, q⟩ => by
  subst h1
  obtain ⟨g1, rfl⟩ := mE_at s h2
  exact ⟨_, g1, c, cv, b, rfl, hcv, hk, q _ P (Le.refl P) (.bl b)⟩
end
end PM
namespace PM
open PySem PySem.Spec PyProof.Rows L2 LB
/-! ### a def that is handed the caught error -/
section
variable {T : Tb} {K : PySem.W.Frag} {X : Cx} {e : Expr}
end
end PM
namespace PM
open PySem PySem.Spec PyProof.Rows L2 LB
section
variable {T : Tb} {K : PySem.W.Frag} {X : Cx} {e : Expr}
/-! ### l.count(x), flat items -/
end
end PM
namespace PM
open PySem PySem.Spec PyProof.Rows L2 LB
section
variable {T : Tb} {K : PySem.W.Frag}
/-! ### a is b, a is not b, of truths -/
end
end PM
namespace PM
open PySem PySem.Spec PyProof.Rows L2 LB
section
variable {T : Tb} {K : PySem.W.Frag} {X : Cx} {e : Expr}
/-! ### x[::-1], a tuple or a list -/
def oRevU (x : PyData) : Option PyData := match x with
  | .tuple xs => oRev (.tuple xs)
  | x => oRevL x
theorem c_revU {a : ME} (h1 : PE X e (tD K T (mUn oRev a))) (h2 : PE X e (tD K T (mUn oRevL a))) : PE X e (tD K T (mUn oRevU a)) := ⟨fun pins s σ H Q I ⟨P0, P, ρ, d, e1, st, e2, q⟩ => by
  obtain ⟨x, ex, e3⟩ := bind_eq e2
  unfold oRevU at e3
  split at e3
  · refine h1.run pins s σ H Q I ⟨P0, P, ρ, d, e1, st, ?_, q⟩
    show (a ρ).bind oRev = some d
    rw [ex]
    exact e3
  · refine h2.run pins s σ H Q I ⟨P0, P, ρ, d, e1, st, ?_, q⟩
    show (a ρ).bind oRevL = some d
    rw [ex]
    exact e3⟩
end
/-! ### what ends a row of statements by a refusal -/
end PM
namespace PM
open PySem PySem.Spec PyProof.Rows L2 LB
section
variable {T : Tb} {K : PySem.W.Frag} {X : Cx} {e : Expr}
/-! ### tuples that are there may be stood on -/
/-! ### sorted(d), d a dict of one's own, its keys tuples -/
/-! ### a < b of tuples -/
def rLtX (K : PySem.W.Frag) : R2 := fun x y H Q => ∃ d e, Rp K H x d ∧ Rp K H y e ∧ PySem.W.alike d d = true ∧ PySem.W.alike e e = true ∧ PySem.W.alike d e = true ∧ d ≠ .none ∧ d.depth ≤ 40 ∧ Q (.bl (PySem.W.dataLt d e)) H
theorem op_ltX (hu : X.A.units + 64 < cLine) (hK : X.K = K := by rfl) : OpR X (compareOp .Lt) (rLtX K) := by
  subst hK
  intro pins s σ H x y v u Q I rx ry h
  obtain ⟨d, e, hd, he, ad, ae, al, nn, dp, q⟩ := h
  obtain ⟨as, r1⟩ := reads_of I d x v ad hd rx
  obtain ⟨bs, r2⟩ := reads_of I e y u ae he ry
  exact PySem.W.lt_data r1 r2 al nn (by have := Nat.min_le_left d.depth e.depth; omega) ⟨.bl _, H, I, rfl, q⟩
def oLtX (a b : PyData) : Option PyData := match a with
  | .tuple xs => if PySem.W.alike (.tuple xs) (.tuple xs) = true ∧ PySem.W.alike b b = true ∧ PySem.W.alike (.tuple xs) b = true ∧ (PyData.tuple xs).depth ≤ 40 then some (.bool (PySem.W.dataLt (.tuple xs) b)) else none
  | a => oLt a b
def uLtX (K : PySem.W.Frag) : R2 := fun x y H Q => uLt x y H Q ∨ rLtX K x y H Q
theorem op_uLtX (hu : X.A.units + 64 < cLine) (hK : X.K = K := by rfl) : OpR X (compareOp .Lt) (uLtX K) := opR_or op_uLt (op_ltX hu hK)
theorem rw_tup {P : Pr T} {v : V} {xs : List PyData} (h : Rw K P v (.tuple xs)) : Rp K P.M v (.tuple xs) := by
  rcases h with h | ⟨p, _, h⟩
  · exact h
  · cases h
theorem od_ltX : OpD K T (uLtX K) oLtX := by
  intro P x y a b d ra rb h Q q
  unfold oLtX at h
  split at h
  · split at h
    · rename_i xs hh
      cases h
      have eb : ∃ ys, b = .tuple ys := by
        have := hh.2.2.1
        cases b <;> first | exact ⟨_, rfl⟩ | (simp [PySem.W.alike] at this)
      obtain ⟨ys, rfl⟩ := eb
      exact .inr ⟨_, _, (rw_tup ra).ext P.sub, (rw_tup rb).ext P.sub, hh.1, hh.2.1, hh.2.2.1, (fun z => nomatch z), hh.2.2.2, q _ P (Le.refl P) (.bl _)⟩
    · cases h
  · exact .inl (od_lt P x y a b d ra rb h Q q)
/-! ### a sign in a text -/
def rInSg : R2 := fun x y H Q => ∃ (c : Nat) (z : Str), x = .str ⟨#[c]⟩ ∧ y = .str z ∧ Q (.bl (decide (c ∈ z.cps.toList))) H
def sg1 : Str → Option Nat
  | ⟨⟨[c]⟩⟩ => some c
  | _ => none
def oInX (a b : PyData) : Option PyData := match b with
  | .str z => match a with
    | .str x => (sg1 x).map fun c => .bool (decide (c ∈ z.cps.toList))
    | _ => none
  | b => oIn a b
theorem sg1_is {x : Str} {c : Nat} (h : sg1 x = some c) : x = ⟨#[c]⟩ := by
  unfold sg1 at h
  split at h
  · cases h
    rfl
  · cases h
theorem op_uInX (hK : X.K = K := by rfl) : OpR X (compareOp .In) (fun x y H Q => rIn K false x y H Q ∨ rInSg x y H Q) := opR_or (op_inK K hK) op_in_sign
theorem od_inX : OpD K T (fun x y H Q => rIn K false x y H Q ∨ rInSg x y H Q) oInX := by
  intro P x y a b d ra rb h Q q
  unfold oInX at h
  split at h
  · split at h
    · obtain ⟨c, hc, rfl⟩ := map_eq h
      have e := sg1_is hc
      subst e
      exact .inr ⟨c, _, ra.str, rb.str, q _ P (Le.refl P) (.bl _)⟩
    · cases h
  · exact .inl (od_in P x y a b d ra rb h Q q)
/-! ### range(i, j) -/
/-! ### l + m, a new list of one's own -/
def oCat : PyData → PyData → Option PyData
  | .list x, .list y => if x.length + y.length ≤ 100000 then some (.list (x ++ y)) else none
  | _, _ => none
theorem c_catF {a b : ME} (h : PE X e (tOp (uAdd K) (tW K T a) (tW K T b))) : PE X e (tF K T (mOp oCat a b)) := pe_to h fun σ H Q ⟨P0, P, ρ, d, h1, s, h2, q⟩ => by
  subst h1
  obtain ⟨x, ex, h2⟩ := bind_eq h2
  obtain ⟨y, ey, h2⟩ := bind_eq h2
  unfold oCat at h2
  split at h2
  · rename_i xs ys
    split at h2
    · rename_i hh
      cases h2
      refine ⟨P0, P, ρ, _, rfl, s, ex, fun v P1 l1 r1 => ⟨P0, P1, ρ, _, rfl, s.up l1, ey, fun u P2 l2 r2 => ?_⟩⟩
      obtain ⟨l, vs, rfl, hs, ra⟩ := (r1.up l2).list
      obtain ⟨l', ws, rfl, hs', rb⟩ := r2.list
      refine .inr (.inr (.inl ⟨l, l', vs, ws, rfl, rfl, hs, hs', Nat.le_trans (by rw [ra.length, rb.length]; exact hh) (by decide), fun p hp => ?_⟩))
      exact q _ (P2.hid p (.lst (vs ++ ws)) hp) ((l1.trans l2).trans (le_hid P2 hp)) (.lst (P2.none hp) upd_same (RpAll.append ra rb)) (loose_back (l1.trans l2).h (loose_none hp))
    · cases h2
  · cases h2
/-! ### tuple(text) -/
end
end PM
namespace PM
open PySem PySem.Spec PyProof.Rows L2 LB
section
variable {T : Tb} {K : PySem.W.Frag} {X : Cx} {e : Expr} {st : Stmt} {R : ER}
/-! ### a dict of one's own, its keys names, its values True -/
def getS (ds : List (Str × PyData)) (k : Str) : Option PyData := (ds.find? fun e => decide (e.1 = k)).map (·.2)
theorem ds_vals {M : Hp} : ∀ {as : List (Key × V)} {bs : List (Str × PyData)}, PySem.W.EachIs (DS K M) as bs → RpAll K M (as.map (·.2)) (bs.map (·.2))
  | _, _, .nil => .nil
  | _, _, .cons h t => .cons h.2 (ds_vals t)
/-! ### a is None -/
end
end PM
namespace PM
open PySem PySem.Spec PyProof.Rows L2 LB
section
variable {T : Tb} {K : PySem.W.Frag} {X : Cx} {e : Expr}
/-! ### sorted(xs, key=len, reverse=True), xs a list of tuples -/
def tlen : PyData → Nat
  | .tuple xs => xs.length
  | _ => 0
theorem each_rel : ∀ {bs : List (V × PyData)} {us : List Value}, Vals (bs.map (·.1)) us → PySem.W.EachIs (fun u (b : V × PyData) => RelV b.1 u) us bs
  | [], _, .nil => .nil
  | _ :: _, _, .cons r rs => .cons r (each_rel rs)
theorem rel_each : ∀ {bs : List (V × PyData)} {us : List Value}, PySem.W.EachIs (fun u (b : V × PyData) => RelV b.1 u) us bs → Vals (bs.map (·.1)) us
  | _, _, .nil => .nil
  | _, _, .cons r rs => .cons r (rel_each rs)
theorem zip_rp {M : Hp} : ∀ {vs : List V} {ds : List PyData}, RpAll K M vs ds → (vs.zip ds).map (·.1) = vs ∧ (vs.zip ds).map (·.2) = ds ∧ ∀ b ∈ vs.zip ds, Rp K M b.1 b.2
  | _, _, .nil => ⟨rfl, rfl, fun b hb => absurd hb List.not_mem_nil⟩
  | _, _, .cons r rs => by
    obtain ⟨h1, h2, h3⟩ := zip_rp rs
    refine ⟨by rw [List.zip_cons_cons, List.map_cons, h1], by rw [List.zip_cons_cons, List.map_cons, h2], fun b hb => ?_⟩
    rcases List.mem_cons.mp hb with e | e
    · rw [e]
      exact r
    · exact h3 b e
theorem rp_of {M : Hp} : ∀ {bs : List (V × PyData)}, (∀ b ∈ bs, Rp K M b.1 b.2) → RpAll K M (bs.map (·.1)) (bs.map (·.2))
  | [], _ => .nil
  | b :: bs, h => .cons (h b List.mem_cons_self) (rp_of fun x hx => h x (List.mem_cons_of_mem _ hx))
end
end PM
namespace PM
open PySem PySem.Spec PyProof.Rows L2 LB
section
variable {T : Tb} {K : PySem.W.Frag} {X : Cx} {e : Expr} {st : Stmt} {R : ER}
/-! ### an own dict is locked while an expression reads it -/
theorem St.lock {P0 P : Pr T} {σ : L2.St} {ρ : Ev} (s : St K P0 P σ ρ) {i : Nat} {p : Addr} {kvs : List (List Key × V)} {ds : List (PyData × PyData)} (hρ : ρ[i]? = some (.own (.dict ds))) (hσ : σ[i]? = some (some (.ref p))) (hM : P.M p = none) (hp : P.H p = some (.dT kvs)) (hd : PySem.W.EachIs (DT K P.M) kvs ds) (od : Obj) :
    ∃ Q : Pr T, Q.M = P.M ∧ Q.H = upd P.H p (.frz od (.dT kvs)) ∧ St K P0 Q σ (ρ.set i (.lck ds)) := by
  have lo := s.fr i _ p hρ hσ
  have tm : ∀ {x : Nat} {y : Sl}, (ρ.set i (.lck ds))[x]? = some y → (i = x ∧ y = .lck ds) ∨ (i ≠ x ∧ ρ[x]? = some y) := fun h => by
    rcases getset h with ⟨rfl, rfl, _⟩ | ⟨ne, h⟩
    · exact .inl ⟨rfl, rfl⟩
    · exact .inr ⟨ne, h⟩
  refine ⟨⟨P.M, upd P.H p (.frz od (.dT kvs)), fun b u e q => ?_, tabs_mut P.tab hp (fun _ z => nomatch z) (fun _ _ z => by unfold LamX.CodeO at z; cases z), P.nt⟩, rfl, rfl, ⟨⟨s.le.m, fun b u e q => ?_, s.le.f⟩, by rw [List.length_set]; exact s.len, fun j x h => ?_, fun j k q d1 e ne h1 h2 h3 h4 => ?_, fun j e q h1 h2 => ?_, s.od.same i _ fun _ z => nomatch z⟩⟩
  · have ne : b ≠ p := fun z => by rw [z, hM] at e; cases e
    rw [upd_ne ne]
    exact P.sub b u e q
  · have ne : b ≠ p := fun z => by
      rw [z] at e
      obtain ⟨ps, w⟩ := lo u e
      exact q ps w
    show upd P.H p _ b = some u
    rw [upd_ne ne]
    exact s.le.h b u e q
  · rcases tm h with ⟨rfl, rfl⟩ | ⟨ne, h⟩
    · exact ⟨_, hσ, .lck hM upd_same hd⟩
    · obtain ⟨u, h1, h2⟩ := s.ok j x h
      refine ⟨u, h1, ?_⟩
      cases h2 with
      | no => exact .no
      | val r => exact .val r
      | exn => exact .exn
      | @ods q kv1 k1 b1 b2 b3 =>
        have nq : q ≠ p := fun z => by
          rw [z, hp] at b2
          cases b2
        exact .ods b1 (by show upd P.H p _ q = _; rw [upd_ne nq]; exact b2) b3
      | @lck q od kvs ds b1 b2 b3 =>
        have nq : q ≠ p := fun z => by
          rw [z, hp] at b2
          cases b2
        exact .lck b1 (by show upd P.H p _ q = _; rw [upd_ne nq]; exact b2) b3
      | @own q e r =>
        have nq : q ≠ p := fun z => s.dis i j p _ e ne hρ h hσ (by rw [h1, z])
        refine .own ?_
        cases r with
        | lst a1 a2 a3 => exact .lst a1 (by show upd P.H p _ q = _; rw [upd_ne nq]; exact a2) a3
        | dT a1 a2 a3 => exact .dT a1 (by show upd P.H p _ q = _; rw [upd_ne nq]; exact a2) a3
  · rcases tm h1 with ⟨_, z⟩ | ⟨_, h1⟩
    · cases z
    rcases tm h2 with ⟨_, z⟩ | ⟨_, h2⟩
    · cases z
    exact s.dis j k q d1 e ne h1 h2 h3 h4
  · rcases tm h1 with ⟨_, z⟩ | ⟨_, h1⟩
    · cases z
    exact s.fr j e q h1 h2
/-! ### [f, g][i](x), what is raised told with the slots -/
/-! ### isinstance(e, (C1, C2, ..)) of a caught error -/
/-! ### a call that may raise, and does not -/
end
end PM
namespace PM
open PySem PySem.Spec PyProof.Rows L2 LB
section
variable {T : Tb} {K : PySem.W.Frag} {X : Cx} {e : Expr} {st : Stmt} {R : ER}
/-! ### an own dict with text keys is one's own no more: data may stand on it -/
def dcD (ds : List (Str × PyData)) : PyData := .dict (ds.map fun e => (.str e.1, e.2))
theorem dc_keys {M : Hp} : ∀ {as : List (Key × V)} {bs : List (Str × PyData)}, PySem.W.EachIs (DS K M) as bs → as.map (fun e => keyD e.1) = (bs.map fun e => (PyData.str e.1, e.2)).map (·.1)
  | _, _, .nil => rfl
  | _, _, .cons h t => by rw [List.map_cons, List.map_cons, List.map_cons, dc_keys t, h.1]; rfl
theorem dc_vals {M : Hp} {as : List (Key × V)} {bs : List (Str × PyData)} (h : PySem.W.EachIs (DS K M) as bs) : RpAll K M (as.map (·.2)) ((bs.map fun e => (PyData.str e.1, e.2)).map (·.2)) := by
  rw [List.map_map]
  exact ds_vals h
/-! ### d[k] of a datum -/
end
end PM
namespace PM
open PySem PySem.Spec PyProof.Rows L2 LB
section
variable {T : Tb} {K : PySem.W.Frag} {X : Cx} {e : Expr} {st : Stmt} {R : ER}
/-! ### sorted(d.values()), the values texts -/
/-! ### f() -/
theorem pe_own0 {k j : Nat} {x : Str} {ps : List Str} {sp : Sp} {E : XK} {p pos : Pos} (F : OwnFn X.prog X.w X.K X.mg X.base k x ps sp) (hr : Room j X.A) (hx : Passes (L2.CX X.prog X.w) X E)
    (hk : k ≤ j := by decide) (hg : Gl X x := by rfl) (hdb : (x == ("__debug__" : Str)) = false := by decide) : PE X (.Call (.Name x p) [] [] pos) (tCall sp [] E tNil) := by
  obtain ⟨f, fd, G, hm, kp, b, _⟩ := F.fn
  exact pe_call0 G (hr.mono hk) hg hm kp b .nil hx hdb
theorem c_call0 {E : XK} {f : List PyData → Option PyData} (h : PE X e (tCall (spM K T f) [] E tNil)) : PE X e (tD K T (mCb f aNil)) := pe_to h fun σ H Q ⟨P0, P, ρ, d, h1, s, h2, q⟩ => by
  subst h1
  obtain ⟨x, ex, h3⟩ := bind_eq h2
  cases ex
  show spM K T f [] P.H Q E
  exact ⟨P, [], d, rfl, .nil, h3, fun v P2 l2 r2 => q v P2 l2 r2⟩
end
end PM
namespace LB
open PySem PySem.Spec PyProof.Rows L2 PySem.W PySem.SeqAt PySem.Calls
section
variable {prog : Program} {w : World} {A : Around} {E : Value → Shared → Prop} {s : Shared} {κ : PyProof.Rows.KeyKind} {t : Addr} {vs : List Value}
/-! ### sorted(tuple) -/
end
end LB
namespace PM
open PySem PySem.Spec PyProof.Rows L2 LB
section
variable {T : Tb} {K : PySem.W.Frag} {X : Cx} {e : Expr} {st : Stmt} {R : ER}
/-! ### x not in a tuple of data -/
end
end PM
namespace PM
open PySem PySem.Spec PyProof.Rows L2 LB
section
variable {T : Tb} {K : PySem.W.Frag} {X : Cx} {e : Expr} {st : Stmt} {R : ER}
/-! ### a dict of lists, gathered by keys -/
def addG (G : List (List Key × List PyData)) (ks : List Key) (d : PyData) : List (List Key × List PyData) :=
  if (G.any fun e => decide (e.1 = ks)) = true then G.map (fun e => if e.1 = ks then (e.1, e.2 ++ [d]) else e) else G ++ [(ks, [d])]
def dG (G : List (List Key × List PyData)) : PyData := .dict (G.map fun e => (.tuple (e.1.map keyD), .list e.2))
def plS : Sl → Bool
  | .no => true
  | .val _ => true
  | .exn _ => true
  | _ => false
def DL (K : PySem.W.Frag) (P : Pr T) (e : List Key × V) (g : List Key × List PyData) : Prop := e.1 = g.1 ∧ ∃ q xs, e.2 = .ref q ∧ P.M q = none ∧ P.H q = some (.lst xs) ∧ RpAll K P.M xs g.2
structure GAt (K : PySem.W.Frag) (P0 P : Pr T) (p : Addr) (kvs : List (List Key × V)) (G : List (List Key × List PyData)) : Prop where
  m : P.M p = none
  h : P.H p = some (.dT kvs)
  each : PySem.W.EachIs (DL K P) kvs G
  nk : (kvs.map (·.1)).Nodup
  nv : (kvs.map (·.2)).Nodup
  lo : Loose P0.H p
  los : ∀ e ∈ kvs, ∀ q, e.2 = V.ref q → Loose P0.H q
theorem DL.up {P P' : Pr T} (l : Le P P') {e : List Key × V} {g : List Key × List PyData} (h : DL K P e g) : DL K P' e g := by
  obtain ⟨h1, q, xs, h2, h3, h4, h5⟩ := h
  exact ⟨h1, q, xs, h2, own_none l h3 h4 (fun _ z => nomatch z) (fun _ z => nomatch z), l.h _ _ h4 (fun _ z => nomatch z), h5.ext l.m⟩
theorem GAt.up {P0 P P' : Pr T} {p : Addr} {kvs : List (List Key × V)} {G : List (List Key × List PyData)} (g : GAt K P0 P p kvs G) (l : Le P P') : GAt K P0 P' p kvs G :=
  ⟨own_none l g.m g.h (fun _ z => nomatch z) (fun _ z => nomatch z), l.h _ _ g.h (fun _ z => nomatch z), g.each.mono (fun _ _ h => h.up l), g.nk, g.nv, g.lo, g.los⟩
theorem each_imp {α β : Type} {R R' : α → β → Prop} : ∀ {as : List α} {bs : List β}, PySem.W.EachIs R as bs → (∀ a ∈ as, ∀ b, R a b → R' a b) → PySem.W.EachIs R' as bs
  | _, _, .nil, _ => .nil
  | _, _, .cons h t, q => .cons (q _ List.mem_cons_self _ h) (each_imp t fun a ha => q a (List.mem_cons_of_mem _ ha))
theorem dl_keys {P : Pr T} : ∀ {kvs : List (List Key × V)} {G : List (List Key × List PyData)}, PySem.W.EachIs (DL K P) kvs G → kvs.map (·.1) = G.map (·.1)
  | _, _, .nil => rfl
  | _, _, .cons h t => by rw [List.map_cons, List.map_cons, dl_keys t, h.1]
theorem dl_hit {P : Pr T} {ks : List Key} {v : V} : ∀ {kvs : List (List Key × V)} {G : List (List Key × List PyData)}, PySem.W.EachIs (DL K P) kvs G → valV kvs ks = some v →
    ∃ q xs as bs As Bs ds, v = V.ref q ∧ kvs = as ++ (ks, V.ref q) :: bs ∧ G = As ++ (ks, ds) :: Bs ∧ PySem.W.EachIs (DL K P) as As ∧ PySem.W.EachIs (DL K P) bs Bs ∧ P.M q = none ∧ P.H q = some (.lst xs) ∧ RpAll K P.M xs ds
  | _, _, .nil, h => by cases h
  | (k, u) :: kvs, (k', ds) :: G, .cons h t, hv => by
    obtain ⟨h1, q, xs, h2, h3, h4, h5⟩ := h
    have h1 : k = k' := h1
    have h2 : u = V.ref q := h2
    subst h1 h2
    unfold valV at hv
    rw [List.find?_cons] at hv
    by_cases z : k = ks
    · subst z
      rw [decide_eq_true rfl] at hv
      cases hv
      exact ⟨q, xs, [], kvs, [], G, ds, rfl, rfl, rfl, .nil, t, h3, h4, h5⟩
    · rw [decide_eq_false z] at hv
      obtain ⟨q', xs', as, bs, As, Bs, ds', e1, e2, e3, e4, e5, e6, e7, e8⟩ := dl_hit t hv
      exact ⟨q', xs', (k, V.ref q) :: as, bs, (k, ds) :: As, Bs, ds', e1, by rw [e2]; rfl, by rw [e3]; rfl, .cons ⟨rfl, q, xs, rfl, h3, h4, h5⟩ e4, e5, e6, e7, e8⟩
theorem add_hit {ks : List Key} {d : PyData} {As Bs : List (List Key × List PyData)} {ds : List PyData} (n1 : ks ∉ As.map (·.1)) (n2 : ks ∉ Bs.map (·.1)) : addG (As ++ (ks, ds) :: Bs) ks d = As ++ (ks, ds ++ [d]) :: Bs := by
  unfold addG
  rw [if_pos (List.any_eq_true.mpr ⟨(ks, ds), List.mem_append_right _ List.mem_cons_self, decide_eq_true rfl⟩), List.map_append, List.map_cons, if_pos rfl]
  have e : ∀ l : List (List Key × List PyData), ks ∉ l.map (·.1) → l.map (fun e => if e.1 = ks then (e.1, e.2 ++ [d]) else e) = l := fun l hn => by
    conv => rhs; rw [← List.map_id l]
    refine List.map_congr_left fun x hx => ?_
    exact if_neg fun z => hn (List.mem_map.mpr ⟨x, hx, z⟩)
  rw [e As n1, e Bs n2]
theorem val_none {ks : List Key} {kvs : List (List Key × V)} (h : valV kvs ks = none) : ks ∉ kvs.map (·.1) := fun z => by
  obtain ⟨e, he, rfl⟩ := List.mem_map.mp z
  unfold valV at h
  rw [Option.map_eq_none_iff, List.find?_eq_none] at h
  exact h e he (decide_eq_true rfl)
theorem add_new {ks : List Key} {d : PyData} {G : List (List Key × List PyData)} (h : ks ∉ G.map (·.1)) : addG G ks d = G ++ [(ks, [d])] := by
  unfold addG
  rw [if_neg]
  intro z
  obtain ⟨e, he, h2⟩ := List.any_eq_true.mp z
  exact h (List.mem_map.mpr ⟨e, he, of_decide_eq_true h2⟩)
/-- an object changed that no data stands on -/
theorem Pr.mut1 (P : Pr T) {p : Addr} {o o' : HO} (hM : P.M p = Option.none) (hp : P.H p = some o) (n : Plain o) (nc : ∀ c q, o ≠ LamX.CodeO c q) : ∃ Q : Pr T, Q.M = P.M ∧ Q.H = upd P.H p o' :=
  ⟨⟨P.M, upd P.H p o', fun b u e q => by
    have ne : b ≠ p := fun z => by rw [z, hM] at e; cases e
    rw [upd_ne ne]
    exact P.sub b u e q, tabs_mut P.tab hp n nc, P.nt⟩, rfl, rfl⟩
theorem le_mut1 {P0 P Q : Pr T} {p : Addr} {o' : HO} (l : Le P0 P) (lo : Loose P0.H p) (hM : Q.M = P.M) (hH : Q.H = upd P.H p o') : Le P0 Q := by
  refine ⟨by rw [hM]; exact l.m, fun b u e q => ?_, fun a h1 h2 => l.f a h1 (by rw [← hM]; exact h2)⟩
  have ne : b ≠ p := fun z => by
    rw [z] at e
    obtain ⟨ps, w⟩ := lo u e
    exact q ps w
  rw [hH, upd_ne ne]
  exact l.h b u e q
/-- slots that hold data alone -/
theorem St.plain {P0 P Q : Pr T} {σ : L2.St} {ρ : Ev} (s : St K P0 P σ ρ) (hp : ρ.all plS = true) (l : Le P0 Q) (m : Ex P.M Q.M) : St K P0 Q σ ρ := by
  have pl : ∀ (i : Nat) x, ρ[i]? = some x → plS x = true := fun i x h => List.all_eq_true.mp hp x (List.mem_of_getElem? h)
  refine ⟨l, s.len, fun i x h => ?_, fun i j p d e ne h1 h2 h3 h4 => ?_, fun i d p h1 h2 => ?_, fun i j p ks ls ne h1 h2 h3 h4 => ?_, fun i ks p h1 h2 => ?_⟩
  · obtain ⟨u, g1, g2⟩ := s.ok i x h
    refine ⟨u, g1, ?_⟩
    have := pl i x h
    cases g2 with
    | no => exact .no
    | val r => exact .val (r.ext m)
    | exn => exact .exn
    | own r => cases this
    | ods a b c => cases this
    | lck a b c => cases this
  · have := pl i _ h1
    cases this
  · have := pl i _ h1
    cases this
  · have := pl i _ h1
    cases this
  · have := pl i _ h1
    cases this
/-- one more is gathered where its key stands -/
theorem GAt.hit {P0 P : Pr T} {p : Addr} {kvs : List (List Key × V)} {G : List (List Key × List PyData)} (g : GAt K P0 P p kvs G) (l : Le P0 P) {ks : List Key} {v w : V} {d : PyData} (hv : valV kvs ks = some v) (r : Rp K P.M w d) :
    ∃ q xs Q, v = V.ref q ∧ P.H q = some (.lst xs) ∧ (∃ ds, (ks, ds) ∈ G ∧ xs.length = ds.length) ∧ Q.M = P.M ∧ Q.H = upd P.H q (.lst (xs ++ [w])) ∧ Le P0 Q ∧ GAt K P0 (T := T) Q p kvs (addG G ks d) := by
  obtain ⟨q, xs, as, bs, As, Bs, ds, rfl, rfl, rfl, e4, e5, e6, e7, e8⟩ := dl_hit g.each hv
  obtain ⟨Q, hM, hH⟩ := P.mut1 (o' := .lst (xs ++ [w])) e6 e7 (fun _ z => nomatch z) (fun _ _ z => by unfold LamX.CodeO at z; cases z)
  have lq : Loose P0.H q := g.los (ks, V.ref q) (List.mem_append_right _ List.mem_cons_self) q rfl
  have npq : p ≠ q := fun z => by
    have := g.h
    rw [z, e7] at this
    cases this
  have nk := g.nk
  have nv := g.nv
  rw [List.map_append, List.map_cons, List.nodup_append] at nk nv
  have ka : ks ∉ as.map (·.1) := fun z => nk.2.2 ks z ks List.mem_cons_self rfl
  have kb : ks ∉ bs.map (·.1) := (List.nodup_cons.mp nk.2.1).1
  have va : V.ref q ∉ as.map (·.2) := fun z => nv.2.2 _ z _ List.mem_cons_self rfl
  have vb : V.ref q ∉ bs.map (·.2) := (List.nodup_cons.mp nv.2.1).1
  have keep : ∀ {l : List (List Key × V)} {L : List (List Key × List PyData)}, V.ref q ∉ l.map (·.2) → PySem.W.EachIs (DL K P) l L → PySem.W.EachIs (DL K Q) l L := fun {l L} hn h => each_imp h fun a ha b hb => by
    obtain ⟨h1, q', xs', h2, h3, h4, h5⟩ := hb
    have ne : q' ≠ q := fun z => hn (List.mem_map.mpr ⟨a, ha, by rw [h2, z]⟩)
    exact ⟨h1, q', xs', h2, by rw [hM]; exact h3, by rw [hH, upd_ne ne]; exact h4, by rw [hM]; exact h5⟩
  refine ⟨q, xs, Q, rfl, e7, ⟨ds, List.mem_append_right _ List.mem_cons_self, e8.length⟩, hM, hH, le_mut1 l lq hM hH, ⟨by rw [hM]; exact g.m, by rw [hH, upd_ne npq]; exact g.h, ?_, g.nk, g.nv, g.lo, g.los⟩⟩
  rw [add_hit (by rw [← dl_keys e4]; exact ka) (by rw [← dl_keys e5]; exact kb)]
  exact each_app (keep va e4) (.cons ⟨rfl, q, _, rfl, by rw [hM]; exact e6, by rw [hH]; exact upd_same, by rw [hM]; exact RpAll.append e8 (.cons r .nil)⟩ (keep vb e5))
theorem GAt.fresh {P0 P : Pr T} {p : Addr} {kvs : List (List Key × V)} {G : List (List Key × List PyData)} (g : GAt K P0 P p kvs G) (l : Le P0 P) {ks : List Key} (hv : valV kvs ks = none) {q : Addr} (hq : P.H q = none) :
    ∃ Q : Pr T, Q.M = P.M ∧ Q.H = upd (upd P.H q (.lst [])) p (.dT (kvs ++ [(ks, V.ref q)])) ∧ Le P0 Q ∧ (upd P.H q (.lst [])) p = some (.dT kvs) ∧ Q.H q = some (.lst []) ∧ Q.M q = none ∧ GAt K P0 Q p kvs G = GAt K P0 Q p kvs G ∧
      (∀ e ∈ kvs, e.2 ≠ V.ref q) ∧ PySem.W.EachIs (DL K Q) kvs G ∧ Loose P0.H q ∧ p ≠ q := by
  have npq : p ≠ q := fun z => by
    have := g.h
    rw [z, hq] at this
    cases this
  have mq := P.none hq
  have lq : Loose P0.H q := fun o ho => by
    by_cases t : ∃ ps, o = HO.tbl ps
    · exact t
    · have := l.h q o ho fun ps z => t ⟨ps, z⟩
      rw [hq] at this
      cases this
  have hp1 : (P.hid q (.lst []) hq).H p = some (.dT kvs) := by
    show upd P.H q _ p = _
    rw [upd_ne npq]
    exact g.h
  obtain ⟨Q, hM, hH⟩ := (P.hid q (.lst []) hq).mut1 (o' := .dT (kvs ++ [(ks, V.ref q)])) g.m hp1 (fun _ z => nomatch z) (fun _ _ z => by unfold LamX.CodeO at z; cases z)
  have nv : ∀ e ∈ kvs, e.2 ≠ V.ref q := fun e he z => by
    obtain ⟨b, _, _, q', xs, h2, _, h4, _⟩ := g.each.left e he
    rw [h2] at z
    cases z
    rw [hq] at h4
    cases h4
  refine ⟨Q, hM, hH, le_mut1 (l.trans (le_hid P hq)) g.lo hM hH, hp1, ?_, by rw [hM]; exact mq, rfl, nv, each_imp g.each fun a ha b hb => ?_, lq, npq⟩
  · rw [hH, upd_ne (Ne.symm npq)]
    exact upd_same
  · obtain ⟨h1, q', xs', h2, h3, h4, h5⟩ := hb
    have n1 : q' ≠ q := fun z => nv a ha (by rw [h2, z])
    have n2 : q' ≠ p := fun z => by
      rw [z, g.h] at h4
      cases h4
    refine ⟨h1, q', xs', h2, by rw [hM]; exact h3, ?_, by rw [hM]; exact h5⟩
    rw [hH, upd_ne n2]
    show upd P.H q _ q' = _
    rw [upd_ne n1]
    exact h4
/-- one more is gathered under a new key -/
theorem GAt.more {P0 P : Pr T} {p : Addr} {kvs : List (List Key × V)} {G : List (List Key × List PyData)} (g : GAt K P0 P p kvs G) (l : Le P0 P) {ks : List Key} (hv : valV kvs ks = none) {q : Addr} (hq : P.H q = none) {w : V} {d : PyData} (r : Rp K P.M w d) :
    ∃ Q : Pr T, Q.M = P.M ∧ Q.H = upd (upd (upd P.H q (.lst [])) p (.dT (kvs ++ [(ks, V.ref q)]))) q (.lst ([] ++ [w])) ∧ (upd P.H q (.lst [])) p = some (.dT kvs) ∧ (upd (upd P.H q (.lst [])) p (.dT (kvs ++ [(ks, V.ref q)]))) q = some (.lst []) ∧ Le P0 Q ∧ GAt K P0 Q p (kvs ++ [(ks, V.ref q)]) (addG G ks d) := by
  obtain ⟨Q1, hM, hH, l1, hp1, hq1, mq1, _, nv, ea, lq, npq⟩ := g.fresh l (ks := ks) hv hq
  obtain ⟨Q, hM2, hH2⟩ := Q1.mut1 (o' := .lst ([] ++ [w])) mq1 hq1 (fun _ z => nomatch z) (fun _ _ z => by unfold LamX.CodeO at z; cases z)
  have kn := val_none hv
  refine ⟨Q, hM2.trans hM, by rw [hH2, hH], hp1, by rw [← hH]; exact hq1, le_mut1 l1 lq hM2 hH2, ⟨by rw [hM2, hM]; exact g.m, ?_, ?_, ?_, ?_, g.lo, fun e he q' hq' => ?_⟩⟩
  · rw [hH2, upd_ne npq, hH]
    exact upd_same
  · rw [add_new (by rw [← dl_keys g.each]; exact kn)]
    refine each_app (each_imp ea fun a ha b hb => ?_) (.cons ⟨rfl, q, _, rfl, by rw [hM2]; exact mq1, by rw [hH2]; exact upd_same, .cons (by rw [hM2, hM]; exact r) .nil⟩ .nil)
    obtain ⟨h1, q', xs', h2, h3, h4, h5⟩ := hb
    have n1 : q' ≠ q := fun z => nv a ha (by rw [h2, z])
    exact ⟨h1, q', xs', h2, by rw [hM2]; exact h3, by rw [hH2, upd_ne n1]; exact h4, by rw [hM2]; exact h5⟩
  · rw [List.map_append, List.nodup_append]
    exact ⟨g.nk, by simp, fun a ha b hb e => kn (by
      have e : a = ks := e.trans (List.mem_singleton.mp hb)
      rw [e] at ha
      exact ha)⟩
  · rw [List.map_append, List.nodup_append]
    refine ⟨g.nv, by simp, fun a ha b hb e => ?_⟩
    obtain ⟨x, hx, rfl⟩ := List.mem_map.mp ha
    rw [List.mem_singleton.mp hb] at e
    exact nv x hx e
  · rcases List.mem_append.mp he with h | h
    · exact g.los e h q' hq'
    · rw [List.mem_singleton.mp h] at hq'
      cases hq'
      exact lq
open Classical in
/-- what was gathered is data, the dict known from now on -/
theorem GAt.done {P0 P : Pr T} {p : Addr} {kvs : List (List Key × V)} {G : List (List Key × List PyData)} (g : GAt K P0 P p kvs G) (l : Le P0 P) (od : Obj) : ∃ Q : Pr T, Q.H = upd P.H p (.frz od (.dT kvs)) ∧ Le P0 Q ∧ Ex P.M Q.M ∧ Rp K Q.M (V.ref p) (dG G) := by
  let inn : Addr → Prop := fun a => ∃ e ∈ kvs, e.2 = V.ref a
  have plain : ∀ a, inn a → P.M a = none ∧ (∃ o, P.H a = some o ∧ Plain o) ∧ Loose P0.H a ∧ a ≠ p := fun a ha => by
    obtain ⟨e, he, h2⟩ := ha
    obtain ⟨b, _, _, q, xs, e2, e3, e4, _⟩ := g.each.left e he
    rw [e2] at h2
    cases h2
    refine ⟨e3, ⟨_, e4, fun _ z => nomatch z⟩, g.los e he a e2, fun z => ?_⟩
    rw [z, g.h] at e4
    cases e4
  let M' : Hp := fun a => if a = p then some (.frz od (.dT kvs)) else if inn a then P.H a else P.M a
  have em : Ex P.M M' := fun b u e q => by
    have n1 : b ≠ p := fun z => by rw [z, g.m] at e; cases e
    have n2 : ¬ inn b := fun z => by rw [(plain b z).1] at e; cases e
    show (if b = p then _ else if inn b then P.H b else P.M b) = some u
    rw [if_neg n1, if_neg n2]
    exact e
  have at' : ∀ a o, inn a → P.H a = some o → M' a = some o := fun a o ha ho => by
    show (if a = p then _ else if inn a then P.H a else P.M a) = some o
    rw [if_neg (plain a ha).2.2.2, if_pos ha]
    exact ho
  have atp : M' p = some (.frz od (.dT kvs)) := if_pos rfl
  refine ⟨⟨M', upd P.H p (.frz od (.dT kvs)), fun b u e q => ?_, tabs_mut P.tab g.h (fun _ z => nomatch z) (fun _ _ z => by unfold LamX.CodeO at z; cases z), fun a ps z => ?_⟩, rfl, ⟨l.m.trans em, fun b u e q => ?_, fun a h1 h2 => ?_⟩, em, ?_⟩
  · by_cases hb : b = p
    · subst hb
      rw [atp] at e
      cases e
      exact upd_same
    · have e : (if b = p then some (HO.frz od (.dT kvs)) else if inn b then P.H b else P.M b) = some u := e
      rw [if_neg hb] at e
      rw [upd_ne hb]
      split at e
      · exact e
      · exact P.sub b u e q
  · by_cases hb : a = p
    · subst hb
      rw [atp] at z
      cases z
    · have z : (if a = p then some (HO.frz od (.dT kvs)) else if inn a then P.H a else P.M a) = some (.tbl ps) := z
      rw [if_neg hb] at z
      split at z
      · rename_i ha
        obtain ⟨_, ⟨o, ho, n⟩, _⟩ := plain a ha
        rw [ho] at z
        cases z
        exact n ps rfl
      · exact P.nt a ps z
  · have ne : b ≠ p := fun z => by
      rw [z] at e
      obtain ⟨ps, w⟩ := g.lo u e
      exact q ps w
    show upd P.H p _ b = some u
    rw [upd_ne ne]
    exact l.h b u e q
  · by_cases hb : a = p
    · rw [hb]
      exact .inl g.lo
    · have h2 : (if a = p then some (HO.frz od (.dT kvs)) else if inn a then P.H a else P.M a) ≠ none := h2
      rw [if_neg hb] at h2
      split at h2
      · rename_i ha
        exact .inl (plain a ha).2.2.1
      · exact l.f a h1 h2
  · have hv : ∀ {l : List (List Key × V)} {L : List (List Key × List PyData)}, (∀ e ∈ l, e ∈ kvs) → PySem.W.EachIs (DL K P) l L → l.map (fun e => PyData.tuple (e.1.map keyD)) = (L.map fun e => ((PyData.tuple (e.1.map keyD), PyData.list e.2) : PyData × PyData)).map (·.1) ∧ RpAll K M' (l.map (·.2)) ((L.map fun e => ((PyData.tuple (e.1.map keyD), PyData.list e.2) : PyData × PyData)).map (·.2)) := by
      intro l L sub h
      induction h with
      | nil => exact ⟨rfl, .nil⟩
      | @cons a b as bs h t ih =>
        obtain ⟨i1, i2⟩ := ih fun e he => sub e (List.mem_cons_of_mem _ he)
        obtain ⟨h1, q, xs, h2, h3, h4, h5⟩ := h
        refine ⟨?_, ?_⟩
        · rw [List.map_cons, List.map_cons, List.map_cons, i1, h1]
        · rw [List.map_cons, List.map_cons, List.map_cons]
          refine .cons ?_ i2
          show Rp K M' a.2 (.list b.2)
          rw [h2]
          exact .lst (SqL.of (at' q _ ⟨a, sub a List.mem_cons_self, h2⟩ h4)) (h5.ext em)
    obtain ⟨k1, k2⟩ := hv (fun e he => he) g.each
    exact .dcT atp k1 k2
end
end PM
namespace PM
open PySem PySem.Spec PyProof.Rows L2 LB
section
variable {T : Tb} {K : PySem.W.Frag} {X : Cx} {e : Expr} {st : Stmt} {R : ER}
end
end PM
namespace PM
open PySem PySem.Spec PyProof.Rows L2 LB
section
variable {T : Tb} {K : PySem.W.Frag} {X : Cx} {e : Expr} {st : Stmt} {R : ER}
/-! ### d[k], list(d) of a datum whose keys are tuples -/
/-! ### min(list), max(list) of data -/
/-! ### x in a list of data -/
/-! ### the truth of a list -/
end
end PM
namespace PM
open PySem PySem.Spec PyProof.Rows L2 LB
section
variable {T : Tb} {K : PySem.W.Frag} {X : Cx} {e : Expr} {st : Stmt} {R : ER}
/-! ### min(xs, key=len), max(xs, key=len) -/
def longer (y a : PyData) : Bool := decide (tlen a < tlen y)
end
end PM
namespace PM
open PySem PySem.Spec PyProof.Rows L2 LB
section
variable {X : Cx} {pins : List (Addr × Obj)} {σ : L2.St} {H : Hp} {s : Shared} {a b : Addr} {r : Value} {d : V} {k : List Key} {A : Around} {E : Value → Shared → Prop}
end
section
variable {X : Cx} {o e f : Expr} {td ty tx : TE} {apos cpos : Pos}
end
end PM
namespace PM
open PySem PySem.Spec PyProof.Rows L2 LB
section
variable {T : Tb} {K : PySem.W.Frag} {X : Cx} {e : Expr} {st : Stmt} {R : ER}
/-! ### a dict of lists, gathered by d.setdefault(k, []).append(c) -/
/-! ### iteration over a datum dict whose keys are tuples -/
/-! ### max(list) of data -/
end
end PM
namespace PM
open PySem PySem.Spec PyProof.Rows L2 LB
section
variable {X : Cx}
/-! ### xs.insert(i, x), the place within the list -/
end
end PM
namespace PM
open PySem PySem.Spec PyProof.Rows L2 LB
section
variable {T : Tb} {K : PySem.W.Frag} {X : Cx} {e : Expr} {st : Stmt} {R : ER}
end
end PM
namespace PM
open PySem PySem.Spec PyProof.Rows L2 LB
section
variable {T : Tb} {K : PySem.W.Frag} {X : Cx} {e : Expr}
/-! ### range(i, j, c) -/
end
end PM
namespace PM
open PySem PySem.Spec PyProof.Rows L2 LB
section
variable {T : Tb} {K : PySem.W.Frag} {X : Cx} {e : Expr} {st : Stmt} {sts : List Stmt} {R : ER}
/-! ### a def that may refuse, and gives a new list -/
end
end PM
namespace PM
open PySem PySem.Spec PyProof.Rows L2 LB
section
variable {T : Tb} {K : PySem.W.Frag} {X : Cx} {e : Expr} {st : Stmt} {sts : List Stmt} {R : ER}
/-! ### a tuple of two new lists -/
structure Two (K : PySem.W.Frag) (P : Pr T) (p q1 q2 : Addr) (a b : List PyData) : Prop where
  tp : P.H p = some (.tup [.ref q1, .ref q2])
  ne : q1 ≠ q2
  m1 : P.M q1 = none
  m2 : P.M q2 = none
  l1 : ∃ xs, P.H q1 = some (.lst xs) ∧ RpAll K P.M xs a
  l2 : ∃ ys, P.H q2 = some (.lst ys) ∧ RpAll K P.M ys b
variable {P0 P P' : Pr T} {p q1 q2 : Addr} {a b : List PyData} {σ : L2.St} {ρ : Ev}
/-! ### a def that gives such a tuple -/
abbrev M2 := Ev → Option (List PyData × List PyData)
/-! ### such a tuple is held: read as a datum, then changed -/
def plE (ρ : Ev) : Bool := ρ.all fun s => match s with
  | .no => true
  | .val _ => true
  | _ => false
structure Hold (K : PySem.W.Frag) (P0 P : Pr T) (σ : L2.St) (ρ : Ev) (i : Nat) (p q1 q2 : Addr) (a b : List PyData) : Prop where
  s : St K P0 P σ ρ
  pl : plE ρ = true
  si : σ[i]? = some (some (.ref p))
  ri : ρ[i]? = some .no
  two : Two K P p q1 q2 a b
  l1 : Loose P0.H q1
  l2 : Loose P0.H q2
end
end PM
namespace PM
open PySem PySem.Spec PyProof.Rows L2 LB
section
variable {X : Cx} {pins : List (Addr × Obj)} {σ : L2.St} {H : Hp} {s : Shared} {a : Addr} {o : HO}
/-! ### an error that is stored: its object is tracked from the suite on -/
end
section
variable {X : Cx} {x n : Str} {c : Value} {i : Nat} {body suite : List Stmt} {b₀ : Stmt} {np pos pos' : Pos} {tb : WX → TS} {ts : Addr → TS}
end
end PM
namespace PM
open PySem PySem.Spec PyProof.Rows L2 LB
section
variable {T : Tb} {K : PySem.W.Frag} {X : Cx} {e : Expr} {st : Stmt} {sts : List Stmt} {R : ER}
/-! ### a def that is handed a stored error, and a number -/
/-! ### r = None; try: .. except C as e: r = e; return r is not None and f(r, k) -/
end
end PM
namespace PM
open PySem PySem.Spec PyProof.Rows L2 LB
section
variable {T : Tb} {K : PySem.W.Frag} {X : Cx} {e : Expr}
/-! ### xs[::k], k not 0 -/
/-! ### x.upper() -/
end
end PM
namespace PM
open PySem PySem.Spec PyProof.Rows L2 LB
section
variable {T : Tb} {K : PySem.W.Frag} {X : Cx} {e : Expr} {st : Stmt} {R : ER}
/-! ### xs[k] = v on an own list, k of any sign -/
/-! ### a, b = a list -/
end
end PM
namespace PM
open PySem PySem.Spec PyProof.Rows L2 LB
section
variable {T : Tb} {K : PySem.W.Frag} {X : Cx} {e : Expr} {st : Stmt} {R : ER}
/-! ### {k: v for .. in .. if ..}, the keys texts -/
end
end PM
/-! ### list(d.items()), the keys of d tuples -/
namespace LiT
open PySem PySem.Spec PyProof.Rows L2
section
variable {prog : Program} {w : World} {A : Around} {E : Value → Shared → Prop} {s : Shared} {es : Array DictEntry} {ep : Nat} {r d : Addr}
end
section
variable {X : Cx} {e : Expr} {te : TE} {p apos cpos pos : Pos}
end
end LiT
namespace PM
open PySem PySem.Spec PyProof.Rows L2 LB
section
variable {T : Tb} {K : PySem.W.Frag} {X : Cx} {e : Expr} {st : Stmt} {R : ER}
/-! ### list(d.items()) of an own dict with tuple keys: a new list of one's own -/
end
end PM
namespace PM
open PySem PySem.Spec PyProof.Rows L2 LB
section
variable {T : Tb} {K : PySem.W.Frag} {X : Cx} {e : Expr} {st : Stmt} {R : ER}
/-! ### a call within an expression that raises: the reading that asks for the error alone -/
/-! ### a loop that may end the def -/
theorem r_forR {mi : MA} {gm : MG} {mb rest : MS} {ρ : Ev} {Post : Out → Prop} {ds : List PyData} (I : Nat → Ev → Prop) (hi : mi ρ = some ds) (h0 : I 0 ρ)
    (hs : ∀ i d ρ, ds[i]? = some d → I i ρ → ∃ ρ1, gm d ρ = some ρ1 ∧ Run mb ρ1 fun q => (∃ ρ2, q = .nx ρ2 ∧ I (i + 1) ρ2) ∨ ∃ v, q = .rt v ∧ Post (.rt v)) (he : ∀ ρ', I ds.length ρ' → Run rest ρ' Post) : Run (mSeq (mFor mi gm mb) rest) ρ Post := by
  have go : ∀ (l : List PyData) (k : Nat) (ρ : Ev), I k ρ → (∀ i d ρ, l[i]? = some d → I (k + i) ρ → ∃ ρ1, gm d ρ = some ρ1 ∧ Run mb ρ1 fun q => (∃ ρ2, q = .nx ρ2 ∧ I (k + i + 1) ρ2) ∨ ∃ v, q = .rt v ∧ Post (.rt v)) →
      (∃ ρ', forGo gm mb l ρ = some (.nx ρ') ∧ I (k + l.length) ρ') ∨ ∃ v, forGo gm mb l ρ = some (.rt v) ∧ Post (.rt v) := by
    intro l
    induction l with
    | nil => exact fun k ρ h _ => .inl ⟨ρ, rfl, h⟩
    | cons d l ih =>
      intro k ρ h hst
      obtain ⟨ρ1, g1, q, g2, g3⟩ := hst 0 d ρ rfl h
      rcases g3 with ⟨ρ2, rfl, h2⟩ | ⟨v, rfl, h2⟩
      · have e : forGo gm mb (d :: l) ρ = forGo gm mb l ρ2 := by
          show (gm d ρ).bind _ = _
          rw [g1]
          show (mb ρ1).bind _ = _
          rw [g2]
          rfl
        rw [e]
        rcases ih (k + 1) ρ2 h2 (fun i d' ρ' hd hI => by
          have e1 : k + 1 + i = k + (i + 1) := by omega
          rw [e1] at hI
          have := hst (i + 1) d' ρ' hd hI
          rw [e1]
          exact this) with ⟨ρ', a1, a2⟩ | r
        · exact .inl ⟨ρ', a1, by rw [List.length_cons, show k + (l.length + 1) = k + 1 + l.length by omega]; exact a2⟩
        · exact .inr r
      · refine .inr ⟨v, ?_, h2⟩
        show (gm d ρ).bind _ = _
        rw [g1]
        show (mb ρ1).bind _ = _
        rw [g2]
        rfl
  have ef : mFor mi gm mb ρ = forGo gm mb ds ρ := by
    unfold mFor
    rw [hi]
    rfl
  rcases go ds 0 ρ h0 (fun i d ρ hd hI => by
    rw [Nat.zero_add] at hI ⊢
    exact hs i d ρ hd hI) with ⟨ρ', a1, a2⟩ | ⟨v, a1, a2⟩
  · rw [Nat.zero_add] at a2
    exact r_seq (by rw [ef]; exact a1) (he ρ' a2)
  · exact ⟨.rt v, x_ret (by rw [ef]; exact a1), a2⟩
end
end PM
namespace DZ
open PySem PySem.Spec PyProof.Rows L2 LB
open Sem (wp)
/-! ### dict(zip(a, b)), a and b lists or tuples in any mix -/
section
variable {prog : Program} {w : World} {A : Around} {E : Value → Shared → Prop} {s : Shared} {z TI TO i1 i2 T : Addr} {fp1 fp2 : List Addr} {n1 n2 i : Nat} {P1 P2 : Nat → Value → Prop} {St1 St2 : Nat → Heap → Prop}
end
section
variable {prog : Program} {w : World} {z TI TO i1 i2 : Addr} {fp1 fp2 : List Addr} {n1 n2 : Nat} {P1 P2 : Nat → Value → Prop} {St1 St2 : Nat → Heap → Prop}
end
end DZ
namespace DZ
open PySem PySem.Spec PyProof.Rows L2 LB
section
variable {prog : Program} {w : World}
/-- what zip reads of a list or a tuple -/
structure Src (h : Heap) (a : Addr) (us : List Value) where
  o : Obj
  Hs : Heap → Prop
  St : Addr → Nat → Heap → Prop
  beg : Begins (.ref a) o Hs
  now : Hs h
  lt : a < h.objs.size
  dr : ∀ (it : Addr) (A : Around), A.handled = none → a ≠ it → Draws prog w A it [it, a] us.length (fun i v => us[i]? = some v) (St it)
  st : ∀ it h', h'.get? it = some o → Hs h' → St it 0 h'
  kp : ∀ h', (∀ b o', h.get? b = some o' → h'.get? b = some o') → Hs h'
  fr : ∀ it i h h', St it i h → (∀ b ∈ [it, a], ∀ o', h.get? b = some o' → h'.get? b = some o') → St it i h'
  th : ∀ it h, St it 0 h → ∀ b ∈ [it, a], ∃ o', h.get? b = some o'
end
end DZ
namespace PM
open PySem PySem.Spec PyProof.Rows L2 LB
section
variable {T : Tb} {K : PySem.W.Frag} {X : Cx} {e : Expr} {st : Stmt} {R : ER}
def lsO : PyData → Option (List PyData)
  | .list ds => some ds
  | .tuple ds => some ds
  | _ => none
/-! ### iteration over a datum dict whose keys are texts -/
end
end PM
namespace PM
open PySem PySem.Spec PyProof.Rows L2 LB
section
variable {T : Tb} {K : PySem.W.Frag} {X : Cx} {e : Expr} {st : Stmt} {R : ER}
/-! ### k in d, k not in d: d an own dict of texts, or a datum -/
/-! ### a test that reads an own list as a datum; it stays one's own -/
end
end PM
namespace PM
open PySem PySem.Spec PyProof.Rows L2 LB
/-! ### dicts of dicts of one's own: rows of names, each with a row of names and whole numbers -/
abbrev DDt := List (Str × List (Str × Int))
def iK (l : List (Str × Int)) : List (Key × V) := l.map fun e => (.inr e.1, .int e.2)
def oK (dd : DDt) (qs : List Addr) : List (Key × V) := (dd.zip qs).map fun e => (.inr e.1.1, .ref e.2)
def iD (l : List (Str × Int)) : PyData := .dict (l.map fun e => (.str e.1, .int e.2))
def ddD (dd : DDt) : PyData := .dict (dd.map fun f => (.str f.1, iD f.2))
/-! locking several things at once, as long as an expression or a test is read -/
open Classical in
noncomputable def lkF (H : Hp) (L : List Addr) (od : Addr → Obj) : Hp := fun a => if a ∈ L then (H a).map (HO.frz (od a)) else H a
theorem lkF_in {H : Hp} {L : List Addr} {od : Addr → Obj} {a : Addr} (h : a ∈ L) {u : HO} (e : H a = some u) : lkF H L od a = some (.frz (od a) u) := by
  unfold lkF
  rw [if_pos h, e]
  rfl
theorem lkF_out {H : Hp} {L : List Addr} {od : Addr → Obj} {a : Addr} (h : a ∉ L) : lkF H L od a = H a := by
  unfold lkF
  rw [if_neg h]
section
variable {X : Cx} {pins : List (Addr × Obj)} {σ : L2.St} {H : Hp} {s : Shared}
end
section
variable {X : Cx} {e : Expr} {st : Stmt}
end
section
variable {T : Tb} {K : PySem.W.Frag} {X : Cx} {e : Expr} {st : Stmt} {R : ER}
structure Odd (P0 P : Pr T) (p : Addr) (dd : DDt) (qs : List Addr) : Prop where
  len : qs.length = dd.length
  nd : (p :: qs).Nodup
  m : ∀ c ∈ p :: qs, P.M c = none
  lo : ∀ c ∈ p :: qs, Loose P0.H c
  h : P.H p = some (.dK (oK dd qs))
  hi : ∀ (j : Nat) f q, dd[j]? = some f → qs[j]? = some q → P.H q = some (.dK (iK f.2))
theorem Odd.cell {P0 P : Pr T} {p : Addr} {dd : DDt} {qs : List Addr} (o : Odd P0 P p dd qs) : ∀ c ∈ p :: qs, ∃ kvs, P.H c = some (.dK kvs) := fun c hc => by
  rcases List.mem_cons.mp hc with rfl | hc
  · exact ⟨_, o.h⟩
  · obtain ⟨j, hj, ej⟩ := List.mem_iff_getElem.mp hc
    have hl : j < dd.length := by rw [← o.len]; exact hj
    exact ⟨_, o.hi j dd[j] c (List.getElem?_eq_getElem hl) (by rw [List.getElem?_eq_getElem hj, ej])⟩
theorem Odd.up {P0 P P' : Pr T} {p : Addr} {dd : DDt} {qs : List Addr} (l : Le P P') (o : Odd P0 P p dd qs) : Odd P0 P' p dd qs := by
  refine ⟨o.len, o.nd, fun c hc => ?_, o.lo, l.h _ _ o.h (fun _ z => nomatch z), fun j f q hj hq => l.h _ _ (o.hi j f q hj hq) fun _ z => nomatch z⟩
  obtain ⟨kvs, e⟩ := o.cell c hc
  exact own_none l (o.m c hc) e (fun _ z => nomatch z) fun _ z => nomatch z
structure StD (K : PySem.W.Frag) (P0 P : Pr T) (σ : L2.St) (ρ : Ev) (i : Nat) (p : Addr) (dd : DDt) : Prop where
  st : St K P0 P σ ρ
  flat : ∀ (j : Nat) s, ρ[j]? = some s → s = .no ∨ ∃ d, s = .val d
  no : ρ[i]? = some .no
  ref : σ[i]? = some (some (.ref p))
  ob : ∃ qs, Odd P0 P p dd qs
theorem StD.up {P0 P P' : Pr T} {σ : L2.St} {ρ : Ev} {i : Nat} {p : Addr} {dd : DDt} (s : StD K P0 P σ ρ i p dd) (l : Le P P') : StD K P0 P' σ ρ i p dd := ⟨s.st.up l, s.flat, s.no, s.ref, let ⟨qs, h2⟩ := s.ob; ⟨qs, h2.up l⟩⟩
theorem flat_set {ρ : Ev} (h : ∀ (j : Nat) s, ρ[j]? = some s → s = .no ∨ ∃ d, s = .val d) (i : Nat) (d : PyData) : ∀ (j : Nat) s, (ρ.set i (.val d))[j]? = some s → s = .no ∨ ∃ d, s = .val d := fun j s hs => by
  rcases getset hs with ⟨_, rfl, _⟩ | ⟨_, h2⟩
  · exact .inr ⟨_, rfl⟩
  · exact h j s h2
theorem StD.set {P0 P : Pr T} {σ : L2.St} {ρ : Ev} {i : Nat} {p : Addr} {dd : DDt} (s : StD K P0 P σ ρ i p dd) {v : V} {d : PyData} (r : Rp K P.M v d) {j : Nat} (ne : j ≠ i) : StD K P0 P (σ.set j (some v)) (ρ.set j (.val d)) i p dd :=
  ⟨s.st.set r j, flat_set s.flat j d, by rw [List.getElem?_set_ne ne]; exact s.no, by rw [List.getElem?_set_ne ne]; exact s.ref, s.ob⟩
theorem tabs_agree {H H' : Hp} {L : List Addr} (t : LamX.Tabs T H) (hL : ∀ a ∈ L, ∃ o, H a = some o ∧ Plain o ∧ ∀ c q, o ≠ LamX.CodeO c q) (h : ∀ a, a ∉ L → H' a = H a) : LamX.Tabs T H' := fun q hq => by
  obtain ⟨ps, h1, h2, h3⟩ := t q hq
  have n1 : q.1 ∉ L := fun z => by
    obtain ⟨o, e, pl, _⟩ := hL _ z
    rw [h1] at e
    exact pl ps (Option.some.inj e).symm
  refine ⟨ps, by rw [h _ n1]; exact h1, h2, fun pos cv hc => ?_⟩
  obtain ⟨c, e1, e2⟩ := h3 pos cv hc
  have n2 : c ∉ L := fun z => by
    obtain ⟨o, e, _, nc⟩ := hL _ z
    rw [e2] at e
    exact nc _ _ (Option.some.inj e).symm
  exact ⟨c, e1, by rw [h _ n2]; exact e2⟩
theorem dK_plain {kvs : List (Key × V)} : Plain (.dK kvs) ∧ ∀ c q, HO.dK kvs ≠ LamX.CodeO c q := ⟨(fun _ z => nomatch z), fun _ _ z => by unfold LamX.CodeO at z; cases z⟩
open Classical in
/-- the dicts seen as data, while they are locked -/
noncomputable def Pr.lk (P : Pr T) (L : List Addr) (od : Addr → Obj) (hm : ∀ c ∈ L, P.M c = Option.none) (hk : ∀ c ∈ L, ∃ kvs, P.H c = some (.dK kvs)) : Pr T where
  M := fun a => if a ∈ L then lkF P.H L od a else P.M a
  H := lkF P.H L od
  sub := fun b u e n => by
    by_cases z : b ∈ L
    · have e : (if b ∈ L then lkF P.H L od b else P.M b) = some u := e
      rw [if_pos z] at e
      exact e
    · have e : (if b ∈ L then lkF P.H L od b else P.M b) = some u := e
      rw [if_neg z] at e
      rw [lkF_out z]
      exact P.sub b u e n
  tab := tabs_agree P.tab (fun a ha => let ⟨_, e⟩ := hk a ha; ⟨_, e, dK_plain⟩) fun a ha => lkF_out ha
  nt := fun a ps e => by
    by_cases z : a ∈ L
    · have e : (if a ∈ L then lkF P.H L od a else P.M a) = some (.tbl ps) := e
      rw [if_pos z] at e
      obtain ⟨kvs, ek⟩ := hk a z
      rw [lkF_in z ek] at e
      cases e
    · have e : (if a ∈ L then lkF P.H L od a else P.M a) = some (.tbl ps) := e
      rw [if_neg z] at e
      exact P.nt a ps e
theorem lk_M_in {P : Pr T} {L : List Addr} {od : Addr → Obj} {hm : ∀ c ∈ L, P.M c = none} {hk : ∀ c ∈ L, ∃ kvs, P.H c = some (.dK kvs)} {a : Addr} (h : a ∈ L) {kvs : List (Key × V)} (e : P.H a = some (.dK kvs)) : (P.lk L od hm hk).M a = some (.frz (od a) (.dK kvs)) := by
  show (if a ∈ L then lkF P.H L od a else P.M a) = _
  rw [if_pos h, lkF_in h e]
theorem lk_M_out {P : Pr T} {L : List Addr} {od : Addr → Obj} {hm : ∀ c ∈ L, P.M c = none} {hk : ∀ c ∈ L, ∃ kvs, P.H c = some (.dK kvs)} {a : Addr} (h : a ∉ L) : (P.lk L od hm hk).M a = P.M a := by
  show (if a ∈ L then lkF P.H L od a else P.M a) = _
  rw [if_neg h]
theorem lk_ext {P : Pr T} {L : List Addr} {od : Addr → Obj} {hm : ∀ c ∈ L, P.M c = none} {hk : ∀ c ∈ L, ∃ kvs, P.H c = some (.dK kvs)} : Ex P.M (P.lk L od hm hk).M := fun b u e n => by
  rw [lk_M_out fun z => by rw [hm b z] at e; cases e]
  exact e
theorem rp_iD {M : Hp} {q : Addr} {o : Obj} {l : List (Str × Int)} (h : M q = some (.frz o (.dK (iK l)))) : Rp K M (.ref q) (iD l) := by
  refine .dct h ?_ ?_
  · unfold iK
    rw [List.map_map, List.map_map]
    rfl
  · unfold iK
    rw [List.map_map, List.map_map]
    have : ∀ l : List (Str × Int), RpAll K M (l.map ((fun x => x.2) ∘ fun e => ((.inr e.1, .int e.2) : Key × V))) (l.map ((fun x => x.2) ∘ fun e => ((.str e.1, .int e.2) : PyData × PyData))) := by
      intro l
      induction l with
      | nil => exact .nil
      | cons e l ih => exact .cons (.int _) ih
    exact this l
theorem rp_ddD {M : Hp} {p : Addr} {o : Obj} {dd : DDt} {qs : List Addr} (len : qs.length = dd.length) (h : M p = some (.frz o (.dK (oK dd qs)))) (hi : ∀ (j : Nat) f q, dd[j]? = some f → qs[j]? = some q → ∃ o, M q = some (.frz o (.dK (iK f.2)))) : Rp K M (.ref p) (ddD dd) := by
  refine .dct h ?_ ?_
  · unfold oK
    rw [List.map_map, List.map_map]
    have : ∀ (dd : DDt) (qs : List Addr), qs.length = dd.length → (dd.zip qs).map ((fun e => keyD e.1) ∘ fun e => ((.inr e.1.1, .ref e.2) : Key × V)) = dd.map ((fun x => x.1) ∘ fun f => ((.str f.1, iD f.2) : PyData × PyData)) := by
      intro dd
      induction dd with
      | nil => intro qs _; rfl
      | cons f dd ih =>
        intro qs hl
        cases qs with
        | nil => cases hl
        | cons q qs =>
          have := ih qs (Nat.succ.inj hl)
          rw [List.zip_cons_cons, List.map_cons, List.map_cons, this]
          rfl
    exact this dd qs len
  · unfold oK
    rw [List.map_map, List.map_map]
    have : ∀ (dd : DDt) (qs : List Addr), qs.length = dd.length → (∀ (j : Nat) f q, dd[j]? = some f → qs[j]? = some q → ∃ o, M q = some (.frz o (.dK (iK f.2)))) → RpAll K M ((dd.zip qs).map ((fun x => x.2) ∘ fun e => ((.inr e.1.1, .ref e.2) : Key × V))) (dd.map ((fun x => x.2) ∘ fun f => ((.str f.1, iD f.2) : PyData × PyData))) := by
      intro dd
      induction dd with
      | nil => intro qs _ _; exact .nil
      | cons f dd ih =>
        intro qs hl hi
        cases qs with
        | nil => cases hl
        | cons q qs =>
          obtain ⟨o, ho⟩ := hi 0 f q rfl rfl
          exact .cons (rp_iD ho) (ih qs (Nat.succ.inj hl) fun j f q h1 h2 => hi (j + 1) f q h1 h2)
    exact this dd qs len hi
/-- the state with the dicts seen as data -/
theorem StD.view {P0 P : Pr T} {σ : L2.St} {ρ : Ev} {i : Nat} {p : Addr} {dd : DDt} (s : StD K P0 P σ ρ i p dd) : ∃ (L : List Addr) (hm : ∀ c ∈ L, P.M c = none) (hk : ∀ c ∈ L, ∃ kvs, P.H c = some (.dK kvs)), L.Nodup ∧ (∀ c ∈ L, Loose P0.H c) ∧ ∀ od, St K P0 (P.lk L od hm hk) σ (ρ.set i (.val (ddD dd))) := by
  obtain ⟨qs, o⟩ := s.ob
  have hp := s.ref
  refine ⟨p :: qs, o.m, o.cell, o.nd, o.lo, fun od => ?_⟩
  have il : i < ρ.length := (List.getElem?_eq_some_iff.mp s.no).1
  have rr : Rp K (P.lk (p :: qs) od o.m o.cell).M (.ref p) (ddD dd) := by
    refine rp_ddD o.len (lk_M_in List.mem_cons_self o.h) fun j f q h1 h2 => ⟨od q, lk_M_in (List.mem_cons_of_mem _ (List.mem_of_getElem? h2)) (o.hi j f q h1 h2)⟩
  have fl := flat_set s.flat i (ddD dd)
  refine ⟨⟨s.st.le.m.trans lk_ext, fun b u e n => ?_, fun a h1 h2 => ?_⟩, by rw [List.length_set]; exact s.st.len, fun j x hx => ?_, fun j k q d e ne h1 h2 h3 h4 => ?_, fun j d q h1 h2 => ?_, fun j k q d e ne h1 h2 h3 h4 => ?_, fun j d q h1 h2 => ?_⟩
  · have nb : b ∉ p :: qs := fun z => by
      obtain ⟨ps, w⟩ := o.lo b z u e
      exact n ps w
    show lkF P.H (p :: qs) od b = some u
    rw [lkF_out nb]
    exact s.st.le.h b u e n
  · by_cases z : a ∈ p :: qs
    · exact .inl (o.lo a z)
    · rw [lk_M_out z] at h2
      exact s.st.le.f a h1 h2
  · rcases getset hx with ⟨rfl, rfl, _⟩ | ⟨ne, hx⟩
    · exact ⟨_, hp, .val rr⟩
    · obtain ⟨w, g1, g2⟩ := s.st.ok j x hx
      refine ⟨w, g1, ?_⟩
      cases g2 with
      | no => exact .no
      | val r => exact .val (r.ext lk_ext)
      | exn => exact .exn
      | own => rcases s.flat j _ hx with z | ⟨_, z⟩ <;> cases z
      | ods => rcases s.flat j _ hx with z | ⟨_, z⟩ <;> cases z
      | lck => rcases s.flat j _ hx with z | ⟨_, z⟩ <;> cases z
  · rcases fl j _ h1 with z | ⟨_, z⟩ <;> cases z
  · rcases fl j _ h1 with z | ⟨_, z⟩ <;> cases z
  · rcases fl j _ h1 with z | ⟨_, z⟩ <;> cases z
  · rcases fl j _ h1 with z | ⟨_, z⟩ <;> cases z
/-- what is no dict is there without them -/
theorem sq_keep {M M2 : Hp} (h : ∀ a u, M a = some u → (∀ o kvs, u ≠ .frz o (.dK kvs)) → M2 a = some u) {a : Addr} {xs : List V} (q : SqL K M a xs) : SqL K M2 a xs := by
  rcases q with (q | ⟨o, q⟩) | q
  · exact .inl (.inl (h _ _ q fun _ _ z => nomatch z))
  · exact .inl (.inr ⟨o, h _ _ q fun _ _ z => by cases z⟩)
  · exact .inr q
mutual
theorem rp_keep {M M2 : Hp} (h : ∀ a u, M a = some u → (∀ o kvs, u ≠ .frz o (.dK kvs)) → M2 a = some u) : ∀ {v : V} {d : PyData}, ndD d = true → Rp K M v d → Rp K M2 v d
  | _, _, _, .non => .non
  | _, _, _, .bl b => .bl b
  | _, _, _, .int i => .int i
  | _, _, _, .str x => .str x
  | _, _, n, .lst q r => .lst (sq_keep h q) (rps_keep h (by simpa [ndD] using n) r)
  | _, _, n, .tup q r => .tup (h _ _ q fun _ _ z => nomatch z) (rps_keep h (by simpa [ndD] using n) r)
  | _, _, n, .dct _ _ _ => absurd n (by simp [ndD])
  | _, _, n, .dcT _ _ _ => absurd n (by simp [ndD])
theorem rps_keep {M M2 : Hp} (h : ∀ a u, M a = some u → (∀ o kvs, u ≠ .frz o (.dK kvs)) → M2 a = some u) : ∀ {v : List V} {d : List PyData}, ndDs d = true → RpAll K M v d → RpAll K M2 v d
  | _, _, _, .nil => .nil
  | _, _, n, .cons r t => by
    have n : (ndD _ && ndDs _) = true := n
    rw [Bool.and_eq_true] at n
    exact .cons (rp_keep h n.1 r) (rps_keep h n.2 t)
end
/-! readings -/
end
end PM
namespace PM
open PySem PySem.Spec PyProof.Rows L2 LB
section
variable {T : Tb} {K : PySem.W.Frag} {X : Cx} {e : Expr} {st : Stmt} {sts : List Stmt} {R : ER}
/-! ### statements over a dict of dicts of one's own -/
abbrev Flat (ρ : Ev) : Prop := ∀ (j : Nat) s, ρ[j]? = some s → s = .no ∨ ∃ d, s = .val d
theorem st_flat {P0 P : Pr T} {σ : L2.St} {ρ : Ev} (fl : Flat ρ) (le : Le P0 P) (len : σ.length = ρ.length) (ok : ∀ (i : Nat) d, ρ[i]? = some (.val d) → ∃ v, σ[i]? = some (some v) ∧ Rp K P.M v d) : St K P0 P σ ρ := by
  have no : ∀ {j : Nat} {s : Sl}, ρ[j]? = some s → (∀ d, s ≠ .val d) → s ≠ .no → False := fun h1 h2 h3 => by
    rcases fl _ _ h1 with z | ⟨_, z⟩
    · exact h3 z
    · exact h2 _ z
  refine ⟨le, len, fun i s h => ?_, fun i j p d e ne h1 h2 h3 h4 => ?_, fun i d p h1 h2 => ?_, fun i j p ks ls ne h1 h2 h3 h4 => ?_, fun i ks p h1 h2 => ?_⟩
  · rcases fl i s h with rfl | ⟨d, rfl⟩
    · have hi : i < σ.length := by rw [len]; exact (List.getElem?_eq_some_iff.mp h).1
      exact ⟨_, List.getElem?_eq_getElem hi, .no⟩
    · obtain ⟨v, g1, g2⟩ := ok i d h
      exact ⟨_, g1, .val g2⟩
  · exact (no h1 (fun _ z => nomatch z) fun z => nomatch z).elim
  · exact (no h1 (fun _ z => nomatch z) fun z => nomatch z).elim
  · exact (no h1 (fun _ z => nomatch z) fun z => nomatch z).elim
  · exact (no h1 (fun _ z => nomatch z) fun z => nomatch z).elim
theorem St.valsF {P0 P : Pr T} {σ : L2.St} {ρ : Ev} (s : St K P0 P σ ρ) : ∀ (i : Nat) d, ρ[i]? = some (.val d) → ∃ v, σ[i]? = some (some v) ∧ Rp K P.M v d := fun i d h => by
  obtain ⟨o, g1, g2⟩ := s.ok i _ h
  cases g2 with
  | val r => exact ⟨_, g1, r⟩
/-- a cell of the dicts is changed -/
theorem StD.mut {P0 P : Pr T} {σ : L2.St} {ρ : Ev} {i : Nat} {p : Addr} {dd : DDt} (s : StD K P0 P σ ρ i p dd) {qs : List Addr} (o : Odd P0 P p dd qs) {c : Addr} (hc : c ∈ p :: qs) (kvs' : List (Key × V)) : ∃ Q : Pr T, Q.M = P.M ∧ Q.H = upd P.H c (.dK kvs') ∧ St K P0 Q σ ρ := by
  obtain ⟨kvs, hk⟩ := o.cell c hc
  have hM := o.m c hc
  have lo := o.lo c hc
  refine ⟨⟨P.M, upd P.H c (.dK kvs'), fun b u e q => ?_, tabs_mut P.tab hk (fun _ z => nomatch z) (fun _ _ z => by unfold LamX.CodeO at z; cases z), P.nt⟩, rfl, rfl, st_flat s.flat ⟨s.st.le.m, fun b u e q => ?_, s.st.le.f⟩ s.st.len s.st.valsF⟩
  · have ne : b ≠ c := fun z => by rw [z, hM] at e; cases e
    rw [upd_ne ne]
    exact P.sub b u e q
  · have ne : b ≠ c := fun z => by
      rw [z] at e
      obtain ⟨ps, w⟩ := lo u e
      exact q ps w
    show upd P.H c _ b = some u
    rw [upd_ne ne]
    exact s.st.le.h b u e q
open Classical in
theorem StD.rebase {P0 P : Pr T} {σ : L2.St} {ρ : Ev} {i : Nat} {p : Addr} {dd : DDt} (s : StD K P0 P σ ρ i p dd) : ∃ Pb : Pr T, Pb.M = P.M ∧ Le P0 Pb ∧ StD K Pb P σ ρ i p dd := by
  have agree : ∀ {b : Addr} {u o : HO}, P.M b = some u → P0.H b = some o → Plain o → u = o := fun {b u o} h1 h2 n => by
    have e1 := P.sub b u h1 fun ps z => P.nt b ps (by rw [h1, z])
    have e2 := s.st.le.h b o h2 n
    rw [e1] at e2
    exact Option.some.inj e2
  let Pb : Pr T := ⟨P.M, fun a => if P.M a = none then P0.H a else P.M a, fun b u h n => by
    show (if P.M b = none then P0.H b else P.M b) = some u
    rw [if_neg (by rw [h]; exact fun z => nomatch z)]
    exact h, fun q hq => by
    obtain ⟨ps, h1, h2, h3⟩ := P0.tab q hq
    have e : ∀ {a : Addr} {o : HO}, P0.H a = some o → (∀ u, P.M a = some u → u = o) → (if P.M a = none then P0.H a else P.M a) = some o := fun {a o} h hu => by
      cases z : P.M a with
      | none =>
        rw [if_pos rfl]
        exact h
      | some u =>
        rw [if_neg (fun z => nomatch z), hu u z]
    refine ⟨ps, e h1 fun u hu => ?_, h2, fun pos cv hc => ?_⟩
    · obtain ⟨ps', h1', _⟩ := P.tab q hq
      have := P.sub _ u hu fun ps z => P.nt _ ps (by rw [hu, z])
      rw [h1'] at this
      exact absurd hu (by rw [← Option.some.inj this]; exact P.nt _ _)
    · obtain ⟨c, e1, e2⟩ := h3 pos cv hc
      exact ⟨c, e1, e e2 fun u hu => agree hu e2 LamX.codeO_ne⟩, P.nt⟩
  have l1 : Le P0 Pb := ⟨s.st.le.m, fun b o h n => by
    show (if P.M b = none then P0.H b else P.M b) = some o
    cases z : P.M b with
    | none =>
      rw [if_pos rfl]
      exact h
    | some u => rw [if_neg (fun z => nomatch z), agree z h n], s.st.le.f⟩
  have l2 : Le Pb P := ⟨ex_refl _, fun b o h n => by
    have h : (if P.M b = none then P0.H b else P.M b) = some o := h
    cases z : P.M b with
    | none =>
      rw [z, if_pos rfl] at h
      exact s.st.le.h b o h n
    | some u =>
      rw [z, if_neg (fun z => nomatch z)] at h
      cases h
      exact P.sub b o z n, fun a h1 h2 => absurd h1 h2⟩
  refine ⟨Pb, rfl, l1, st_flat s.flat l2 s.st.len s.st.valsF, s.flat, s.no, s.ref, ?_⟩
  obtain ⟨qs, o⟩ := s.ob
  refine ⟨qs, o.len, o.nd, o.m, fun c hc u hu => ?_, o.h, o.hi⟩
  have hu : (if P.M c = none then P0.H c else P.M c) = some u := hu
  rw [if_pos (o.m c hc)] at hu
  exact o.lo c hc u hu
theorem Odd.base {P0 Pb P : Pr T} {p : Addr} {dd : DDt} {qs : List Addr} (l : Le P0 Pb) (o : Odd Pb P p dd qs) : Odd P0 P p dd qs := ⟨o.len, o.nd, o.m, fun c hc => loose_back l.h (o.lo c hc), o.h, o.hi⟩
theorem StD.base {P0 Pb P : Pr T} {σ : L2.St} {ρ : Ev} {i : Nat} {p : Addr} {dd : DDt} (l : Le P0 Pb) (s : StD K Pb P σ ρ i p dd) : StD K P0 P σ ρ i p dd := ⟨s.st.base l, s.flat, s.no, s.ref, let ⟨qs, o⟩ := s.ob; ⟨qs, o.base l⟩⟩
inductive OutD where
  | nx (ρ : Ev) (dd : DDt) | rd (dd : DDt)
def EndD (K : PySem.W.Frag) (P0 : Pr T) (D : Ends) (i : Nat) (p : Addr) : OutD → Prop
  | .nx ρ dd => ∀ (P : Pr T) σ, StD K P0 P σ ρ i p dd → D.nx σ P.H
  | .rd dd => ∀ (P : Pr T) qs, Le P0 P → Odd P0 P p dd qs → D.rt (.ref p) P.H
theorem EndD.base {P0 Pb : Pr T} {D : Ends} {i : Nat} {p : Addr} {o : OutD} (l : Le P0 Pb) (h : EndD K P0 D i p o) : EndD K Pb D i p o := by
  cases o with
  | nx ρ dd => exact fun P σ s => h P σ (s.base l)
  | rd dd => exact fun P qs l' o => h P qs (l.trans l') (o.base l)
/-! ### the dicts are changed -/
theorem oK_set {dd : DDt} {qs : List Addr} {j : Nat} {x : Str} {l l' : List (Str × Int)} (h : dd[j]? = some (x, l)) : oK (dd.set j (x, l')) qs = oK dd qs := by
  refine List.ext_getElem? fun n => ?_
  unfold oK
  rw [List.getElem?_map, List.getElem?_map]
  show Option.map _ (List.zipWith Prod.mk (dd.set j (x, l')) qs)[n]? = Option.map _ (List.zipWith Prod.mk dd qs)[n]?
  rw [List.getElem?_zipWith, List.getElem?_zipWith]
  by_cases e : j = n
  · subst e
    rw [List.getElem?_set_self (List.getElem?_eq_some_iff.mp h).1, h]
    cases qs[j]? <;> rfl
  · rw [List.getElem?_set_ne e]
/-- behind a change of a row -/
theorem StD.row {P0 P : Pr T} {σ : L2.St} {ρ : Ev} {i : Nat} {p : Addr} {dd : DDt} (s : StD K P0 P σ ρ i p dd) {qs : List Addr} (o : Odd P0 P p dd qs) {j : Nat} {x : Str} {l l' : List (Str × Int)} {b : Addr} (h1 : dd[j]? = some (x, l)) (h2 : qs[j]? = some b) : ∃ Q : Pr T, Q.H = upd P.H b (.dK (iK l')) ∧ StD K P0 Q σ ρ i p (dd.set j (x, l')) := by
  have hb : b ∈ p :: qs := List.mem_cons_of_mem _ (List.mem_of_getElem? h2)
  obtain ⟨Q', hQ, hQ', s'⟩ := s.mut o hb (iK l')
  refine ⟨Q', hQ', s', s.flat, s.no, s.ref, qs, by rw [List.length_set]; exact o.len, o.nd, fun c hc => by rw [hQ]; exact o.m c hc, o.lo, ?_, fun n f c g1 g2 => ?_⟩
  · have ne : p ≠ b := fun z => (List.nodup_cons.mp o.nd).1 (by rw [z]; exact List.mem_of_getElem? h2)
    rw [hQ', upd_ne ne, oK_set h1]
    exact o.h
  · rw [hQ']
    rcases getset g1 with ⟨rfl, rfl, _⟩ | ⟨ne, g1⟩
    · rw [h2] at g2
      cases g2
      exact upd_same
    · have nb : c ≠ b := fun z => by
        subst z
        obtain ⟨k1, e1⟩ := List.getElem?_eq_some_iff.mp h2
        obtain ⟨k2, e2⟩ := List.getElem?_eq_some_iff.mp g2
        exact ne ((List.getElem_inj (List.nodup_cons.mp o.nd).2).mp (e1.trans e2.symm))
      rw [upd_ne nb]
      exact o.hi n f c g1 g2
end
end PM
namespace PM
open PySem PySem.Spec PyProof.Rows L2 LB
section
variable {T : Tb} {K : PySem.W.Frag} {X : Cx} {e : Expr} {st : Stmt} {sts : List Stmt} {R : ER}
/-! ### defs that make, or change, a dict of dicts -/
/-! ### for k in d, d a datum of texts, maybe without any -/
end
end PM
namespace PM
open PySem PySem.Spec PyProof.Rows L2 LB
section
variable {T : Tb} {K : PySem.W.Frag} {X : Cx} {e : Expr} {st : Stmt} {sts : List Stmt} {R : ER}
/-! ### d[a].get(b, c), d a dict of dicts of one's own -/
/-! ### x = {k: v}, an own dict of texts -/
end
end PM
namespace PM
open PySem PySem.Spec PyProof.Rows L2 LB
section
variable {T : Tb} {K : PySem.W.Frag} {X : Cx} {e : Expr} {st : Stmt} {R : ER}
/-! ### x = {k: v for ..} on one line, x a local -/
end
end PM
namespace ZM
open PySem PySem.Spec PyProof.Rows L2 LB
/-! ### zip of two rows, each a list or a tuple -/
def SqK (K : PySem.W.Frag) (t : Bool) (H : Hp) (a : Addr) (xs : List V) : Prop := match t with
  | true => SqT K H a xs
  | false => SqL K H a xs
def ItK (t : Bool) (h : Heap) (it l : Addr) (i : Nat) : Prop := match t with
  | true => h.IsTupleIter it l i
  | false => h.IsListIter it l i
def IsK (t : Bool) (h : Heap) (l : Addr) (xs : Array Value) : Prop := match t with
  | true => h.IsTuple l xs
  | false => h.IsList l xs
def objK (t : Bool) (a : Addr) : Obj := match t with
  | true => { cls := .type "tuple_iterator", data := .fields #[.ref a, .int 0 0] }
  | false => { cls := .type "list_iterator", data := .fields #[.ref a, .int 0 0] }
theorem draws {prog : Program} {w : World} {A : Around} (t : Bool) (hh : A.handled = none) {it l : Addr} (ne : l ≠ it) (items : Array Value) : Draws prog w A it [it, l] items.size (fun i v => items[i]? = some v) (fun i h => ItK t h it l i ∧ IsK t h l items) := by
  cases t
  · exact Draws.list hh it l ne items
  · exact Draws.tuple hh it l ne items
theorem begins (t : Bool) (l : Addr) (items : Array Value) : Begins (.ref l) (objK t l) fun h => IsK t h l items := by
  cases t
  · exact begins_list l items
  · exact begins_tuple l items
theorem it0 {t : Bool} {h : Heap} {it l : Addr} (e : h.get? it = some (objK t l)) : ItK t h it l 0 := by
  cases t
  · exact ⟨_, e, rfl, rfl⟩
  · exact ⟨_, e, rfl, rfl⟩
theorem it_obj {t : Bool} {h : Heap} {it l : Addr} {i : Nat} (st : ItK t h it l i) : ∃ o, h.get? it = some o ∧ ∀ v, o.data ≠ .cell v := by
  cases t
  · obtain ⟨o, e, _, d⟩ := st
    exact ⟨o, e, fun v q => by rw [d] at q; cases q⟩
  · obtain ⟨o, e, _, d⟩ := st
    exact ⟨o, e, fun v q => by rw [d] at q; cases q⟩
theorem it_at {t : Bool} {h h' : Heap} {it l : Addr} {i : Nat} (st : ItK t h it l i) (k : ∀ o, h.get? it = some o → h'.get? it = some o) : ItK t h' it l i := by
  cases t
  · exact Heap.IsListIter.at st k
  · exact Heap.IsTupleIter.at st k
section
variable {X : Cx} {pins : List (Addr × Obj)} {σ : L2.St} {H : Hp} {s : Shared}
theorem row (I : Inv X pins σ H s) {t : Bool} {a : Addr} {xs : List V} (q : SqK X.K t H a xs) : ∃ us : List Value, Vals xs us ∧ IsK t s.heap a us.toArray ∧ a < s.heap.objs.size := by
  cases t
  · obtain ⟨us, r, p, _⟩ := I.list q
    have p' := p.isList
    obtain ⟨o, e, _⟩ := id p'
    exact ⟨us, r, p', Heap.lt_size e⟩
  · obtain ⟨us, r, p, _⟩ := I.tuple q
    obtain ⟨o, e, _⟩ := id p
    exact ⟨us, r, p, Heap.lt_size e⟩
theorem inj (I : Inv X pins σ H s) {t : Bool} {a : Addr} {xs ys : List V} (h : SqK X.K t H a xs) (h' : SqK X.K t H a ys) : xs = ys := by
  cases t
  · exact I.list_inj h h'
  · exact I.tuple_inj h h'
end
def ItzK (K : PySem.W.Frag) (t u : Bool) (a b : Addr) : It :=
  ⟨fun i H => ∃ (xs ys : List V) (x y : V), SqK K t H a xs ∧ SqK K u H b ys ∧ xs[i]? = some x ∧ ys[i]? = some y,
    fun i H v H' => ∃ T x y, v = .ref T ∧ H T = none ∧ H' = upd H T (.tup [x, y]) ∧ (∀ xs, SqK K t H a xs → xs[i]? = some x) ∧ ∀ ys, SqK K u H b ys → ys[i]? = some y,
    fun i H => ∃ xs ys : List V, SqK K t H a xs ∧ SqK K u H b ys ∧ i ≤ xs.length ∧ i ≤ ys.length ∧ (i = xs.length ∨ i = ys.length)⟩
theorem turn {P : Program} {w : World} {K : PySem.W.Frag} {elts : List Expr} {kk : Nat} {tpos : Pos} {t u : Bool} {a b z TI TO i1 i2 : Addr} (S : ZipSep2 z TI TO i1 i2 [i1, a] [i2, b]) :
    Turn P w K (.Tuple elts kk tpos) (ItzK K t u a b) [z, TI, TO, i1, i2] z (fun i h => IsZip h z TI TO .none ∧ IsTupOf2 h TI (.ref i1) (.ref i2) ∧ (∃ x y, IsTupOf2 h TO x y) ∧ ItK t h i1 a i ∧ ItK u h i2 b i) where
  mem := by simp
  obj := fun i h st c hc => by
    obtain ⟨hz, hTI, ⟨x, y, hTO⟩, h1, h2⟩ := st
    simp only [List.mem_cons, List.not_mem_nil, or_false] at hc
    rcases hc with rfl | rfl | rfl | rfl | rfl
    · exact ⟨_, hz, fun v q => nomatch q⟩
    · exact ⟨_, hTI, fun v q => nomatch q⟩
    · exact ⟨_, hTO, fun v q => nomatch q⟩
    · exact it_obj h1
    · exact it_obj h2
  keep := fun i h h' st k => by
    obtain ⟨hz, hTI, ⟨x, y, hTO⟩, h1, h2⟩ := st
    exact ⟨k z (by simp) _ hz, k TI (by simp) _ hTI, ⟨x, y, k TO (by simp) _ hTO⟩, it_at h1 fun o q => k i1 (by simp) o q, it_at h2 fun o q => k i2 (by simp) o q⟩
  item := by
    intro X hP hw hK hc i pins s σ H E I hf st hg
    subst hP hw hK
    obtain ⟨hz, hTI, ⟨x0, y0, hTO⟩, h1, h2⟩ := st
    obtain ⟨xs, ys, x, y, qx, qy, hx, hy⟩ := hg
    obtain ⟨us, ru, p1, la⟩ := row I qx
    obtain ⟨vs, rv, p2, lb⟩ := row I qy
    obtain ⟨x1, ex, rx⟩ := ru.get hx
    obtain ⟨y1, ey, ry⟩ := rv.get hy
    have hh := I.ok.hd hc
    have ne1 : a ≠ i1 := fun e => absurd (S.sep1_2) (fun _ => by
      obtain ⟨o1, e1, _⟩ := it_obj h1
      subst e
      cases t
      · obtain ⟨o, eo, c1, _⟩ := p1
        obtain ⟨o', eo', c2, _⟩ := h1
        rw [eo] at eo'
        cases eo'
        rw [c1] at c2
        exact absurd c2 (by decide)
      · obtain ⟨o, eo, c1, _⟩ := p1
        obtain ⟨o', eo', c2, _⟩ := h1
        rw [eo] at eo'
        cases eo'
        rw [c1] at c2
        exact absurd c2 (by decide))
    have ne2 : b ≠ i2 := fun e => by
      subst e
      cases u
      · obtain ⟨o, eo, c1, _⟩ := p2
        obtain ⟨o', eo', c2, _⟩ := h2
        rw [eo] at eo'
        cases eo'
        rw [c1] at c2
        exact absurd c2 (by decide)
      · obtain ⟨o, eo, c1, _⟩ := p2
        obtain ⟨o', eo', c2, _⟩ := h2
        rw [eo] at eo'
        cases eo'
        rw [c1] at c2
        exact absurd c2 (by decide)
    have gu : us.toArray[i]? = some x1 := by simpa using ex
    have gv : vs.toArray[i]? = some y1 := by simpa using ey
    have hzl : z < s.heap.objs.size := Heap.lt_size hz
    refine wpAny_pyNext_zipD2_item S (draws t (A := X.A.in1) hh ne1 us.toArray) (draws u (A := X.A.in1) hh ne2 vs.toArray) hz hTI hTO ⟨h1, p1⟩ ⟨h2, p2⟩ (Array.getElem?_eq_some_iff.mp gu).1 (Array.getElem?_eq_some_iff.mp gv).1 fun x2 y2 h' tk z1 z2 hz' hTO' h1' h2' hT hsz hk => ?_
    rw [gu] at z1
    cases z1
    rw [gv] at z2
    cases z2
    refine ⟨_, rfl, wpAny_letOwnedTupleGo_zip (s := { s with heap := h', toks := tk }) hz' fun h'' hz'' sb => ?_⟩
    have hT2 : h''.get? s.heap.objs.size = some { cls := .type "tuple", data := .seq #[x1, y1] } := (sb.2 _ (Nat.ne_of_gt hzl)).trans hT
    have new : ObjOk X.prog X.w (upd H s.heap.objs.size (.tup [x, y])) h'' s.heap.objs.size (.tup [x, y]) := ⟨by show 2 ≤ sizeLine; decide, [x1, y1], .cons rx (.cons ry .nil), ⟨_, hT2, rfl, _, rfl⟩⟩
    have kp : ∀ c o, c ∉ [z, TI, TO, i1, i2] → s.heap.get? c = some o → h''.get? c = some o := fun c o hc q => by
      simp only [List.mem_cons, List.not_mem_nil, or_false, not_or] at hc
      exact (sb.2 c hc.1).trans (hk c o hc.1 hc.2.2.1 hc.2.2.2.1 hc.2.2.2.2 q)
    have I1 : Inv X pins σ (upd H s.heap.objs.size (.tup [x, y])) { s with heap := h'', toks := tk } := I.turnedNew (t' := tk) (ch := [z, TI, TO, i1, i2]) kp hf (Nat.le_refl _) new
    have lt1 : i1 < s.heap.objs.size := by
      obtain ⟨_, e, _⟩ := it_obj h1
      exact Heap.lt_size e
    have lt2 : i2 < s.heap.objs.size := by
      obtain ⟨_, e, _⟩ := it_obj h2
      exact Heap.lt_size e
    refine ⟨.ref s.heap.objs.size, _, I1, rfl, ⟨_, x, y, rfl, I.hok.fresh (Nat.le_refl _), rfl, fun l hl => by rw [inj I hl qx]; exact hx, fun l hl => by rw [inj I hl qy]; exact hy⟩, ⟨hz'', ?_, ⟨x1, y1, ?_⟩, ?_, ?_⟩, fun c hcm => ?_⟩
    · exact (sb.2 _ S.TIz).trans (hk _ _ S.TIz S.TITO S.TIi1 S.TIi2 hTI)
    · exact (sb.2 _ S.TOz).trans hTO'
    · exact it_at h1'.1 fun o q => (sb.2 _ (Ne.symm S.zi1)).trans q
    · exact it_at h2'.1 fun o q => (sb.2 _ (Ne.symm S.zi2)).trans q
    · have hlt : c < s.heap.objs.size := by
        simp only [List.mem_cons, List.not_mem_nil, or_false] at hcm
        rcases hcm with rfl | rfl | rfl | rfl | rfl
        · exact hzl
        · exact Heap.lt_size hTI
        · exact Heap.lt_size hTO
        · exact lt1
        · exact lt2
      rw [upd_ne (Nat.ne_of_lt hlt)]
      exact (hf c hcm).1
  done := by
    intro X hP hw hK hc i pins s σ H E I hf st hg
    subst hP hw hK
    obtain ⟨hz, hTI, ⟨x0, y0, hTO⟩, h1, h2⟩ := st
    obtain ⟨xs, ys, qx, qy, l1, l2, hend⟩ := hg
    obtain ⟨us, ru, p1, la⟩ := row I qx
    obtain ⟨vs, rv, p2, lb⟩ := row I qy
    have e1 := ru.length
    have e2 := rv.length
    have hh := I.ok.hd hc
    have ne1 : a ≠ i1 := fun e => by
      subst e
      cases t
      · obtain ⟨o, eo, c1, _⟩ := p1
        obtain ⟨o', eo', c2, _⟩ := h1
        rw [eo] at eo'
        cases eo'
        rw [c1] at c2
        exact absurd c2 (by decide)
      · obtain ⟨o, eo, c1, _⟩ := p1
        obtain ⟨o', eo', c2, _⟩ := h1
        rw [eo] at eo'
        cases eo'
        rw [c1] at c2
        exact absurd c2 (by decide)
    have ne2 : b ≠ i2 := fun e => by
      subst e
      cases u
      · obtain ⟨o, eo, c1, _⟩ := p2
        obtain ⟨o', eo', c2, _⟩ := h2
        rw [eo] at eo'
        cases eo'
        rw [c1] at c2
        exact absurd c2 (by decide)
      · obtain ⟨o, eo, c1, _⟩ := p2
        obtain ⟨o', eo', c2, _⟩ := h2
        rw [eo] at eo'
        cases eo'
        rw [c1] at c2
        exact absurd c2 (by decide)
    refine wpAny_pyNext_zipD2_end S (draws t (A := X.A.in1) hh ne1 us.toArray) (draws u (A := X.A.in1) hh ne2 vs.toArray) hz hTI hTO ⟨h1, p1⟩ ⟨h2, p2⟩ (by simp; omega) (by simp; omega) (by simp; omega) fun h' tk hk => ⟨rfl, I.turnedL (t' := tk) (ch := [z, TI, TO, i1, i2]) (fun c o hc q => ?_) hf⟩
    simp only [List.mem_cons, List.not_mem_nil, or_false, not_or] at hc
    exact hk c o hc.1 hc.2.2.1 hc.2.2.2.1 hc.2.2.2.2 q
  self := fun A i s Q E st h => wpAny_pyIter_zip st.1 h
end ZM
namespace PM
open PySem PySem.Spec PyProof.Rows L2 LB
section
variable {T : Tb} {K : PySem.W.Frag} {X : Cx} {e : Expr}
theorem ex_K {M H : Hp} (e : Ex M H) {t : Bool} {a : Addr} {xs : List V} (h : ZM.SqK K t M a xs) : ZM.SqK K t H a xs := by
  cases t
  · exact ex_l e h
  · exact ex_t e h
theorem rp_K {H : Hp} {v : V} {d : PyData} {ds : List PyData} (r : Rp K H v d) (h : lsO d = some ds) : ∃ t a xs, v = .ref a ∧ ZM.SqK K t H a xs ∧ RpAll K H xs ds := by
  cases r with
  | lst q ra =>
    cases h
    exact ⟨false, _, _, rfl, q, ra⟩
  | tup q ra =>
    cases h
    exact ⟨true, _, _, rfl, SqT.of q, ra⟩
  | non => cases h
  | bl => cases h
  | int => cases h
  | str => cases h
  | dct => cases h
  | dcT => cases h
end
end PM
namespace PM
open PySem PySem.Spec PyProof.Rows L2 LB
section
variable {T : Tb} {K : PySem.W.Frag} {X : Cx} {e : Expr} {st : Stmt} {sts : List Stmt} {R : ER}
/-! ### x = {k: v for ..}, the dict one's own -/
/-! ### a dict of lists, its keys texts, all there from the start -/
def addS (G : List (Str × List PyData)) (k : Str) (d : PyData) : List (Str × List PyData) := G.map fun e => if e.1 = k then (e.1, e.2 ++ [d]) else e
def lsD (G : List (Str × List PyData)) : PyData := dcD (G.map fun e => (e.1, .list e.2))
def DLs (K : PySem.W.Frag) (P : Pr T) (e : Key × V) (g : Str × List PyData) : Prop := e.1 = .inr g.1 ∧ ∃ q xs, e.2 = .ref q ∧ P.M q = none ∧ P.H q = some (.lst xs) ∧ RpAll K P.M xs g.2
structure GS (K : PySem.W.Frag) (P0 P : Pr T) (p : Addr) (kvs : List (Key × V)) (G : List (Str × List PyData)) : Prop where
  m : P.M p = none
  h : P.H p = some (.dK kvs)
  each : PySem.W.EachIs (DLs K P) kvs G
  nk : (G.map (·.1)).Nodup
  nv : (kvs.map (·.2)).Nodup
  lo : Loose P0.H p
  los : ∀ e ∈ kvs, ∀ q, e.2 = V.ref q → Loose P0.H q
theorem DLs.up {P P' : Pr T} (l : Le P P') {e : Key × V} {g : Str × List PyData} (h : DLs K P e g) : DLs K P' e g := by
  obtain ⟨h1, q, xs, h2, h3, h4, h5⟩ := h
  exact ⟨h1, q, xs, h2, own_none l h3 h4 (fun _ z => nomatch z) (fun _ z => nomatch z), l.h _ _ h4 (fun _ z => nomatch z), h5.ext l.m⟩
theorem GS.up {P0 P P' : Pr T} {p : Addr} {kvs : List (Key × V)} {G : List (Str × List PyData)} (g : GS K P0 P p kvs G) (l : Le P P') : GS K P0 P' p kvs G :=
  ⟨own_none l g.m g.h (fun _ z => nomatch z) (fun _ z => nomatch z), l.h _ _ g.h (fun _ z => nomatch z), g.each.mono (fun _ _ h => h.up l), g.nk, g.nv, g.lo, g.los⟩
theorem dls_hit {P : Pr T} {k : Str} : ∀ {kvs : List (Key × V)} {G : List (Str × List PyData)}, PySem.W.EachIs (DLs K P) kvs G → k ∈ G.map (·.1) →
    ∃ q xs as bs As Bs ds, valV kvs (.inr k) = some (V.ref q) ∧ kvs = as ++ (.inr k, V.ref q) :: bs ∧ G = As ++ (k, ds) :: Bs ∧ PySem.W.EachIs (DLs K P) as As ∧ PySem.W.EachIs (DLs K P) bs Bs ∧ P.M q = none ∧ P.H q = some (.lst xs) ∧ RpAll K P.M xs ds
  | _, _, .nil, h => absurd h List.not_mem_nil
  | (k0, u) :: kvs, (k', ds) :: G, .cons h t, hk => by
    obtain ⟨h1, q, xs, h2, h3, h4, h5⟩ := h
    have h1 : k0 = .inr k' := h1
    have h2 : u = V.ref q := h2
    subst h1 h2
    by_cases z : k' = k
    · subst z
      refine ⟨q, xs, [], kvs, [], G, ds, ?_, rfl, rfl, .nil, t, h3, h4, h5⟩
      unfold valV
      rw [List.find?_cons, decide_eq_true rfl]
      rfl
    · have hk' : k ∈ G.map (·.1) := (List.mem_cons.mp hk).elim (fun w => absurd w.symm z) id
      obtain ⟨q', xs', as, bs, As, Bs, ds', e1, e2, e3, e4, e5, e6, e7, e8⟩ := dls_hit t hk'
      refine ⟨q', xs', (.inr k', V.ref q) :: as, bs, (k', ds) :: As, Bs, ds', ?_, by rw [e2]; rfl, by rw [e3]; rfl, .cons ⟨rfl, q, xs, rfl, h3, h4, h5⟩ e4, e5, e6, e7, e8⟩
      unfold valV at e1 ⊢
      rw [List.find?_cons, decide_eq_false (fun w => z (by injection w))]
      exact e1
theorem addS_hit {k : Str} {d : PyData} {As Bs : List (Str × List PyData)} {ds : List PyData} (n1 : k ∉ As.map (·.1)) (n2 : k ∉ Bs.map (·.1)) : addS (As ++ (k, ds) :: Bs) k d = As ++ (k, ds ++ [d]) :: Bs := by
  unfold addS
  rw [List.map_append, List.map_cons, if_pos rfl]
  have e : ∀ l : List (Str × List PyData), k ∉ l.map (·.1) → l.map (fun e => if e.1 = k then (e.1, e.2 ++ [d]) else e) = l := fun l hn => by
    conv => rhs; rw [← List.map_id l]
    refine List.map_congr_left fun x hx => ?_
    exact if_neg fun z => hn (List.mem_map.mpr ⟨x, hx, z⟩)
  rw [e As n1, e Bs n2]
theorem addS_keys (G : List (Str × List PyData)) (k : Str) (d : PyData) : (addS G k d).map (·.1) = G.map (·.1) := by
  unfold addS
  rw [List.map_map]
  refine List.map_congr_left fun e _ => ?_
  show (if e.1 = k then (e.1, e.2 ++ [d]) else e).1 = e.1
  split <;> rfl
theorem GS.hit {P0 P : Pr T} {p : Addr} {kvs : List (Key × V)} {G : List (Str × List PyData)} (g : GS K P0 P p kvs G) (l : Le P0 P) {k : Str} {w : V} {d : PyData} (hk : k ∈ G.map (·.1)) (r : Rp K P.M w d) :
    ∃ q xs Q, valV kvs (.inr k) = some (V.ref q) ∧ P.H q = some (.lst xs) ∧ (∃ ds, (k, ds) ∈ G ∧ xs.length = ds.length) ∧ Q.M = P.M ∧ Q.H = upd P.H q (.lst (xs ++ [w])) ∧ Le P0 Q ∧ GS K P0 (T := T) Q p kvs (addS G k d) := by
  obtain ⟨q, xs, as, bs, As, Bs, ds, e0, rfl, rfl, e4, e5, e6, e7, e8⟩ := dls_hit g.each hk
  obtain ⟨Q, hM, hH⟩ := P.mut1 (o' := .lst (xs ++ [w])) e6 e7 (fun _ z => nomatch z) (fun _ _ z => by unfold LamX.CodeO at z; cases z)
  have lq : Loose P0.H q := g.los (.inr k, V.ref q) (List.mem_append_right _ List.mem_cons_self) q rfl
  have npq : p ≠ q := fun z => by
    have := g.h
    rw [z, e7] at this
    cases this
  have nk := g.nk
  have nv := g.nv
  rw [List.map_append, List.map_cons, List.nodup_append] at nk nv
  have ka : k ∉ As.map (·.1) := fun z => nk.2.2 k z k List.mem_cons_self rfl
  have kb : k ∉ Bs.map (·.1) := (List.nodup_cons.mp nk.2.1).1
  have va : V.ref q ∉ as.map (·.2) := fun z => nv.2.2 _ z _ List.mem_cons_self rfl
  have vb : V.ref q ∉ bs.map (·.2) := (List.nodup_cons.mp nv.2.1).1
  have keep : ∀ {l : List (Key × V)} {L : List (Str × List PyData)}, V.ref q ∉ l.map (·.2) → PySem.W.EachIs (DLs K P) l L → PySem.W.EachIs (DLs K Q) l L := fun {l L} hn h => each_imp h fun a ha b hb => by
    obtain ⟨h1, q', xs', h2, h3, h4, h5⟩ := hb
    have ne : q' ≠ q := fun z => hn (List.mem_map.mpr ⟨a, ha, by rw [h2, z]⟩)
    exact ⟨h1, q', xs', h2, by rw [hM]; exact h3, by rw [hH, upd_ne ne]; exact h4, by rw [hM]; exact h5⟩
  refine ⟨q, xs, Q, e0, e7, ⟨ds, List.mem_append_right _ List.mem_cons_self, e8.length⟩, hM, hH, le_mut1 l lq hM hH, ⟨by rw [hM]; exact g.m, by rw [hH, upd_ne npq]; exact g.h, ?_, by rw [addS_keys]; exact g.nk, g.nv, g.lo, g.los⟩⟩
  rw [addS_hit ka kb]
  exact each_app (keep va e4) (.cons ⟨rfl, q, _, rfl, by rw [hM]; exact e6, by rw [hH]; exact upd_same, by rw [hM]; exact RpAll.append e8 (.cons r .nil)⟩ (keep vb e5))
/-- a new key with a new list -/
theorem GS.new {P0 P : Pr T} {p : Addr} {kvs : List (Key × V)} {G : List (Str × List PyData)} (g : GS K P0 P p kvs G) (l : Le P0 P) {k : Str} (hk : k ∉ G.map (·.1)) {q : Addr} (hq : P.H q = none) :
    ∃ Q : Pr T, Q.M = P.M ∧ Q.H = upd (upd P.H q (.lst [])) p (.dK (kvs ++ [(.inr k, V.ref q)])) ∧ (upd P.H q (.lst [])) p = some (.dK kvs) ∧ Le P0 Q ∧ (∀ P1 : Pr T, Le P1 P → Loose P1.H p → Le P1 Q) ∧ GS K P0 Q p (kvs ++ [(.inr k, V.ref q)]) (G ++ [(k, [])]) := by
  have npq : p ≠ q := fun z => by
    have := g.h
    rw [z, hq] at this
    cases this
  have mq := P.none hq
  have lq : Loose P0.H q := fun o ho => by
    by_cases t : ∃ ps, o = HO.tbl ps
    · exact t
    · have := l.h q o ho fun ps z => t ⟨ps, z⟩
      rw [hq] at this
      cases this
  have hp1 : (P.hid q (.lst []) hq).H p = some (.dK kvs) := by
    show upd P.H q _ p = _
    rw [upd_ne npq]
    exact g.h
  obtain ⟨Q, hM, hH⟩ := (P.hid q (.lst []) hq).mut1 (o' := .dK (kvs ++ [(.inr k, V.ref q)])) g.m hp1 (fun _ z => nomatch z) (fun _ _ z => by unfold LamX.CodeO at z; cases z)
  have hM : Q.M = P.M := hM
  have hH : Q.H = upd (upd P.H q (.lst [])) p (.dK (kvs ++ [(.inr k, V.ref q)])) := hH
  have nv : ∀ e ∈ kvs, e.2 ≠ V.ref q := fun e he z => by
    obtain ⟨b, _, _, q', xs, h2, _, h4, _⟩ := g.each.left e he
    rw [h2] at z
    cases z
    rw [hq] at h4
    cases h4
  refine ⟨Q, hM, hH, hp1, le_mut1 (l.trans (le_hid P hq)) g.lo hM hH, fun P1 l1 lo1 => le_mut1 (l1.trans (le_hid P hq)) lo1 hM hH, ⟨by rw [hM]; exact g.m, by rw [hH]; exact upd_same, ?_, ?_, ?_, g.lo, fun e he q' hq' => ?_⟩⟩
  · refine each_app (each_imp g.each fun a ha b hb => ?_) (.cons ⟨rfl, q, [], rfl, by rw [hM]; exact mq, by rw [hH, upd_ne (Ne.symm npq)]; exact upd_same, .nil⟩ .nil)
    obtain ⟨h1, q', xs', h2, h3, h4, h5⟩ := hb
    have n1 : q' ≠ q := fun z => nv a ha (by rw [h2, z])
    have n2 : q' ≠ p := fun z => by
      rw [z, g.h] at h4
      cases h4
    refine ⟨h1, q', xs', h2, by rw [hM]; exact h3, ?_, by rw [hM]; exact h5⟩
    rw [hH, upd_ne n2, upd_ne n1]
    exact h4
  · rw [List.map_append, List.nodup_append]
    exact ⟨g.nk, by simp, fun a ha b hb e => hk (by
      have e : a = k := e.trans (List.mem_singleton.mp hb)
      rw [e] at ha
      exact ha)⟩
  · rw [List.map_append, List.nodup_append]
    refine ⟨g.nv, by simp, fun a ha b hb e => ?_⟩
    obtain ⟨x, hx, rfl⟩ := List.mem_map.mp ha
    rw [List.mem_singleton.mp hb] at e
    exact nv x hx e
  · rcases List.mem_append.mp he with h | h
    · exact g.los e h q' hq'
    · rw [List.mem_singleton.mp h] at hq'
      cases hq'
      exact lq
open Classical in
/-- what was gathered is data, the dict known from now on -/
theorem GS.done {P0 P : Pr T} {p : Addr} {kvs : List (Key × V)} {G : List (Str × List PyData)} (g : GS K P0 P p kvs G) (l : Le P0 P) (od : Obj) : ∃ Q : Pr T, Q.H = upd P.H p (.frz od (.dK kvs)) ∧ Le P0 Q ∧ Ex P.M Q.M ∧ Rp K Q.M (V.ref p) (lsD G) := by
  let inn : Addr → Prop := fun a => ∃ e ∈ kvs, e.2 = V.ref a
  have plain : ∀ a, inn a → P.M a = none ∧ (∃ o, P.H a = some o ∧ Plain o) ∧ Loose P0.H a ∧ a ≠ p := fun a ha => by
    obtain ⟨e, he, h2⟩ := ha
    obtain ⟨b, _, _, q, xs, e2, e3, e4, _⟩ := g.each.left e he
    rw [e2] at h2
    cases h2
    refine ⟨e3, ⟨_, e4, fun _ z => nomatch z⟩, g.los e he a e2, fun z => ?_⟩
    rw [z, g.h] at e4
    cases e4
  let M' : Hp := fun a => if a = p then some (.frz od (.dK kvs)) else if inn a then P.H a else P.M a
  have em : Ex P.M M' := fun b u e q => by
    have n1 : b ≠ p := fun z => by rw [z, g.m] at e; cases e
    have n2 : ¬ inn b := fun z => by rw [(plain b z).1] at e; cases e
    show (if b = p then _ else if inn b then P.H b else P.M b) = some u
    rw [if_neg n1, if_neg n2]
    exact e
  have at' : ∀ a o, inn a → P.H a = some o → M' a = some o := fun a o ha ho => by
    show (if a = p then _ else if inn a then P.H a else P.M a) = some o
    rw [if_neg (plain a ha).2.2.2, if_pos ha]
    exact ho
  have atp : M' p = some (.frz od (.dK kvs)) := if_pos rfl
  refine ⟨⟨M', upd P.H p (.frz od (.dK kvs)), fun b u e q => ?_, tabs_mut P.tab g.h (fun _ z => nomatch z) (fun _ _ z => by unfold LamX.CodeO at z; cases z), fun a ps z => ?_⟩, rfl, ⟨l.m.trans em, fun b u e q => ?_, fun a h1 h2 => ?_⟩, em, ?_⟩
  · by_cases hb : b = p
    · subst hb
      rw [atp] at e
      cases e
      exact upd_same
    · have e : (if b = p then some (HO.frz od (.dK kvs)) else if inn b then P.H b else P.M b) = some u := e
      rw [if_neg hb] at e
      rw [upd_ne hb]
      split at e
      · exact e
      · exact P.sub b u e q
  · by_cases hb : a = p
    · subst hb
      rw [atp] at z
      cases z
    · have z : (if a = p then some (HO.frz od (.dK kvs)) else if inn a then P.H a else P.M a) = some (.tbl ps) := z
      rw [if_neg hb] at z
      split at z
      · rename_i ha
        obtain ⟨_, ⟨o, ho, n⟩, _⟩ := plain a ha
        rw [ho] at z
        cases z
        exact n ps rfl
      · exact P.nt a ps z
  · have ne : b ≠ p := fun z => by
      rw [z] at e
      obtain ⟨ps, w⟩ := g.lo u e
      exact q ps w
    show upd P.H p _ b = some u
    rw [upd_ne ne]
    exact l.h b u e q
  · by_cases hb : a = p
    · rw [hb]
      exact .inl g.lo
    · have h2 : (if a = p then some (HO.frz od (.dK kvs)) else if inn a then P.H a else P.M a) ≠ none := h2
      rw [if_neg hb] at h2
      split at h2
      · rename_i ha
        exact .inl (plain a ha).2.2.1
      · exact l.f a h1 h2
  · have hv : ∀ {l : List (Key × V)} {L : List (Str × List PyData)}, (∀ e ∈ l, e ∈ kvs) → PySem.W.EachIs (DLs K P) l L → PySem.W.EachIs (DS K M') l (L.map fun e => (e.1, PyData.list e.2)) := by
      intro l L sub h
      induction h with
      | nil => exact .nil
      | @cons a b as bs h t ih =>
        obtain ⟨h1, q, xs, h2, h3, h4, h5⟩ := h
        refine .cons ⟨h1, ?_⟩ (ih fun e he => sub e (List.mem_cons_of_mem _ he))
        show Rp K M' a.2 (.list b.2)
        rw [h2]
        exact .lst (SqL.of (at' q _ ⟨a, sub a List.mem_cons_self, h2⟩ h4)) (h5.ext em)
    have k := hv (fun e he => he) g.each
    exact .dct atp (dc_keys k) (dc_vals k)
end
end PM
namespace PM
open PySem PySem.Spec PyProof.Rows L2 LB
/-! ### two dicts of one's own compared, the values data -/
section
variable {X : Cx} {pins : List (Addr × Obj)} {σ : L2.St} {H : Hp} {s : Shared}
structure RowsR (K : PySem.W.Frag) (H : Hp) (ls : List (Key × V)) (es : List (Str × PyData)) (p : Key × V) (d : Str × PyData) : Prop where
  k : p.1 = .inr d.1
  r : Dp K H p.2 d.2
  sh : SeqAt.shaped d.2 = true
  o : ∃ v e, getS es d.1 = some e ∧ valV ls p.1 = some v ∧ Dp K H v e ∧ SeqAt.shaped e = true
end
section
variable {T : Tb} {K : PySem.W.Frag} {X : Cx} {e : Expr} {st : Stmt} {sts : List Stmt} {R : ER}
/-! ### x = dict(zip(a, b)), x a dict of one's own -/
/-! ### a call that may raise, handed what may raise -/
end
end PM
namespace Z3
open PySem PySem.Spec PyProof.Rows L2 LB ZM
/-! ### zip of three rows, each a list or a tuple -/
theorem apart {t : Bool} {h : Heap} {i a : Addr} {k : Nat} {us : Array Value} (st : ItK t h i a k) (p : IsK t h a us) : a ≠ i := fun e => by
  subst e
  cases t
  · obtain ⟨o, eo, c1, _⟩ := p
    obtain ⟨o', eo', c2, _⟩ := st
    rw [eo] at eo'
    cases eo'
    rw [c1] at c2
    exact absurd c2 (by decide)
  · obtain ⟨o, eo, c1, _⟩ := p
    obtain ⟨o', eo', c2, _⟩ := st
    rw [eo] at eo'
    cases eo'
    rw [c1] at c2
    exact absurd c2 (by decide)
def Itz3 (K : PySem.W.Frag) (t u v : Bool) (a b c : Addr) : It :=
  ⟨fun i H => ∃ (xs ys zs : List V) (x y z : V), SqK K t H a xs ∧ SqK K u H b ys ∧ SqK K v H c zs ∧ xs[i]? = some x ∧ ys[i]? = some y ∧ zs[i]? = some z,
    fun i H w H' => ∃ T x y z, w = .ref T ∧ H T = none ∧ H' = upd H T (.tup [x, y, z]) ∧ (∀ xs, SqK K t H a xs → xs[i]? = some x) ∧ (∀ ys, SqK K u H b ys → ys[i]? = some y) ∧ ∀ zs, SqK K v H c zs → zs[i]? = some z,
    fun i H => ∃ xs ys zs : List V, SqK K t H a xs ∧ SqK K u H b ys ∧ SqK K v H c zs ∧ i ≤ xs.length ∧ i ≤ ys.length ∧ i ≤ zs.length ∧ (i = xs.length ∨ i = ys.length ∨ i = zs.length)⟩
theorem turn {P : Program} {w : World} {K : PySem.W.Frag} {elts : List Expr} {kk : Nat} {tpos : Pos} {t u v : Bool} {a b c z TI TO i1 i2 i3 : Addr} (S : ZipSep3 z TI TO i1 i2 i3 [i1, a] [i2, b] [i3, c]) :
    Turn P w K (.Tuple elts kk tpos) (Itz3 K t u v a b c) [z, TI, TO, i1, i2, i3] z (fun i h => IsZip h z TI TO .none ∧ IsTupOf3 h TI (.ref i1) (.ref i2) (.ref i3) ∧ (∃ x y w, IsTupOf3 h TO x y w) ∧ ItK t h i1 a i ∧ ItK u h i2 b i ∧ ItK v h i3 c i) where
  mem := by simp
  obj := fun i h st d hd => by
    obtain ⟨hz, hTI, ⟨x, y, w, hTO⟩, h1, h2, h3⟩ := st
    simp only [List.mem_cons, List.not_mem_nil, or_false] at hd
    rcases hd with rfl | rfl | rfl | rfl | rfl | rfl
    · exact ⟨_, hz, fun v q => nomatch q⟩
    · exact ⟨_, hTI, fun v q => nomatch q⟩
    · exact ⟨_, hTO, fun v q => nomatch q⟩
    · exact it_obj h1
    · exact it_obj h2
    · exact it_obj h3
  keep := fun i h h' st k => by
    obtain ⟨hz, hTI, ⟨x, y, w, hTO⟩, h1, h2, h3⟩ := st
    exact ⟨k z (by simp) _ hz, k TI (by simp) _ hTI, ⟨x, y, w, k TO (by simp) _ hTO⟩, it_at h1 fun o q => k i1 (by simp) o q, it_at h2 fun o q => k i2 (by simp) o q, it_at h3 fun o q => k i3 (by simp) o q⟩
  item := by
    intro X hP hw hK hc i pins s σ H E I hf st hg
    subst hP hw hK
    obtain ⟨hz, hTI, ⟨x0, y0, w0, hTO⟩, h1, h2, h3⟩ := st
    obtain ⟨xs, ys, zs, x, y, zz, qx, qy, qz, hx, hy, hzz⟩ := hg
    obtain ⟨us, ru, p1, la⟩ := row I qx
    obtain ⟨vs, rv, p2, lb⟩ := row I qy
    obtain ⟨ws, rw', p3, lc⟩ := row I qz
    obtain ⟨x1, ex, rx⟩ := ru.get hx
    obtain ⟨y1, ey, ry⟩ := rv.get hy
    obtain ⟨w1, ew, rwz⟩ := rw'.get hzz
    have hh := I.ok.hd hc
    have gu : us.toArray[i]? = some x1 := by simpa using ex
    have gv : vs.toArray[i]? = some y1 := by simpa using ey
    have gw : ws.toArray[i]? = some w1 := by simpa using ew
    have hzl : z < s.heap.objs.size := Heap.lt_size hz
    refine wpAny_pyNext_zipD3_item S (draws t (A := X.A.in1) hh (apart h1 p1) us.toArray) (draws u (A := X.A.in1) hh (apart h2 p2) vs.toArray) (draws v (A := X.A.in1) hh (apart h3 p3) ws.toArray) hz hTI hTO ⟨h1, p1⟩ ⟨h2, p2⟩ ⟨h3, p3⟩ (Array.getElem?_eq_some_iff.mp gu).1 (Array.getElem?_eq_some_iff.mp gv).1 (Array.getElem?_eq_some_iff.mp gw).1 fun x2 y2 w2 h' tk z1 z2 z3 hz' hTO' h1' h2' h3' hT hsz hk => ?_
    rw [gu] at z1
    cases z1
    rw [gv] at z2
    cases z2
    rw [gw] at z3
    cases z3
    refine ⟨_, rfl, wpAny_letOwnedTupleGo_zip (s := { s with heap := h', toks := tk }) hz' fun h'' hz'' sb => ?_⟩
    have hT2 : h''.get? s.heap.objs.size = some { cls := .type "tuple", data := .seq #[x1, y1, w1] } := (sb.2 _ (Nat.ne_of_gt hzl)).trans hT
    have new : ObjOk X.prog X.w (upd H s.heap.objs.size (.tup [x, y, zz])) h'' s.heap.objs.size (.tup [x, y, zz]) := ⟨by show 3 ≤ sizeLine; decide, [x1, y1, w1], .cons rx (.cons ry (.cons rwz .nil)), ⟨_, hT2, rfl, _, rfl⟩⟩
    have kp : ∀ d o, d ∉ [z, TI, TO, i1, i2, i3] → s.heap.get? d = some o → h''.get? d = some o := fun d o hd q => by
      simp only [List.mem_cons, List.not_mem_nil, or_false, not_or] at hd
      exact (sb.2 d hd.1).trans (hk d o hd.1 hd.2.2.1 hd.2.2.2.1 hd.2.2.2.2.1 hd.2.2.2.2.2 q)
    have I1 : Inv X pins σ (upd H s.heap.objs.size (.tup [x, y, zz])) { s with heap := h'', toks := tk } := I.turnedNew (t' := tk) (ch := [z, TI, TO, i1, i2, i3]) kp hf (Nat.le_refl _) new
    have lt1 : i1 < s.heap.objs.size := by
      obtain ⟨_, e, _⟩ := it_obj h1
      exact Heap.lt_size e
    have lt2 : i2 < s.heap.objs.size := by
      obtain ⟨_, e, _⟩ := it_obj h2
      exact Heap.lt_size e
    have lt3 : i3 < s.heap.objs.size := by
      obtain ⟨_, e, _⟩ := it_obj h3
      exact Heap.lt_size e
    refine ⟨.ref s.heap.objs.size, _, I1, rfl, ⟨_, x, y, zz, rfl, I.hok.fresh (Nat.le_refl _), rfl, fun l hl => by rw [inj I hl qx]; exact hx, fun l hl => by rw [inj I hl qy]; exact hy, fun l hl => by rw [inj I hl qz]; exact hzz⟩, ⟨hz'', ?_, ⟨x1, y1, w1, ?_⟩, ?_, ?_, ?_⟩, fun d hdm => ?_⟩
    · exact (sb.2 _ S.TIz).trans (hk _ _ S.TIz S.TITO S.TIi1 S.TIi2 S.TIi3 hTI)
    · exact (sb.2 _ S.TOz).trans hTO'
    · exact it_at h1'.1 fun o q => (sb.2 _ fun e => S.zf1 (by rw [← e]; exact S.mem1)).trans q
    · exact it_at h2'.1 fun o q => (sb.2 _ fun e => S.zf2 (by rw [← e]; exact S.mem2)).trans q
    · exact it_at h3'.1 fun o q => (sb.2 _ fun e => S.zf3 (by rw [← e]; exact S.mem3)).trans q
    · have hlt : d < s.heap.objs.size := by
        simp only [List.mem_cons, List.not_mem_nil, or_false] at hdm
        rcases hdm with rfl | rfl | rfl | rfl | rfl | rfl
        · exact hzl
        · exact Heap.lt_size hTI
        · exact Heap.lt_size hTO
        · exact lt1
        · exact lt2
        · exact lt3
      rw [upd_ne (Nat.ne_of_lt hlt)]
      exact (hf d hdm).1
  done := by
    intro X hP hw hK hc i pins s σ H E I hf st hg
    subst hP hw hK
    obtain ⟨hz, hTI, ⟨x0, y0, w0, hTO⟩, h1, h2, h3⟩ := st
    obtain ⟨xs, ys, zs, qx, qy, qz, l1, l2, l3, hend⟩ := hg
    obtain ⟨us, ru, p1, la⟩ := row I qx
    obtain ⟨vs, rv, p2, lb⟩ := row I qy
    obtain ⟨ws, rw', p3, lc⟩ := row I qz
    have e1 := ru.length
    have e2 := rv.length
    have e3 := rw'.length
    have hh := I.ok.hd hc
    refine wpAny_pyNext_zipD3_end S (draws t (A := X.A.in1) hh (apart h1 p1) us.toArray) (draws u (A := X.A.in1) hh (apart h2 p2) vs.toArray) (draws v (A := X.A.in1) hh (apart h3 p3) ws.toArray) hz hTI hTO ⟨h1, p1⟩ ⟨h2, p2⟩ ⟨h3, p3⟩ (by simp; omega) (by simp; omega) (by simp; omega) (by simp; omega) fun h' tk hk => ⟨rfl, I.turnedL (t' := tk) (ch := [z, TI, TO, i1, i2, i3]) (fun d o hd q => ?_) hf⟩
    simp only [List.mem_cons, List.not_mem_nil, or_false, not_or] at hd
    exact hk d o hd.1 hd.2.2.1 hd.2.2.2.1 hd.2.2.2.2.1 hd.2.2.2.2.2 q
  self := fun A i s Q E st h => wpAny_pyIter_zip st.1 h
end Z3
namespace PM
open PySem PySem.Spec PyProof.Rows L2 LB
section
variable {T : Tb} {K : PySem.W.Frag} {X : Cx} {e : Expr}
end
end PM
namespace PM
open PySem PySem.Spec PyProof.Rows L2 LB
section
variable {T : Tb} {K : PySem.W.Frag} {X : Cx} {st : Stmt} {R : ER}
/-! ### d.setdefault(k, v) as a statement, d one's own dict with tuple keys -/
end
end PM
namespace PM
open PySem PySem.Spec PyProof.Rows L2 LB
section
variable {T : Tb} {K : PySem.W.Frag} {X : Cx}
/-! ### max of three whole numbers -/
end
end PM
namespace PM
open PySem PySem.Spec PyProof.Rows L2 LB
section
variable {T : Tb} {K : PySem.W.Frag} {X : Cx} {e : Expr}
/-! ### l.index(x), the items of any kind -/
end
end PM
namespace PM
open PySem PySem.Spec PyProof.Rows L2 LB
section
variable {T : Tb} {K : PySem.W.Frag} {X : Cx}
/-! ### the sum of a list of whole numbers -/
end
end PM
namespace PM
open PySem PySem.Spec PyProof.Rows L2 LB
section
variable {T : Tb} {K : PySem.W.Frag} {X : Cx} {e : Expr}
/-! ### enumerate of a list -/
def enumD (xs : List PyData) : List PyData := (List.range xs.length).map fun (i : Nat) => .tuple [.int (i : Int), xs.getD i .none]
theorem enumD_at {xs : List PyData} {i : Nat} {d : PyData} (h : xs[i]? = some d) : (enumD xs)[i]? = some (.tuple [.int (i : Int), d]) := by
  obtain ⟨hi, e⟩ := List.getElem?_eq_some_iff.mp h
  unfold enumD
  rw [List.getElem?_map, List.getElem?_range hi]
  show some (PyData.tuple [.int (i : Int), xs.getD i .none]) = _
  rw [List.getD_eq_getElem?_getD, h]
  rfl
theorem enumD_len (xs : List PyData) : (enumD xs).length = xs.length := by
  unfold enumD
  rw [List.length_map, List.length_range]
end
end PM
namespace EN
open PySem PySem.Spec PyProof.Rows L2 LB ZM
/-! ### enumerate of a row, a list or a tuple -/
set_option maxHeartbeats 1000000 in
theorem meets_new1 {v : Value} {o : Obj} {H : Heap → Prop} (B : Begins v o H) :
    Meets (Builtin.«enumerate.__new__» ⟨[.type "enumerate", v], []⟩) (fun _ R s => H s.heap ∧
      R (.ok (.ret (.ref (s.heap.push o).objs.size))) { s with heap := (s.heap.push o).push { cls := .type "enumerate", data := .fields #[.none, .bool false, .ref s.heap.objs.size, rawInt 0, .none, .none] } }) :=
  .of_wp fun prog w A R s h => by
    obtain ⟨hp, g, d, tk, os⟩ := s; obtain ⟨h1, h⟩ := h
    have hsub := sub_enumerate
    have q1 : ∀ {A' : Around} {E : Value → Shared → Prop} {Q : Value → Shared → Prop}, Q (.ref hp.objs.size) ⟨hp.push o, g, d, tk, os⟩ → wpAny (model prog w) A' (pyIter v) Q E ⟨hp, g, d, tk, os⟩ :=
      fun q => B.iter prog w _ _ ⟨hp, g, d, tk, os⟩ _ h1 q
    wp_walk using q1
    refine wpAny_stack_any fun st => wpAny_pure ?_
    split
    · rename_i c _ _ _ _ _
      cases (c == Value.type "enumerate")
      · wp_walk using q1
        exact ⟨_, rfl, h⟩
      · wp_walk using q1
        exact ⟨_, rfl, h⟩
    · wp_walk using q1
      exact ⟨_, rfl, h⟩
section
variable {prog : Program} {w : World} {A : Around} {E : Value → Shared → Prop} {s : Shared}
theorem begins1 {v : Value} {o : Obj} {H : Heap → Prop} {Q : Value → Shared → Prop} (B : Begins v o H) (h1 : H s.heap)
    (h : ∀ h', IsEnum h' (s.heap.objs.size + 1) s.heap.objs.size 0 .none → h'.get? s.heap.objs.size = some o → h'.objs.size = s.heap.objs.size + 2 →
      (∀ b o, s.heap.get? b = some o → h'.get? b = some o) → Q (.ref (s.heap.objs.size + 1)) { s with heap := h' }) :
    wpAny (model prog w) A (call (.type "enumerate") [v]) Q E s := by
  refine callType_new F.called_enumerate (by decide) (F.typeCall_enumerate_1 _) (F.newCall_enumerate_1 _) (fun obj => F.args_object_init_2 obj _) F.entry_enumerate_new
    (meets_new1 B) ⟨h1, ?_⟩
  have hz : (s.heap.push o).objs.size = s.heap.objs.size + 1 := Heap.size_push ..
  show _ ∧ _
  rw [hz]
  have he : IsEnum ((s.heap.push o).push { cls := .type "enumerate", data := .fields #[.none, .bool false, .ref s.heap.objs.size, rawInt 0, .none, .none] }) (s.heap.objs.size + 1) s.heap.objs.size 0 .none := by
    have := Heap.get?_push_size (s.heap.push o) (o := { cls := .type "enumerate", data := .fields #[.none, .bool false, .ref s.heap.objs.size, rawInt 0, .none, .none] }) rfl
    rw [hz] at this; exact this
  refine ⟨⟨_, he, rfl⟩, h _ he (Heap.get?_push_of_some _ (Heap.get?_push_size _ B.free)) (by rw [Heap.size_push, hz]) fun b o x => Heap.get?_push_of_some _ (Heap.get?_push_of_some _ x)⟩
end
def ItE (K : PySem.W.Frag) (t : Bool) (a : Addr) : It :=
  ⟨fun i H => ∃ (xs : List V) (x : V), SqK K t H a xs ∧ xs[i]? = some x, fun i H v H' => ∃ T x, v = .ref T ∧ H T = none ∧ H' = upd H T (.tup [.int (i : Nat), x]) ∧ ∀ xs, SqK K t H a xs → xs[i]? = some x, fun i H => ∃ xs : List V, SqK K t H a xs ∧ xs.length = i⟩
theorem turn {P : Program} {w : World} {K : PySem.W.Frag} {elts : List Expr} {kk : Nat} {tpos : Pos} {t : Bool} (a e it : Addr) (hne : e ≠ it) (hea : e ≠ a) :
    Turn P w K (.Tuple elts kk tpos) (ItE K t a) [e, it] e (fun i h => (∃ old, IsEnum h e it ((i : Nat) : Int) old) ∧ ItK t h it a i) where
  mem := by simp
  obj := fun i h st b hb => by
    obtain ⟨⟨old, he⟩, hit⟩ := st
    simp only [List.mem_cons, List.not_mem_nil, or_false] at hb
    rcases hb with rfl | rfl
    · exact ⟨_, he, fun v q => nomatch q⟩
    · exact it_obj hit
  keep := fun i h h' st k => let ⟨⟨old, he⟩, hi⟩ := st; ⟨⟨old, k e (by simp) _ he⟩, it_at hi fun o q => k it (by simp) o q⟩
  item := by
    intro X hP hw hK hc i pins s σ H E I hf st hg
    subst hP hw hK
    obtain ⟨⟨old, he⟩, hit⟩ := st
    obtain ⟨xs, x, hq, hx⟩ := hg
    obtain ⟨us, rv, p, la⟩ := row I hq
    obtain ⟨u, hu, ru⟩ := rv.get hx
    have hh := I.ok.hd hc
    have gu : us.toArray[i]? = some u := by simpa using hu
    have hel : e < s.heap.objs.size := Heap.lt_size he
    have hil : it < s.heap.objs.size := by
      obtain ⟨_, q, _⟩ := it_obj hit
      exact Heap.lt_size q
    have hef : e ∉ [it, a] := by
      simp only [List.mem_cons, List.not_mem_nil, or_false, not_or]
      exact ⟨hne, hea⟩
    refine wpAny_pyNext_enum_itemD (draws t (A := X.A.in1) hh (Z3.apart hit p) us.toArray) he ⟨hit, p⟩ (Array.getElem?_eq_some_iff.mp gu).1 hne hef fun x2 h' tk hP ho hst' hT hsz hk => ?_
    rw [gu] at hP
    cases hP
    refine ⟨_, rfl, wpAny_letOwnedTupleGo_enum (s := { s with heap := h', toks := tk + 1 }) ho fun h'' he' sb => ?_⟩
    have hT2 : h''.get? s.heap.objs.size = some { cls := .type "tuple", data := .seq #[.int i tk, u] } := (sb.2 _ (Nat.ne_of_gt hel)).trans hT
    have new : ObjOk X.prog X.w (upd H s.heap.objs.size (.tup [.int (i : Nat), x])) h'' s.heap.objs.size (.tup [.int (i : Nat), x]) :=
      ⟨by show 2 ≤ sizeLine; decide, [.int i tk, u], .cons ⟨_, rfl⟩ (.cons ru .nil), ⟨_, hT2, rfl, _, rfl⟩⟩
    have I1 : Inv X pins σ (upd H s.heap.objs.size (.tup [.int (i : Nat), x])) { s with heap := h'', toks := tk + 1 } :=
      I.turnedNew (ch := [e, it]) (fun b ob hb q => (sb.2 b (fun z => hb (by simp [z]))).trans (hk b ob (fun z => hb (by simp [z])) (fun z => hb (by simp [z])) q)) hf (Nat.le_refl _) new
    refine ⟨.ref s.heap.objs.size, _, I1, rfl, ⟨_, x, rfl, I.hok.fresh (Nat.le_refl _), rfl, fun ys hy => by rw [inj I hy hq]; exact hx⟩, ⟨⟨u, ?_⟩, it_at hst'.1 fun o q => (sb.2 it (Ne.symm hne)).trans q⟩, fun b hb => ?_⟩
    · have e1 : ((i + 1 : Nat) : Int) = (i : Int) + 1 := by omega
      rw [e1]; exact he'
    · have hb' : b < s.heap.objs.size := by
        simp only [List.mem_cons, List.not_mem_nil, or_false] at hb
        rcases hb with z | z
        · rw [z]; exact hel
        · rw [z]; exact hil
      rw [upd_ne (Nat.ne_of_lt hb')]
      exact (hf b hb).1
  done := by
    intro X hP hw hK hc i pins s σ H E I hf st hg
    subst hP hw hK
    obtain ⟨⟨old, he⟩, hit⟩ := st
    obtain ⟨xs, hq, hx⟩ := hg
    obtain ⟨us, rv, p, la⟩ := row I hq
    obtain ⟨f0, f1, f2, f3, f4, f5⟩ := hf it (by simp)
    have hl := rv.length
    have hn : us.toArray.size = i := by simp; omega
    have hst : ItK t s.heap it a us.toArray.size ∧ IsK t s.heap a us.toArray := ⟨by rw [hn]; exact hit, p⟩
    exact wpAny_pyNext_enum_endD (draws t (A := X.A.in1) (I.ok.hd hc) (Z3.apart hit p) us.toArray) he hst fun h' eb => ⟨rfl, I.turned (t' := s.toks) (fun b o hb q => eb b o hb q) f0 f1 f3 f4 f5⟩
  self := fun A i s Q E st h => let ⟨⟨_, he⟩, _⟩ := st; wpAny_pyIter_enum he h
def iE (K : PySem.W.Frag) (ta : TA) : TI := fun σ H R => ta σ H fun vs H1 => ∃ a xs t, vs = [.ref a] ∧ SqK K t H1 a xs ∧ R (ItE K t a) H1
theorem pi_en {X : Cx} {e : Expr} {ta : TA} {p pos tpos : Pos} {elts : List Expr} {kk : Nat} (hg : Gl X "enumerate") (hm : X.mg "enumerate" = none) (ha : PA X [e] ta) (hs : starEach [e] X.env = [(false, eval e X.env)] := by rfl) :
    PI X (.Tuple elts kk tpos) (.Call (.Name "enumerate" p) [e] [] pos) (iE X.K ta) := by
  refine ⟨fun pins s σ H R I h => ?_⟩
  refine Call_ (ld_blt I hg hm boot_enumerate (PyProof.Rows.callWith_type1 (thn (ha.run pos pins s σ H _ I h) fun us s1 ⟨vs, H1, I1, r1, q1⟩ => ?_) hs rfl))
  obtain ⟨a, xs, t, ex, hq, q⟩ := q1
  subst ex
  cases r1 with
  | cons r rr =>
    cases rr
    cases r
    obtain ⟨its, rv, p', la⟩ := row I1 hq
    refine begins1 (begins t a its.toArray) p' fun h' he hit hsz hk => wpAny_pyIter_enum he ?_
    have I2 : Inv X pins σ H1 { s1 with heap := h' } := I1.kept (t' := s1.toks) hk
    refine ⟨s1.heap.objs.size + 1, [s1.heap.objs.size + 1, s1.heap.objs.size], _, _, H1, rfl, I2, turn a (s1.heap.objs.size + 1) s1.heap.objs.size (Nat.succ_ne_self _) (Nat.ne_of_gt (Nat.lt_succ_of_lt la)), ⟨⟨.none, he⟩, it0 hit⟩, fun b hb => ?_, q⟩
    have e' : b = s1.heap.objs.size + 1 ∨ b = s1.heap.objs.size := by simpa using hb
    have hle : s1.heap.objs.size ≤ b := by
      rcases e' with z | z
      · rw [z]; exact Nat.le_add_right _ _
      · rw [z]; exact Nat.le_refl _
    exact I1.fpOk hle (I1.hok.fresh hle)
end EN
namespace PM
open PySem PySem.Spec PyProof.Rows L2 LB
section
variable {T : Tb} {K : PySem.W.Frag} {X : Cx} {e : Expr}
def oEnumK : List PyData → Option (List PyData)
  | [x] => (lsO x).map enumD
  | _ => none
def iEk (a : MA) : MA := fun ρ => (a ρ).bind oEnumK
theorem wk_ek {P1 : Pr T} {t : Bool} {a : Addr} {xs : List V} {ds : List PyData} (hs : ZM.SqK K t P1.M a xs) (ra : RpAll K P1.M xs ds) : WkM K P1 (EN.ItE K t a) (enumD ds) := by
  have g : ∀ {P' : Pr T}, Ex P1.M P'.M → ZM.SqK K t P'.H a xs := fun {P'} x => ex_K P'.sub (ex_K x hs)
  have l := enumD_len ds
  have l1 := ra.length
  refine ⟨fun P' x => ⟨xs, g x, by omega⟩, fun i P' hi x => ?_, fun i P' v H'' hi x y => ?_⟩
  · exact ⟨xs, xs[i]'(by omega), g x, List.getElem?_eq_getElem _⟩
  · obtain ⟨t, v1, rfl, hn, rfl, h1⟩ := y
    obtain ⟨d1, e1, r1⟩ := ra.get (h1 xs (g x))
    have lp := (le_put P' (o := .tup [.int (i : Nat), v1]) hn).m
    exact ⟨P'.put t (.tup [.int (i : Nat), v1]) hn, rfl, le_put P' hn, _, enumD_at e1, .tup upd_same (.cons (.int _) (.cons ((r1.ext x).ext lp) .nil))⟩
theorem c_iek {tg : Expr} {a : MA} (h : PI X tg e (EN.iE K (tA K T a))) : PI X tg e (tI K T (iEk a)) := pi_to h fun σ H Q ⟨P0, P, ρ, ds, h1, s, h2, q⟩ => by
  subst h1
  obtain ⟨x, ex, h3⟩ := bind_eq h2
  refine ⟨P0, P, ρ, x, rfl, s, ex, fun vs P1 l1 r1 => ?_⟩
  unfold oEnumK at h3
  split at h3
  · obtain ⟨xs, e1, rfl⟩ := map_eq h3
    cases r1 with
    | cons r1 r2 =>
      cases r2
      obtain ⟨t, a, va, rfl, qa, ra⟩ := rp_K r1 e1
      exact ⟨_, _, t, rfl, ex_K P1.sub qa, q _ P1 l1 (wk_ek qa ra)⟩
  · cases h3
theorem pi_ek {e1 : Expr} {ta : TA} {p pos tpos : Pos} {elts : List Expr} {kk : Nat} (hg : Gl X "enumerate") (hm : X.mg "enumerate" = none) (ha : PA X [e1] ta) (hK : X.K = K := by rfl) (hs : starEach [e1] X.env = [(false, eval e1 X.env)] := by rfl) : PI X (.Tuple elts kk tpos) (.Call (.Name "enumerate" p) [e1] [] pos) (EN.iE K ta) := by
  subst hK
  exact EN.pi_en hg hm ha hs
/-! ### a, (b, c): a name, then a tuple of names -/
end
end PM
namespace PM
open PySem PySem.Spec PyProof.Rows L2 LB
section
variable {T : Tb} {K : PySem.W.Frag} {X : Cx} {st : Stmt} {R : Bool}
/-! ### str(n), bool(n) -/
/-! ### xs[a], ys[b] = v -/
end
end PM
namespace PM
open PySem PySem.Spec PyProof.Rows L2 LB
section
variable {T : Tb} {K : PySem.W.Frag} {X : Cx} {st : Stmt} {R : ER}
end
end PM
namespace PM
open PySem PySem.Spec PyProof.Rows L2 LB
section
variable {T : Tb} {K : PySem.W.Frag} {X : Cx} {st : Stmt} {R : ER}
end
end PM
namespace PM
open PySem PySem.Spec PyProof.Rows L2 LB
section
variable {T : Tb} {K : PySem.W.Frag} {X : Cx} {e : Expr}
/-! ### dict([(k, v), ..]), the keys texts, as a datum -/
/-! ### {k: v, ..}, the keys texts, as a datum -/
end
end PM
namespace PM
open PySem PySem.Spec PyProof.Rows L2 LB
section
variable {T : Tb} {K : PySem.W.Frag} {X : Cx} {e : Expr}
/-! ### sorted(d), d a datum dict with texts for keys -/
end
end PM
namespace PM
open PySem PySem.Spec PyProof.Rows L2 LB
section
variable {T : Tb} {K : PySem.W.Frag} {X : Cx} {st : Stmt} {R : ER}
end
end PM
namespace PM
open PySem PySem.Spec PyProof.Rows L2 LB
section
variable {X : Cx} {pins : List (Addr × Obj)} {σ : L2.St} {H : Hp} {s : Shared} {a b : Addr} {v : V} {r : Value} {A : Around} {E : Value → Shared → Prop}
/-! ### {k: v, ..}, the keys tuples, as one's own dict -/
end
section
variable {T : Tb} {K : PySem.W.Frag} {X : Cx} {e : Expr}
/-! ### from here on an own dict with tuple keys is a datum -/
end
section
variable {T : Tb} {K : PySem.W.Frag} {X : Cx} {st : Stmt} {R : ER}
end
end PM
namespace PM
open PySem PySem.Spec PyProof.Rows L2 LB
section
variable {T : Tb} {K : PySem.W.Frag} {X : Cx} {e : Expr}
/-! ### d[k], d one's own dict with tuple keys -/
end
end PM
namespace PM
open PySem PySem.Spec PyProof.Rows L2 LB
section
variable {T : Tb} {K : PySem.W.Frag} {X : Cx} {e : Expr}
/-! ### [..] * n -/
def oRep : PyData → PyData → Option PyData
  | .list xs, .int n => if 0 ≤ n ∧ n ≤ 1000 ∧ xs.length ≤ 100 then some (.list (List.replicate n.toNat xs).flatten) else none
  | _, _ => none
theorem rpAll_rep {M : Hp} {vs : List V} {xs : List PyData} (h : RpAll K M vs xs) : ∀ k : Nat, RpAll K M (List.replicate k vs).flatten (List.replicate k xs).flatten
  | 0 => .nil
  | k + 1 => by
    rw [List.replicate_succ, List.replicate_succ, List.flatten_cons, List.flatten_cons]
    exact RpAll.append h (rpAll_rep h k)
theorem c_repF {a b : ME} (h : PE X e (tOp rRep (tF K T a) (tW K T b))) : PE X e (tF K T (mOp oRep a b)) := pe_to h fun σ H Q ⟨P0, P, ρ, d, h1, s, h2, q⟩ => by
  subst h1
  obtain ⟨x, ex, h3⟩ := bind_eq h2
  obtain ⟨y, ey, h4⟩ := bind_eq h3
  clear h2 h3
  unfold oRep at h4
  split at h4
  · rename_i xs n
    split at h4
    · rename_i hh
      cases h4
      refine ⟨P0, P, ρ, _, rfl, s, ex, fun p P1 l1 r1 lo => ⟨P0, P1, ρ, _, rfl, s.up l1, ey, fun u P2 l2 r2 => ?_⟩⟩
      have r3 := r1.up l2
      cases r3 with
      | @lst vs _ a1 a2 a3 =>
        have eu : u = .int n := r2.int
        have hl := a3.length
        refine ⟨p, n, vs, rfl, eu, a2, by omega, by omega, ?_, fun p' hp => ?_⟩
        · have : vs.length * n.toNat ≤ 100 * 1000 := Nat.mul_le_mul (by omega) (by omega)
          exact Nat.le_trans this (by decide)
        · exact q _ (P2.hid p' (.lst (List.replicate n.toNat vs).flatten) hp) ((l1.trans l2).trans (le_hid P2 hp)) (.lst (P2.none hp) upd_same (rpAll_rep a3 _)) (loose_back (l1.trans l2).h (loose_none hp))
    · cases h4
  · cases h4
end
end PM
namespace PM
open PySem PySem.Spec PyProof.Rows L2 LB
section
variable {X : Cx} {pins : List (Addr × Obj)} {σ : L2.St} {H : Hp} {s : Shared}
/-! ### dict([(k, v), ..]), the keys tuples, as a datum -/
end
section
variable {T : Tb} {K : PySem.W.Frag} {X : Cx} {e : Expr}
end
end PM
namespace PM
open PySem PySem.Spec PyProof.Rows L2 LB
section
variable {T : Tb} {K : PySem.W.Frag} {X : Cx} {e : Expr}
/-! ### len(dict([(k, v), ..])), the keys tuples -/
end
end PM
namespace PM
open PySem PySem.Spec PyProof.Rows L2 LB
section
variable {T : Tb} {K : PySem.W.Frag} {X : Cx} {e : Expr}
/-! ### sorted(set(xs)), xs a list of pairs of whole numbers -/
end
end PM
namespace PM
open PySem PySem.Spec PyProof.Rows L2 LB
variable {T : Tb} {K : PySem.W.Frag} {X : Cx} {e : Expr}
/-! ### generator expressions with two fors -/
def lcGo2 (gm : MG) (mt : MT) (mi1 : MA) (vs1 : List Nat) (gm1 : MG) (mt1 : MT) (me : ME) (ρ : Ev) : List PyData → Option (List PyData)
  | [] => some []
  | d :: ds => (gm d ρ).bind fun ρ1 => (mt ρ1).bind fun b => if b = true then (mi1 ρ1).bind fun es => (lcGo gm1 mt1 me (wipeM ρ1 vs1) es).bind fun l => (lcGo2 gm mt mi1 vs1 gm1 mt1 me ρ ds).map fun r => l ++ r else lcGo2 gm mt mi1 vs1 gm1 mt1 me ρ ds
end PM
namespace PM
open PySem PySem.Spec PyProof.Rows L2 LB
variable {T : Tb} {K : PySem.W.Frag} {X : Cx}
end PM
namespace PM
open PySem PySem.Spec PyProof.Rows L2 LB
section
variable {T : Tb} {K : PySem.W.Frag} {X : Cx} {e : Expr} {sts : List Stmt} {R : ER}
/-! ### d = {k: [] for k in ..} where a key may come twice, then d[a].append(b) -/
end
end PM
namespace GX
open PySem PySem.Spec PyProof.Rows L2 GenW
section
variable {X : Cx} {pins : List (Addr × Obj)} {σ : L2.St} {H : Hp} {s : Shared}
theorem Off.back2 {elt tg iter tg1 iter1 : Expr} {ifs ifs1 : List Expr} {scope : Scope} {pos : Pos} {s4 : Shared} {H4 : Hp} {code : Value} {J : It} {fp : List Addr} {it : Addr} {tn : Nat → Heap → Prop} {a : Addr} {t1 t2 : Tok} {s5 s' : Shared} {Q : Hp → Prop}
    (M : Made2 X pins σ elt tg iter tg1 iter1 ifs ifs1 scope pos s4 H4 code J fp it tn a t1 t2 s5) (o : Off X fp s4 H4 Q s') : ∃ H', Inv X pins σ H' s' ∧ Q H' := by
  obtain ⟨H', h1, h2, h3, h4, h5⟩ := o
  exact ⟨H', M.inv.call' (ch := fp) h1 h3 h4 h2 fun b hb => let f := (M.fp b hb).1; ⟨f.2.2.2.1, f.2.1, f.2.2.2.2.1, f.2.2.2.2.2⟩, h5⟩
/-- all(elt for tg in iter if .. for tg1 in iter1 if ..) -/
def tAllG2 (T : List (Addr × Str)) (wi : TI) (g : TG) (tt : TT) (wi1 : TI) (g1 : TG) (tt1 : TT) (te : TE) (vs vs1 : List Nat) : TE := fun σ H Q => wi σ H fun J H1 => LamX.Tabs T H1 ∧ ∀ H2, LamX.ExtN H1 H2 → LamX.Tabs T H2 → ∃ W : Nat → Nat → List V → Hp → Prop, (∃ m, W 0 m [] H2) ∧ ∀ i m ys H, W i m ys H →
  (J.stop i H ∧ Q (.bl true) H) ∨ (J.go i H ∧ ∀ x H', J.yld i H x H' → g x (wipe σ vs) H' fun σ2 H2 => wipe σ2 vs = wipe σ vs ∧ tt σ2 H2 fun b H3 =>
    if b = true then wi1 σ2 H3 fun J1 H4 => ∃ W1 : Nat → Nat → List V → Hp → Prop, (∃ k, W1 0 k ys H4) ∧ ∀ j k ys H, W1 j k ys H →
      (J1.stop j H ∧ ∃ m', m' < m ∧ W (i + 1) m' ys H) ∨ (J1.go j H ∧ ∀ x H', J1.yld j H x H' → g1 x (wipe σ2 vs1) H' fun σ3 H5 => wipe σ3 vs1 = wipe σ2 vs1 ∧ tt1 σ3 H5 fun b H6 =>
        if b = true then te σ3 H6 fun y H7 => ys.length < sizeLine ∧ ∃ c, y = .bl c ∧ (c = true → ∃ k', k' < k ∧ W1 (j + 1) k' (ys ++ [y]) H7) ∧ (c = false → Q (.bl false) H7) else ∃ k', k' < k ∧ W1 (j + 1) k' ys H6)
    else ∃ m', m' < m ∧ W (i + 1) m' ys H3)
theorem pe_allG2 {k : Nat} {T : List (Addr × Str)} {c P : Addr} {elt tg iter tg1 iter1 : Expr} {ifs ifs1 : List Expr} {vs1 : List Nat} {scope : Scope} {gpos : Pos} {own : List (Str × Nat)} {wi wi1 : TI} {g g1 : TG} {tt tt1 : TT} {te : TE} {p pos : Pos} (hr : Room (k + 2) X.A) (hgl : Gl X "all") (hmg : X.mg "all" = none) (TB : LamX.TabB X.base X.mg c P) (hcode : X.env.code = .ref c)
    (hm : (P, X.env.qual ++ "<genexpr>") ∈ T) (hu : ∀ p ∈ T, p.1 = P → p.2 = X.env.qual ++ "<genexpr>") (ok : GxS X.N X.env.scope scope own) (hN : X.N.Nodup) (hi : PI X tg iter wi) (hs : ∀ v, genFold iter X.env v = pure v)
    (hg : ∀ (A : Around) (s : Shared) (H : Hp) (C : Addr) (cl : List (Str × Addr)) (code : Value) (fp : List Addr) (pn : List (Addr × Obj)), PG (gCx X A s H (genEnv scope cl C code builtinsNs X.env) fp pn) tg g)
    (ht : ∀ (A : Around) (s : Shared) (H : Hp) (C : Addr) (cl : List (Str × Addr)) (code : Value) (fp : List Addr) (pn : List (Addr × Obj)), Room k (A.deeper (genEnv scope cl C code builtinsNs X.env)) → PTs (gCx X A s H (genEnv scope cl C code builtinsNs X.env) fp pn) ifs tt)
    (hv : ∀ i ∈ vs1, i ∈ own.map (·.2)) (hs1 : ∀ env x, foldedSetIterable iter1 env x = pure x)
    (hi1 : ∀ (A : Around) (s : Shared) (H : Hp) (C : Addr) (cl : List (Str × Addr)) (code : Value) (fp : List Addr) (pn : List (Addr × Obj)), Room k (A.deeper (genEnv scope cl C code builtinsNs X.env)) → PI (gCx X A s H (genEnv scope cl C code builtinsNs X.env) fp pn) tg1 iter1 wi1)
    (hg1 : ∀ (A : Around) (s : Shared) (H : Hp) (C : Addr) (cl : List (Str × Addr)) (code : Value) (fp : List Addr) (pn : List (Addr × Obj)), PG (gCx X A s H (genEnv scope cl C code builtinsNs X.env) fp pn) tg1 g1)
    (ht1 : ∀ (A : Around) (s : Shared) (H : Hp) (C : Addr) (cl : List (Str × Addr)) (code : Value) (fp : List Addr) (pn : List (Addr × Obj)), Room k (A.deeper (genEnv scope cl C code builtinsNs X.env)) → PTs (gCx X A s H (genEnv scope cl C code builtinsNs X.env) fp pn) ifs1 tt1)
    (he : ∀ (A : Around) (s : Shared) (H : Hp) (C : Addr) (cl : List (Str × Addr)) (code : Value) (fp : List Addr) (pn : List (Addr × Obj)), Room k (A.deeper (genEnv scope cl C code builtinsNs X.env)) → PE (gCx X A s H (genEnv scope cl C code builtinsNs X.env) fp pn) elt te)
    (hb : bootBuiltins "all" = some (.builtin "all") := by rfl)
    (hst : starEach [.GeneratorExp elt [⟨tg, iter, ifs, 0⟩, ⟨tg1, iter1, ifs1, 0⟩] scope gpos] X.env = (false, eval (.GeneratorExp elt [⟨tg, iter, ifs, 0⟩, ⟨tg1, iter1, ifs1, 0⟩] scope gpos) X.env) :: starEach [] X.env := by rfl) :
    PE X (.Call (.Name "all" p) [.GeneratorExp elt [⟨tg, iter, ifs, 0⟩, ⟨tg1, iter1, ifs1, 0⟩] scope gpos] [] pos) (tAllG2 T wi g tt wi1 g1 tt1 te (own.map (·.2)) vs1) := by
  refine ⟨fun pins s σ H Q I h => ?_⟩
  refine wpAny_Call_Name_kw (ld_blt I hgl hmg hb ?_)
  refine PyProof.Rows.callWith_builtin1 ?_ hst (by rfl)
  rw [hst]
  show wpAny _ _ (spliced ((false, eval (.GeneratorExp elt [⟨tg, iter, ifs, 0⟩, ⟨tg1, iter1, ifs1, 0⟩] scope gpos) X.env) :: backTo pos (starEach [] X.env))) _ _ s
  refine Calls.spliced_cons (gen_make2 (by have := hr.dp; omega) TB hcode hm hu ok hi hs I h fun s4 H4 code J fp it tn a t1 t2 s5 M ⟨W, ⟨m0, w0⟩, turn⟩ => ?_)
  refine Calls.spliced_nil ?_
  refine call_function_tree F.kind_all F.plain_all F.entry_all (F.args_all1 _) ?_
  unfold Builtin.«all»
  refine wpAny_bind (m := oneArg "all" _) (wpAny_pure ?_)
  have hgen : s5.heap.IsGen a s4.gens.size := genObj_at M.obj
  have hb5 : AllBare s5.gens := by rw [M.gens]; exact M.inv.bare.push rfl
  have hl5 : s5.heap.NoLimit := M.inv.nolimit.keeps M.keep
  refine wpAny_bind (wpAny_pyIter_gen hgen ?_)
  have hra : Room (k + 1) X.A.in1.in1 := ⟨hr.hd, by have := hr.dp; show X.A.depth + 3 * (k + 1) + 5 < _; omega, by have := hr.un; show X.A.units + 1 + 1 + 16 * (k + 1) + 200 < _; omega⟩
  generalize hce : genEnv scope (cloFrom X.env.cells scope.names []) s4.heap.objs.size code builtinsNs X.env = ce
  have cs : ce.scope = scope := by rw [← hce]; rfl
  have E : Eats2 (gCx X X.A.in1.in1 s4 H4 ce fp [(a, genObj s4.gens.size (X.env.qual ++ "<genexpr>") t1 t2)]) fp [] J (wipe σ (own.map (·.2))) (own.map (·.2)) vs1 g tt wi1 g1 tt1 te W (fun ip _ => ip = []) (fun n ys => n + ys.length = sizeLine) (fun _ H => Q (.bl true) H)
      (fun ys y H N => ys.length < sizeLine ∧ ∃ c, y = .bl c ∧ (c = true → N) ∧ (c = false → Q (.bl false) H)) (allE X fp s4 H4 fun H => Q (.bl true) H) (allY X fp s4 H4 false a s4.gens.size fun H => Q (.bl false) H) := by
    have off : ∀ {ip : List (Addr × Obj)} {σ' : L2.St} {H' : Hp} {s' : Shared} {R : Hp → Prop}, Inv (gCx X X.A.in1.in1 s4 H4 ce fp [(a, genObj s4.gens.size (X.env.qual ++ "<genexpr>") t1 t2)]) ip σ' H' s' → R H' → Off X fp s4 H4 R s' := fun I' r => ⟨_, I'.os, I'.bare, I'.base, I'.hok, r⟩
    refine ⟨fun ip ys h p hp => ?_, (fun ip ys h b hb => absurd hb List.not_mem_nil), (fun b hb => List.not_mem_nil), fun n s₀ ys ip H' s' _ _ I' q => .inl ⟨.inr rfl, off I' q⟩, fun n ys y H' N hj hy => ⟨n - 1, ?_⟩, fun n s₀ ys ip σ' H' s' y v kap N hj hk I' rv yc w => ?_, fun i m ys H hw => turn i m ys H hw⟩
    · rw [h] at hp
      cases hp
    · have := hy.1
      have hj : n + ys.length = sizeLine := hj
      omega
    · obtain ⟨_, c, rfl, c1, c2⟩ := yc
      obtain rfl : v = .bool c := rv
      subst hk
      have hj : n + 1 + ys.length = sizeLine := hj
      refine ⟨genObj_at (I'.pin (a, _) (List.mem_append_left _ (List.mem_singleton.mpr rfl))).1, I'.nolimit, I'.bare, c, rfl, fun hc s2 ho hb2 hk2 => ?_, fun hc => off I' (c2 hc)⟩
      exact w (c1 hc) [] s2 (by show n + (ys ++ [_]).length = sizeLine; rw [List.length_append]; simp; omega) rfl (I'.call' (ch := []) ho (Un.kept hk2) (I'.hok.kept hk2) hb2 fun b z => by simp at z) fun b _ o e => hk2 b o e
  have hgs : s5.gens[s4.gens.size]? = some (.fresh (.compStart (.GeneratorExp elt [⟨tg, iter, ifs, 0⟩, ⟨tg1, iter1, ifs1, 0⟩] scope gpos) 0 (.ref it) .none ce)) := by rw [M.gens, ← hce]; exact Array.getElem?_push_size ..
  have pg := hg X.A.in1.in1 s4 H4 s4.heap.objs.size (cloFrom X.env.cells scope.names []) code fp [(a, genObj s4.gens.size (X.env.qual ++ "<genexpr>") t1 t2)]
  have pt := ht X.A.in1.in1 s4 H4 s4.heap.objs.size (cloFrom X.env.cells scope.names []) code fp [(a, genObj s4.gens.size (X.env.qual ++ "<genexpr>") t1 t2)] (hra.deeper _)
  have pi1 := hi1 X.A.in1.in1 s4 H4 s4.heap.objs.size (cloFrom X.env.cells scope.names []) code fp [(a, genObj s4.gens.size (X.env.qual ++ "<genexpr>") t1 t2)] (hra.deeper _)
  have pg1 := hg1 X.A.in1.in1 s4 H4 s4.heap.objs.size (cloFrom X.env.cells scope.names []) code fp [(a, genObj s4.gens.size (X.env.qual ++ "<genexpr>") t1 t2)]
  have pt1 := ht1 X.A.in1.in1 s4 H4 s4.heap.objs.size (cloFrom X.env.cells scope.names []) code fp [(a, genObj s4.gens.size (X.env.qual ++ "<genexpr>") t1 t2)] (hra.deeper _)
  have pe := he X.A.in1.in1 s4 H4 s4.heap.objs.size (cloFrom X.env.cells scope.names []) code fp [(a, genObj s4.gens.size (X.env.qual ++ "<genexpr>") t1 t2)] (hra.deeper _)
  have I6 := M.inv' (s6 := s5.setGen s4.gens.size .running) (A := X.A.in1.in1) ok hN hr.hd M.inv.ok.frames (fun _ _ e => e) rfl (allBare_setGen hb5 rfl)
  rw [hce] at pg pt pi1 pg1 pt1 pe I6
  refine wpAny_pure ⟨plainId_quiet F.plain_all_loop _, all_loop (X := X) (QT := fun H => Q (.bl true) H) (QF := fun H => Q (.bl false) H) (fp := fp) (s4 := s4) (H4 := H4) hr.hd (by have := hr.dp; show X.A.depth < _; omega) (fun s' o => ?_) (fun s' o => ?_) sizeLine s5 hgen hl5 hb5 ⟨_, hgs, rfl, ?_⟩⟩
  · obtain ⟨H', I', q⟩ := Off.back2 M o
    exact ⟨.bl true, H', I', rfl, q⟩
  · obtain ⟨H', I', q⟩ := Off.back2 M o
    exact ⟨.bl false, H', I', rfl, q⟩
  · exact seg_gy0 E M.turn pg pt pi1 pg1 pt1 pe hv hs1 (by rw [cs]; exact ok.co) (fun p hp z => by
      rw [List.mem_singleton.mp hp] at z
      exact absurd (M.fp _ z).2 (Nat.not_lt.mpr (Nat.le_of_lt M.lt))) m0 sizeLine _ _ H4 [] (by show sizeLine + 0 = sizeLine; omega) w0 rfl I6 (M.turn.keep _ _ _ M.st fun b _ o e => M.keep b o e) fun b hb => (M.fp b hb).1.1
end
end GX
/-! ### sets of texts -/
namespace TX
open PySem PySem.Spec PyProof.Rows L2
def kS (e : Int × Value) : Str := match e.2 with
  | .str x _ => x
  | _ => Str.empty
def Ent (w : World) (e : Int × Value) : Prop := ∃ x u, e = (hashStr w x, Value.str x u)
/-- the set of texts at a, L the texts of its entries -/
def TxR (w : World) (h : Heap) (a : Addr) (L : List Str) : Prop :=
  ∃ o es ep t, h.get? a = some o ∧ o.ExactSet ∧ o.data = .set es ep t ∧ (∀ e ∈ es.toList, Ent w e) ∧ es.toList.map kS = L ∧ L.Nodup ∧ es.size < scanBound ∧ t.fits es.size = true ∧
    Ris t.place.toList ∧ (w.params.followText "set-order" = true ∨ t.led = true)
section
variable {P : Program} {w : World} {h h' : Heap} {a : Addr} {L : List Str}
theorem TxR.at (R : TxR w h a L) (k : ∀ o, h.get? a = some o → h'.get? a = some o) : TxR w h' a L := by
  obtain ⟨o, es, ep, t, ho, r⟩ := R
  exact ⟨o, es, ep, t, k o ho, r⟩
theorem ent_elems {l : List (Int × Value)} (g : ∀ e ∈ l, Ent w e) : ElemsOf (strKind P w) l := fun e he => by
  obtain ⟨x, u, rfl⟩ := g e he
  exact ⟨⟨x, strKind_is P w x u, rfl⟩, rfl⟩
theorem ent_is {e : Int × Value} (g : Ent w e) (k : Str) : (strKind P w).is k e.2 = decide (k = kS e) := by
  obtain ⟨x, u, rfl⟩ := g
  exact KeyKind.is_eq_decide (knd := strKind P w) (strKind_is P w x u) k
theorem laid {o : Obj} {es : Array (Int × Value)} {ep : Nat} {t : SetTable} (ho : h.get? a = some o) (hx : o.ExactSet) (hd : o.data = .set es ep t) {es1 : Array (Int × Value)} {t1 : SetTable}
    (g : ∀ e ∈ es1.toList, Ent w e) (nd : (es1.toList.map kS).Nodup) (hb : es1.size < scanBound) (hf : t1.fits es1.size = true) (hr : Ris t1.place.toList) (hl : w.params.followText "set-order" = true ∨ t1.led = true) :
    (h.update a (Obj.putSet es1 t1)).get? a = some { o with data := .set es1 (ep + 1) t1 } ∧ TxR w (h.update a (Obj.putSet es1 t1)) a (es1.toList.map kS) := by
  have ho1 := Heap.get?_update_self (Obj.putSet es1 t1) ho (by rw [putSet_of es1 t1 hd] <;> rfl)
  rw [putSet_of es1 t1 hd] at ho1
  exact ⟨ho1, _, es1, ep + 1, t1, ho1, hx, rfl, g, rfl, nd, hb, hf, hr, hl⟩
end
section
variable {P : Program} {w : World} {A : Around} {E : Value → Shared → Prop} {s : Shared} {a : Addr} {L : List Str}
theorem stored {ga : Bool → Sem Unit} (hg : ∀ (b : Bool) (u : Shared) (q : Unit → Shared → Prop), q () u → wpAny (model P w) A (ga b) q E u)
    {o : Obj} {es : Array (Int × Value)} {ep : Nat} {t : SetTable} (ho : s.heap.get? a = some o) (hx : o.ExactSet) (hd : o.data = .set es ep t) {es1 : Array (Int × Value)} {t1 : SetTable}
    (g : ∀ e ∈ es1.toList, Ent w e) (nd : (es1.toList.map kS).Nodup) (hb : es1.size < scanBound) (hf : t1.fits es1.size = true) (hr : Ris t1.place.toList) (hl : w.params.followText "set-order" = true ∨ t1.led = true)
    {wd : Bool} {R : Option Bool → Shared → Prop} (hR : ∀ h1 L1, Heap.SameBut a s.heap h1 → TxR w h1 a L1 → L1.Perm (es1.toList.map kS) → R (some true) { s with heap := h1 }) :
    wpAny (model P w) A (do
        storeSet a es1 t1
        if (!wd && t1.tooFull) = true then do
            ga (relayAll t1 es1 (SetTable.grown es1.size)).2.2
            storeSet a (relayAll t1 es1 (SetTable.grown es1.size)).1 (relayAll t1 es1 (SetTable.grown es1.size)).2.1
            pure (some true)
          else pure (some true)) R E s := by
  obtain ⟨ho1, R1⟩ := laid ho hx hd g nd hb hf hr hl
  refine wpAny_bind (wpAny_storeSet_of ho hd ?_ (fits_of_scanBound hb))
  have b1 := Heap.SameBut.update s.heap a (Obj.putSet es1 t1)
  by_cases c : (!wd && t1.tooFull) = true
  · rw [if_pos c]
    have p2 := relayAll_perm t1 es1 (SetTable.grown es1.size)
    have f2 := relayAll_fits t1 es1 (SetTable.grown es1.size)
    have r2 := relayAll_ris t1 es1 (SetTable.grown es1.size)
    have l2 := relayAll_led t1 es1 (SetTable.grown es1.size)
    generalize relayAll t1 es1 (SetTable.grown es1.size) = Z at p2 f2 r2 l2 ⊢
    obtain ⟨es2, t2, gv⟩ := Z
    dsimp only at p2 f2 r2 l2 ⊢
    have z2 : es2.size = es1.size := by rw [← Array.length_toList, p2.length_eq, Array.length_toList]
    have hb2 : es2.size < scanBound := by rw [z2]; exact hb
    obtain ⟨_, R2⟩ := laid (w := w) (a := a) ho1 hx rfl (es1 := es2) (t1 := t2) (fun e he => g e (p2.mem_iff.mp he)) ((p2.map kS).nodup_iff.mpr nd) hb2 f2 r2 (hl.imp id fun z => by rw [l2]; exact z)
    refine wpAny_bind (hg _ _ _ (wpAny_bind (wpAny_storeSet_of ho1 rfl ?_ (fits_of_scanBound hb2))))
    exact wpAny_pure (hR _ _ (b1.trans (Heap.SameBut.update _ a _)) R2 (p2.map kS))
  · rw [if_neg c]
    exact wpAny_pure (hR _ _ b1 R1 (List.Perm.refl _))
theorem ent_find {es : List (Int × Value)} (g : ∀ e ∈ es, Ent w e) (k : Str) : (∃ j, es.findIdx? (fun e => (strKind P w).is k e.2) = some j ∧ k ∈ es.map kS) ∨ (es.findIdx? (fun e => (strKind P w).is k e.2) = none ∧ k ∉ es.map kS) := by
  cases e : es.findIdx? (fun e => (strKind P w).is k e.2) with
  | some j =>
    obtain ⟨hj, pj, _⟩ := List.findIdx?_eq_some_iff_getElem.mp e
    have hm := List.getElem_mem hj
    rw [ent_is (g _ hm), decide_eq_true_iff] at pj
    exact .inl ⟨j, rfl, List.mem_map.mpr ⟨_, hm, pj.symm⟩⟩
  | none =>
    refine .inr ⟨rfl, fun z => ?_⟩
    obtain ⟨x, hx, ex⟩ := List.mem_map.mp z
    have := List.findIdx?_eq_none_iff.mp e x hx
    rw [ent_is (g _ hx), decide_eq_false_iff_not] at this
    exact this ex.symm
theorem put_in {k : Str} {u : Tok} {Q : Bool → Shared → Prop} (R : TxR w s.heap a L) (room : L.length + 1 < scanBound)
    (hQ : ∀ b h1 L1, Heap.SameBut a s.heap h1 → TxR w h1 a L1 → (k ∈ L → L1 = L) → (k ∉ L → L1.Perm (k :: L)) → Q b { s with heap := h1 }) :
    wpAny (model P w) A (setAddHashed a (.str k u) ((strKind P w).hash k)) Q E s := by
  obtain ⟨o, es, ep, t, ho, hx, hd, g, rfl, nd, hb, hf, hr, hl⟩ := id R
  have z0 : (es.toList.map kS).length = es.size := by rw [List.length_map, Array.length_toList]
  have hel : ElemsOf (strKind P w) es.toList := ent_elems g
  have sc : (Value.str k u).scannable = true := rfl
  have isk : (strKind P w).is k (.str k u) = true := strKind_is P w k u
  unfold setAddHashed setAddHashedIn
  refine wpAny_holding (wpAny_bind (wpAny_setState_of ho hd hf ?_))
  dsimp only
  rw [byScan_of sc hb hel]
  simp only [↓reduceIte]
  unfold setAddByScan
  refine wpAny_bind (wpAny_bind (wpAny_rule (wpAny_bind (wpAny_setScan_of isk ho hd hf hel ?_))))
  rcases ent_find (P := P) g k with ⟨j, ej, hm⟩ | ⟨ej, hm⟩
  · rw [ej]
    dsimp only
    refine wpAny_pure (wpAny_pure ?_)
    exact hQ _ s.heap _ (Heap.SameBut.refl a s.heap) R (fun _ => rfl) fun n => absurd hm n
  · rw [ej]
    dsimp only
    have giv : ∀ (b : Bool) {v : Shared} {q : Unit → Shared → Prop}, q () v → wpAny (model P w) A (match b with | true => rule "set.scan.the-table-gave-way" | false => pure ()) q E v := fun b v q z => by
      cases b
      · exact wpAny_pure z
      · exact wpAny_rule z
    have p1 := layNew_perm t es ((strKind P w).hash k) (.str k u)
    have f1 := layNew_fits t es ((strKind P w).hash k) (.str k u)
    have r1 := layNew_ris t es ((strKind P w).hash k) (.str k u) hr
    have l1 := layNew_led t es ((strKind P w).hash k) (.str k u)
    generalize layNew t es ((strKind P w).hash k) (.str k u) = Z at p1 f1 r1 l1 ⊢
    obtain ⟨es1, t1, wd, gv⟩ := Z
    dsimp only at p1 f1 r1 l1 ⊢
    rw [Array.toList_push] at p1
    have pc : es1.toList.Perm ((hashStr w k, Value.str k u) :: es.toList) := p1.trans (List.perm_append_singleton _ _)
    have pk : (es1.toList.map kS).Perm (k :: es.toList.map kS) := pc.map kS
    have g1 : ∀ e ∈ es1.toList, Ent w e := fun e he => (List.mem_cons.mp (pc.mem_iff.mp he)).elim (fun z => ⟨k, u, z⟩) (g e)
    have nd1 : (es1.toList.map kS).Nodup := pk.nodup_iff.mpr (List.nodup_cons.mpr ⟨hm, nd⟩)
    have hb1 : es1.size < scanBound := by
      have := pk.length_eq
      rw [List.length_map, List.length_cons, Array.length_toList] at this
      omega
    have led1 : w.params.followText "set-order" = true ∨ t1.led = true := hl.imp id fun z => by rw [l1]; exact z
    have fin : ∀ h1 L1, Heap.SameBut a s.heap h1 → TxR w h1 a L1 → L1.Perm (es1.toList.map kS) → Q true { s with heap := h1 } := fun h1 L1 sb r pm => hQ _ h1 L1 sb r (fun z => absurd z hm) fun _ => pm.trans pk
    refine wpAny_bind (giv _ ?_)
    split
    · refine wpAny_bind ?_
      rw [hashByValue_scannable 8 sc]
      refine wpAny_pure (stored ?_ ho hx hd g1 nd1 hb1 ?_ ?_ ?_ ?_)
      · exact fun b v q z => by cases b <;> first | exact wpAny_pure z | exact wpAny_rule z
      · split
        · exact f1
        · exact SetTable.fits_plain_off f1
      · split <;> exact r1
      · split <;> exact led1
      · intro h1 L1 sb r pm
        dsimp only
        exact wpAny_pure (fin h1 L1 sb r pm)
    · refine wpAny_bind (wpAny_pure ?_)
      simp only [↓reduceIte]
      refine stored ?_ ho hx hd g1 nd1 hb1 f1 r1 led1 ?_
      · exact fun b v q z => by cases b <;> first | exact wpAny_pure z | exact wpAny_rule z
      · intro h1 L1 sb r pm
        dsimp only
        exact wpAny_pure (fin h1 L1 sb r pm)
theorem fresh {h : Heap} {p : Addr} (ho : h.get? p = some { cls := .type "set", dict := none, data := .set #[] 0 (.fresh 0 0 (!w.params.followText "set-order")) }) : TxR w h p [] :=
  ⟨_, #[], 0, _, ho, ⟨rfl, rfl, rfl⟩, rfl, fun _ z => absurd z List.not_mem_nil, rfl, List.nodup_nil, by decide, rfl, List.Pairwise.nil, by
    show _ ∨ (!w.params.followText "set-order") = true
    cases w.params.followText "set-order"
    · exact .inr rfl
    · exact .inl rfl⟩
end
end TX
namespace TX
open PySem PySem.Spec PyProof.Rows L2
/-- what a set has when the first i of xs are in -/
def Has (xs : List Str) (i : Nat) (L : List Str) : Prop := (∀ x, x ∈ L ↔ x ∈ xs.take i) ∧ L.length ≤ i
theorem has_next {xs : List Str} {i : Nat} {x : Str} (e : xs[i]? = some x) {L L1 : List Str} (g : Has xs i L) (h1 : x ∈ L → L1 = L) (h2 : x ∉ L → L1.Perm (x :: L)) : Has xs (i + 1) L1 := by
  have et : xs.take (i + 1) = xs.take i ++ [x] := by
    rw [List.take_succ, e] <;> rfl
  obtain ⟨g1, g2⟩ := g
  by_cases c : x ∈ L
  · rw [h1 c]
    refine ⟨fun y => ?_, Nat.le_succ_of_le g2⟩
    rw [et, List.mem_append, List.mem_singleton, g1 y]
    exact ⟨.inl, fun z => z.elim id fun z => z ▸ (g1 x).mp c⟩
  · have pm := h2 c
    refine ⟨fun y => ?_, ?_⟩
    · rw [et, List.mem_append, List.mem_singleton, pm.mem_iff, List.mem_cons, g1 y]
      exact Or.comm
    · rw [pm.length_eq, List.length_cons]
      omega
theorem strs_nth : ∀ {us : List Value} {xs : List Str}, StrsAre us xs → ∀ {i : Nat} {v : Value}, us[i]? = some v → ∃ x u, xs[i]? = some x ∧ v = .str x u
  | _, _, .nil, i, v, h => by
    rw [List.getElem?_nil] at h
    cases h
  | _, _, .cons x u r, 0, v, h => ⟨x, u, rfl, (Option.some.inj h).symm⟩
  | _, _, .cons x u r, i + 1, v, h => strs_nth r (i := i) (by rw [List.getElem?_cons_succ] at h; exact h)
section
variable {P : Program} {w : World} {A : Around} {R : Result → Shared → Prop} {I : Addr} {fp wr : List Addr} {G : Array GenState → Array GenState → Prop} {n : Nat} {V : Nat → Value → Prop} {St : Nat → Shared → Prop}
theorem rounds (W : WalksS P w A.in1 I fp wr G n V St) {S : Addr} (hS : S ∉ fp) {xs : List Str} (few : n + 1 < scanBound) (hv : ∀ i v, V i v → ∃ x u, xs[i]? = some x ∧ v = .str x u) :
    ∀ (k i : Nat) (s : Shared), n - i = k → i ≤ n → St i s → (∃ L, TxR w s.heap S L ∧ Has xs i L) →
      (∀ s1 L, Moved (S :: wr) G s s1 → TxR w s1.heap S L → Has xs n L → R (.ok (.ret .none)) s1) → codeAny (model P w) A (.builtin "set.update.loop" ⟨[.ref S, .ref I], []⟩) R s := by
  have sw : S ∉ wr := fun z => hS (W.sub _ z)
  have up : ∀ b ∈ wr, b ∈ S :: wr := fun _ z => List.mem_cons_of_mem _ z
  intro k
  induction k with
  | zero =>
    intro i s ek hi st ⟨L, r, g⟩ q
    obtain rfl : i = n := by omega
    refine codeAny_builtin F.entry_set_update_loop ?_
    rw [Around.under_plainId F.plain_set_update_loop _]
    refine wpAny_bind (m := pyNext (.ref I)) (W.done s _ _ st fun s1 mv => ?_)
    exact wpAny_pure (q s1 L (mv.mono up) (r.at fun o e => mv.heap S o sw e) g)
  | succ k ih =>
    intro i s ek hi st ⟨L, r, g⟩ q
    have lt : i < n := by omega
    refine codeAny_builtin F.entry_set_update_loop ?_
    rw [Around.under_plainId F.plain_set_update_loop _]
    refine wpAny_bind (m := pyNext (.ref I)) (W.item i s _ _ lt st fun v s1 pv st1 mv => ?_)
    obtain ⟨x, u, ex, rfl⟩ := hv i v pv
    have r1 : TxR w s1.heap S L := r.at fun o e => mv.heap S o sw e
    show wpAny _ A.in1 (holding [Value.str x u] (setAdd S (.str x u)) >>= _) _ _ s1
    refine wpAny_bind (wpAny_holding ?_)
    unfold setAdd
    refine wpAny_holding (wpAny_bind ((strKind P w).pyHash (k := x) (strKind_is P w x u) ?_))
    have gl := g.2
    refine put_in (s := { s1 with toks := s1.toks + 1 }) r1 (by omega) fun b h1 L1 sb r2 c1 c2 => ?_
    refine wpAny_pure ⟨plainId_quiet F.plain_set_update_loop _, ih (i + 1) _ (by omega) lt (W.frame _ s1 _ _ st1 (Nat.le_succ _) fun b hb o e => ?_) ⟨L1, r2, has_next ex g c1 c2⟩ fun s2 L2 mv2 r3 g3 => ?_⟩
    · rw [sb.2 b fun z : b = S => hS (z ▸ hb)]
      exact e
    · refine q s2 L2 (Moved.trans W.gtrans ((mv.mono up).then_heap (Nat.le_succ _) fun b o hb e => ?_) mv2) r3 g3
      rw [sb.2 b fun z : b = S => hb (z ▸ List.mem_cons_self)]
      exact e
end
section
variable {P : Program} {w : World} {A : Around} {E : Value → Shared → Prop} {s : Shared}
def setObj (w : World) : Obj := { cls := .type "set", dict := none, data := .set #[] 0 (.fresh 0 0 (!w.params.followText "set-order")) }
def Told (P : Program) (w : World) (s : Shared) (xs : List Str) (E : Value → Shared → Prop) : Result → Shared → Prop := wants (fun v u => v = .none ∧ ∃ h1 tk L, u = { s with heap := h1, toks := tk } ∧ TxR w h1 s.heap.objs.size L ∧ Has xs xs.length L ∧ ∀ b o, s.heap.get? b = some o → h1.get? b = some o) E
theorem begun {l : Addr} {items : Array Value} {xs : List Str} (hi : StrsAre items.toList xs) (few : xs.length + 1 < scanBound) {it : Obj} {St : Nat → Heap → Prop} (hlt : l < s.heap.objs.size)
    (W : Walks P w A.in1 (s.heap.objs.size + 1) [s.heap.objs.size + 1, l] [s.heap.objs.size + 1] items.size (fun i v => items[i]? = some v) St) (h0 : St 0 ((s.heap.push (setObj w)).push it)) :
    codeAny (model P w) A (.builtin "set.update.loop" ⟨[.ref s.heap.objs.size, .ref (s.heap.objs.size + 1)], []⟩) (Told P w s xs E) { s with heap := (s.heap.push (setObj w)).push it } := by
  have iz : items.size = xs.length := by rw [← StrsAre.len_eq hi, Array.length_toList]
  have hS : ((s.heap.push (setObj w)).push it).get? s.heap.objs.size = some (setObj w) := Heap.get?_push_of_some _ (Heap.get?_push_size _ rfl)
  have out : s.heap.objs.size ∉ [s.heap.objs.size + 1, l] := fun z => by
    rcases List.mem_cons.mp z with z | z
    · exact Nat.ne_of_lt (Nat.lt_succ_self _) z
    · exact Nat.ne_of_gt hlt (List.mem_singleton.mp z)
  refine rounds W.toS out (xs := xs) (by omega) (fun i v hv => strs_nth hi (by rw [Array.getElem?_toList]; exact hv)) (items.size - 0) 0 _ rfl (Nat.zero_le _) h0 ⟨[], fresh hS, fun x => by rw [List.take_zero], Nat.le_refl _⟩ fun s1 L mv r g => ?_
  obtain ⟨h1, g1, d1, k1, o1⟩ := s1
  have eg : g1 = s.gens := mv.gens
  have ed : d1 = s.drawn := mv.drawn
  have eo : o1 = s.os := mv.os
  subst eg ed eo
  rw [iz] at g
  refine ⟨rfl, h1, k1, L, rfl, r, g, fun b o e => ?_⟩
  have lt := Heap.lt_size e
  refine mv.heap b o (fun z => ?_) (Heap.get?_push_of_some _ (Heap.get?_push_of_some _ e))
  rcases List.mem_cons.mp z with z | z
  · exact Nat.ne_of_lt lt z
  · exact Nat.ne_of_lt (Nat.lt_succ_of_lt lt) (List.mem_singleton.mp z)
set_option maxHeartbeats 4000000 in
theorem inited {l : Addr} {items : Array Value} {xs : List Str} (hh : A.handled = none) (hl : s.heap.IsList l items ∨ s.heap.IsTuple l items) (hi : StrsAre items.toList xs) (few : xs.length + 1 < scanBound) :
    codeAny (model P w) A (.call (.builtin "set.__init__") ⟨[.ref s.heap.objs.size, .ref l], []⟩) (Told P w s xs E) { s with heap := s.heap.push (setObj w) } := by
  have hS : (s.heap.push (setObj w)).get? s.heap.objs.size = some (setObj w) := Heap.get?_push_size _ rfl
  have tS : Shared.TypeIs { s with heap := s.heap.push (setObj w) } (.ref s.heap.objs.size) "set" := ⟨_, hS, rfl⟩
  have zs : (s.heap.push (setObj w)).objs.size = s.heap.objs.size + 1 := Heap.size_push ..
  refine codeAny_call_builtin F.called_set.init.plain F.entry_set_init (check_set_init_1 tS ?_)
  rcases hl with ⟨⟨oc, od, oo, os⟩, hol, hoc, on, hod⟩ | ⟨⟨oc, od, oo, os⟩, hol, hoc, on, hod⟩
  all_goals simp only at hoc hod
  all_goals subst hoc hod
  all_goals have hl1 := Heap.get?_push_of_some (setObj w) hol
  all_goals have lts := Heap.lt_size hol
  · have s1 := F.sub_list_set
    have s2 := F.sub_list_frozenset
    have ne : (Value.type "list" == Value.type "dict") = false := by decide
    have isl : (s.heap.push (setObj w)).IsList l items := ⟨_, hl1, rfl, on, rfl⟩
    unfold Builtin.«set.__init__» noKeywords Builtin.Frozenset.updateFrom
    generalize hPI : pyIter = PI
    wp_walk
    subst hPI
    refine wpAny_pyIter_list isl (wpAny_bind (wpAny_runValue ?_))
    rw [show ({ s with heap := s.heap.push (setObj w) } : Shared).heap.objs.size = s.heap.objs.size + 1 from zs]
    refine codeAny_mono (begun (A := A.in1) (E := E) hi few lts (it := { cls := .type "list_iterator", data := .fields #[.ref l, .int 0 0] }) (Walks.list (by simp [hh]) (s.heap.objs.size + 1) l (Nat.ne_of_lt (Nat.lt_succ_of_lt lts)) items) ⟨⟨_, (by rw [← zs]; exact Heap.get?_push_size _ rfl), rfl, rfl⟩, isl.push _⟩) fun r u hr => ?_
    rcases r with e0 | f0
    · exact hr
    rcases f0 with _ | v0 | _ | _
    all_goals try exact hr.elim
    obtain ⟨rfl, ht⟩ := hr
    exact wpAny_pure (wpAny_pure ⟨rfl, ht⟩)
  · have s1 := F.sub_tuple_set
    have s2 := F.sub_tuple_frozenset
    have ne : (Value.type "tuple" == Value.type "dict") = false := by decide
    have isl : (s.heap.push (setObj w)).IsTuple l items := ⟨_, hl1, rfl, on, rfl⟩
    unfold Builtin.«set.__init__» noKeywords Builtin.Frozenset.updateFrom
    generalize hPI : pyIter = PI
    wp_walk
    subst hPI
    refine wpAny_pyIter_tuple isl (wpAny_bind (wpAny_runValue ?_))
    rw [show ({ s with heap := s.heap.push (setObj w) } : Shared).heap.objs.size = s.heap.objs.size + 1 from zs]
    refine codeAny_mono (begun (A := A.in1) (E := E) hi few lts (it := { cls := .type "tuple_iterator", data := .fields #[.ref l, .int 0 0] }) (Walks.tuple (by simp [hh]) (s.heap.objs.size + 1) l (Nat.ne_of_lt (Nat.lt_succ_of_lt lts)) items) ⟨⟨_, (by rw [← zs]; exact Heap.get?_push_size _ rfl), rfl, rfl⟩, isl.push _⟩) fun r u hr => ?_
    rcases r with e0 | f0
    · exact hr
    rcases f0 with _ | v0 | _ | _
    all_goals try exact hr.elim
    obtain ⟨rfl, ht⟩ := hr
    exact wpAny_pure (wpAny_pure ⟨rfl, ht⟩)
set_option maxHeartbeats 4000000 in
theorem made {l : Addr} {items : Array Value} {xs : List Str} {Q : Value → Shared → Prop} (hh : A.handled = none) (hl : s.heap.IsList l items ∨ s.heap.IsTuple l items) (hi : StrsAre items.toList xs) (few : xs.length + 1 < scanBound)
    (hQ : ∀ h1 tk L, TxR w h1 s.heap.objs.size L → Has xs xs.length L → (∀ b o, s.heap.get? b = some o → h1.get? b = some o) → Q (.ref s.heap.objs.size) { s with heap := h1, toks := tk }) :
    wpAny (model P w) A (call (.type "set") [.ref l]) Q E s := by
  have iz : items.size = xs.length := by rw [← StrsAre.len_eq hi, Array.length_toList]
  have ⟨mc, mt, hmro⟩ := F.called_set.mro
  have made' := F.called_set.made
  have sub' := F.called_set.sub
  refine wpAny_call (codeAny_of_tree ?_)
  show wpAny _ _ (callAny (.type "set") _) _ _ _
  refine wpAny_pure ⟨Code.quiet_builtin _ (by decide +kernel), codeAny_builtin F.entry_type_call ?_⟩
  rw [Around.under_plain (weight_type_call_type "set" [.ref l] []) rfl]
  have nt := F.called_set.notType
  have cc := F.called_set.canCreate
  have tc := F.typeCall_set_1 (.ref l)
  repeat (any_goals (first | assumption | wp_step))
  refine codeAny_mono (code_set_led1 (.ref l) (E := E) (Q₁ := fun v u => v = .ref s.heap.objs.size ∧ u = { s with heap := s.heap.push (setObj w) }) ⟨rfl, rfl⟩) fun r0 s0 h0 => ?_
  rcases r0 with e0 | f0
  · exact h0
  rcases f0 with _ | v0 | _ | _
  all_goals try exact h0.elim
  obtain ⟨rfl, rfl⟩ := h0
  have hS : (s.heap.push (setObj w)).get? s.heap.objs.size = some (setObj w) := Heap.get?_push_size _ rfl
  have tS : Shared.TypeIs { s with heap := s.heap.push (setObj w) } (.ref s.heap.objs.size) "set" := ⟨_, hS, rfl⟩
  have il := F.called_set.init.lookup
  have ib := F.called_set.init.bind (.ref s.heap.objs.size)
  repeat (any_goals (first | assumption | wp_step))
  refine codeAny_mono (inited (A := A.in1) (E := E) hh hl hi few) fun r u hr => ?_
  rcases r with e0 | f0
  · exact hr
  rcases f0 with _ | v0 | _ | _
  all_goals try exact hr.elim
  obtain ⟨rfl, h1, tk, L, rfl, r, g, kp⟩ := hr
  repeat (any_goals (first | assumption | wp_step))
  exact hQ _ _ _ r g kp
end
end TX
namespace TX
open PySem PySem.Spec PyProof.Rows L2 PySem.W
section
variable {P : Program} {w : World} {A : Around} {E : Value → Shared → Prop} {s : Shared} {a : Addr} {L : List Str}
def IsTx (v : Value) (x : Str) : Prop := ∃ u, v = .str x u
theorem tx_of : ∀ {l : List (Int × Value)}, (∀ e ∈ l, Ent w e) → EachIs IsTx (l.map (·.2)) (l.map kS)
  | [], _ => .nil
  | e :: l, g => by
    obtain ⟨x, u, rfl⟩ := g e List.mem_cons_self
    exact .cons ⟨u, rfl⟩ (tx_of fun z hz => g z (List.mem_cons_of_mem _ hz))
theorem tx_perm {vs us : List Value} (p : vs.Perm us) : ∀ {xs : List Str}, EachIs IsTx us xs → ∃ ys, EachIs IsTx vs ys ∧ ys.Perm xs := by
  induction p with
  | nil => exact fun h => ⟨_, h, List.Perm.refl _⟩
  | cons v _ ih =>
    intro xs h
    cases h with
    | cons h1 h2 =>
      obtain ⟨ys, e, p⟩ := ih h2
      exact ⟨_, .cons h1 e, p.cons _⟩
  | swap v u l =>
    intro xs h
    cases h with
    | cons h1 h2 =>
      cases h2 with
      | cons h3 h4 => exact ⟨_, .cons h3 (.cons h1 h4), List.Perm.swap _ _ _⟩
  | trans _ _ ih1 ih2 =>
    intro xs h
    obtain ⟨ys, e, p⟩ := ih2 h
    obtain ⟨zs, f, q⟩ := ih1 e
    exact ⟨zs, f, q.trans p⟩
theorem tx_vals : ∀ {vs : List Value} {xs : List Str}, EachIs IsTx vs xs → Vals (xs.map V.str) vs
  | _, _, .nil => .nil
  | _, _, .cons ⟨u, e⟩ t => .cons ⟨u, e⟩ (tx_vals t)
theorem reads_tx {h : Heap} : ∀ {vs : List Value} {xs : List Str}, EachIs IsTx vs xs → EachIs (fun v d => ∃ as, Reads h v d as) vs (xs.map PyData.str)
  | _, _, .nil => .nil
  | _, _, .cons ⟨u, e⟩ t => .cons ⟨[], e ▸ Reads.str ..⟩ (reads_tx t)
theorem reads_tx2 {h : Heap} : ∀ {vs : List Value} {xs : List Str}, EachIs IsTx vs xs → EachIs (fun v b => ∃ as, Reads h v (PyData.str b) as) vs xs
  | _, _, .nil => .nil
  | _, _, .cons ⟨u, e⟩ t => .cons ⟨[], e ▸ Reads.str ..⟩ (reads_tx2 t)
theorem alike_tx (xs : List Str) : AllAlike (xs.map PyData.str) := fun d hd d' hd' => by
  obtain ⟨x, _, rfl⟩ := List.mem_map.mp hd
  obtain ⟨y, _, rfl⟩ := List.mem_map.mp hd'
  rfl
theorem sortable_tx (xs : List Str) : Sortable (xs.map PyData.str) := .inr fun d hd => by
  obtain ⟨x, _, rfl⟩ := List.mem_map.mp hd
  exact ⟨fun z => (nomatch z), fun _ z => (nomatch z)⟩
theorem merge_tx (xs : List Str) : xs.mergeSort (dataLe false PyData.str) = xs.mergeSort PM.leS := by
  congr 1
  funext a b
  show (!dataLt (.str b) (.str a)) = _
  rw [dataLt_str]
  rfl
theorem sorted_tx {Q : Value → Shared → Prop} (R : TxR w s.heap a L) (hh : A.handled = none) (hu : A.units + 8 < cLine) (few : L.length ≤ 1000)
    (hQ : ∀ s1 p (out : Array Value) (c : Nat) (M : List Str), (∀ b o, s.heap.get? b = some o → s1.heap.get? b = some o) → s1.gens = s.gens → s1.os = s.os → s.heap.objs.size ≤ p → s1.heap.get? p = some (seqObj "list" out c) →
      M.Perm L → Vals ((M.mergeSort PM.leS).map V.str) out.toList → Q (.ref p) s1) : wpAny (model P w) A (call (.builtin "sorted") [.ref a]) Q E s := by
  obtain ⟨o, es, ep, t, ho, hx, hd, g, rfl, nd, hb, hf, hr, hl⟩ := R
  refine Calls.call_function_entry kind_sorted plain_sorted entry_sorted (args_sorted1 _) ?_
  unfold Builtin.«sorted»
  refine wpAny_bind (m := checkCount "sorted" 1 1 _) (wpAny_pure ?_)
  refine wpAny_bind (collect_set (A := A.in1) hh ⟨o, ho, hx.1, hd⟩ hf hb hr hl fun s1 vs k1 z1 g1 o1 pm => ?_)
  obtain ⟨M, eM, pM⟩ := tx_perm pm (tx_of g)
  have lv : vs.length = M.length := eM.length
  have lM : M.length ≤ 1000 := by rw [pM.length_eq]; exact few
  have lz : vs.length ≤ sizeLine := by rw [lv, sizeLine_eq]; omega
  refine wpAny_bind (wpAny_newList ?_ lz)
  have hL : (s1.heap.push (seqObj "list" vs.toArray 0)).get? s1.heap.objs.size = some (seqObj "list" vs.toArray 0) := Heap.get?_push_size _ rfl
  have SA : SortsAt P w A.in1.in1 { s1 with heap := sortingHeap (s1.heap.push (seqObj "list" vs.toArray 0)) s1.heap.objs.size vs } (dataKind (sortingHeap (s1.heap.push (seqObj "list" vs.toArray 0)) s1.heap.objs.size vs) (M.map PyData.str)) vs :=
    SortsAt.data (s := { s1 with heap := sortingHeap (s1.heap.push (seqObj "list" vs.toArray 0)) s1.heap.objs.size vs }) (reads_tx eM) (alike_tx M) (sortable_tx M) fun d hd => by
      obtain ⟨x, _, rfl⟩ := List.mem_map.mp hd
      show A.units + 2 + 0 < cLine
      omega
  have so := sortVals_data (h' := sortingHeap (s1.heap.push (seqObj "list" vs.toArray 0)) s1.heap.objs.size vs) (R := IsTx) (enc := PyData.str) (vs := vs) (bs := M) false eM (by
    exact reads_tx2 eM) (alike_tx M)
  rw [merge_tx] at so
  refine wpAny_bind (wpAny_holding (wpAny_call_entry slot_list_sort ⟨_, hL, rfl⟩ entry_list_sort (list_sort_vals (s := { s1 with heap := s1.heap.push (seqObj "list" vs.toArray 0) }) hL SA lz ⟨_, rfl, ?_⟩) (args_list_sort _)))
  obtain ⟨c, hc⟩ := sortedHeap_at (vs := vs) (out := (sortVals (dataKind (sortingHeap (s1.heap.push (seqObj "list" vs.toArray 0)) s1.heap.objs.size vs) (M.map PyData.str)) false vs vs).toArray) hL
  refine wpAny_pure ⟨_, rfl, hQ _ s1.heap.objs.size _ c M (fun b u e => ?_) g1 o1 z1 hc pM (by simpa using tx_vals so)⟩
  have q := k1 b u e
  have lt := Heap.lt_size q
  show (sortedHeap (s1.heap.push (seqObj "list" vs.toArray 0)) s1.heap.objs.size vs _).get? b = some u
  rw [sortedHeap_old (Nat.ne_of_lt lt) (by rw [size_push']; exact Nat.lt_succ_of_lt lt)]
  exact Heap.get?_push_of_some _ q
end
end TX
namespace PM
open PySem PySem.Spec PyProof.Rows L2 LB
/-! ### len(set(xs)), sorted(set(xs)), xs a list or tuple of texts -/
def TxO (w : World) (a : Addr) (L : List Str) : HO := .ext fun h => TX.TxR w h a L
def rSetX (K : PySem.W.Frag) (w : World) : List V → Hp → VK → Prop := fun vs H Q => ∃ (l : Addr) (ts : List Str), vs = [V.ref l] ∧ (SqL K H l (ts.map V.str) ∨ SqT K H l (ts.map V.str)) ∧ ts.length ≤ 1000 ∧
  ∀ a L, H a = none → L.Nodup → (∀ x, x ∈ L ↔ x ∈ ts) → Q (.ref a) (upd H a (TxO w a L))
def rLenX (w : World) : List V → Hp → VK → Prop := fun vs H Q => ∃ (a : Addr) (L : List Str), vs = [V.ref a] ∧ H a = some (TxO w a L) ∧ L.length ≤ 1000 ∧ Q (.int (L.length : Int)) H
def rSortX (w : World) : List V → Hp → VK → Prop := fun vs H Q => ∃ (a : Addr) (L : List Str), vs = [V.ref a] ∧ H a = some (TxO w a L) ∧ L.length ≤ 1000 ∧
  ∀ (M : List Str) (p : Addr), M.Perm L → H p = none → Q (.ref p) (upd H p (.lst ((M.mergeSort leS).map V.str)))
section
variable {X : Cx} {K : PySem.W.Frag} {w : World}
theorem txO_new {P : Program} {H : Hp} {h : Heap} {a : Addr} {L : List Str} (R : TX.TxR w h a L) : ObjOk P w H h a (TxO w a L) := by
  have ⟨o, _, _, _, ho, _⟩ := R
  exact ⟨R, ⟨o, ho⟩, fun _ _ r k => TX.TxR.at r k⟩
theorem strs_vals : ∀ {ys : List Str} {us : List Value}, Vals (ys.map V.str) us → StrsAre us ys
  | [], _, .nil => .nil
  | y :: ys, _, .cons ⟨k, e⟩ t => e ▸ .cons y k (strs_vals t)
theorem cr_setX (hc : X.calm = true) (hK : X.K = K := by rfl) (hw : X.w = w := by rfl) : CallR X (.type "set") (rSetX K w) := by
  subst hK hw
  intro pins s σ H xs us Q I r h
  obtain ⟨l, ts, rfl, hs, few, q⟩ := h
  obtain rfl := Vals.ref1 r
  have hn : H s.heap.objs.size = none := I.hok.fresh (Nat.le_refl _)
  have fin : ∀ its : List Value, Vals (ts.map V.str) its → (s.heap.IsList l its.toArray ∨ s.heap.IsTuple l its.toArray) → wpAny (model X.prog X.w) X.A (call (.type "set") [.ref l]) (EP X pins σ Q) X.xe s := fun its rv hl =>
    TX.made (P := X.prog) (w := X.w) (I.ok.hd hc) hl (by simpa using strs_vals rv) (by unfold scanBound; omega) fun h1 tk L R g k => by
      have nd : L.Nodup := by
        obtain ⟨_, _, _, _, _, _, _, _, _, nd, _⟩ := R
        exact nd
      exact ⟨.ref s.heap.objs.size, upd H s.heap.objs.size (TxO X.w s.heap.objs.size L), I.laid (t' := tk) k (Nat.le_refl _) (txO_new R), rfl, q _ L hn nd fun x => by
        rw [g.1 x, List.take_length]⟩
  rcases hs with hs | hs
  · obtain ⟨its, rv, pl, _⟩ := I.list hs
    exact fin its rv (.inl pl.isList)
  · obtain ⟨its, rv, pl, _⟩ := I.tuple hs
    exact fin its rv (.inr pl)
theorem cr_lenX (hw : X.w = w := by rfl) : CallR X (.builtin "len") (rLenX w) := by
  subst hw
  intro pins s σ H xs us Q I r h
  obtain ⟨a, L, rfl, ha, few, q⟩ := h
  obtain rfl := Vals.ref1 r
  have R : TX.TxR X.w s.heap a L := (I.hok a _ ha).1
  obtain ⟨o, es, ep, t, ho, hx, hd, g, rfl, nd, hb, hf, _⟩ := R
  have z0 : (es.toList.map TX.kS).length = es.size := by rw [List.length_map, Array.length_toList]
  refine call_len_set ho hx hd hf (by omega) ⟨.int ((es.toList.map TX.kS).length : Int), H, I.tok _, ⟨_, by rw [z0]⟩, q⟩
theorem cr_sortX (hc : X.calm = true) (hu : X.A.units + 64 < cLine) (hw : X.w = w := by rfl) : CallR X (.builtin "sorted") (rSortX w) := by
  subst hw
  intro pins s σ H xs us Q I r h
  obtain ⟨a, L, rfl, ha, few, q⟩ := h
  obtain rfl := Vals.ref1 r
  have R : TX.TxR X.w s.heap a L := (I.hok a _ ha).1
  refine TX.sorted_tx (P := X.prog) R (I.ok.hd hc) (by omega) few fun s1 p out c M k g o hp hg pm rv => ?_
  have hn : H p = none := I.hok.fresh hp
  have hlen : ((M.mergeSort leS).map V.str).length ≤ sizeLine := by rw [List.length_map, List.length_mergeSort, pm.length_eq, sizeLine_eq]; omega
  have J : Inv X pins σ (upd H p (.lst ((M.mergeSort leS).map V.str))) { s with heap := s1.heap, gens := s1.gens, drawn := s1.drawn, toks := s1.toks } :=
    I.call (ch := []) (Un.laid k hp hn) (I.hok.laid k hp ⟨hlen, out.toList, c, rv, hg⟩) (by rw [g]; exact I.bare) fun _ z => nomatch z
  obtain ⟨h1, g1, d1, k1, o1⟩ := s1
  subst o
  exact ⟨.ref p, _, J, rfl, q M p pm hn⟩
end
section
variable {T : Tb} {K : PySem.W.Frag} {w : World}
def txD : List PyData → Option (List Str)
  | [] => some []
  | .str x :: l => (txD l).map (x :: ·)
  | _ :: _ => none
theorem txD_strs : ∀ l : List Str, txD (l.map .str) = some l
  | [] => rfl
  | x :: l => by
    show (txD (l.map .str)).map _ = _
    rw [txD_strs l]
    rfl
theorem txD_is : ∀ {ds : List PyData} {l : List Str}, txD ds = some l → ds = l.map .str
  | [], l, h => by
    cases h
    rfl
  | d :: ds, l, h => by
    unfold txD at h
    split at h
    · rename_i e
      cases e
    · rename_i x l0 e
      injection e with e1 e2
      subst e1 e2
      obtain ⟨r, er, rfl⟩ := map_eq h
      rw [txD_is er]
      rfl
    · cases h
theorem tx_rp {M : Hp} : ∀ {l : List Str} {xs : List V}, RpAll K M xs (l.map .str) → xs = l.map V.str
  | [], _, r => by
    cases r
    rfl
  | x :: l, _, r => by
    cases r with
    | cons r1 r2 =>
      cases r1
      rw [tx_rp r2]
      rfl
def dedS : List Str → List Str
  | [] => []
  | x :: l => if x ∈ l then dedS l else x :: dedS l
theorem dedS_mem : ∀ {l : List Str} {x : Str}, x ∈ dedS l ↔ x ∈ l
  | [], _ => Iff.rfl
  | y :: l, x => by
    unfold dedS
    split
    · rename_i h
      rw [dedS_mem, List.mem_cons]
      exact ⟨.inr, fun z => z.elim (fun e => e ▸ h) id⟩
    · rw [List.mem_cons, List.mem_cons, dedS_mem]
theorem dedS_nodup : ∀ l : List Str, (dedS l).Nodup
  | [] => List.nodup_nil
  | y :: l => by
    unfold dedS
    split
    · exact dedS_nodup l
    · rename_i h
      exact List.nodup_cons.mpr ⟨fun z => h (dedS_mem.mp z), dedS_nodup l⟩
theorem dedS_le : ∀ l : List Str, (dedS l).length ≤ l.length
  | [] => Nat.le_refl _
  | y :: l => by
    unfold dedS
    have := dedS_le l
    split
    · exact Nat.le_succ_of_le this
    · exact Nat.succ_le_succ this
theorem dedS_id : ∀ {l : List Str}, l.Nodup → dedS l = l
  | [], _ => rfl
  | y :: l, h => by
    have h := List.nodup_cons.mp h
    unfold dedS
    rw [if_neg h.1, dedS_id h.2]
theorem dedS_perm {l L : List Str} (nd : L.Nodup) (m : ∀ x, x ∈ L ↔ x ∈ l) : L.Perm (dedS l) := (List.perm_ext_iff_of_nodup nd (dedS_nodup l)).mpr fun x => by rw [m, dedS_mem]
theorem dedS_short {l : List Str} (h : ¬ l.Nodup) : (dedS l).length < l.length := by
  induction l with
  | nil => exact absurd List.nodup_nil h
  | cons y l ih =>
    unfold dedS
    split
    · exact Nat.lt_succ_of_le (dedS_le l)
    · rename_i hy
      exact Nat.succ_lt_succ (ih fun z => h (List.nodup_cons.mpr ⟨hy, z⟩))
def oLenX : List PyData → Option PyData
  | [x] => (itemsD x).bind fun ds => (txD ds).bind fun l => if l.length ≤ 1000 then some (.int ((dedS l).length : Int)) else none
  | _ => none
def oSortX : List PyData → Option PyData
  | [x] => (itemsD x).bind fun ds => (txD ds).bind fun l => if l.length ≤ 1000 then some (.list (((dedS l).mergeSort leS).map .str)) else none
  | _ => none
theorem cb_lenX : CbD K T (fun vs H Q => rSetX K w vs H fun x H2 => rLenX w [x] H2 Q) oLenX := by
  intro P vs ds d ra h Q q
  unfold oLenX at h
  split at h
  · obtain ⟨es, ee, h⟩ := bind_eq h
    obtain ⟨l, el, h⟩ := bind_eq h
    split at h
    · rename_i few
      cases h
      cases ra with
      | cons r1 r2 =>
        cases r2
        obtain ⟨p, xs, rfl, hs, r⟩ := items_of r1 ee
        obtain rfl := txD_is el
        obtain rfl := tx_rp r
        refine ⟨p, l, rfl, hs, few, fun a L ha nd m => ?_⟩
        have pm := dedS_perm nd m
        refine ⟨a, L, rfl, upd_same, by rw [pm.length_eq]; exact Nat.le_trans (dedS_le l) few, ?_⟩
        rw [pm.length_eq]
        exact q _ (P.hid a (TxO w a L) ha) (le_hid P ha) (.int _)
    · cases h
  · cases h
theorem leS_tr (a b c : Str) : leS a b = true → leS b c = true → leS a c = true := fun h1 h2 => by
  unfold leS at *
  simp only [Bool.not_eq_true', decide_eq_false_iff_not] at *
  exact List.not_lt.mpr (List.le_trans (List.not_lt.mp h1) (List.not_lt.mp h2))
theorem leS_tt (a b : Str) : (leS a b || leS b a) = true := by
  unfold leS
  simp only [Bool.or_eq_true, Bool.not_eq_true', decide_eq_false_iff_not]
  exact (List.le_total a.cps.toList b.cps.toList).imp List.not_lt.mpr List.not_lt.mpr
theorem leS_eq {a b : Str} (h1 : leS a b = true) (h2 : leS b a = true) : a = b := by
  unfold leS at h1 h2
  simp only [Bool.not_eq_true', decide_eq_false_iff_not] at h1 h2
  have e := List.le_antisymm (List.not_lt.mp h1) (List.not_lt.mp h2)
  cases a
  cases b
  exact congrArg Str.mk (Array.toList_inj.mp e)
theorem sortS_perm {l L : List Str} (p : L.Perm l) : L.mergeSort leS = l.mergeSort leS :=
  List.Perm.eq_of_pairwise (le := fun a b => leS a b = true) (fun _ _ _ _ h1 h2 => leS_eq h1 h2) (List.pairwise_mergeSort leS_tr leS_tt L) (List.pairwise_mergeSort leS_tr leS_tt l)
    (((List.mergeSort_perm L leS).trans p).trans (List.mergeSort_perm l leS).symm)
theorem strs_rp {M : Hp} : ∀ l : List Str, RpAll K M (l.map V.str) (l.map .str)
  | [] => .nil
  | x :: l => .cons (.str x) (strs_rp l)
theorem cb_sortX : CbF K T (fun vs H Q => rSetX K w vs H fun x H2 => rSortX w [x] H2 Q) oSortX := by
  intro P vs ds d ra h Q q
  unfold oSortX at h
  split at h
  · obtain ⟨es, ee, h⟩ := bind_eq h
    obtain ⟨l, el, h⟩ := bind_eq h
    split at h
    · rename_i few
      cases h
      cases ra with
      | cons r1 r2 =>
        cases r2
        obtain ⟨p, xs, rfl, hs, r⟩ := items_of r1 ee
        obtain rfl := txD_is el
        obtain rfl := tx_rp r
        refine ⟨p, l, rfl, hs, few, fun a L ha nd m => ?_⟩
        have pm := dedS_perm nd m
        refine ⟨a, L, rfl, upd_same, by rw [pm.length_eq]; exact Nat.le_trans (dedS_le l) few, fun M p' pM hp => ?_⟩
        rw [sortS_perm (pM.trans pm)]
        let P2 := P.hid a (TxO w a L) ha
        have l2 : Le P P2 := le_hid P ha
        exact q p' (P2.hid p' (.lst (((dedS l).mergeSort leS).map V.str)) hp) (l2.trans (le_hid P2 hp)) (.lst (P2.none hp) upd_same (strs_rp _)) (loose_back l2.h (loose_none hp))
    · cases h
  · cases h
variable {X : Cx} {e : Expr} {a : MA}
theorem c_lenX (h : PE X e (tCB (rLenX w) (tCons (tCB (rSetX K w) (tAw K T a)) tNil))) : PE X e (tD K T (mCb oLenX a)) := c_cb (cb_lenX (w := w)) h
theorem c_sortX (h : PE X e (tCB (rSortX w) (tCons (tCB (rSetX K w) (tAw K T a)) tNil))) : PE X e (tF K T (mCb oSortX a)) := c_cbF (cb_sortX (w := w)) h
end
end PM
namespace PM
open PySem PySem.Spec PyProof.Rows L2 LB
/-! ### xs.extend(ys), ys a list -/
variable {T : Tb} {K : PySem.W.Frag} {X : Cx}
end PM
namespace PM
open PySem PySem.Spec PyProof.Rows L2 LB
variable {T : Tb} {K : PySem.W.Frag} {X : Cx} {e : Expr}
/-! ### list comprehensions with two fors -/
/-- all stands but the new list, which grows -/
structure LeX (D : Addr) (P P' : Pr T) : Prop where
  m : Ex P.M P'.M
  h : ∀ b o, b ≠ D → P.H b = some o → (∀ ps, o ≠ HO.tbl ps) → P'.H b = some o
  f : ∀ a, P.M a = none → P'.M a ≠ none → Opn P.H a
  n : P'.M D = none
theorem Le.x {D : Addr} {P P' : Pr T} (l : Le P P') (n : P'.M D = none) : LeX D P P' := ⟨l.m, fun b o _ e q => l.h b o e q, l.f, n⟩
theorem LeX.trans {D : Addr} {A B C : Pr T} (l1 : LeX D A B) (l2 : LeX D B C) : LeX D A C := by
  refine ⟨l1.m.trans l2.m, fun b o ne e q => l2.h b o ne (l1.h b o ne e q) q, fun a h1 h2 => ?_, l2.n⟩
  by_cases hb : B.M a = none
  · have ne : a ≠ D := fun z => h2 (by rw [z]; exact l2.n)
    have key : ∀ o, A.H a = some o → (∃ ps, o = HO.tbl ps) ∨ B.H a = some o := fun o ho => by
      by_cases t : ∃ ps, o = HO.tbl ps
      · exact .inl t
      · exact .inr (l1.h a o ne ho fun ps z => t ⟨ps, z⟩)
    rcases l2.f a hb h2 with lo | ⟨vs, tv⟩
    · exact .inl fun o ho => (key o ho).elim id fun z => lo o z
    · cases ha : A.H a with
      | none => exact .inl (loose_none ha)
      | some o =>
        rcases key o ha with t | z
        · exact .inl fun o' ho' => by
            rw [ha] at ho'
            cases ho'
            exact t
        · rw [tv] at z
          cases z
          exact .inr ⟨vs, ha⟩
  · exact l1.f a h1 hb
theorem own_growX {P5 : Pr T} {D : Addr} {acc : List V} {out : List PyData} {y : V} {d : PyData} (hM : P5.M D = none) (hp : P5.H D = some (.lst acc)) (ra : RpAll K P5.M acc out) (r : Rp K P5.M y d) :
    ∃ Pn : Pr T, Pn.H = upd P5.H D (.lst (acc ++ [y])) ∧ Pn.M = P5.M ∧ OwnAt K Pn D (.list (out ++ [d])) ∧ LeX D P5 Pn ∧ ∀ P1 : Pr T, Le P1 P5 → Loose P1.H D → Le P1 Pn := by
  have ne : ∀ {b : Addr} {u : HO}, P5.M b = some u → b ≠ D := fun e z => by rw [z, hM] at e; cases e
  refine ⟨⟨P5.M, upd P5.H D (.lst (acc ++ [y])), fun b u e q => ?_, tabs_mut P5.tab hp (fun _ z => nomatch z) (fun _ _ z => by unfold LamX.CodeO at z; cases z), P5.nt⟩, rfl, rfl, .lst hM upd_same (RpAll.append ra (.cons r .nil)), ⟨ex_refl _, fun b o nb e q => ?_, fun a h1 h2 => absurd h1 h2, hM⟩, fun P1 l hD => ⟨l.m, fun b u e q => ?_, l.f⟩⟩
  · rw [upd_ne (ne e)]
    exact P5.sub b u e q
  · show upd P5.H D _ b = some o
    rw [upd_ne nb]
    exact e
  · have nb : b ≠ D := fun z => by
      rw [z] at e
      obtain ⟨ps, w⟩ := hD u e
      exact q ps w
    show upd P5.H D _ b = some u
    rw [upd_ne nb]
    exact l.h b u e q
theorem own_noneX {D : Addr} {P P' : Pr T} (l : LeX D P P') {p : Addr} {o : HO} (h : P.M p = none) (e : P.H p = some o) (n : Plain o) (n2 : ∀ vs, o ≠ .tup vs) : P'.M p = none := by
  cases z : P'.M p with
  | none => rfl
  | some u =>
    rcases l.f p h (by rw [z]; exact fun q => nomatch q) with w | ⟨vs, w⟩
    · obtain ⟨ps, w⟩ := w o e
      exact absurd w (n ps)
    · rw [e] at w
      exact absurd (Option.some.inj w) (n2 vs)
/-- from a state on which the new list stands, to one where it has grown -/
theorem St.grow {Pb P P0 Pn : Pr T} {σ : L2.St} {ρ : Ev} {D : Addr} {a0 a1 : List V} (s : St K Pb P σ ρ) (hD : Pb.H D = some (.lst a0)) (hP : P.H D = some (.lst a1)) (hb : ∀ p, p ≠ D → Loose Pb.H p → Loose P0.H p) (l : LeX D P Pn) (le : Le P0 Pn) : St K P0 Pn σ ρ := by
  have ne : ∀ {p : Addr}, Loose Pb.H p → p ≠ D := fun h z => Loose.lst (z ▸ h) hD
  refine ⟨le, s.len, fun i x h => ?_, s.dis, fun i d p h1 h2 => hb p (ne (s.fr i d p h1 h2)) (s.fr i d p h1 h2), s.od.1, fun i ks p h1 h2 => hb p (ne (s.od.2 i ks p h1 h2)) (s.od.2 i ks p h1 h2)⟩
  obtain ⟨o, h1, h2⟩ := s.ok i x h
  refine ⟨o, h1, ?_⟩
  cases h2 with
  | no => exact .no
  | val r => exact .val (r.ext l.m)
  | exn => exact .exn
  | own q =>
    have np := ne (s.fr i _ _ h h1)
    refine .own ?_
    cases q with
    | lst h1 h2 h3 => exact .lst (own_noneX l h1 h2 (fun _ z => nomatch z) fun _ z => nomatch z) (l.h _ _ np h2 fun _ z => nomatch z) (h3.ext l.m)
    | dT h1 h2 h3 => exact .dT (own_noneX l h1 h2 (fun _ z => nomatch z) fun _ z => nomatch z) (l.h _ _ np h2 fun _ z => nomatch z) (h3.mono fun _ _ r => ⟨r.1, r.2.ext l.m⟩)
  | @ods pp _ _ w1 w2 w3 =>
    have np : pp ≠ D := fun z => by
      rw [z, hP] at w2
      cases w2
    exact .ods (own_noneX l w1 w2 (fun _ z => nomatch z) fun _ z => nomatch z) (l.h _ _ np w2 fun _ z => nomatch z) (w3.mono fun _ _ r => ⟨r.1, r.2.ext l.m⟩)
  | @lck pp _ _ _ w1 w2 w3 =>
    have np : pp ≠ D := fun z => by
      rw [z, hP] at w2
      cases w2
    exact .lck (own_noneX l w1 w2 (fun _ z => nomatch z) fun _ z => nomatch z) (l.h _ _ np w2 fun _ z => nomatch z) (w3.mono fun _ _ r => ⟨r.1, r.2.ext l.m⟩)
theorem St.solid {P0 P : Pr T} {σ : L2.St} {ρ : Ev} {D : Addr} {acc : List V} (s : St K P0 P σ ρ) (hD : P.H D = some (.lst acc)) (hM : P.M D = none) (hl : Loose P0.H D) (hp : ∀ (i : Nat) (d : PyData) (p : Addr), ρ[i]? = some (Sl.own d) → σ[i]? = some (some (V.ref p)) → p ≠ D) :
    ∃ Pb : Pr T, Pb.H D = some (.lst acc) ∧ (∀ p, p ≠ D → Loose Pb.H p → Loose P0.H p) ∧ St K Pb P σ ρ := by
  have nD : ∀ {b : Addr} {o : HO}, P0.H b = some o → Plain o → b ≠ D := fun h n z => by
    rw [z] at h
    obtain ⟨ps, w⟩ := hl _ h
    exact n ps w
  have up : ∀ p, p ≠ D → Loose P0.H p → Loose (upd P0.H D (.lst acc)) p := fun p np h o ho => by
    rw [upd_ne np] at ho
    exact h o ho
  refine ⟨⟨P0.M, upd P0.H D (.lst acc), fun b u h n => ?_, fun q hq => ?_, P0.nt⟩, upd_same, fun p np h o ho => h o (by
    show upd P0.H D _ p = some o
    rw [upd_ne np]
    exact ho), ⟨⟨s.le.m, fun b o h n => ?_, fun a h1 h2 => ?_⟩, s.len, s.ok, s.dis, fun i d p h1 h2 => up p (hp i d p h1 h2) (s.fr i d p h1 h2), s.od.1, fun i ks p h1 h2 => up p ?_ (s.od.2 i ks p h1 h2)⟩⟩
  · have nb : b ≠ D := fun z => by
      have := s.le.m b u h n
      rw [z, hM] at this
      cases this
    rw [upd_ne nb]
    exact P0.sub b u h n
  · obtain ⟨ps, h1, h2, h3⟩ := P0.tab q hq
    obtain ⟨ps', h1', _⟩ := P.tab q hq
    refine ⟨ps, ?_, h2, fun pos cv hc => ?_⟩
    · rw [upd_ne fun z => by
        rw [z, hD] at h1'
        cases h1']
      exact h1
    · obtain ⟨c, e1, e2⟩ := h3 pos cv hc
      refine ⟨c, e1, ?_⟩
      rw [upd_ne (nD e2 LamX.codeO_ne)]
      exact e2
  · have h : upd P0.H D (.lst acc) b = some o := h
    by_cases z : b = D
    · rw [z, upd_same] at h
      cases h
      rw [z]
      exact hD
    · rw [upd_ne z] at h
      exact s.le.h b o h n
  · have na : a ≠ D := fun z => h2 (by rw [z]; exact hM)
    rcases s.le.f a h1 h2 with w | ⟨vs, w⟩
    · exact .inl (up a na w)
    · refine .inr ⟨vs, ?_⟩
      show upd P0.H D _ a = _
      rw [upd_ne na]
      exact w
  · obtain ⟨o, e1, e2⟩ := s.ok i _ h1
    rw [h2] at e1
    cases e1
    cases e2 with
    | ods _ w _ =>
      intro z
      rw [z, hD] at w
      cases w
def mLc2 (mi : MA) (vs : List Nat) (gm : MG) (mt : MT) (mi1 : MA) (vs1 : List Nat) (gm1 : MG) (mt1 : MT) (me : ME) : ME := fun ρ => (mi ρ).bind fun ds => (lcGo2 gm mt mi1 vs1 gm1 mt1 me (wipeM ρ vs) ds).bind fun l => (oFew l).map .list
theorem mLc2_is {mi mi1 : MA} {vs vs1 : List Nat} {gm gm1 : MG} {mt mt1 : MT} {me : ME} (ρ : Ev) (d : PyData) (h : mLc2 mi vs gm mt mi1 vs1 gm1 mt1 me ρ = some d) : isLst d = true := by
  obtain ⟨ds, _, h⟩ := bind_eq h
  obtain ⟨l, _, h⟩ := bind_eq h
  obtain ⟨l', _, rfl⟩ := map_eq h
  rfl
theorem OwnAt.list {P : Pr T} {p : Addr} {ds : List PyData} (h : OwnAt K P p (.list ds)) : ∃ xs, P.M p = none ∧ P.H p = some (.lst xs) ∧ RpAll K P.M xs ds := by
  cases h with
  | lst h1 h2 h3 => exact ⟨_, h1, h2, h3⟩
theorem lc2_in {mi mi1 : MA} {vs vs0 vs1 : List Nat} {gm gm1 : MG} {mt mt1 : MT} {me : ME} {σ : L2.St} {H : Hp} {Q : VK} (hv0 : ∀ i ∈ vs0, i ∈ vs) (h : tF K T (mLc2 mi vs gm mt mi1 vs1 gm1 mt1 me) σ H Q) : tLc2 (tIh K T mi) (tG K T vs0 gm) (tQ K T mt) (tI K T mi1) (tG K T vs1 gm1) (tQ K T mt1) (tD K T me) vs vs1 σ H Q := by
  obtain ⟨P0, P, ρ, d, h1, s, h2, q⟩ := h
  subst h1
  obtain ⟨ds, e0, h3⟩ := bind_eq h2
  obtain ⟨tot, et, h4⟩ := bind_eq h3
  obtain ⟨tot0, ef, rfl⟩ := map_eq h4
  obtain ⟨rfl, htl⟩ := oFew_eq ef
  refine ⟨P0, P, ρ, ds, rfl, s, e0, fun J P1 l1 wk D hD => ?_⟩
  have lo : Loose P1.H D := loose_none hD
  have lo0 : Loose P0.H D := loose_back (s.le.trans l1).h lo
  have sW : St K P0 P1 (wipe σ vs) (wipeM ρ vs) := (st_wipe s vs).up l1
  have own : ∀ (i : Nat) (d : PyData) (p : Addr), (wipeM ρ vs)[i]? = some (Sl.own d) → (wipe σ vs)[i]? = some (some (V.ref p)) → p ≠ D := fun i d p h1 h2 z => by
    obtain ⟨o, e1, e2⟩ := sW.ok i _ h1
    rw [h2] at e1
    cases e1
    cases e2 with
    | own w =>
      obtain ⟨_, o, w, _⟩ := w.obj
      rw [z, hD] at w
      cases w
  refine ⟨fun i m H' => m = ds.length - i ∧ i ≤ ds.length ∧ ∃ (Pc : Pr T) (out rest : List PyData), Pc.H = H' ∧ Le P1 Pc ∧ OwnAt K Pc D (.list out) ∧ lcGo2 gm mt mi1 vs1 gm1 mt1 me (wipeM ρ vs) (ds.drop i) = some rest ∧ out ++ rest = tot0, ⟨ds.length, by simp, Nat.zero_le _, P1.hid D (.lst []) hD, [], tot0, rfl, le_hid P1 hD, .lst (P1.none hD) upd_same .nil, et, rfl⟩, ?_⟩
  rintro i m H' ⟨rfl, hi, Pc, out, rest, rfl, lc, ow, eg, eo⟩
  by_cases hlt : i < ds.length
  · refine .inr ⟨wk.go i Pc hlt lc, fun H'' => ∃ m', m' < ds.length - i ∧ (m' = ds.length - (i + 1) ∧ i + 1 ≤ ds.length ∧ ∃ (Pc : Pr T) (out rest : List PyData), Pc.H = H'' ∧ Le P1 Pc ∧ OwnAt K Pc D (.list out) ∧ lcGo2 gm mt mi1 vs1 gm1 mt1 me (wipeM ρ vs) (ds.drop (i + 1)) = some rest ∧ out ++ rest = tot0), fun H'' hh => hh, fun x H'' y => ?_⟩
    obtain ⟨P3, rfl, l3, dd, hdd, rx⟩ := wk.yld i Pc x H'' hlt lc y
    rw [drop_some hdd] at eg
    obtain ⟨ρ1, eρ, eg⟩ := bind_eq eg
    obtain ⟨b, eb, eg⟩ := bind_eq eg
    have ow3 := ow.up l3
    obtain ⟨acc3, m3, h3, _⟩ := ow3.list
    obtain ⟨Pb, b1, b2, sb⟩ := (sW.up (lc.trans l3)).solid h3 m3 lo0 own
    refine ⟨Pb, P3, wipeM ρ vs, dd, ρ1, rfl, sb, rx, eρ, fun σ2 s2 hl2 hf2 => ⟨wipe_frame hl2 (fun k hk => hf2 k fun z => hk (hv0 k z)), Pb, P3, ρ1, b, rfl, s2, eb, fun P4 l4 => ?_⟩⟩
    cases b with
    | false =>
      exact iteF ⟨_, by omega, rfl, hlt, P4, out, rest, rfl, lc.trans (l3.trans l4), ow.up (l3.trans l4), by simpa using eg, eo⟩
    | true =>
      rw [if_pos rfl] at eg
      obtain ⟨es, e1, eg⟩ := bind_eq eg
      obtain ⟨lin, el1, eg⟩ := bind_eq eg
      obtain ⟨restO, er, rfl⟩ := map_eq eg
      refine iteT ⟨Pb, P4, ρ1, es, rfl, s2.up l4, e1, fun J1 P5 l5 wk1 => ?_⟩
      have ow5 := ow.up (l3.trans (l4.trans l5))
      obtain ⟨acc5, m5, _, _⟩ := ow5.list
      refine ⟨fun j k H' => k = es.length - j ∧ j ≤ es.length ∧ ∃ (Pd : Pr T) (out rest : List PyData), Pd.H = H' ∧ Le P1 Pd ∧ LeX D P3 Pd ∧ Ex P5.M Pd.M ∧ OwnAt K Pd D (.list out) ∧ lcGo gm1 mt1 me (wipeM ρ1 vs1) (es.drop j) = some rest ∧ out ++ (rest ++ restO) = tot0, ⟨es.length, by simp, Nat.zero_le _, P5, out, lin, rfl, lc.trans (l3.trans (l4.trans l5)), (l4.trans l5).x m5, ex_refl _, ow5, el1, eo⟩, ?_⟩
      rintro j k H' ⟨rfl, hj, Pd, out', rest', rfl, ld, lx, lm, ow', eg', eo'⟩
      by_cases hlj : j < es.length
      · refine .inr ⟨wk1.go j Pd hlj lm, fun H'' => ∃ k', k' < es.length - j ∧ (k' = es.length - (j + 1) ∧ j + 1 ≤ es.length ∧ ∃ (Pd : Pr T) (out rest : List PyData), Pd.H = H'' ∧ Le P1 Pd ∧ LeX D P3 Pd ∧ Ex P5.M Pd.M ∧ OwnAt K Pd D (.list out) ∧ lcGo gm1 mt1 me (wipeM ρ1 vs1) (es.drop (j + 1)) = some rest ∧ out ++ (rest ++ restO) = tot0), fun H'' hh => hh, fun x1 H6 y1 => ?_⟩
        obtain ⟨P6, rfl, l6, dd1, hdd1, rx1⟩ := wk1.yld j Pd x1 H6 hlj lm y1
        rw [drop_some hdd1] at eg'
        obtain ⟨ρ2, eρ2, eg'⟩ := bind_eq eg'
        obtain ⟨b1', eb1, eg'⟩ := bind_eq eg'
        obtain ⟨acc6, m6, _, _⟩ := (ow'.up l6).list
        have s6 : St K P0 P6 σ2 ρ1 := s2.grow b1 h3 b2 (lx.trans (l6.x m6)) ((s.le.trans l1).trans (ld.trans l6))
        refine ⟨P0, P6, wipeM ρ1 vs1, dd1, ρ2, rfl, st_wipe s6 vs1, rx1, eρ2, fun σ3 s3 hl3 hf3 => ⟨wipe_frame hl3 hf3, P0, P6, ρ2, b1', rfl, s3, eb1, fun P7 l7 => ?_⟩⟩
        cases b1' with
        | false =>
          obtain ⟨acc7, m7, _, _⟩ := (ow'.up (l6.trans l7)).list
          exact iteF ⟨_, by omega, rfl, hlj, P7, out', rest', rfl, ld.trans (l6.trans l7), lx.trans ((l6.trans l7).x m7), lm.trans (l6.trans l7).m, ow'.up (l6.trans l7), by simpa using eg', eo'⟩
        | true =>
          rw [if_pos rfl] at eg'
          obtain ⟨z, ez, eg'⟩ := bind_eq eg'
          obtain ⟨rest2, er2, rfl⟩ := map_eq eg'
          refine iteT ⟨P0, P7, ρ2, z, rfl, s3.up l7, ez, fun yv P8 l8 r8 => ?_⟩
          have l68 := l6.trans (l7.trans l8)
          obtain ⟨acc8, m8, h8, r8'⟩ := (ow'.up l68).list
          obtain ⟨Pn, n1, n2, n3, n4, n5⟩ := own_growX m8 h8 r8' r8
          have e1 : acc8.length = out'.length := r8'.length
          have e2 : out'.length + (rest2.length + 1 + restO.length) = tot0.length := by rw [← eo', List.length_append, List.length_append, List.length_cons]
          exact ⟨acc8, h8, szl' (m := tot0.length) (by omega) htl, _, by omega, rfl, hlj, Pn, out' ++ [z], rest2, n1, n5 P1 (ld.trans l68) lo, lx.trans ((l68.x m8).trans n4), by rw [n2]; exact lm.trans l68.m, n3, er2, by rw [← eo']; simp⟩
      · have ej : j = es.length := by omega
        subst ej
        rw [List.drop_length] at eg'
        cases eg'
        exact .inl ⟨wk1.stop Pd lm, _, by omega, rfl, hlt, Pd, out', restO, rfl, ld, ow', er, eo'⟩
  · have ei : i = ds.length := by omega
    subst ei
    rw [List.drop_length] at eg
    cases eg
    rw [List.append_nil] at eo
    subst eo
    exact .inl ⟨wk.stop Pc lc, q _ Pc (l1.trans lc) ow (loose_back l1.h lo)⟩
theorem s_lc2 {st : Stmt} {i : Nat} {mi mi1 : MA} {vs vs0 vs1 : List Nat} {gm gm1 : MG} {mt mt1 : MT} {me : ME} (h : PS X st (tAsg (tLc2 (tIh K T mi) (tG K T vs0 gm) (tQ K T mt) (tI K T mi1) (tG K T vs1 gm1) (tQ K T mt1) (tD K T me) vs vs1) (gName i))) (hv0 : ∀ i ∈ vs0, i ∈ vs := by decide) : PS X st (tAsg (tF K T (mLc2 mi vs gm mt mi1 vs1 gm1 mt1 me)) (gName i)) := ps_to h fun D σ H z => lc2_in hv0 z
theorem x_lc2 {mi mi1 : MA} {vs vs1 : List Nat} {gm gm1 : MG} {mt mt1 : MT} {me : ME} {ρ : Ev} {ds es : List PyData} (h : mi ρ = some ds) (hg : lcGo2 gm mt mi1 vs1 gm1 mt1 me (wipeM ρ vs) ds = some es) (hl : es.length ≤ 100000) : mLc2 mi vs gm mt mi1 vs1 gm1 mt1 me ρ = some (.list es) := by
  unfold mLc2
  rw [h]
  show (lcGo2 gm mt mi1 vs1 gm1 mt1 me (wipeM ρ vs) ds).bind _ = _
  rw [hg]
  show (oFew es).map _ = _
  rw [x_few hl]
  rfl
end PM
namespace PM
open PySem PySem.Spec PyProof.Rows L2 LB
/-! ### sorted(xs, key=lambda z: z[0]), xs a list of tuples whose first items are texts -/
def qLam (ls : List Str) (x : Str) : Str := if x ∈ ls then x ++ ".<locals>." ++ "<lambda>" else qOf x
def tabsL (K : PySem.W.Frag) (ls fs : List Str) : Tb := fs.map fun x => ((He.cT K (x, none)).2, qLam ls x)
theorem tabL_g {K : PySem.W.Frag} {ls fs : List Str} {x : Str} (h : x ∈ fs) (n : x ∉ ls) : ((He.cT K (x, none)).2, qOf x) ∈ tabsL K ls fs := List.mem_map.mpr ⟨x, h, by rw [qLam, if_neg n]⟩
theorem tabL_l {K : PySem.W.Frag} {ls fs : List Str} {x : Str} (h : x ∈ fs) (n : x ∈ ls) : ((He.cT K (x, none)).2, x ++ ".<locals>." ++ "<lambda>") ∈ tabsL K ls fs := List.mem_map.mpr ⟨x, h, by rw [qLam, if_pos n]⟩
theorem tabL_u {K : PySem.W.Frag} {ls fs : List Str} {x : Str} (nd : (fs.map fun x => (He.cT K (x, none)).2).Nodup) (h : x ∈ fs) : ∀ p ∈ tabsL K ls fs, p.1 = (He.cT K (x, none)).2 → p.2 = qLam ls x := fun p hp e => by
  obtain ⟨y, hy, rfl⟩ := List.mem_map.mp hp
  have := nodup_map nd hy h e
  subst this
  rfl
theorem tabL_gu {K : PySem.W.Frag} {ls fs : List Str} {x : Str} (nd : (fs.map fun x => (He.cT K (x, none)).2).Nodup) (h : x ∈ fs) (n : x ∉ ls) : ∀ p ∈ tabsL K ls fs, p.1 = (He.cT K (x, none)).2 → p.2 = qOf x := fun p hp e => (tabL_u nd h p hp e).trans (by rw [qLam, if_neg n])
theorem tabL_lu {K : PySem.W.Frag} {ls fs : List Str} {x : Str} (nd : (fs.map fun x => (He.cT K (x, none)).2).Nodup) (h : x ∈ fs) (n : x ∈ ls) : ∀ p ∈ tabsL K ls fs, p.1 = (He.cT K (x, none)).2 → p.2 = x ++ ".<locals>." ++ "<lambda>" := fun p hp e => (tabL_u nd h p hp e).trans (by rw [qLam, if_pos n])
abbrev prm (x : Str) (pa : Pos) : Arguments := { posonlyargs := [], args := [{ arg := x, annotation := none, pos := pa }], vararg := none, kwonlyargs := [], kw_defaults := [], kwarg := none, defaults := [] }
abbrev fstB (x : Str) (p1 p2 p3 : Pos) : Expr := .Subscript (.Name x p1) (.Constant (.int 0) 0 p2) p3
structure LamF (x : Str) (scope : Scope) : Prop where
  kind : scope.kind = .function
  co : scope.isCoroutine = false
  gen : scope.isGenerator = false
  cell : ∀ y ∈ scope.names, y.2 ≠ .cell
  free : ∀ y ∈ scope.names, y.2 ≠ .free
  loc : scope.names.lookup x = some .local
def lamFB (x : Str) (scope : Scope) : Bool := decide (scope.kind = .function) && !scope.isCoroutine && !scope.isGenerator && (scope.names.all fun y => !decide (y.2 = .cell) && !decide (y.2 = .free)) && decide (scope.names.lookup x = some .local)
theorem lamF_by {x : Str} {scope : Scope} (h : lamFB x scope = true) : LamF x scope := by
  unfold lamFB at h
  simp only [Bool.and_eq_true, Bool.not_eq_true', decide_eq_true_eq, decide_eq_false_iff_not, List.all_eq_true] at h
  obtain ⟨⟨⟨⟨h1, h2⟩, h3⟩, h4⟩, h5⟩ := h
  exact ⟨h1, h2, h3, fun y hy => (h4 y hy).1, fun y hy => (h4 y hy).2, h5⟩
section
variable {prog : Program} {w : World} {A : Around} {s : Shared} {E : Value → Shared → Prop}
theorem lam_fst {f c' : Addr} {qual x : Str} {pa p1 p2 p3 : Pos} {scope : Scope} {pm ctv : Value} {v : Addr} {items : Array Value} {y : Str} {tk : Tok} (hr : A.depth < recursionLimit)
    (ho : s.heap.get? f = some (PySem.W.kla_obj "<lambda>" qual (prm x pa) (fstB x p1 p2 p3) scope [] pm c' ctv)) (hcd : s.heap.CodeRec (.ref c') qual) (L : LamF x scope) (hdb : (x == ("__debug__" : Str)) = false) (hbind : ∀ (qual : Str) (body : Expr) (scope : Scope) (pm cdv ct v : Value), bindArgs (PySem.W.kla_fn "<lambda>" qual (prm x pa) body scope [] pm cdv ct) ⟨[v], []⟩ = pure [(x, v)])
    (ht : IsTup s.heap v items) (h0 : items[0]? = some (.str y tk)) (lim : s.heap.NoLimit) : wpAny (model prog w) A (call (.ref f) [.ref v]) (PySem.W.KeyPure (.str y) s) E s := by
  refine wpAny_call (PySem.W.kla_callFunE hr ho rfl L.co L.gen rfl hcd ?_)
  rw [hbind]
  refine wpAny_pure (wpAny_newFunctionEnv L.cell (fun z hz => by rw [List.mem_singleton.mp hz]; exact L.loc) (fun h₁ hns hsb => ⟨lim.fresh _ hsb, ?_⟩) L.kind)
  have kp : ∀ b o, s.heap.get? b = some o → h₁.get? b = some o := fun b o e => hsb.extBut b o (Nat.ne_of_lt (Heap.lt_size e)) (Heap.get?_push_of_some _ e)
  obtain ⟨o, ho, hc, n, hd⟩ := ht
  have ht1 : IsTup h₁ v items := ⟨o, kp _ _ ho, hc, n, hd⟩
  have hsz : 0 < items.size := (Array.getElem?_eq_some_iff.mp h0).1
  refine PySem.W.kla_codeExpr (wpAny_Subscript_Constant_late (wpAny_Name (wpAny_loadName_local L.kind L.loc hns (v := .ref v) (by simp) ?_) hdb))
  refine wpAny_Constant_int ⟨"tuple", _, slot_tuple_getitem.lookup, IsTup.typeIs (s := { s with heap := h₁, toks := _ }) ht1, getItem_tuple (s := { s with heap := h₁, toks := _ }) ht1 (by decide) (by decide) (j := 0) ?_ h0 ⟨h₁, _, rfl, kp, Reads.str _ _⟩⟩
  unfold seqIndex?
  simp [hsz]
end
def fstS : PyData → Str
  | .tuple (.str x :: _) => x
  | _ => Str.empty
def kFst (b : V × PyData) : PyData := .str (fstS b.2)
def tSortFst (K : PySem.W.Frag) (T : Tb) (t : TA) : TE := fun σ H Q => t σ H fun vs H1 => LamX.Tabs T H1 ∧ ∀ H2, LamX.ExtN H1 H2 → LamX.Tabs T H2 → ∃ (a : Addr) (bs : List (V × PyData)), vs = [.ref a] ∧ SqL K H2 a (bs.map (·.1)) ∧ (∀ b ∈ bs, ∃ q ys, b.1 = .ref q ∧ SqT K H2 q (.str (fstS b.2) :: ys)) ∧ bs.length ≤ 1000 ∧
  ∀ p, H2 p = none → Q (.ref p) (upd H2 p (.lst ((bs.mergeSort (PySem.W.dataLe false kFst)).map (·.1))))
theorem pe_sortFst {X : Cx} {e : Expr} {T : Tb} {t : TA} {c P : Addr} {k : Nat} {x : Str} {scope : Scope} {p pa p1 p2 p3 lp k1 pos : Pos} (hg : Gl X "sorted") (hm : X.mg "sorted" = none) (hr : Room (k + 1) X.A) (hu : X.A.units + 64 < cLine)
    (TB : LamX.TabB X.base X.mg c P) (hcode : X.env.code = .ref c) (hmT : (P, X.env.qual ++ "<lambda>") ∈ T) (huT : ∀ p ∈ T, p.1 = P → p.2 = X.env.qual ++ "<lambda>") (L : LamF x scope) (hdb : (x == ("__debug__" : Str)) = false) (hbind : ∀ (qual : Str) (body : Expr) (scope : Scope) (pm cdv ct v : Value), bindArgs (PySem.W.kla_fn "<lambda>" qual (prm x pa) body scope [] pm cdv ct) ⟨[v], []⟩ = pure [(x, v)]) (ha : PA X [e] t)
    (he : backTo pos (starEach [e] X.env) = (false, eval e X.env) :: backTo pos (starEach [] X.env) := by rfl) (hpl : (backTo pos (starEach [e] X.env)).any (·.1) = false := by rfl) :
    PE X (.Call (.Name "sorted" p) [e] [⟨some "key", .Lambda (prm x pa) (fstB x p1 p2 p3) scope lp, k1⟩] pos) (tSortFst X.K T t) := by
  refine ⟨fun pins s σ H Q I h => ?_⟩
  refine wpAny_Call_Name_kw (ld_blt I hg hm (u := .builtin "sorted") (by decide +kernel) ?_)
  refine PyProof.Rows.callWith_kw (thn (ha.run pos pins s σ H _ I h) fun us s1 ⟨vs, H1, I1, r1, hT, q⟩ => ?_) he hpl rfl rfl
  show wpAny _ _ (evalAll [(do let v ← eval (.Lambda (prm x pa) (fstB x p1 p2 p3) scope lp) X.env; standAt pos; pure v)]) _ _ s1
  have noclo : cloFrom X.env.cells scope.names [] = [] := by
    cases hc : cloFrom X.env.cells scope.names [] with
    | nil => rfl
    | cons z l =>
      have hz : z ∈ cloFrom X.env.cells scope.names [] := by rw [hc]; exact List.mem_cons_self
      rcases cloFrom_mem hz with hm | ⟨h1, _⟩
      · cases hm
      · exact absurd rfl (L.free _ h1)
  refine wpAny_evalAll_cons (wpAny_bind (LamX.lam_make2 I1 TB hcode hmT huT hT rfl (fun y hy z => absurd z (L.free y hy)) fun f c' pm ctv H2 s2 I2 hx hT2 hf hfn hfr hc' => wpAny_bind (wpAny_standAt (wpAny_pure (wpAny_evalAll_nil ?_)))))
  rw [noclo] at hf
  obtain ⟨a, bs, hv, hq, hb, hl, q2⟩ := q H2 hx hT2
  subst hv
  obtain ⟨u, rfl, ru⟩ := vals1 r1
  cases ru
  obtain ⟨its, rv, pl, hz⟩ := I2.list hq
  have hu' : X.A.units + 64 < cLine := hu
  obtain ⟨⟨oc, vsc, tc, hoc, hdc, hvc⟩, _, _⟩ := I2.hok c' _ hc'
  refine PySem.W.sorted_key_data (β := V × PyData) (R := fun u b => RelV b.1 u) (b := false) (f := .ref f) kFst pl.isList (each_rel rv) (fun d hd d' hd' => ?_) (.inr fun d hd => ?_) (Nat.le_trans hl (by decide)) (fun x _ => ?_) (PyProof.Rows.ksk_s1 _ _) (fun x => PyProof.Rows.ksk_l1 _ _) (fun x => PyProof.Rows.ksk_t1 f x) (fun v b hR hbm h tk kp => ?_) (fun out c h' tk kp fr hget hlen each => ?_)
  · obtain ⟨b, _, rfl⟩ := List.mem_map.mp hd
    obtain ⟨b', _, rfl⟩ := List.mem_map.mp hd'
    rfl
  · obtain ⟨b, _, rfl⟩ := List.mem_map.mp hd
    exact ⟨(fun z => nomatch z), fun _ z => nomatch z⟩
  · show X.A.units + 2 + 0 < cLine
    omega
  · obtain ⟨r, ys, e1, hys⟩ := hb b hbm
    rw [e1] at hR
    cases (show v = Value.ref r from hR)
    obtain ⟨its', r', ⟨o, e, hc, n, hd⟩, hz'⟩ := I2.tuple hys
    cases r' with
    | cons r0 rs =>
      obtain ⟨t0, rfl⟩ := (show ∃ t0, _ = Value.str (fstS b.2) t0 from r0)
      exact lam_fst (A := X.A.in1.in1) (s := { s2 with heap := h, toks := tk }) (show X.A.depth < recursionLimit by have := hr.dp; omega) (kp _ _ hf) ⟨c', oc, vsc, tc, rfl, kp _ _ hoc, hdc, hvc⟩ L hdb hbind ⟨o, kp _ _ e, hc, n, hd⟩ rfl (I2.nolimit.keeps kp)
  · have hv := rel_each each
    have I3 : Inv X pins σ (upd H2 (s2.heap.objs.size + 1) (.lst ((bs.mergeSort (PySem.W.dataLe false kFst)).map (·.1)))) { s2 with heap := h', toks := tk } :=
      I2.laid (t' := tk) kp (Nat.le_succ _) (show ObjOk X.prog X.w _ _ _ (.lst _) from ⟨by rw [List.length_map, List.length_mergeSort]; exact Nat.le_trans hl (by decide), out, c, hv, hget⟩)
    exact ⟨.ref _, _, I3, rfl, q2 _ (I2.hok.fresh (Nat.le_succ _))⟩
section
variable {T : Tb} {K : PySem.W.Frag} {X : Cx} {e : Expr}
def isFst : PyData → Bool
  | .tuple (.str _ :: _) => true
  | _ => false
theorem ext_pr2 (P1 : Pr T) {H2 : Hp} (h : LamX.ExtN P1.H H2) (t : LamX.Tabs T H2) : ∃ P2 : Pr T, P2.H = H2 ∧ P2.M = P1.M ∧ Le P1 P2 := ⟨⟨P1.M, H2, P1.sub.trans h, t, P1.nt⟩, rfl, rfl, ex_refl _, h, fun _ a b => absurd a b⟩
noncomputable def mSortFst (a : ME) : ME := fun ρ => (a ρ).bind fun x => match x with
  | .list ds => if ds.all isFst = true ∧ ds.length ≤ 1000 then some (.list (ds.mergeSort (PySem.W.dataLe false fun d => .str (fstS d)))) else none
  | _ => none
theorem c_sortFst {a : ME} (h : PE X e (tSortFst K T (tAw K T (aCons a aNil)))) : PE X e (tF K T (mSortFst a)) := pe_to h fun σ H Q ⟨P0, P, ρ, d, h1, s, h2, q⟩ => by
  subst h1
  obtain ⟨x, ex, h3⟩ := bind_eq h2
  split at h3
  · rename_i ds
    split at h3
    · rename_i hh
      cases h3
      refine ⟨P0, P, ρ, [.list ds], rfl, s, x_cons ex rfl, fun vs P1 l1 r1 => ⟨P1.tab, fun H2 hx ht => ?_⟩⟩
      obtain ⟨P2, rfl, eM, l2⟩ := ext_pr2 P1 hx ht
      cases r1 with
      | cons r1 r2 =>
        cases r2
        have r1 := Rw.up r1 l2
        obtain ⟨p, xs, rfl, hs, ra⟩ := r1.list
        obtain ⟨z1, z2, z3⟩ := zip_rp ra
        have hlen : (xs.zip ds).length = ds.length := by
          rw [List.length_zip, ra.length, Nat.min_self]
        refine ⟨p, xs.zip ds, rfl, by rw [z1]; exact hs, fun b hb => ?_, by omega, fun l hl => ?_⟩
        · have hr := z3 b hb
          have hu : isFst b.2 = true := List.all_eq_true.mp hh.1 b.2 (by rw [← z2]; exact List.mem_map_of_mem hb)
          obtain ⟨v, dd⟩ := b
          cases hr with
          | tup hs2 ra2 =>
            have hs2 := SqT.of (K := K) hs2
            cases ra2 with
            | nil => cases hu
            | cons r0 rs =>
              cases r0 with
              | str => exact ⟨_, _, rfl, ex_t P2.sub hs2⟩
              | _ => cases hu
          | _ => cases hu
        · have em : ((xs.zip ds).mergeSort (PySem.W.dataLe false kFst)).map (·.2) = ds.mergeSort (PySem.W.dataLe false fun d => .str (fstS d)) := by
            have := List.map_mergeSort (r := PySem.W.dataLe false kFst) (s := PySem.W.dataLe false fun d => .str (fstS d)) (f := fun b : V × PyData => b.2) (l := xs.zip ds) fun a _ b _ => rfl
            rw [this, z2]
          have hr := rp_of (K := K) (M := P2.M) (bs := (xs.zip ds).mergeSort (PySem.W.dataLe false kFst)) fun b hb => z3 b (List.mem_mergeSort.mp hb)
          rw [em] at hr
          exact q l (P2.hid l (.lst _) hl) ((l1.trans l2).trans (le_hid P2 hl)) (.lst (P2.none hl) upd_same hr) (loose_back (l1.trans l2).h (loose_none hl))
    · cases h3
  · cases h3
theorem x_sortFst {a : ME} {ρ : Ev} {ds : List PyData} (h : a ρ = some (.list ds)) (hf : ∀ d ∈ ds, isFst d = true) (hl : ds.length ≤ 1000) : mSortFst a ρ = some (.list (ds.mergeSort (PySem.W.dataLe false fun d => .str (fstS d)))) := by
  unfold mSortFst
  rw [h]
  exact if_pos ⟨List.all_eq_true.mpr hf, hl⟩
end
end PM
namespace PM
open PySem PySem.Spec PyProof.Rows L2 LB
/-! ### xs += ys, xs a list of one's own, ys a new one -/
variable {T : Tb} {K : PySem.W.Frag} {X : Cx}
def mAugL (i : Nat) (a : ME) : MS := fun ρ => (a ρ).bind fun d => match ρ[i]?, d with
  | some (.own (.list ds)), .list es => if ds.length + es.length ≤ 100000 then some (.nx (ρ.set i (.own (.list (ds ++ es))))) else none
  | _, _ => none
theorem s_augL {st : Stmt} {R : ER} {i : Nat} {a : ME} (h : PS X st (tAug i (tF K T a) rExt2)) : PS X st (tSR K T R (mAugL i a)) := ps_to h fun D σ H ⟨P0, P, ρ, o, h1, s, h2, q⟩ => by
  subst h1
  obtain ⟨d, e1, h3⟩ := bind_eq h2
  split at h3
  · rename_i ds es hd
    split at h3
    · rename_i hlt
      cases h3
      obtain ⟨u, g1, g2⟩ := s.ok i _ hd
      cases g2 with
      | @own p _ r =>
        refine ⟨_, g1, P0, P, ρ, _, rfl, s, e1, fun b P' l rv _ => ?_⟩
        have r' := r.up l
        cases r' with
        | @lst xs _ a1 a2 a3 =>
          obtain ⟨zs, b1, b2, ra⟩ := rv.list
          obtain ⟨Q', hQ, hQ', s'⟩ := (s.up l).mut (o' := .lst (xs ++ zs)) (d' := .list (ds ++ es)) hd g1 a1 a2 (fun _ z => nomatch z) (fun _ _ z => by unfold LamX.CodeO at z; cases z) fun R hM hH => .lst (by rw [hM]; exact a1) (by rw [hH]; exact upd_same) (by rw [hM]; exact RpAll.append a3 ra)
          refine ⟨p, b, xs, zs, rfl, rfl, a2, b2, ?_, ?_⟩
          · have e2 := a3.length
            have e3 := ra.length
            exact Nat.le_trans (by omega) (show 100000 ≤ sizeLine by decide)
          · have es : σ.set i (some (.ref p)) = σ := by
              refine List.ext_getElem? fun k => ?_
              by_cases z : i = k
              · subst z
                rw [List.getElem?_set_self (List.getElem?_eq_some_iff.mp g1).1, g1]
              · rw [List.getElem?_set_ne z]
            show D.nx (σ.set i (some (.ref p))) (upd P'.H p (.lst (xs ++ zs)))
            rw [es, ← hQ']
            exact q Q' σ s'
    · cases h3
  · cases h3
theorem x_augL {i : Nat} {a : ME} {ρ : Ev} {ds es : List PyData} (h : a ρ = some (.list es)) (ho : ρ[i]? = some (.own (.list ds))) (hl : ds.length + es.length ≤ 100000) : mAugL i a ρ = some (.nx (ρ.set i (.own (.list (ds ++ es))))) := by
  unfold mAugL
  rw [h, ho]
  show (if ds.length + es.length ≤ 100000 then _ else none) = _
  rw [if_pos hl]
end PM
namespace PM
open PySem PySem.Spec PyProof.Rows L2 LB
variable {T : Tb} {K : PySem.W.Frag} {X : Cx} {e : Expr}
/-! ### all(.. for .. in .. for .. in ..) -/
def agGo2 (gm : MG) (mt : MT) (mi1 : MA) (vs1 : List Nat) (gm1 : MG) (mt1 : MT) (me : ME) (ρ : Ev) : List PyData → Option Bool
  | [] => some true
  | d :: ds => (gm d ρ).bind fun ρ1 => (mt ρ1).bind fun b => if b = true then (mi1 ρ1).bind fun es => if es.length ≤ 300 then (agGo gm1 mt1 me (wipeM ρ1 vs1) es).bind fun c => if c = true then agGo2 gm mt mi1 vs1 gm1 mt1 me ρ ds else some false else none else agGo2 gm mt mi1 vs1 gm1 mt1 me ρ ds
def mAg2 (mi : MA) (vs : List Nat) (gm : MG) (mt : MT) (mi1 : MA) (vs1 : List Nat) (gm1 : MG) (mt1 : MT) (me : ME) : ME := fun ρ => (mi ρ).bind fun ds => if ds.length ≤ 300 then (agGo2 gm mt mi1 vs1 gm1 mt1 me (wipeM ρ vs) ds).map .bool else none
theorem c_ag2 {mi mi1 : MA} {vs vs0 vs1 : List Nat} {gm gm1 : MG} {mt mt1 : MT} {me : ME} (h : PE X e (GX.tAllG2 T (tIh K T mi) (tG K T vs0 gm) (tQ K T mt) (tIh K T mi1) (tG K T vs1 gm1) (tQ K T mt1) (tD K T me) vs vs1)) (hv0 : ∀ i ∈ vs0, i ∈ vs := by decide) : PE X e (tD K T (mAg2 mi vs gm mt mi1 vs1 gm1 mt1 me)) := pe_to h fun σ H Q ⟨P0, P, ρ, d, h1, s, h2, q⟩ => by
  subst h1
  obtain ⟨ds, e0, h3⟩ := bind_eq h2
  split at h3
  case isFalse => cases h3
  rename_i hds
  obtain ⟨tot, et, rfl⟩ := map_eq h3
  refine ⟨P0, P, ρ, ds, rfl, s, e0, fun J P1 l1 wk => ⟨P1.tab, fun H2 hx ht => ?_⟩⟩
  obtain ⟨P2, rfl, l2⟩ := ext_pr P1 hx ht
  refine ⟨fun i m ys H' => m = ds.length - i ∧ i ≤ ds.length ∧ ys.length ≤ 300 * i ∧ ∃ (Pc : Pr T), Pc.H = H' ∧ Le P2 Pc ∧ agGo2 gm mt mi1 vs1 gm1 mt1 me (wipeM ρ vs) (ds.drop i) = some tot, ⟨ds.length, by simp, Nat.zero_le _, Nat.zero_le _, P2, rfl, Le.refl P2, et⟩, ?_⟩
  rintro i m ys H' ⟨rfl, hi, hys, Pc, rfl, lc, eg⟩
  have l12 := l2.trans lc
  by_cases hlt : i < ds.length
  · refine .inr ⟨wk.go i Pc hlt l12, fun x H'' y => ?_⟩
    obtain ⟨P3, rfl, l3, dd, hdd, rx⟩ := wk.yld i Pc x H'' hlt l12 y
    rw [drop_some hdd] at eg
    obtain ⟨ρ1, eρ, eg⟩ := bind_eq eg
    obtain ⟨b, eb, eg⟩ := bind_eq eg
    refine ⟨P0, P3, wipeM ρ vs, dd, ρ1, rfl, (st_wipe s vs).up (l1.trans (l12.trans l3)), rx, eρ, fun σ2 s2 hl2 hf2 => ⟨wipe_frame hl2 (fun k hk => hf2 k fun z => hk (hv0 k z)), P0, P3, ρ1, b, rfl, s2, eb, fun P4 l4 => ?_⟩⟩
    cases b with
    | false => exact iteF ⟨_, Nat.sub_lt_sub_left hlt (Nat.lt_succ_self i), rfl, hlt, by omega, P4, rfl, lc.trans (l3.trans l4), by simpa using eg⟩
    | true =>
      rw [if_pos rfl] at eg
      obtain ⟨es, e1, eg⟩ := bind_eq eg
      split at eg
      case isFalse => cases eg
      rename_i hes
      obtain ⟨c1, ec1, eg⟩ := bind_eq eg
      refine iteT ⟨P0, P4, ρ1, es, rfl, s2.up l4, e1, fun J1 P5 l5 wk1 => ?_⟩
      have lb := lc.trans (l3.trans (l4.trans l5))
      refine ⟨fun j k ys H' => k = es.length - j ∧ j ≤ es.length ∧ ys.length ≤ 300 * i + j ∧ ∃ (Pd : Pr T), Pd.H = H' ∧ Le P5 Pd ∧ agGo gm1 mt1 me (wipeM ρ1 vs1) (es.drop j) = some c1, ⟨es.length, by simp, Nat.zero_le _, hys, P5, rfl, Le.refl P5, ec1⟩, ?_⟩
      rintro j k ys' H' ⟨rfl, hj, hys', Pd, rfl, ld, eg'⟩
      by_cases hlj : j < es.length
      · refine .inr ⟨wk1.go j Pd hlj ld, fun x1 H6 y1 => ?_⟩
        obtain ⟨P6, rfl, l6, dd1, hdd1, rx1⟩ := wk1.yld j Pd x1 H6 hlj ld y1
        rw [drop_some hdd1] at eg'
        obtain ⟨ρ2, eρ2, eg'⟩ := bind_eq eg'
        obtain ⟨b1, eb1, eg'⟩ := bind_eq eg'
        refine ⟨P0, P6, wipeM ρ1 vs1, dd1, ρ2, rfl, (st_wipe s2 vs1).up (l4.trans (l5.trans (ld.trans l6))), rx1, eρ2, fun σ3 s3 hl3 hf3 => ⟨wipe_frame hl3 hf3, P0, P6, ρ2, b1, rfl, s3, eb1, fun P7 l7 => ?_⟩⟩
        cases b1 with
        | false => exact iteF ⟨_, Nat.sub_lt_sub_left hlj (Nat.lt_succ_self j), rfl, hlj, by omega, P7, rfl, ld.trans (l6.trans l7), by simpa using eg'⟩
        | true =>
          rw [if_pos rfl] at eg'
          obtain ⟨z, ez, eg'⟩ := bind_eq eg'
          obtain ⟨c, ec, eg2⟩ := bind_eq eg'
          rw [asB_eq ec] at ez
          refine iteT ⟨P0, P7, ρ2, _, rfl, s3.up l7, ez, fun yv P8 l8 r8 => ?_⟩
          cases r8
          have h300 : ys'.length < 100000 := by
            have : 300 * i ≤ 300 * 299 := Nat.mul_le_mul_left _ (by omega)
            omega
          refine ⟨szl' (m := 100000) h300 (Nat.le_refl _), c, rfl, fun hc => ⟨_, Nat.sub_lt_sub_left hlj (Nat.lt_succ_self j), rfl, hlj, by rw [List.length_append]; show _ + 1 ≤ _; omega, P8, rfl, ld.trans (l6.trans (l7.trans l8)), ?_⟩, fun hc => ?_⟩
          · rw [if_pos hc] at eg2
            exact eg2
          · rw [if_neg (by rw [hc]; decide)] at eg2
            cases eg2
            have : tot = false := by
              rw [if_neg Bool.false_ne_true] at eg
              exact (Option.some.inj eg).symm
            subst this
            exact q _ P8 (l1.trans (l2.trans (lb.trans (ld.trans (l6.trans (l7.trans l8)))))) (.bl _)
      · have ej : j = es.length := by omega
        subst ej
        rw [List.drop_length] at eg'
        cases eg'
        rw [if_pos rfl] at eg
        exact .inl ⟨wk1.stop Pd ld, _, Nat.sub_lt_sub_left hlt (Nat.lt_succ_self i), rfl, hlt, by omega, Pd, rfl, lb.trans ld, eg⟩
  · have ei : i = ds.length := by omega
    subst ei
    rw [List.drop_length] at eg
    cases eg
    exact .inl ⟨wk.stop Pc l12, q _ Pc (l1.trans l12) (.bl _)⟩
theorem agGo_map {α : Type} {gm : MG} {mt : MT} {me : ME} {ρ : Ev} (D : α → PyData) (p F : α → Bool) : ∀ (l : List α), (∀ a ∈ l, ∃ ρ1, gm (D a) ρ = some ρ1 ∧ mt ρ1 = some (p a) ∧ (p a = true → me ρ1 = some (.bool (F a)))) → agGo gm mt me ρ (l.map D) = some ((l.filter p).all F)
  | [], _ => rfl
  | a :: l, h => by
    obtain ⟨ρ1, h1, h2, h3⟩ := h a List.mem_cons_self
    have ih := agGo_map (gm := gm) (mt := mt) (me := me) (ρ := ρ) D p F l fun x hx => h x (List.mem_cons_of_mem _ hx)
    show (gm (D a) ρ).bind _ = _
    rw [h1]
    show (mt ρ1).bind _ = _
    rw [h2]
    cases hp : p a with
    | false =>
      rw [List.filter_cons_of_neg (by rw [hp]; exact Bool.false_ne_true)]
      exact ih
    | true =>
      rw [List.filter_cons_of_pos hp, List.all_cons]
      show (me ρ1).bind _ = _
      rw [h3 hp]
      show (if F a = true then _ else some false) = _
      cases hf : F a with
      | false => rfl
      | true => exact ih
theorem agGo2_map {α : Type} {gm gm1 : MG} {mt mt1 : MT} {mi1 : MA} {vs1 : List Nat} {me : ME} {ρ : Ev} (D : α → PyData) (F : α → Bool) : ∀ (l : List α), (∀ a ∈ l, ∃ ρ1 es, gm (D a) ρ = some ρ1 ∧ mt ρ1 = some true ∧ mi1 ρ1 = some es ∧ es.length ≤ 300 ∧ agGo gm1 mt1 me (wipeM ρ1 vs1) es = some (F a)) → agGo2 gm mt mi1 vs1 gm1 mt1 me ρ (l.map D) = some (l.all F)
  | [], _ => rfl
  | a :: l, h => by
    obtain ⟨ρ1, es, h1, h2, h3, h4, h5⟩ := h a List.mem_cons_self
    have ih := agGo2_map (gm := gm) (mt := mt) (mi1 := mi1) (vs1 := vs1) (gm1 := gm1) (mt1 := mt1) (me := me) (ρ := ρ) D F l fun x hx => h x (List.mem_cons_of_mem _ hx)
    rw [List.all_cons]
    show (gm (D a) ρ).bind _ = _
    rw [h1]
    show (mt ρ1).bind _ = _
    rw [h2]
    show (mi1 ρ1).bind _ = _
    rw [h3]
    show (if es.length ≤ 300 then _ else none) = _
    rw [if_pos h4, h5]
    show (if F a = true then _ else some false) = _
    cases hf : F a with
    | false => rfl
    | true => exact ih
theorem x_ag2 {mi mi1 : MA} {vs vs1 : List Nat} {gm gm1 : MG} {mt mt1 : MT} {me : ME} {ρ : Ev} {ds : List PyData} {c : Bool} (h : mi ρ = some ds) (hl : ds.length ≤ 300) (hg : agGo2 gm mt mi1 vs1 gm1 mt1 me (wipeM ρ vs) ds = some c) : mAg2 mi vs gm mt mi1 vs1 gm1 mt1 me ρ = some (.bool c) := by
  unfold mAg2
  rw [h]
  show (if ds.length ≤ 300 then _ else none) = _
  rw [if_pos hl, hg]
  rfl
end PM
namespace K01
/-- the loop of rests -/
theorem gcd_fmod (a b : Int) : Int.gcd b (a.fmod b) = Int.gcd a b := by
  have h : a.fmod b = a - b * a.fdiv b := by
    have := Int.mul_fdiv_add_fmod a b
    omega
  rw [h]
  rw [Int.gcd_comm a b]
  apply Nat.dvd_antisymm
  · apply Int.dvd_gcd (Int.gcd_dvd_left _ _)
    have h1 : (↑(Int.gcd b (a - b * a.fdiv b)) : Int) ∣ b := Int.gcd_dvd_left _ _
    have h2 : (↑(Int.gcd b (a - b * a.fdiv b)) : Int) ∣ (a - b * a.fdiv b) := Int.gcd_dvd_right _ _
    have h3 := Int.dvd_add h2 (Int.dvd_mul_of_dvd_left (c := a.fdiv b) h1)
    rwa [Int.sub_add_cancel] at h3
  · apply Int.dvd_gcd (Int.gcd_dvd_left _ _)
    have h1 : (↑(Int.gcd b a) : Int) ∣ b := Int.gcd_dvd_left _ _
    have h2 : (↑(Int.gcd b a) : Int) ∣ a := Int.gcd_dvd_right _ _
    exact Int.dvd_sub h2 (Int.dvd_mul_of_dvd_left (c := a.fdiv b) h1)
theorem fmod_small (a b : Int) (hb : b ≠ 0) : (a.fmod b).natAbs < b.natAbs := by
  rcases Int.lt_or_lt_of_ne hb with h | h
  · have e := Int.fmod_eq_emod (a := a) (b := b)
    have h1 := Int.emod_nonneg a hb
    have h2 := Int.emod_lt a hb
    split at e
    · rename_i q
      rcases q with q | q
      · omega
      · have := Int.emod_eq_zero_of_dvd q
        omega
    · rename_i q
      have h3 : a % b ≠ 0 := fun z => q (Or.inr (Int.dvd_of_emod_eq_zero z))
      omega
  · have h1 := Int.fmod_nonneg_of_pos a h
    have h2 := Int.fmod_lt_of_pos a h
    omega
/-- the divisor with the bottom's sign -/
def dvs (t b : Int) : Int := if b < 0 then -(Int.gcd t b : Int) else (Int.gcd t b : Int)
def lowT (t b : Int) : Int := t.fdiv (dvs t b)
def lowB (t b : Int) : Int := b.fdiv (dvs t b)
theorem gcd_pos (t : Int) {b : Int} (hb : b ≠ 0) : 0 < Int.gcd t b := Int.gcd_pos_iff.mpr (Or.inr hb)
theorem dvs_ne (t : Int) {b : Int} (hb : b ≠ 0) : dvs t b ≠ 0 := by
  have := gcd_pos t hb
  unfold dvs
  split <;> omega
theorem dvs_nat (t b : Int) : (dvs t b).natAbs = Int.gcd t b := by
  unfold dvs
  split <;> omega
theorem gcd_le (t : Int) {b : Int} (hb : b ≠ 0) : Int.gcd t b ≤ b.natAbs := by
  have h : (Int.gcd t b) ∣ b.natAbs := Int.natAbs_dvd_natAbs.mpr (Int.gcd_dvd_right t b)
  exact Nat.le_of_dvd (by omega) h
theorem dvs_dvd_b (t b : Int) : dvs t b ∣ b := by
  unfold dvs
  split
  · exact Int.neg_dvd.mpr (Int.gcd_dvd_right t b)
  · exact Int.gcd_dvd_right t b
theorem dvs_dvd_t (t b : Int) : dvs t b ∣ t := by
  unfold dvs
  split
  · exact Int.neg_dvd.mpr (Int.gcd_dvd_left t b)
  · exact Int.gcd_dvd_left t b
theorem lowB_mul (t b : Int) : lowB t b * dvs t b = b := by
  unfold lowB
  rw [Int.fdiv_eq_ediv_of_dvd (dvs_dvd_b t b)]
  exact Int.ediv_mul_cancel (dvs_dvd_b t b)
theorem lowT_mul (t b : Int) : lowT t b * dvs t b = t := by
  unfold lowT
  rw [Int.fdiv_eq_ediv_of_dvd (dvs_dvd_t t b)]
  exact Int.ediv_mul_cancel (dvs_dvd_t t b)
theorem lowB_pos (t : Int) {b : Int} (hb : b ≠ 0) : 0 < lowB t b := by
  have e := lowB_mul t b
  have g := gcd_pos t hb
  unfold dvs at e
  split at e
  · rename_i h
    apply Int.not_le.mp
    intro z
    have h2 : 0 ≤ lowB t b * -(Int.gcd t b : Int) := Int.mul_nonneg_of_nonpos_of_nonpos z (by omega)
    omega
  · rename_i h
    apply Int.not_le.mp
    intro z
    have h2 : lowB t b * (Int.gcd t b : Int) ≤ 0 := Int.mul_nonpos_of_nonpos_of_nonneg z (by omega)
    omega
theorem low_gcd (t : Int) {b : Int} (hb : b ≠ 0) : Int.gcd (lowT t b) (lowB t b) = 1 := by
  have g := gcd_pos t hb
  have h1 : Int.gcd (lowT t b * dvs t b) (lowB t b * dvs t b) = Int.gcd (lowT t b) (lowB t b) * (dvs t b).natAbs := Int.gcd_mul_right ..
  rw [lowT_mul, lowB_mul, dvs_nat] at h1
  have h2 : 1 * Int.gcd t b = Int.gcd (lowT t b) (lowB t b) * Int.gcd t b := by omega
  exact (Nat.eq_of_mul_eq_mul_right g h2).symm
theorem low_id {t b : Int} (hb : 0 < b) : (lowT t b = t ∧ lowB t b = b) ↔ Int.gcd t b = 1 := by
  constructor
  · intro ⟨_, h⟩
    have e := lowB_mul t b
    rw [h] at e
    have e2 : b * dvs t b = b * 1 := by omega
    have e3 : dvs t b = 1 := Int.eq_of_mul_eq_mul_left (by omega) e2
    have := dvs_nat t b
    omega
  · intro h
    have e : dvs t b = 1 := by
      unfold dvs
      rw [if_neg (by omega), h]
      rfl
    unfold lowT lowB
    rw [e, Int.fdiv_one, Int.fdiv_one]
    exact ⟨rfl, rfl⟩
theorem low_natAbs_t (t : Int) {b : Int} (hb : b ≠ 0) : (lowT t b).natAbs ≤ t.natAbs := by
  have e := congrArg Int.natAbs (lowT_mul t b)
  rw [Int.natAbs_mul, dvs_nat] at e
  have g := gcd_pos t hb
  rw [← e]
  exact Nat.le_mul_of_pos_right _ g
theorem low_natAbs_b (t : Int) {b : Int} (hb : b ≠ 0) : (lowB t b).natAbs ≤ b.natAbs := by
  have e := congrArg Int.natAbs (lowB_mul t b)
  rw [Int.natAbs_mul, dvs_nat] at e
  have g := gcd_pos t hb
  rw [← e]
  exact Nat.le_mul_of_pos_right _ g
end K01
namespace PM
open PySem PySem.Spec PyProof.Rows L2 LB
open K01 (lowT lowB dvs gcd_fmod fmod_small gcd_pos dvs_ne dvs_nat gcd_le lowB_mul lowT_mul lowB_pos low_gcd low_id low_natAbs_t low_natAbs_b)
/-! ### fractions, among data -/
theorem fdv_big {i j : Int} (h : j ≠ 0) (h2 : j.natAbs < 2 ^ 250) : oFdv (.int i) (.int j) = some (.int (i.fdiv j)) := by
  show (if decide (j ≠ 0 ∧ j.natAbs < 2 ^ 250) = true then some (PyData.int (i.fdiv j)) else none) = _
  rw [if_pos (decide_eq_true ⟨h, h2⟩)]
theorem fdv_ii {i j : Int} (h : j ≠ 0) (h2 : j.natAbs < 2 ^ 200) : oFdv (.int i) (.int j) = some (.int (i.fdiv j)) := fdv_big h (Nat.lt_trans h2 (by decide))
end PM
namespace PM
open PySem PySem.Spec PyProof.Rows L2 LB
open K01 (lowT lowB dvs gcd_fmod fmod_small gcd_pos dvs_ne dvs_nat gcd_le lowB_mul lowT_mul lowB_pos low_gcd low_id low_natAbs_t low_natAbs_b)
/-! ### lines of cuts, among data -/
/-- a price p / q of a web of this top -/
structure Pri (top p q : Int) : Prop where
  q1 : 0 < q
  p0 : 0 ≤ p
  pt : p ≤ top * q
  q40 : q < 2 ^ 40
end PM
namespace K56
open PySem PySem.Spec PyProof.Rows L2
def top (i : Nat) : Stmt := PySem.Challenge.pw_cutstairs_k56_what_houses_are.main.body.getD i (.Pass ⟨0, 0, 0, 0⟩)
abbrev s_is_whole : Stmt := top 1
abbrev s_is_between : Stmt := top 2
abbrev s_is_row : Stmt := top 3
abbrev s_is_name : Stmt := top 6
abbrev s_is_rising : Stmt := top 7
abbrev s_are_names : Stmt := top 8
abbrev s_is_top : Stmt := top 9
abbrev s_is_place : Stmt := top 10
abbrev s_is_tie : Stmt := top 11
abbrev s_are_places : Stmt := top 12
abbrev s_are_ties : Stmt := top 13
abbrev s_is_web : Stmt := top 14
abbrev s_names_of : Stmt := top 15
abbrev s_is_job : Stmt := top 16
abbrev s_is_tool : Stmt := top 17
abbrev s_are_jobs_and_tools : Stmt := top 18
abbrev s_house_web : Stmt := top 19
abbrev s_has_house_form : Stmt := top 20
abbrev s_is_house : Stmt := top 22
abbrev s_L_cell : Stmt := top 24
abbrev s_L_numbers : Stmt := top 25
abbrev s_L_names : Stmt := top 26
abbrev s_L_house : Stmt := top 27
abbrev s_L_whole : Stmt := top 28
abbrev s_L_name : Stmt := top 29
abbrev s_L_row : Stmt := top 30
abbrev s_L_due : Stmt := top 31
abbrev s_L_put : Stmt := top 32
abbrev s_L_sign : Stmt := top 33
abbrev s_L_spoilt_row : Stmt := top 34
abbrev s_L_spoilt : Stmt := top 35
abbrev s_L_edges : Stmt := top 36
abbrev s_law : Stmt := top 37
end K56
namespace K56
open PySem PySem.Spec PyProof.Rows L2 LB PM
def m_is_whole : MS := (mRet (mAnd (mIs "int" (mW 0)) (mNot (mIs "bool" (mW 0)))))
def M_is_whole : List PyData → Option PyData := fnM 1 1 m_is_whole
def m_is_between : MS := (mRet (mAnd (mCb M_is_whole (aCons (mV 0) aNil)) (mCh oLe oLe (mW 1) (mW 0) (mW 2))))
def M_is_between : List PyData → Option PyData := fnM 3 3 m_is_between
def m_is_row : MS := (mRet (mAnd (mIs "tuple" (mW 0)) (mOp oEq (mCb oLen (aCons (mW 0) aNil)) (mW 1))))
def M_is_row : List PyData → Option PyData := fnM 2 2 m_is_row
def m_is_name : MS := (mRet (mAnd (mIs "str" (mW 0)) (mAnd (mCh oLe oLe (mC (.int 1)) (mCb oLen (aCons (mW 0) aNil)) (mC (.int 8))) (mAg (iS (mW 0)) [1] (gN 1) qT (mOp oInX (mW 1) (mC (.str "abcdefghijklmnopqrstuvwxyz")))))))
def M_is_name : List PyData → Option PyData := fnM 1 2 m_is_name
def m_is_rising : MS := (mRet (mAg (iZ (aCons (mV 0) (aCons (mSl (mW 0) (pSo (mC (.int 1))) pNo) aNil))) [1, 2] (gT [1, 2]) qT (mOp oLtX (mW 1) (mW 2))))
def M_is_rising : List PyData → Option PyData := fnM 1 3 m_is_rising
def m_are_names : MS := (mRet (mAnd (mIs "tuple" (mW 0)) (mAnd (mAg (iS (mW 0)) [1] (gN 1) qT (mCb M_is_name (aCons (mV 1) aNil))) (mCb M_is_rising (aCons (mV 0) aNil)))))
def M_are_names : List PyData → Option PyData := fnM 1 2 m_are_names
def m_is_top : MS := (mRet (mCb M_is_between (aCons (mV 0) (aCons (mC (.int 1)) (aCons (mC (.int 9)) aNil)))))
def M_is_top : List PyData → Option PyData := fnM 1 1 m_is_top
def m_is_place : MS := (mSeq (mIfS (qNot (qV (mCb M_is_row (aCons (mV 1) (aCons (mC (.int 5)) aNil))))) (mRet (mC (.bool false))) mNx)
  (mSeq (mAsg (mV 1) (gT [2, 3, 4, 5, 6]))
  (mSeq (mIfS (qNot (qAnd (qV (mCb M_is_name (aCons (mV 2) aNil))) (qAnd (qV (mCb M_is_between (aCons (mV 3) (aCons (mC (.int 0)) (aCons (mC (.int 99)) aNil))))) (qAnd (qV (mCb M_is_between (aCons (mV 4) (aCons (mC (.int 0)) (aCons (mC (.int 99)) aNil))))) (qV (mCb M_is_between (aCons (mV 6) (aCons (mC (.int 0)) (aCons (mC (.int 99)) aNil))))))))) (mRet (mC (.bool false))) mNx)
  (mRet (mCb M_is_between (aCons (mV 5) (aCons (mOp oMul (mW 6) (mW 0)) (aCons (mC (.int 999)) aNil))))))))
def M_is_place : List PyData → Option PyData := fnM 2 7 m_is_place
def m_is_tie : MS := (mSeq (mIfS (qNot (qV (mCb M_is_row (aCons (mV 1) (aCons (mC (.int 3)) aNil))))) (mRet (mC (.bool false))) mNx)
  (mSeq (mAsg (mV 1) (gT [2, 3, 4]))
  (mSeq (mIfS (qNot (qAnd (qV (mCb M_is_name (aCons (mV 2) aNil))) (qAnd (qV (mCb M_is_name (aCons (mV 3) aNil))) (qV (mCb M_is_between (aCons (mV 4) (aCons (mC (.int 1)) (aCons (mC (.int 999)) aNil)))))))) (mRet (mC (.bool false))) mNx)
  (mRet (mAnd (mOp oIn (mW 2) (mW 0)) (mAnd (mOp oIn (mW 3) (mW 0)) (mOp oNe (mW 2) (mW 3))))))))
def M_is_tie : List PyData → Option PyData := fnM 2 5 m_is_tie
def m_are_places : MS := (mSeq (mIfS (qNot (qAnd (qV (mIs "tuple" (mW 1))) (qV (mCh oLe oLe (mC (.int 1)) (mCb oLen (aCons (mW 1) aNil)) (mC (.int 8)))))) (mRet (mC (.bool false))) mNx)
  (mRet (mAnd (mAg (iS (mW 1)) [2] (gN 2) qT (mCb M_is_place (aCons (mV 0) (aCons (mV 2) aNil)))) (mCb M_is_rising (aCons (mLc (iS (mW 1)) [2] (gN 2) qT (mOp oIx (mW 2) (mC (.int 0)))) aNil)))))
def M_are_places : List PyData → Option PyData := fnM 2 3 m_are_places
def m_are_ties : MS := (mSeq (mIfS (qNot (qAnd (qV (mIs "tuple" (mW 1))) (qV (mOp oLe (mCb oLen (aCons (mW 1) aNil)) (mC (.int 16)))))) (mRet (mC (.bool false))) mNx)
  (mRet (mAnd (mAg (iS (mW 1)) [2] (gN 2) qT (mCb M_is_tie (aCons (mV 0) (aCons (mV 2) aNil)))) (mCb M_is_rising (aCons (mLc (iS (mW 1)) [2] (gN 2) qT (mSl (mW 2) pNo (pSo (mC (.int 2))))) aNil)))))
def M_are_ties : List PyData → Option PyData := fnM 2 3 m_are_ties
def m_names_of : MS := (mRet (mTg (iS (mOp oIx (mW 0) (mC (.int 1)))) [1] (gN 1) qT (mOp oIx (mW 1) (mC (.int 0)))))
def M_names_of : List PyData → Option PyData := fnM 1 2 m_names_of
def m_is_web : MS := (mSeq (mIfS (qNot (qV (mCb M_is_row (aCons (mV 0) (aCons (mC (.int 3)) aNil))))) (mRet (mC (.bool false))) mNx)
  (mSeq (mAsg (mV 0) (gT [1, 2, 3]))
  (mRet (mAnd (mCb M_is_top (aCons (mV 1) aNil)) (mAnd (mCb M_are_places (aCons (mV 1) (aCons (mV 2) aNil))) (mCb M_are_ties (aCons (mCb M_names_of (aCons (mV 0) aNil)) (aCons (mV 3) aNil))))))))
def M_is_web : List PyData → Option PyData := fnM 1 4 m_is_web
def m_is_job : MS := (mRet (mAnd (mCb M_is_row (aCons (mV 0) (aCons (mC (.int 4)) aNil))) (mAnd (mCb M_is_name (aCons (mOp oIx (mW 0) (mC (.int 0))) aNil)) (mCb M_are_names (aCons (mOp oIx (mW 0) (mC (.int 3))) aNil)))))
def M_is_job : List PyData → Option PyData := fnM 1 1 m_is_job
def m_is_tool : MS := (mRet (mAnd (mCb M_is_row (aCons (mV 0) (aCons (mC (.int 3)) aNil))) (mCb M_is_name (aCons (mOp oIx (mW 0) (mC (.int 0))) aNil))))
def M_is_tool : List PyData → Option PyData := fnM 1 1 m_is_tool
def m_are_jobs_and_tools : MS := (mSeq (mIfS (qNot (qAnd (qV (mAg (iS (mW 0)) [4] (gN 4) qT (mCb M_is_job (aCons (mV 4) aNil)))) (qV (mAg (iS (mW 1)) [3] (gN 3) qT (mCb M_is_tool (aCons (mV 3) aNil)))))) (mRet (mC (.bool false))) mNx)
  (mSeq (mSet 2 (mLc (iS (mW 1)) [3] (gN 3) qT (mOp oIx (mW 3) (mC (.int 0)))))
  (mSeq (mIfS (qNot (qAnd (qV (mCb M_is_rising (aCons (mLc (iS (mW 0)) [4] (gN 4) qT (mOp oIx (mW 4) (mC (.int 0)))) aNil))) (qV (mCb M_is_rising (aCons (mV 2) aNil))))) (mRet (mC (.bool false))) mNx)
  (mRet (mAg2 (iS (mW 0)) [4, 5] (gN 4) qT (iS (mOp oIx (mW 4) (mC (.int 3)))) [5] (gN 5) qT (mOp oIn (mW 5) (mW 2)))))))
def M_are_jobs_and_tools : List PyData → Option PyData := fnM 2 6 m_are_jobs_and_tools
noncomputable def m_house_web : MS := (mSeq (mAsg (mV 0) (gT [3, 4, 5]))
  (mSeq (mSetO 1 (mLc (iS (mW 4)) [7, 8, 9, 10] (gT [7, 8, 9, 10]) qT (mTup (aCons (mV 7) (aCons (mV 8) (aCons (mV 9) (aCons (mC (.int 0)) (aCons (mC (.int 0)) aNil))))))))
  (mSeq (mAugL 1 (mLc (iS (mW 5)) [7, 11, 12] (gT [7, 11, 12]) qT (mTup (aCons (mV 7) (aCons (mC (.int 0)) (aCons (mC (.int 0)) (aCons (mV 11) (aCons (mV 12) aNil))))))))
  (mSeq (mSet 2 (mLc2 (iS (mW 4)) [7, 8, 9, 10, 6] (gT [7, 8, 9, 10]) qT (iS (mV 10)) [6] (gN 6) qT (mTup (aCons (mV 7) (aCons (mV 6) (aCons (mC (.int 999)) aNil))))))
  (mRet (mTup (aCons (mV 3) (aCons (mCb oTuple (aCons (mSortFst (mW 1)) aNil)) (aCons (mCb oTuple (aCons (mCb oSorted (aCons (mW 2) aNil)) aNil)) aNil)))))))))
noncomputable def M_house_web : List PyData → Option PyData := fnM 1 13 m_house_web
noncomputable def m_has_house_form : MS := (mSeq (mIfS (qNot (qAnd (qV (mCb M_is_row (aCons (mV 0) (aCons (mC (.int 3)) aNil)))) (qAnd (qV (mIs "tuple" (mOp oIx (mW 0) (mC (.int 1))))) (qV (mIs "tuple" (mOp oIx (mW 0) (mC (.int 2)))))))) (mRet (mC (.bool false))) mNx)
  (mRet (mAnd (mCb M_are_jobs_and_tools (aCons (mOp oIx (mW 0) (mC (.int 1))) (aCons (mOp oIx (mW 0) (mC (.int 2))) aNil))) (mCb M_is_web (aCons (mCb M_house_web (aCons (mV 0) aNil)) aNil)))))
noncomputable def M_has_house_form : List PyData → Option PyData := fnM 1 1 m_has_house_form
noncomputable def m_is_house : MS := (mRet (mCb M_has_house_form (aCons (mV 0) aNil)))
noncomputable def M_is_house : List PyData → Option PyData := fnM 1 1 m_is_house
def m_L_cell : MS := (mSeq (mIfS (qV (mOp oLt (mW 1) (mCb oLen (aCons (mW 0) aNil)))) (mRet (mOp oIx (mW 0) (mW 1))) mNx)
  (mSeq (mSet 2 (mOp oMod (mOp oMul (mC (.int 48271)) (mOp oAdd (mOp oAdd (mOp oMul (mW 1) (mW 1)) (mOp oMul (mC (.int 7)) (mW 1))) (mC (.int 11)))) (mC (.int 2147483647))))
  (mSeq (mFor (iS (mSl (mW 0) pNo (pSo (mC (.int 3))))) (gN 3)
   (mSet 2 (mOp oMod (mOp oAdd (mOp oMul (mW 2) (mC (.int 69621))) (mW 3)) (mC (.int 2147483647)))))
  (mRet (mV 2)))))
def M_L_cell : List PyData → Option PyData := fnM 2 4 m_L_cell
def m_L_numbers : MS := (mSeq (mSetO 2 (mLst aNil))
  (mSeq (mSet 3 (mOp oMod (mOp oMul (mOp oAdd (mOp oMod (mW 0) (mC (.int 1999999973))) (mC (.int 31))) (mC (.int 765432101))) (mC (.int 1999999973))))
  (mSeq (mSet 4 (mC (.int 0)))
  (mSeq (mIfS (qOr (qV (mOp oLt (mW 0) (mC (.int 0)))) (qV (mOp oGe (mW 0) (mOp oPow (mC (.int 10)) (mC (.int 18)))))) (mSet 4 (mCb oAbs (aCons (mW 0) aNil))) mNx)
  (mSeq (mFor (iR (aCons (mV 1) aNil)) (gN 5)
   (mSeq (mSet 3 (mOp oMod (mOp oAdd (mOp oAdd (mOp oMul (mW 3) (mOp oAdd (mOp oMod (mW 3) (mC (.int 65521))) (mC (.int 40487)))) (mOp oMul (mC (.int 7)) (mW 5))) (mC (.int 5))) (mC (.int 1999999973))))
  (mSeq (mApp 2 (mOp oIx (mLst (aCons (mV 3) (aCons (mOp oMod (mW 4) (mC (.int 1000000))) aNil))) (mCb oInt (aCons (mOp oGt (mW 4) (mC (.int 0))) aNil))))
  (mSet 4 (mOp oFdv (mW 4) (mC (.int 1000000)))))))
  (mRetO 2))))))
def M_L_numbers : List PyData → Option PyData := fnM 2 6 m_L_numbers
noncomputable def m_L_names : MS := (mSeq (mSet 2 (mC (.str "abcdefghijklmnopqrstuvwxyz")))
  (mSeq (mSetO 3 (mLst aNil))
  (mSeq (mFor (iR (aCons (mV 1) aNil)) (gN 4)
   (mSeq (mSet 5 (mOp oMul (mOp oIx (mW 2) (mOp oMod (mOp oAdd (mOp oIx (mW 0) (mC (.int 0))) (mOp oMul (mC (.int 7)) (mW 4))) (mC (.int 26)))) (mOp oAdd (mC (.int 1)) (mOp oMod (mOp oAdd (mOp oIx (mW 0) (mC (.int 2))) (mOp oMul (mC (.int 3)) (mW 4))) (mOp oIx (mLst (aCons (mC (.int 1)) (aCons (mC (.int 5)) aNil))) (mOp oMod (mOp oIx (mW 0) (mC (.int 3))) (mC (.int 2))))))))
  (mSeq (mIfS (qV (mOp oEq (mOp oMod (mOp oIx (mW 0) (mC (.int 1))) (mC (.int 4))) (mC (.int 1)))) (mSet 5 (mOp oAdd (mOp oIx (mC (.str "abcdefgh")) (mW 4)) (mOp oMul (mOp oIx (mW 2) (mOp oMod (mOp oIx (mW 0) (mC (.int 2))) (mC (.int 26)))) (mOp oMod (mOp oIx (mW 0) (mC (.int 3))) (mC (.int 8)))))) mNx)
  (mSeq (mIfS (qV (mOp oEq (mOp oMod (mOp oIx (mW 0) (mC (.int 1))) (mC (.int 4))) (mC (.int 2)))) (mSet 5 (mOp oMul (mOp oIx (mW 2) (mOp oMod (mOp oIx (mW 0) (mC (.int 2))) (mC (.int 26)))) (mOp oAdd (mC (.int 1)) (mW 4)))) mNx)
  (mSeq (mIfS (qV (mOp oEq (mOp oMod (mOp oIx (mW 0) (mC (.int 1))) (mC (.int 4))) (mC (.int 3)))) (mSeq (mSet 6 (mOp oIx (mW 2) (mOp oMod (mOp oAdd (mOp oIx (mW 0) (mC (.int 3))) (mOp oMul (mC (.int 5)) (mW 4))) (mC (.int 26)))))
  (mSet 5 (mOp oAdd (mOp oAdd (mOp oIx (mW 2) (mOp oMod (mOp oIx (mW 0) (mC (.int 2))) (mC (.int 26)))) (mW 6)) (mOp oIx (mW 2) (mOp oMod (mOp oIx (mW 0) (mC (.int 0))) (mC (.int 26))))))) mNx)
  (mApp 3 (mV 5)))))))
  (mRet (mCb oSorted (aCons (mW 3) aNil))))))
noncomputable def M_L_names : List PyData → Option PyData := fnM 2 7 m_L_names
noncomputable def m_L_house : MS := (mSeq (mSet 2 (mCb M_L_numbers (aCons (mCb M_L_cell (aCons (mV 0) (aCons (mV 1) aNil))) (aCons (mC (.int 16)) aNil))))
  (mSeq (mSet 3 (mOp oAdd (mC (.int 1)) (mOp oMod (mOp oIx (mW 2) (mC (.int 4))) (mC (.int 9)))))
  (mSeq (mSet 4 (mOp oAdd (mC (.int 1)) (mOp oMod (mOp oIx (mW 2) (mC (.int 5))) (mOp oIx (mLst (aCons (mC (.int 4)) (aCons (mC (.int 6)) (aCons (mC (.int 8)) aNil)))) (mOp oMod (mOp oIx (mW 2) (mC (.int 6))) (mC (.int 3)))))))
  (mSeq (mSet 5 (mCb M_L_names (aCons (mV 2) (aCons (mV 4) aNil))))
  (mSeq (mSet 6 (mLc (iEk (aCons (mV 5) aNil)) [8, 11] (gT [8, 11]) (qV (mOp oEq (mOp oMod (mOp oFdv (mOp oFdv (mOp oIx (mW 2) (mC (.int 7))) (mC (.int 2))) (mOp oIx (mLst (aCons (mC (.int 1)) (aCons (mC (.int 2)) (aCons (mC (.int 4)) (aCons (mC (.int 8)) (aCons (mC (.int 16)) (aCons (mC (.int 32)) (aCons (mC (.int 64)) (aCons (mC (.int 128)) aNil))))))))) (mW 8))) (mC (.int 2))) (mC (.int 0)))) (mV 11)))
  (mSeq (mSetO 7 (mLst aNil))
  (mSeq (mFor (iR (aCons (mCb oLen (aCons (mW 6) aNil)) aNil)) (gN 8)
   (mSeq (mSet 12 (mCb M_L_numbers (aCons (mCb M_L_cell (aCons (mV 0) (aCons (mOp oAdd (mOp oAdd (mW 1) (mC (.int 1))) (mW 8)) aNil))) (aCons (mC (.int 14)) aNil))))
  (mSeq (mSet 13 (mOp oMod (mOp oIx (mW 12) (mC (.int 0))) (mOp oIx (mLst (aCons (mC (.int 3)) (aCons (mC (.int 6)) (aCons (mC (.int 100)) aNil)))) (mOp oMod (mOp oIx (mW 12) (mC (.int 1))) (mC (.int 3))))))
  (mSeq (mSet 14 (mOp oAdd (mOp oMul (mW 13) (mW 3)) (mOp oMod (mOp oIx (mW 12) (mC (.int 2))) (mOp oIx (mLst (aCons (mC (.int 6)) (aCons (mC (.int 40)) (aCons (mOp oSub (mC (.int 1000)) (mOp oMul (mC (.int 99)) (mC (.int 9)))) aNil)))) (mOp oMod (mOp oIx (mW 12) (mC (.int 3))) (mC (.int 3)))))))
  (mApp 7 (mTup (aCons (mOp oIx (mW 6) (mW 8)) (aCons (mV 14) (aCons (mV 13) aNil)))))))))
  (mSeq (mSetO 9 (mLst aNil))
  (mSeq (mSet 10 (mC (.int 16)))
  (mSeq (mFor (iS (mV 5)) (gN 11)
   (mIfS (qV (mOp oNin (mW 11) (mW 6))) (mSeq (mSet 12 (mCb M_L_numbers (aCons (mCb M_L_cell (aCons (mV 0) (aCons (mOp oAdd (mOp oAdd (mOp oAdd (mW 1) (mC (.int 1))) (mCb oLen (aCons (mW 7) aNil))) (mCb oLen (aCons (mW 9) aNil))) aNil))) (aCons (mC (.int 14)) aNil))))
  (mSeq (mSet 15 (mCb oTuple (aCons (mSl (mLc (iR (aCons (mCb oLen (aCons (mW 6) aNil)) aNil)) [8] (gN 8) (qV (mOp oEq (mOp oMod (mOp oIx (mW 12) (mOp oAdd (mC (.int 4)) (mW 8))) (mC (.int 3))) (mC (.int 1)))) (mOp oIx (mW 6) (mW 8))) pNo (pSo (mV 10))) aNil)))
  (mSeq (mSet 10 (mOp oSub (mW 10) (mCb oLen (aCons (mW 15) aNil))))
  (mSeq (mSet 16 (mOp oIx (mLst (aCons (mC (.int 5)) (aCons (mC (.int 20)) (aCons (mC (.int 100)) aNil)))) (mOp oMod (mOp oIx (mW 12) (mC (.int 1))) (mC (.int 3)))))
  (mApp 9 (mTup (aCons (mV 11) (aCons (mOp oMod (mOp oIx (mW 12) (mC (.int 2))) (mW 16)) (aCons (mOp oMod (mOp oIx (mW 12) (mC (.int 3))) (mOp oIx (mLst (aCons (mC (.int 2)) (aCons (mC (.int 6)) (aCons (mC (.int 100)) aNil)))) (mOp oMod (mOp oFdv (mOp oIx (mW 12) (mC (.int 1))) (mC (.int 3))) (mC (.int 3))))) (aCons (mV 15) aNil)))))))))) mNx))
  (mRet (mTup (aCons (mV 3) (aCons (mCb oTuple (aCons (mW 9) aNil)) (aCons (mCb oTuple (aCons (mW 7) aNil)) aNil)))))))))))))))
noncomputable def M_L_house : List PyData → Option PyData := fnM 2 17 m_L_house
def m_L_whole : MS := (mRet (mAnd (mIs "int" (mW 0)) (mAnd (mNot (mIs "bool" (mW 0))) (mCh oLe oLe (mW 1) (mW 0) (mW 2)))))
def M_L_whole : List PyData → Option PyData := fnM 3 3 m_L_whole
def m_L_name : MS := (mSeq (mIfS (qOr (qNot (qV (mIs "str" (mW 0)))) (qNot (qV (mCh oLe oLe (mC (.int 1)) (mCb oLen (aCons (mW 0) aNil)) (mC (.int 8)))))) (mRet (mC (.bool false))) mNx)
  (mRet (mCb oAll (aCons (mLc (iS (mW 0)) [1] (gN 1) qT (mOp oInX (mW 1) (mC (.str "abcdefghijklmnopqrstuvwxyz")))) aNil))))
def M_L_name : List PyData → Option PyData := fnM 1 2 m_L_name
def m_L_row : MS := (mRet (mAnd (mIs "tuple" (mW 0)) (mAnd (mOp oEq (mCb oLen (aCons (mW 0) aNil)) (mW 1)) (mCb M_L_name (aCons (mOp oIx (mW 0) (mC (.int 0))) aNil)))))
def M_L_row : List PyData → Option PyData := fnM 2 2 m_L_row
noncomputable def m_L_due : MS := (mSeq (mIfS (qOr (qNot (qV (mIs "tuple" (mW 0)))) (qOr (qV (mOp oNe (mCb oLen (aCons (mW 0) aNil)) (mC (.int 3)))) (qNot (qV (mCb M_L_whole (aCons (mOp oIx (mW 0) (mC (.int 0))) (aCons (mC (.int 1)) (aCons (mC (.int 9)) aNil)))))))) (mRet (mC (.bool false))) mNx)
  (mSeq (mAsg (mV 0) (gT [5, 6, 7]))
  (mSeq (mIfS (qOr (qNot (qV (mIs "tuple" (mW 6)))) (qNot (qV (mIs "tuple" (mW 7))))) (mRet (mC (.bool false))) mNx)
  (mSeq (mIfS (qOr (qNot (qV (mCb oAll (aCons (mLc (iS (mW 6)) [3] (gN 3) qT (mCb M_L_row (aCons (mV 3) (aCons (mC (.int 4)) aNil)))) aNil)))) (qNot (qV (mCb oAll (aCons (mLc (iS (mW 7)) [11] (gN 11) qT (mCb M_L_row (aCons (mV 11) (aCons (mC (.int 3)) aNil)))) aNil))))) (mRet (mC (.bool false))) mNx)
  (mSeq (mSet 1 (mLc (iS (mW 7)) [11] (gN 11) qT (mOp oIx (mW 11) (mC (.int 0)))))
  (mSeq (mFor (iS (mV 7)) (gT [8, 9, 10])
   (mIfS (qOr (qNot (qV (mCb M_L_whole (aCons (mV 10) (aCons (mC (.int 0)) (aCons (mC (.int 99)) aNil)))))) (qNot (qV (mCb M_L_whole (aCons (mV 9) (aCons (mOp oMul (mW 10) (mW 5)) (aCons (mC (.int 999)) aNil))))))) (mRet (mC (.bool false))) mNx))
  (mSeq (mSet 2 (mC (.int 0)))
  (mSeq (mFor (iS (mV 6)) (gN 3)
   (mSeq (mIfS (qOr (qNot (qV (mCb M_L_whole (aCons (mOp oIx (mW 3) (mC (.int 1))) (aCons (mC (.int 0)) (aCons (mC (.int 99)) aNil)))))) (qOr (qNot (qV (mCb M_L_whole (aCons (mOp oIx (mW 3) (mC (.int 2))) (aCons (mC (.int 0)) (aCons (mC (.int 99)) aNil)))))) (qNot (qV (mIs "tuple" (mOp oIx (mW 3) (mC (.int 3)))))))) (mRet (mC (.bool false))) mNx)
  (mSeq (mIfS (qOr (qNot (qV (mCb oAll (aCons (mLc (iS (mOp oIx (mW 3) (mC (.int 3)))) [12] (gN 12) qT (mAnd (mCb M_L_name (aCons (mV 12) aNil)) (mOp oIn (mW 12) (mW 1)))) aNil)))) (qV (mOp oNe (mCb oList (aCons (mOp oIx (mW 3) (mC (.int 3))) aNil)) (mCb oSortX (aCons (mOp oIx (mW 3) (mC (.int 3))) aNil))))) (mRet (mC (.bool false))) mNx)
  (mSet 2 (mOp oAdd (mW 2) (mCb oLen (aCons (mOp oIx (mW 3) (mC (.int 3))) aNil)))))))
  (mSeq (mSet 4 (mLc (iS (mW 6)) [3] (gN 3) qT (mOp oIx (mW 3) (mC (.int 0)))))
  (mSeq (mIfS (qOr (qV (mOp oNe (mW 4) (mCb oSorted (aCons (mW 4) aNil)))) (qOr (qV (mOp oNe (mW 1) (mCb oSorted (aCons (mW 1) aNil)))) (qV (mOp oNe (mCb oLenX (aCons (mOp oAdd (mW 4) (mW 1)) aNil)) (mCb oLen (aCons (mOp oAdd (mW 4) (mW 1)) aNil)))))) (mRet (mC (.bool false))) mNx)
  (mRet (mAnd (mCh oLe oLe (mC (.int 1)) (mCb oLen (aCons (mOp oAdd (mW 4) (mW 1)) aNil)) (mC (.int 8))) (mOp oLe (mW 2) (mC (.int 16)))))))))))))))
noncomputable def M_L_due : List PyData → Option PyData := fnM 1 13 m_L_due
def m_L_put : MS := (mRet (mOp oAdd (mOp oAdd (mSl (mW 0) pNo (pSo (mV 1))) (mTup (aCons (mV 2) aNil))) (mSl (mW 0) (pSo (mOp oAdd (mW 1) (mC (.int 1)))) pNo)))
def M_L_put : List PyData → Option PyData := fnM 3 3 m_L_put
def m_L_sign : MS := (mSeq (mSet 1 (mC (.str " !#$&'()*+,-./0123456789:;<=>?@ABCDEFGHIJKLMNOPQRSTUVWXYZ[]^_abcdefghijklmnopqrstuvwxyz{|}~")))
  (mSeq (mSet 1 (mOp oAdd (mW 1) (mC (.str "\n\"\\`"))))
  (mRet (mOp oIx (mW 1) (mOp oMod (mW 0) (mCb oLen (aCons (mW 1) aNil)))))))
def M_L_sign : List PyData → Option PyData := fnM 1 2 m_L_sign
def m_L_spoilt_row : MS := (mSeq (mSet 4 (mLst (aCons (mC (.int 0)) (aCons (mC (.int 99)) (aCons (mC (.int 100)) (aCons (mUn oNeg (mC (.int 1))) (aCons (mC (.bool true)) (aCons (mC .none) (aCons (mC (.int 999)) (aCons (mC (.int 1000)) (aCons (mC (.str "0")) (aCons (mTup aNil) (aCons (mLst aNil) (aCons (mOp oMul (mC (.int 99)) (mW 2)) (aCons (mC (.int 891)) (aCons (mTup (aCons (mC (.int 1)) (aCons (mC (.int 1)) aNil))) aNil))))))))))))))))
  (mSeq (mIfS (qV (mOp oEq (mOp oMod (mOp oIx (mW 1) (mC (.int 0))) (mC (.int 4))) (mC (.int 0)))) (mSeq (mSet 5 (mLst (aCons (mC (.str "")) (aCons (mC (.str "A")) (aCons (mC (.str "ninesigns")) (aCons (mC (.int 7)) (aCons (mC .none) (aCons (mC (.str "a b")) (aCons (mTup (aCons (mC (.str "a")) aNil)) (aCons (mC (.str "zzzzzzzz")) (aCons (mC (.str "z")) (aCons (mC (.str "none")) (aCons (mOp oAdd (mOp oIx (mW 0) (mC (.int 0))) (mC (.str "\n"))) (aCons (mLst aNil) (aCons (mV 3) aNil)))))))))))))))
  (mSeq (mSet 6 (mOp oMod (mOp oIx (mW 1) (mC (.int 2))) (mCb oLen (aCons (mOp oIx (mW 0) (mC (.int 0))) aNil))))
  (mSeq (mSet 7 (mOp oAdd (mOp oAdd (mSl (mOp oIx (mW 0) (mC (.int 0))) pNo (pSo (mV 6))) (mCb M_L_sign (aCons (mOp oFdv (mOp oIx (mW 1) (mC (.int 2))) (mC (.int 8))) aNil))) (mSl (mOp oIx (mW 0) (mC (.int 0))) (pSo (mOp oAdd (mW 6) (mC (.int 1)))) pNo)))
  (mRet (mCb M_L_put (aCons (mV 0) (aCons (mC (.int 0)) (aCons (mOp oIx (mOp oAdd (mW 5) (mOp oRep (mLst (aCons (mV 7) aNil)) (mC (.int 13)))) (mOp oMod (mOp oIx (mW 1) (mC (.int 1))) (mC (.int 26)))) aNil)))))))) mNx)
  (mSeq (mIfS (qV (mOp oEq (mOp oMod (mOp oIx (mW 1) (mC (.int 0))) (mC (.int 4))) (mC (.int 1)))) (mRet (mOp oIx (mLst (aCons (mCb oList (aCons (mW 0) aNil)) (aCons (mSl (mW 0) pNo (pSo (mUn oNeg (mC (.int 1))))) (aCons (mOp oAdd (mW 0) (mTup (aCons (mC (.int 0)) aNil))) (aCons (mUn oRevU (mW 0)) (aCons (mC .none) (aCons (mC (.int 7)) (aCons (mC (.str "abcd")) (aCons (mC (.dict [])) aNil))))))))) (mOp oMod (mOp oIx (mW 1) (mC (.int 1))) (mC (.int 8))))) mNx)
  (mSeq (mIfS (qAnd (qV (mOp oEq (mOp oMod (mOp oIx (mW 1) (mC (.int 0))) (mC (.int 4))) (mC (.int 2)))) (qV (mOp oEq (mCb oLen (aCons (mW 0) aNil)) (mC (.int 4))))) (mSeq (mSet 8 (mLst (aCons (mCb oList (aCons (mOp oIx (mW 0) (mC (.int 3))) aNil)) (aCons (mOp oAdd (mOp oIx (mW 0) (mC (.int 3))) (mSl (mOp oIx (mW 0) (mC (.int 3))) pNo (pSo (mC (.int 1))))) (aCons (mUn oRevU (mOp oIx (mW 0) (mC (.int 3)))) (aCons (mOp oAdd (mOp oIx (mW 0) (mC (.int 3))) (mTup (aCons (mC (.str "zzzzzzzz")) aNil))) aNil))))))
  (mSeq (mSet 8 (mOp oAdd (mW 8) (mLst (aCons (mTup (aCons (mOp oIx (mW 0) (mC (.int 0))) aNil)) (aCons (mC .none) (aCons (mOp oIx (mW 0) (mC (.int 0))) (aCons (mTup (aCons (mTup aNil) aNil)) (aCons (mTup (aCons (mLst aNil) aNil)) (aCons (mTup (aCons (mC (.dict [])) aNil)) aNil)))))))))
  (mSeq (mSet 8 (mOp oAdd (mW 8) (mLst (aCons (mOp oAdd (mOp oIx (mW 0) (mC (.int 3))) (mTup (aCons (mC .none) aNil))) (aCons (mOp oAdd (mTup (aCons (mC (.int 7)) aNil)) (mOp oIx (mW 0) (mC (.int 3)))) (aCons (mOp oAdd (mOp oIx (mW 0) (mC (.int 3))) (mTup (aCons (mLst aNil) aNil))) aNil))))))
  (mRet (mCb M_L_put (aCons (mV 0) (aCons (mC (.int 3)) (aCons (mOp oIx (mW 8) (mOp oMod (mOp oIx (mW 1) (mC (.int 1))) (mC (.int 13)))) aNil)))))))) mNx)
  (mRet (mCb M_L_put (aCons (mV 0) (aCons (mOp oAdd (mC (.int 1)) (mOp oMod (mOp oIx (mW 1) (mC (.int 2))) (mC (.int 2)))) (aCons (mOp oIx (mW 4) (mOp oMod (mOp oIx (mW 1) (mC (.int 1))) (mC (.int 14)))) aNil)))))))))
def M_L_spoilt_row : List PyData → Option PyData := fnM 4 9 m_L_spoilt_row
def m_L_spoilt : MS := (mSeq (mAsg (mV 0) (gT [3, 4, 5]))
  (mSeq (mSet 2 (mOp oMod (mOp oIx (mW 1) (mC (.int 0))) (mC (.int 7))))
  (mSeq (mIfS (qV (mOp oEq (mW 2) (mC (.int 0)))) (mRet (mTup (aCons (mOp oIx (mLst (aCons (mC (.int 0)) (aCons (mC (.int 10)) (aCons (mC (.int 9)) (aCons (mC (.int 1)) (aCons (mC (.bool true)) (aCons (mC .none) (aCons (mC (.str "1")) (aCons (mTup (aCons (mC (.int 1)) (aCons (mC (.int 1)) aNil))) aNil))))))))) (mOp oMod (mOp oIx (mW 1) (mC (.int 1))) (mC (.int 8)))) (aCons (mV 4) (aCons (mV 5) aNil))))) mNx)
  (mSeq (mIfS (qV (mOp oEq (mW 2) (mC (.int 1)))) (mSeq (mSet 6 (mLst (aCons (mCb oList (aCons (mW 0) aNil)) (aCons (mSl (mW 0) pNo (pSo (mC (.int 2)))) (aCons (mOp oAdd (mW 0) (mTup (aCons (mTup aNil) aNil))) (aCons (mTup (aCons (mV 3) (aCons (mCb oList (aCons (mW 4) aNil)) (aCons (mV 5) aNil)))) aNil))))))
  (mRet (mOp oIx (mOp oAdd (mW 6) (mLst (aCons (mTup (aCons (mV 3) (aCons (mV 4) (aCons (mCb oList (aCons (mW 5) aNil)) aNil)))) aNil))) (mOp oMod (mOp oIx (mW 1) (mC (.int 1))) (mC (.int 5)))))) mNx)
  (mSeq (mIfS (qV (mOp oEq (mW 2) (mC (.int 2)))) (mSeq (mSet 6 (mLst (aCons (mTup (aCons (mV 3) (aCons (mUn oRevU (mW 4)) (aCons (mV 5) aNil)))) (aCons (mTup (aCons (mV 3) (aCons (mV 4) (aCons (mUn oRevU (mW 5)) aNil)))) aNil))))
  (mRet (mOp oIx (mOp oAdd (mW 6) (mLst (aCons (mTup (aCons (mV 3) (aCons (mV 5) (aCons (mV 4) aNil)))) (aCons (mTup (aCons (mV 3) (aCons (mTup aNil) (aCons (mTup aNil) aNil)))) aNil)))) (mOp oMod (mOp oIx (mW 1) (mC (.int 1))) (mC (.int 4)))))) mNx)
  (mSeq (mIfS (qAnd (qV (mOp oEq (mW 2) (mC (.int 3)))) (qV (mOp oNe (mW 5) (mTup aNil)))) (mRet (mTup (aCons (mV 3) (aCons (mV 4) (aCons (mOp oAdd (mW 5) (mSl (mSl (mW 5) (pSo (mOp oMod (mOp oIx (mW 1) (mC (.int 1))) (mCb oLen (aCons (mW 5) aNil)))) pNo) pNo (pSo (mC (.int 1))))) aNil))))) mNx)
  (mSeq (mIfS (qAnd (qV (mOp oEq (mW 2) (mC (.int 4)))) (qV (mOp oNe (mW 4) (mTup aNil)))) (mSeq (mSet 7 (mOp oMod (mOp oIx (mW 1) (mC (.int 1))) (mCb oLen (aCons (mW 4) aNil))))
  (mSeq (mSet 8 (mOp oIx (mOp oIx (mOp oAdd (mW 5) (mW 4)) (mC (.int 0))) (mC (.int 0))))
  (mSeq (mSet 9 (mCb M_L_spoilt_row (aCons (mOp oIx (mW 4) (mW 7)) (aCons (mSl (mW 1) (pSo (mC (.int 2))) pNo) (aCons (mV 3) (aCons (mV 8) aNil))))))
  (mRet (mTup (aCons (mV 3) (aCons (mOp oAdd (mOp oAdd (mSl (mW 4) pNo (pSo (mV 7))) (mTup (aCons (mV 9) aNil))) (mSl (mW 4) (pSo (mOp oAdd (mW 7) (mC (.int 1)))) pNo)) (aCons (mV 5) aNil)))))))) mNx)
  (mSeq (mIfS (qV (mOp oNe (mW 5) (mTup aNil))) (mSeq (mSet 7 (mOp oMod (mOp oIx (mW 1) (mC (.int 1))) (mCb oLen (aCons (mW 5) aNil))))
  (mSeq (mSet 8 (mOp oIx (mOp oIx (mOp oAdd (mW 4) (mW 5)) (mC (.int 0))) (mC (.int 0))))
  (mSeq (mSet 9 (mCb M_L_spoilt_row (aCons (mOp oIx (mW 5) (mW 7)) (aCons (mSl (mW 1) (pSo (mC (.int 2))) pNo) (aCons (mV 3) (aCons (mV 8) aNil))))))
  (mRet (mTup (aCons (mV 3) (aCons (mV 4) (aCons (mOp oAdd (mOp oAdd (mSl (mW 5) pNo (pSo (mV 7))) (mTup (aCons (mV 9) aNil))) (mSl (mW 5) (pSo (mOp oAdd (mW 7) (mC (.int 1)))) pNo)) aNil)))))))) mNx)
  (mRet (mTup (aCons (mV 3) (aCons (mSl (mW 4) (pSo (mOp oMod (mOp oIx (mW 1) (mC (.int 1))) (mCb oLen (aCons (mW 4) aNil)))) pNo) (aCons (mV 5) aNil)))))))))))))
def M_L_spoilt : List PyData → Option PyData := fnM 2 10 m_L_spoilt
def m_L_edges : MS := (mSeq (mSet 0 (mCb oTuple (aCons (mLc (iR (aCons (mC (.int 4)) aNil)) [5] (gN 5) qT (mTup (aCons (mOp oAdd (mC (.str "a")) (mSl (mC (.str "bcdefgh")) pNo (pSo (mV 5)))) (aCons (mC (.int 1)) (aCons (mC (.int 0)) aNil))))) aNil)))
  (mSeq (mSet 1 (mCb oTuple (aCons (mLc (iS (mW 0)) [6] (gN 6) qT (mOp oIx (mW 6) (mC (.int 0)))) aNil)))
  (mSeq (mSet 2 (mCb oTuple (aCons (mLc (iR (aCons (mC (.int 4)) aNil)) [5] (gN 5) qT (mTup (aCons (mOp oMul (mC (.str "q")) (mOp oAdd (mW 5) (mC (.int 1)))) (aCons (mC (.int 1)) (aCons (mC (.int 1)) (aCons (mV 1) aNil)))))) aNil)))
  (mSeq (mSetO 3 (mLst (aCons (mTup (aCons (mC (.int 9)) (aCons (mV 2) (aCons (mV 0) aNil)))) (aCons (mTup (aCons (mC (.int 9)) (aCons (mOp oAdd (mSl (mW 2) pNo (pSo (mC (.int 3)))) (mTup (aCons (mTup (aCons (mC (.str "qqqq")) (aCons (mC (.int 1)) (aCons (mC (.int 1)) (aCons (mSl (mW 1) (pSo (mC (.int 1))) pNo) aNil))))) aNil))) (aCons (mV 0) aNil)))) aNil))))
  (mSeq (mSetO 3 (mOp oCat (mW 3) (mLst (aCons (mTup (aCons (mC (.int 9)) (aCons (mV 2) (aCons (mOp oAdd (mW 0) (mTup (aCons (mTup (aCons (mC (.str "b")) (aCons (mC (.int 1)) (aCons (mC (.int 0)) aNil)))) aNil))) aNil)))) (aCons (mTup (aCons (mC (.int 9)) (aCons (mTup aNil) (aCons (mV 0) aNil)))) (aCons (mTup (aCons (mC (.int 9)) (aCons (mSl (mW 2) pNo (pSo (mC (.int 1)))) (aCons (mOp oAdd (mW 0) (mSl (mW 0) pNo (pSo (mC (.int 1))))) aNil)))) aNil))))))
  (mSeq (mSet 4 (mOp oAdd (mW 0) (mTup (aCons (mTup (aCons (mC (.str "b")) (aCons (mC (.int 1)) (aCons (mC (.int 0)) aNil)))) aNil))))
  (mSeq (mApp 3 (mTup (aCons (mC (.int 9)) (aCons (mOp oAdd (mSl (mW 2) pNo (pSo (mC (.int 2)))) (mTup (aCons (mTup (aCons (mC (.str "qqq")) (aCons (mC (.int 1)) (aCons (mC (.int 1)) (aCons (mOp oAdd (mW 1) (mTup (aCons (mC (.str "b")) aNil))) aNil))))) aNil))) (aCons (mV 4) aNil)))))
  (mSeq (mSetO 3 (mOp oCat (mW 3) (mLst (aCons (mTup (aCons (mC (.int 9)) (aCons (mSl (mW 2) pNo (pSo (mC (.int 3)))) (aCons (mV 4) aNil)))) (aCons (mTup (aCons (mC (.int 1)) (aCons (mTup (aCons (mTup (aCons (mC (.str "x")) (aCons (mC (.int 99)) (aCons (mC (.int 99)) (aCons (mTup (aCons (mC (.str "y")) aNil)) aNil))))) aNil)) (aCons (mTup (aCons (mTup (aCons (mC (.str "y")) (aCons (mC (.int 99)) (aCons (mC (.int 99)) aNil)))) aNil)) aNil)))) aNil)))))
  (mRet (mOp oAdd (mW 3) (mLst (aCons (mTup (aCons (mC (.int 9)) (aCons (mTup aNil) (aCons (mTup (aCons (mTup (aCons (mC (.str "y")) (aCons (mC (.int 891)) (aCons (mC (.int 99)) aNil)))) aNil)) aNil)))) (aCons (mC .none) aNil)))))))))))))
def M_L_edges : List PyData → Option PyData := fnM 0 7 m_L_edges
noncomputable def m_law : MS := (mSeq (mSet 1 (mOp oAdd (mCb M_L_edges aNil) (mLst (aCons (mC (.str "")) (aCons (mC (.int 7)) (aCons (mTup aNil) (aCons (mTup (aCons (mC (.int 1)) aNil)) (aCons (mLst aNil) (aCons (mC (.dict [])) aNil)))))))))
  (mSeq (mFor (iR (aCons (mCb oMax (aCons (mC (.int 1)) (aCons (mCb oMin (aCons (mCb oLen (aCons (mW 0) aNil)) (aCons (mC (.int 8)) aNil))) aNil))) aNil)) (gN 2)
   (mSeq (mSet 4 (mCb M_L_house (aCons (mV 0) (aCons (mV 2) aNil))))
  (mSeq (mSet 5 (mSl (mCb M_L_numbers (aCons (mCb M_L_cell (aCons (mV 0) (aCons (mV 2) aNil))) (aCons (mC (.int 24)) aNil))) (pSo (mC (.int 16))) pNo))
  (mSet 1 (mOp oAdd (mW 1) (mLst (aCons (mV 4) (aCons (mCb M_L_spoilt (aCons (mV 4) (aCons (mV 5) aNil))) (aCons (mCb M_L_spoilt (aCons (mV 4) (aCons (mSl (mW 5) (pSo (mC (.int 3))) pNo) aNil))) aNil)))))))))
  (mSeq (mFor (iS (mV 1)) (gN 3)
   (mSeq (mSet 6 (mCb M_is_house (aCons (mV 3) aNil)))
  (mIfS (qOr (qNot (qV (mIs "bool" (mW 6)))) (qV (mOp oNe (mW 6) (mCb M_L_due (aCons (mV 3) aNil))))) (mRet (mC (.bool false))) mNx)))
  (mRet (mC (.bool true))))))
noncomputable def M_law : List PyData → Option PyData := fnM 1 7 m_law
end K56
namespace K56
open PySem PySem.Spec PyProof.Rows L2 LB
/-- what the top has left -/
structure Txt (K : PySem.W.Frag) (mg : Str → Option Value) : Prop where
  m_is_whole : mg "is_whole" = some (.ref (He.ga K "is_whole"))
  m_is_between : mg "is_between" = some (.ref (He.ga K "is_between"))
  m_is_row : mg "is_row" = some (.ref (He.ga K "is_row"))
  m_is_name : mg "is_name" = some (.ref (He.ga K "is_name"))
  m_is_rising : mg "is_rising" = some (.ref (He.ga K "is_rising"))
  m_are_names : mg "are_names" = some (.ref (He.ga K "are_names"))
  m_is_top : mg "is_top" = some (.ref (He.ga K "is_top"))
  m_is_place : mg "is_place" = some (.ref (He.ga K "is_place"))
  m_is_tie : mg "is_tie" = some (.ref (He.ga K "is_tie"))
  m_are_places : mg "are_places" = some (.ref (He.ga K "are_places"))
  m_are_ties : mg "are_ties" = some (.ref (He.ga K "are_ties"))
  m_is_web : mg "is_web" = some (.ref (He.ga K "is_web"))
  m_names_of : mg "names_of" = some (.ref (He.ga K "names_of"))
  m_is_job : mg "is_job" = some (.ref (He.ga K "is_job"))
  m_is_tool : mg "is_tool" = some (.ref (He.ga K "is_tool"))
  m_are_jobs_and_tools : mg "are_jobs_and_tools" = some (.ref (He.ga K "are_jobs_and_tools"))
  m_house_web : mg "house_web" = some (.ref (He.ga K "house_web"))
  m_has_house_form : mg "has_house_form" = some (.ref (He.ga K "has_house_form"))
  m_is_house : mg "is_house" = some (.ref (He.ga K "is_house"))
  m_L_cell : mg "_law_cell" = some (.ref (He.ga K "_law_cell"))
  m_L_numbers : mg "_law_numbers" = some (.ref (He.ga K "_law_numbers"))
  m_L_names : mg "_law_names" = some (.ref (He.ga K "_law_names"))
  m_L_house : mg "_law_house" = some (.ref (He.ga K "_law_house"))
  m_L_whole : mg "_law_whole" = some (.ref (He.ga K "_law_whole"))
  m_L_name : mg "_law_name" = some (.ref (He.ga K "_law_name"))
  m_L_row : mg "_law_row" = some (.ref (He.ga K "_law_row"))
  m_L_due : mg "_law_due" = some (.ref (He.ga K "_law_due"))
  m_L_put : mg "_law_put" = some (.ref (He.ga K "_law_put"))
  m_L_sign : mg "_law_sign" = some (.ref (He.ga K "_law_sign"))
  m_L_spoilt_row : mg "_law_spoilt_row" = some (.ref (He.ga K "_law_spoilt_row"))
  m_L_spoilt : mg "_law_spoilt" = some (.ref (He.ga K "_law_spoilt"))
  m_L_edges : mg "_law_edges" = some (.ref (He.ga K "_law_edges"))
  m_law : mg "law" = some (.ref (He.ga K "law"))
  f_abs : mg "abs" = none
  f_all : mg "all" = none
  f_bool : mg "bool" = none
  f_enumerate : mg "enumerate" = none
  f_int : mg "int" = none
  f_isinstance : mg "isinstance" = none
  f_len : mg "len" = none
  f_list : mg "list" = none
  f_max : mg "max" = none
  f_min : mg "min" = none
  f_range : mg "range" = none
  f_set : mg "set" = none
  f_sorted : mg "sorted" = none
  f_str : mg "str" = none
  f_tuple : mg "tuple" = none
  f_zip : mg "zip" = none
  c_LETTERS : ∃ t, mg "LETTERS" = some (.str "abcdefghijklmnopqrstuvwxyz" t)
  D_is_whole : Df K mg "is_whole" s_is_whole
  D_is_between : Df K mg "is_between" s_is_between
  D_is_row : Df K mg "is_row" s_is_row
  D_is_name : Df K mg "is_name" s_is_name
  D_is_rising : Df K mg "is_rising" s_is_rising
  D_are_names : Df K mg "are_names" s_are_names
  D_is_top : Df K mg "is_top" s_is_top
  D_is_place : Df K mg "is_place" s_is_place
  D_is_tie : Df K mg "is_tie" s_is_tie
  D_are_places : Df K mg "are_places" s_are_places
  D_are_ties : Df K mg "are_ties" s_are_ties
  D_is_web : Df K mg "is_web" s_is_web
  D_names_of : Df K mg "names_of" s_names_of
  D_is_job : Df K mg "is_job" s_is_job
  D_is_tool : Df K mg "is_tool" s_is_tool
  D_are_jobs_and_tools : Df K mg "are_jobs_and_tools" s_are_jobs_and_tools
  D_house_web : Df K mg "house_web" s_house_web
  D_has_house_form : Df K mg "has_house_form" s_has_house_form
  D_is_house : Df K mg "is_house" s_is_house
  D_L_cell : Df K mg "_law_cell" s_L_cell
  D_L_numbers : Df K mg "_law_numbers" s_L_numbers
  D_L_names : Df K mg "_law_names" s_L_names
  D_L_house : Df K mg "_law_house" s_L_house
  D_L_whole : Df K mg "_law_whole" s_L_whole
  D_L_name : Df K mg "_law_name" s_L_name
  D_L_row : Df K mg "_law_row" s_L_row
  D_L_due : Df K mg "_law_due" s_L_due
  D_L_put : Df K mg "_law_put" s_L_put
  D_L_sign : Df K mg "_law_sign" s_L_sign
  D_L_spoilt_row : Df K mg "_law_spoilt_row" s_L_spoilt_row
  D_L_spoilt : Df K mg "_law_spoilt" s_L_spoilt
  D_L_edges : Df K mg "_law_edges" s_L_edges
  D_law : Df K mg "law" s_law
end K56
namespace K56
open PySem PySem.Spec PyProof.Rows L2 LB PM
abbrev gens : List Str := ["is_name", "is_rising", "are_names", "are_places", "are_ties", "names_of", "are_jobs_and_tools", "house_web"]
abbrev lams : List Str := ["house_web"]
abbrev tabs (K : PySem.W.Frag) : Tb := tabsL K lams gens
def ex (K : PySem.W.Frag) : Bool := decide ((gens.map fun x => (He.cT K (x, none)).2).Nodup)
structure Ext (K : PySem.W.Frag) : Prop where
  nd : (gens.map fun x => (He.cT K (x, none)).2).Nodup
theorem ext_of {K : PySem.W.Frag} (h : ex K = true) : Ext K := by
  exact ⟨of_decide_eq_true h⟩
end K56
namespace K56
open PySem PySem.Spec PyProof.Rows L2 LB PM
section
variable {P : Program} {w : World} {K : PySem.W.Frag} {mg : Str → Option Value} {base : Heap}
abbrev N_is_whole : List Str := ["thing"]
theorem sc_is_whole : FnScope N_is_whole ["thing"] (defScope s_is_whole) := ⟨rfl, rfl, rfl, by decide +kernel, rfl, by decide +kernel, by decide +kernel⟩
theorem ok_is_whole (T : Txt K mg) : OwnFn P w K mg base 1 "is_whole" ["thing"] (spM K (tabs K) M_is_whole) := by
  exact own_ok (k := 0) T.D_is_whole sc_is_whole (fun _ _ _ _ _ _ us hl => match us, hl with | [_], _ => rfl) (fun vs H Q E h => spM_len h) (fun cdv A outer s H vs Q E hr h => ⟨_, PSs.nox (show PSs _ _ (tS K (tabs K) m_is_whole) from (pss_one (PM.s_ret (ps_ret (c_andV (pe_and (c_is (pe_callB (call_isK K) (by rfl) T.f_isinstance (by decide +kernel) (pa_cons (c_vw (pv 0)) (pa_cons (pe_bltn (v := .ty "int") rfl T.f_int (by decide +kernel) rfl) pa_nil)))) (pe_one (c_notV (pe_not (c_is (pe_callB (call_isK K) (by rfl) T.f_isinstance (by decide +kernel) (pa_cons (c_vw (pv 0)) (pa_cons (pe_bltn (v := .ty "bool") rfl T.f_bool (by decide +kernel) rfl) pa_nil))))))))))))), spM_in (N := N_is_whole) h⟩)
abbrev N_is_between : List Str := ["thing", "least", "most"]
theorem sc_is_between : FnScope N_is_between ["thing", "least", "most"] (defScope s_is_between) := ⟨rfl, rfl, rfl, by decide +kernel, rfl, by decide +kernel, by decide +kernel⟩
theorem ok_is_between (T : Txt K mg) (F_is_whole : OwnFn P w K mg base 1 "is_whole" ["thing"] (spM K (tabs K) M_is_whole)) : OwnFn P w K mg base 2 "is_between" ["thing", "least", "most"] (spM K (tabs K) M_is_between) := by
  exact own_ok (k := 1) T.D_is_between sc_is_between (fun _ _ _ _ _ _ us hl => match us, hl with | [_, _, _], _ => rfl) (fun vs H Q E h => spM_len h) (fun cdv A outer s H vs Q E hr h => ⟨_, PSs.nox (show PSs _ _ (tS K (tabs K) m_is_between) from (pss_one (PM.s_ret (ps_ret (c_andV (pe_and (c_call (pe_own F_is_whole hr passL (a_cons (pa_cons (c_v (pv 0)) (a_nil pa_nil))))) (pe_one (c_ch od_le od_le (pe_chain op_le op_le (c_vw (pv 1)) (c_vw (pv 0)) (c_vw (pv 2))))))))))), spM_in (N := N_is_between) h⟩)
abbrev N_is_row : List Str := ["thing", "many"]
theorem sc_is_row : FnScope N_is_row ["thing", "many"] (defScope s_is_row) := ⟨rfl, rfl, rfl, by decide +kernel, rfl, by decide +kernel, by decide +kernel⟩
theorem ok_is_row (T : Txt K mg) : OwnFn P w K mg base 1 "is_row" ["thing", "many"] (spM K (tabs K) M_is_row) := by
  exact own_ok (k := 0) T.D_is_row sc_is_row (fun _ _ _ _ _ _ us hl => match us, hl with | [_, _], _ => rfl) (fun vs H Q E h => spM_len h) (fun cdv A outer s H vs Q E hr h => ⟨_, PSs.nox (show PSs _ _ (tS K (tabs K) m_is_row) from (pss_one (PM.s_ret (ps_ret (c_andV (pe_and (c_is (pe_callB (call_isK K) (by rfl) T.f_isinstance (by decide +kernel) (pa_cons (c_vw (pv 0)) (pa_cons (pe_bltn (v := .ty "tuple") rfl T.f_tuple (by decide +kernel) rfl) pa_nil)))) (pe_one (c_op od_eq (pe_cmpR (op_eqK (room_u64 hr)) (c_w (c_cb cb_len (pe_callB (call_lenK K) (by rfl) T.f_len (by decide +kernel) (a_consw (pa_cons (c_vw (pv 0)) (a_nilw pa_nil)))))) (c_vw (pv 1)) (nomark _)))))))))), spM_in (N := N_is_row) h⟩)
abbrev N_is_name : List Str := ["thing", "sign"]
theorem sc_is_name : FnScope N_is_name ["thing"] (defScope s_is_name) := ⟨rfl, rfl, rfl, by decide +kernel, rfl, by decide +kernel, by decide +kernel⟩
theorem ok_is_name (T : Txt K mg) (Y : Ext K) (TB : LamX.TabB base mg (He.cT K ("is_name", none)).1 (He.cT K ("is_name", none)).2) : OwnFn P w K mg base 3 "is_name" ["thing"] (spM K (tabs K) M_is_name) := by
  have hmT : ((He.cT K ("is_name", none)).2, qOf "is_name") ∈ tabs K := tabL_g (by decide +kernel) (by decide +kernel)
  have hu : ∀ p ∈ tabs K, p.1 = (He.cT K ("is_name", none)).2 → p.2 = qOf "is_name" := tabL_gu Y.nd (by decide +kernel) (by decide +kernel)
  exact own_okC (k := 2) T.D_is_name sc_is_name (fun _ _ _ _ _ _ us hl => match us, hl with | [_], _ => rfl) (fun vs H Q E h => spM_len h) (fun cdv A outer s H vs Q E hcd hr h => ⟨_, PSs.nox (show PSs _ _ (tS K (tabs K) m_is_name) from (pss_one (PM.s_ret (ps_ret (c_andV (pe_and (c_is (pe_callB (call_isK K) (by rfl) T.f_isinstance (by decide +kernel) (pa_cons (c_vw (pv 0)) (pa_cons (pe_bltn (v := .ty "str") rfl T.f_str (by decide +kernel) rfl) pa_nil)))) (c_andV (pe_and (c_ch od_le od_le (pe_chain op_le op_le (c_w (c_c pe_int fun _ => .int _)) (c_w (c_cb cb_len (pe_callB (call_lenK K) (by rfl) T.f_len (by decide +kernel) (a_consw (pa_cons (c_vw (pv 0)) (a_nilw pa_nil)))))) (c_w (c_c pe_int fun _ => .int _)))) (pe_one (c_ag (by refine GX.pe_allG (k := 0) (T := tabs K) (own := [("sign", 1)]) (hr.mono (by decide)) (by rfl) T.f_all TB hcd hmT hu (GX.gx_by (own := [("sign", 1)]) (N := N_is_name) (sc := defScope s_is_name) (by decide +kernel)) sc_is_name.nd ?_ (fun _ => rfl) ?_ ?_ ?_; exact (c_iseqw (pi_seq (c_vw (pv 0)))); exact (fun _ _ _ _ _ _ _ _ => (c_gn (pg_name (i := 1) sc_is_name.nd rfl (by first | exact Or.inl rfl | exact Or.inr rfl)))); exact (fun _ _ _ _ _ _ _ _ hr => (q_nil pts_nil)); exact (fun _ _ _ _ _ _ _ _ hr => (c_op od_inX (pe_cmpR op_uInX (c_vw (pv 1)) (c_w (c_c (pe_glob (v := .str "abcdefghijklmnopqrstuvwxyz") rfl T.c_LETTERS.choose_spec ⟨_, rfl⟩) fun _ => .str _)) (by rfl))))))))))))))), spM_in (N := N_is_name) h⟩)
abbrev N_is_rising : List Str := ["row", "ahead", "behind"]
theorem sc_is_rising : FnScope N_is_rising ["row"] (defScope s_is_rising) := ⟨rfl, rfl, rfl, by decide +kernel, rfl, by decide +kernel, by decide +kernel⟩
theorem ok_is_rising (T : Txt K mg) (Y : Ext K) (TB : LamX.TabB base mg (He.cT K ("is_rising", none)).1 (He.cT K ("is_rising", none)).2) : OwnFn P w K mg base 3 "is_rising" ["row"] (spM K (tabs K) M_is_rising) := by
  have hmT : ((He.cT K ("is_rising", none)).2, qOf "is_rising") ∈ tabs K := tabL_g (by decide +kernel) (by decide +kernel)
  have hu : ∀ p ∈ tabs K, p.1 = (He.cT K ("is_rising", none)).2 → p.2 = qOf "is_rising" := tabL_gu Y.nd (by decide +kernel) (by decide +kernel)
  exact own_okC (k := 2) T.D_is_rising sc_is_rising (fun _ _ _ _ _ _ us hl => match us, hl with | [_], _ => rfl) (fun vs H Q E h => spM_len h) (fun cdv A outer s H vs Q E hcd hr h => ⟨_, PSs.nox (show PSs _ _ (tS K (tabs K) m_is_rising) from (pss_one (PM.s_ret (ps_ret (c_ag (by refine GX.pe_allG (k := 0) (T := tabs K) (own := [("ahead", 1), ("behind", 2)]) (hr.mono (by decide)) (by rfl) T.f_all TB hcd hmT hu (GX.gx_by (own := [("ahead", 1), ("behind", 2)]) (N := N_is_rising) (sc := defScope s_is_rising) (by decide +kernel)) sc_is_rising.nd ?_ (fun _ => rfl) ?_ ?_ ?_; exact (c_ih (c_izip (pi_zipK (by rfl) T.f_zip (a_cons (pa_cons (c_v (pv 0)) (a_cons (pa_cons (c_sl (pe_slice sl_u (c_vw (pv 0)) (c_pso (po_some (c_c pe_int fun _ => .int _))) (c_pno po_none))) (a_nil pa_nil)))))))); exact (fun _ _ _ _ _ _ _ _ => (c_gt [1, 2] (pg_tupK rfl (pgs_cons (pg_name (i := 1) sc_is_rising.nd rfl (by first | exact Or.inl rfl | exact Or.inr rfl)) (pgs_cons (pg_name (i := 2) sc_is_rising.nd rfl (by first | exact Or.inl rfl | exact Or.inr rfl)) pgs_nil))))); exact (fun _ _ _ _ _ _ _ _ hr => (q_nil pts_nil)); exact (fun _ _ _ _ _ _ _ _ hr => (c_op od_ltX (pe_cmpR (op_uLtX (room_u64 hr)) (c_vw (pv 1)) (c_vw (pv 2)) (nomark _)))))))))), spM_in (N := N_is_rising) h⟩)
abbrev N_are_names : List Str := ["thing", "name"]
theorem sc_are_names : FnScope N_are_names ["thing"] (defScope s_are_names) := ⟨rfl, rfl, rfl, by decide +kernel, rfl, by decide +kernel, by decide +kernel⟩
theorem ok_are_names (T : Txt K mg) (Y : Ext K) (TB : LamX.TabB base mg (He.cT K ("are_names", none)).1 (He.cT K ("are_names", none)).2) (F_is_rising : OwnFn P w K mg base 3 "is_rising" ["row"] (spM K (tabs K) M_is_rising)) (F_is_name : OwnFn P w K mg base 3 "is_name" ["thing"] (spM K (tabs K) M_is_name)) : OwnFn P w K mg base 6 "are_names" ["thing"] (spM K (tabs K) M_are_names) := by
  have hmT : ((He.cT K ("are_names", none)).2, qOf "are_names") ∈ tabs K := tabL_g (by decide +kernel) (by decide +kernel)
  have hu : ∀ p ∈ tabs K, p.1 = (He.cT K ("are_names", none)).2 → p.2 = qOf "are_names" := tabL_gu Y.nd (by decide +kernel) (by decide +kernel)
  exact own_okC (k := 5) T.D_are_names sc_are_names (fun _ _ _ _ _ _ us hl => match us, hl with | [_], _ => rfl) (fun vs H Q E h => spM_len h) (fun cdv A outer s H vs Q E hcd hr h => ⟨_, PSs.nox (show PSs _ _ (tS K (tabs K) m_are_names) from (pss_one (PM.s_ret (ps_ret (c_andV (pe_and (c_is (pe_callB (call_isK K) (by rfl) T.f_isinstance (by decide +kernel) (pa_cons (c_vw (pv 0)) (pa_cons (pe_bltn (v := .ty "tuple") rfl T.f_tuple (by decide +kernel) rfl) pa_nil)))) (c_andV (pe_and (c_ag (by refine GX.pe_allG (k := 3) (T := tabs K) (own := [("name", 1)]) (hr.mono (by decide)) (by rfl) T.f_all TB hcd hmT hu (GX.gx_by (own := [("name", 1)]) (N := N_are_names) (sc := defScope s_are_names) (by decide +kernel)) sc_are_names.nd ?_ (fun _ => rfl) ?_ ?_ ?_; exact (c_iseqw (pi_seq (c_vw (pv 0)))); exact (fun _ _ _ _ _ _ _ _ => (c_gn (pg_name (i := 1) sc_are_names.nd rfl (by first | exact Or.inl rfl | exact Or.inr rfl)))); exact (fun _ _ _ _ _ _ _ _ hr => (q_nil pts_nil)); exact (fun _ _ _ _ _ _ _ _ hr => (c_call (pe_own F_is_name hr passL (a_cons (pa_cons (c_v (pv 1)) (a_nil pa_nil)))))))) (pe_one (c_call (pe_own F_is_rising hr passL (a_cons (pa_cons (c_v (pv 0)) (a_nil pa_nil)))))))))))))), spM_in (N := N_are_names) h⟩)
abbrev N_is_top : List Str := ["thing"]
theorem sc_is_top : FnScope N_is_top ["thing"] (defScope s_is_top) := ⟨rfl, rfl, rfl, by decide +kernel, rfl, by decide +kernel, by decide +kernel⟩
theorem ok_is_top (T : Txt K mg) (F_is_between : OwnFn P w K mg base 2 "is_between" ["thing", "least", "most"] (spM K (tabs K) M_is_between)) : OwnFn P w K mg base 3 "is_top" ["thing"] (spM K (tabs K) M_is_top) := by
  exact own_ok (k := 2) T.D_is_top sc_is_top (fun _ _ _ _ _ _ us hl => match us, hl with | [_], _ => rfl) (fun vs H Q E h => spM_len h) (fun cdv A outer s H vs Q E hr h => ⟨_, PSs.nox (show PSs _ _ (tS K (tabs K) m_is_top) from (pss_one (PM.s_ret (ps_ret (c_call (pe_own F_is_between hr passL (a_cons (pa_cons (c_v (pv 0)) (a_cons (pa_cons (c_c pe_int fun _ => .int _) (a_cons (pa_cons (c_c pe_int fun _ => .int _) (a_nil pa_nil))))))))))))), spM_in (N := N_is_top) h⟩)
abbrev N_is_place : List Str := ["top", "thing", "name", "a", "b", "c", "d"]
theorem sc_is_place : FnScope N_is_place ["top", "thing"] (defScope s_is_place) := ⟨rfl, rfl, rfl, by decide +kernel, rfl, by decide +kernel, by decide +kernel⟩
theorem ok_is_place (T : Txt K mg) (F_is_row : OwnFn P w K mg base 1 "is_row" ["thing", "many"] (spM K (tabs K) M_is_row)) (F_is_between : OwnFn P w K mg base 2 "is_between" ["thing", "least", "most"] (spM K (tabs K) M_is_between)) (F_is_name : OwnFn P w K mg base 3 "is_name" ["thing"] (spM K (tabs K) M_is_name)) : OwnFn P w K mg base 4 "is_place" ["top", "thing"] (spM K (tabs K) M_is_place) := by
  exact own_ok (k := 3) T.D_is_place sc_is_place (fun _ _ _ _ _ _ us hl => match us, hl with | [_, _], _ => rfl) (fun vs H Q E h => spM_len h) (fun cdv A outer s H vs Q E hr h => ⟨_, PSs.nox (show PSs _ _ (tS K (tabs K) m_is_place) from (PM.s_seq (pss_cons (PM.s_if (ps_if (c_not (pt_not (c_tv (pt_val (c_call (pe_own F_is_row hr passL (a_cons (pa_cons (c_v (pv 1)) (a_cons (pa_cons (c_c pe_int fun _ => .int _) (a_nil pa_nil))))))))))) (pss_one (PM.s_ret (ps_ret (c_c pe_bl fun _ => .bl _)))) (PM.s_nil pss_nil)))
  (PM.s_seq (pss_cons (PM.s_asg (ps_asg (c_v (pv 1)) (c_gt [2, 3, 4, 5, 6] (pg_tupK rfl (pgs_cons (pg_name (i := 2) sc_is_place.nd rfl (by first | exact Or.inl rfl | exact Or.inr rfl)) (pgs_cons (pg_name (i := 3) sc_is_place.nd rfl (by first | exact Or.inl rfl | exact Or.inr rfl)) (pgs_cons (pg_name (i := 4) sc_is_place.nd rfl (by first | exact Or.inl rfl | exact Or.inr rfl)) (pgs_cons (pg_name (i := 5) sc_is_place.nd rfl (by first | exact Or.inl rfl | exact Or.inr rfl)) (pgs_cons (pg_name (i := 6) sc_is_place.nd rfl (by first | exact Or.inl rfl | exact Or.inr rfl)) pgs_nil)))))))))
  (PM.s_seq (pss_cons (PM.s_if (ps_if (c_not (pt_not (PW.pt (c_and (pw_and (c_tv (pt_val (c_call (pe_own F_is_name hr passL (a_cons (pa_cons (c_v (pv 2)) (a_nil pa_nil))))))) (c_and (pw_and (c_tv (pt_val (c_call (pe_own F_is_between hr passL (a_cons (pa_cons (c_v (pv 3)) (a_cons (pa_cons (c_c pe_int fun _ => .int _) (a_cons (pa_cons (c_c pe_int fun _ => .int _) (a_nil pa_nil))))))))))) (c_and (pw_and (c_tv (pt_val (c_call (pe_own F_is_between hr passL (a_cons (pa_cons (c_v (pv 4)) (a_cons (pa_cons (c_c pe_int fun _ => .int _) (a_cons (pa_cons (c_c pe_int fun _ => .int _) (a_nil pa_nil))))))))))) (pw_and1 (c_tv (pt_val (c_call (pe_own F_is_between hr passL (a_cons (pa_cons (c_v (pv 6)) (a_cons (pa_cons (c_c pe_int fun _ => .int _) (a_cons (pa_cons (c_c pe_int fun _ => .int _) (a_nil pa_nil))))))))))))))))))))) (pss_one (PM.s_ret (ps_ret (c_c pe_bl fun _ => .bl _)))) (PM.s_nil pss_nil)))
  (pss_one (PM.s_ret (ps_ret (c_call (pe_own F_is_between hr passL (a_cons (pa_cons (c_v (pv 5)) (a_cons (pa_cons (c_op od_mul (pe_op op_uMul (c_vw (pv 6)) (c_vw (pv 0)))) (a_cons (pa_cons (c_c pe_int fun _ => .int _) (a_nil pa_nil))))))))))))))))))), spM_in (N := N_is_place) h⟩)
abbrev N_is_tie : List Str := ["names", "thing", "one", "other", "size"]
theorem sc_is_tie : FnScope N_is_tie ["names", "thing"] (defScope s_is_tie) := ⟨rfl, rfl, rfl, by decide +kernel, rfl, by decide +kernel, by decide +kernel⟩
theorem ok_is_tie (T : Txt K mg) (F_is_row : OwnFn P w K mg base 1 "is_row" ["thing", "many"] (spM K (tabs K) M_is_row)) (F_is_between : OwnFn P w K mg base 2 "is_between" ["thing", "least", "most"] (spM K (tabs K) M_is_between)) (F_is_name : OwnFn P w K mg base 3 "is_name" ["thing"] (spM K (tabs K) M_is_name)) : OwnFn P w K mg base 4 "is_tie" ["names", "thing"] (spM K (tabs K) M_is_tie) := by
  exact own_ok (k := 3) T.D_is_tie sc_is_tie (fun _ _ _ _ _ _ us hl => match us, hl with | [_, _], _ => rfl) (fun vs H Q E h => spM_len h) (fun cdv A outer s H vs Q E hr h => ⟨_, PSs.nox (show PSs _ _ (tS K (tabs K) m_is_tie) from (PM.s_seq (pss_cons (PM.s_if (ps_if (c_not (pt_not (c_tv (pt_val (c_call (pe_own F_is_row hr passL (a_cons (pa_cons (c_v (pv 1)) (a_cons (pa_cons (c_c pe_int fun _ => .int _) (a_nil pa_nil))))))))))) (pss_one (PM.s_ret (ps_ret (c_c pe_bl fun _ => .bl _)))) (PM.s_nil pss_nil)))
  (PM.s_seq (pss_cons (PM.s_asg (ps_asg (c_v (pv 1)) (c_gt [2, 3, 4] (pg_tupK rfl (pgs_cons (pg_name (i := 2) sc_is_tie.nd rfl (by first | exact Or.inl rfl | exact Or.inr rfl)) (pgs_cons (pg_name (i := 3) sc_is_tie.nd rfl (by first | exact Or.inl rfl | exact Or.inr rfl)) (pgs_cons (pg_name (i := 4) sc_is_tie.nd rfl (by first | exact Or.inl rfl | exact Or.inr rfl)) pgs_nil)))))))
  (PM.s_seq (pss_cons (PM.s_if (ps_if (c_not (pt_not (PW.pt (c_and (pw_and (c_tv (pt_val (c_call (pe_own F_is_name hr passL (a_cons (pa_cons (c_v (pv 2)) (a_nil pa_nil))))))) (c_and (pw_and (c_tv (pt_val (c_call (pe_own F_is_name hr passL (a_cons (pa_cons (c_v (pv 3)) (a_nil pa_nil))))))) (pw_and1 (c_tv (pt_val (c_call (pe_own F_is_between hr passL (a_cons (pa_cons (c_v (pv 4)) (a_cons (pa_cons (c_c pe_int fun _ => .int _) (a_cons (pa_cons (c_c pe_int fun _ => .int _) (a_nil pa_nil))))))))))))))))))) (pss_one (PM.s_ret (ps_ret (c_c pe_bl fun _ => .bl _)))) (PM.s_nil pss_nil)))
  (pss_one (PM.s_ret (ps_ret (c_andV (pe_and (c_op od_in (pe_cmpR (op_inK K) (c_vw (pv 2)) (c_vw (pv 0)) (by rfl))) (c_andV (pe_and (c_op od_in (pe_cmpR (op_inK K) (c_vw (pv 3)) (c_vw (pv 0)) (by rfl))) (pe_one (c_op od_ne (pe_cmpR (op_neK (room_u64 hr)) (c_vw (pv 2)) (c_vw (pv 3)) (nomark _)))))))))))))))))), spM_in (N := N_is_tie) h⟩)
abbrev N_are_places : List Str := ["top", "thing", "place"]
theorem sc_are_places : FnScope N_are_places ["top", "thing"] (defScope s_are_places) := ⟨rfl, rfl, rfl, by decide +kernel, rfl, by decide +kernel, by decide +kernel⟩
theorem ok_are_places (T : Txt K mg) (Y : Ext K) (TB : LamX.TabB base mg (He.cT K ("are_places", none)).1 (He.cT K ("are_places", none)).2) (F_is_rising : OwnFn P w K mg base 3 "is_rising" ["row"] (spM K (tabs K) M_is_rising)) (F_is_place : OwnFn P w K mg base 4 "is_place" ["top", "thing"] (spM K (tabs K) M_is_place)) : OwnFn P w K mg base 7 "are_places" ["top", "thing"] (spM K (tabs K) M_are_places) := by
  have hmT : ((He.cT K ("are_places", none)).2, qOf "are_places") ∈ tabs K := tabL_g (by decide +kernel) (by decide +kernel)
  have hu : ∀ p ∈ tabs K, p.1 = (He.cT K ("are_places", none)).2 → p.2 = qOf "are_places" := tabL_gu Y.nd (by decide +kernel) (by decide +kernel)
  exact own_okC (k := 6) T.D_are_places sc_are_places (fun _ _ _ _ _ _ us hl => match us, hl with | [_, _], _ => rfl) (fun vs H Q E h => spM_len h) (fun cdv A outer s H vs Q E hcd hr h => ⟨_, PSs.nox (show PSs _ _ (tS K (tabs K) m_are_places) from (PM.s_seq (pss_cons (PM.s_if (ps_if (c_not (pt_not (PW.pt (c_and (pw_and (c_tv (pt_val (c_is (pe_callB (call_isK K) (by rfl) T.f_isinstance (by decide +kernel) (pa_cons (c_vw (pv 1)) (pa_cons (pe_bltn (v := .ty "tuple") rfl T.f_tuple (by decide +kernel) rfl) pa_nil)))))) (pw_and1 (c_chT od_le od_le (pt_chain op_le op_le (c_w (c_c pe_int fun _ => .int _)) (c_w (c_cb cb_len (pe_callB (call_lenK K) (by rfl) T.f_len (by decide +kernel) (a_consw (pa_cons (c_vw (pv 1)) (a_nilw pa_nil)))))) (c_w (c_c pe_int fun _ => .int _)))))))))) (pss_one (PM.s_ret (ps_ret (c_c pe_bl fun _ => .bl _)))) (PM.s_nil pss_nil)))
  (pss_one (PM.s_ret (ps_ret (c_andV (pe_and (c_ag (by refine GX.pe_allG (k := 4) (T := tabs K) (own := [("place", 2)]) (hr.mono (by decide)) (by rfl) T.f_all TB hcd hmT hu (GX.gx_by (own := [("place", 2)]) (N := N_are_places) (sc := defScope s_are_places) (by decide +kernel)) sc_are_places.nd ?_ (fun _ => rfl) ?_ ?_ ?_; exact (c_iseqw (pi_seq (c_vw (pv 1)))); exact (fun _ _ _ _ _ _ _ _ => (c_gn (pg_name (i := 2) sc_are_places.nd rfl (by first | exact Or.inl rfl | exact Or.inr rfl)))); exact (fun _ _ _ _ _ _ _ _ hr => (q_nil pts_nil)); exact (fun _ _ _ _ _ _ _ _ hr => (c_call (pe_own F_is_place hr passL (a_cons (pa_cons (c_v (pv 0)) (a_cons (pa_cons (c_v (pv 2)) (a_nil pa_nil)))))))))) (pe_one (c_call (pe_own F_is_rising hr passL (a_cons (pa_cons (c_f (c_lc (pe_lc (own := [("place", 2)]) (by rfl) sc_are_places.nd (c_iseqw (pi_seq (c_vw (pv 1)))) (blkOk_by (own := [("place", 2)]) (N := N_are_places) (sc := defScope s_are_places) (by decide +kernel)) (fun _ _ _ _ _ => (c_gn (pg_name (i := 2) sc_are_places.nd rfl (by first | exact Or.inl rfl | exact Or.inr rfl)))) (fun _ _ _ _ _ => (q_nil pts_nil)) (fun _ _ _ _ _ => (c_op od_ix (pe_ix ix_u (c_vw (pv 2)) (c_w (c_c pe_int fun _ => .int _)) (fun _ _ => rfl)))))) mLc_is) (a_nil pa_nil)))))))))))))), spM_in (N := N_are_places) h⟩)
abbrev N_are_ties : List Str := ["names", "thing", "tie"]
theorem sc_are_ties : FnScope N_are_ties ["names", "thing"] (defScope s_are_ties) := ⟨rfl, rfl, rfl, by decide +kernel, rfl, by decide +kernel, by decide +kernel⟩
theorem ok_are_ties (T : Txt K mg) (Y : Ext K) (TB : LamX.TabB base mg (He.cT K ("are_ties", none)).1 (He.cT K ("are_ties", none)).2) (F_is_rising : OwnFn P w K mg base 3 "is_rising" ["row"] (spM K (tabs K) M_is_rising)) (F_is_tie : OwnFn P w K mg base 4 "is_tie" ["names", "thing"] (spM K (tabs K) M_is_tie)) : OwnFn P w K mg base 7 "are_ties" ["names", "thing"] (spM K (tabs K) M_are_ties) := by
  have hmT : ((He.cT K ("are_ties", none)).2, qOf "are_ties") ∈ tabs K := tabL_g (by decide +kernel) (by decide +kernel)
  have hu : ∀ p ∈ tabs K, p.1 = (He.cT K ("are_ties", none)).2 → p.2 = qOf "are_ties" := tabL_gu Y.nd (by decide +kernel) (by decide +kernel)
  exact own_okC (k := 6) T.D_are_ties sc_are_ties (fun _ _ _ _ _ _ us hl => match us, hl with | [_, _], _ => rfl) (fun vs H Q E h => spM_len h) (fun cdv A outer s H vs Q E hcd hr h => ⟨_, PSs.nox (show PSs _ _ (tS K (tabs K) m_are_ties) from (PM.s_seq (pss_cons (PM.s_if (ps_if (c_not (pt_not (PW.pt (c_and (pw_and (c_tv (pt_val (c_is (pe_callB (call_isK K) (by rfl) T.f_isinstance (by decide +kernel) (pa_cons (c_vw (pv 1)) (pa_cons (pe_bltn (v := .ty "tuple") rfl T.f_tuple (by decide +kernel) rfl) pa_nil)))))) (pw_and1 (c_opT od_le (pt_cmpR op_le (c_w (c_cb cb_len (pe_callB (call_lenK K) (by rfl) T.f_len (by decide +kernel) (a_consw (pa_cons (c_vw (pv 1)) (a_nilw pa_nil)))))) (c_w (c_c pe_int fun _ => .int _)) (nomark _))))))))) (pss_one (PM.s_ret (ps_ret (c_c pe_bl fun _ => .bl _)))) (PM.s_nil pss_nil)))
  (pss_one (PM.s_ret (ps_ret (c_andV (pe_and (c_ag (by refine GX.pe_allG (k := 4) (T := tabs K) (own := [("tie", 2)]) (hr.mono (by decide)) (by rfl) T.f_all TB hcd hmT hu (GX.gx_by (own := [("tie", 2)]) (N := N_are_ties) (sc := defScope s_are_ties) (by decide +kernel)) sc_are_ties.nd ?_ (fun _ => rfl) ?_ ?_ ?_; exact (c_iseqw (pi_seq (c_vw (pv 1)))); exact (fun _ _ _ _ _ _ _ _ => (c_gn (pg_name (i := 2) sc_are_ties.nd rfl (by first | exact Or.inl rfl | exact Or.inr rfl)))); exact (fun _ _ _ _ _ _ _ _ hr => (q_nil pts_nil)); exact (fun _ _ _ _ _ _ _ _ hr => (c_call (pe_own F_is_tie hr passL (a_cons (pa_cons (c_v (pv 0)) (a_cons (pa_cons (c_v (pv 2)) (a_nil pa_nil)))))))))) (pe_one (c_call (pe_own F_is_rising hr passL (a_cons (pa_cons (c_f (c_lc (pe_lc (own := [("tie", 2)]) (by rfl) sc_are_ties.nd (c_iseqw (pi_seq (c_vw (pv 1)))) (blkOk_by (own := [("tie", 2)]) (N := N_are_ties) (sc := defScope s_are_ties) (by decide +kernel)) (fun _ _ _ _ _ => (c_gn (pg_name (i := 2) sc_are_ties.nd rfl (by first | exact Or.inl rfl | exact Or.inr rfl)))) (fun _ _ _ _ _ => (q_nil pts_nil)) (fun _ _ _ _ _ => (c_sl (pe_slice sl_u (c_vw (pv 2)) (c_pno po_none) (c_pso (po_some (c_c pe_int fun _ => .int _)))))))) mLc_is) (a_nil pa_nil)))))))))))))), spM_in (N := N_are_ties) h⟩)
abbrev N_names_of : List Str := ["web", "place"]
theorem sc_names_of : FnScope N_names_of ["web"] (defScope s_names_of) := ⟨rfl, rfl, rfl, by decide +kernel, rfl, by decide +kernel, by decide +kernel⟩
theorem ok_names_of (T : Txt K mg) (Y : Ext K) (TB : LamX.TabB base mg (He.cT K ("names_of", none)).1 (He.cT K ("names_of", none)).2) : OwnFn P w K mg base 6 "names_of" ["web"] (spM K (tabs K) M_names_of) := by
  have hmT : ((He.cT K ("names_of", none)).2, qOf "names_of") ∈ tabs K := tabL_g (by decide +kernel) (by decide +kernel)
  have hu : ∀ p ∈ tabs K, p.1 = (He.cT K ("names_of", none)).2 → p.2 = qOf "names_of" := tabL_gu Y.nd (by decide +kernel) (by decide +kernel)
  exact own_okC (k := 5) T.D_names_of sc_names_of (fun _ _ _ _ _ _ us hl => match us, hl with | [_], _ => rfl) (fun vs H Q E h => spM_len h) (fun cdv A outer s H vs Q E hcd hr h => ⟨_, PSs.nox (show PSs _ _ (tS K (tabs K) m_names_of) from (pss_one (PM.s_ret (ps_ret (c_tg (by refine GX.pe_tupG (k := 1) ?_ (hr.mono (by decide)) (by rfl) T.f_tuple; refine GX.pgen_gx (k := 0) (T := tabs K) (own := [("place", 1)]) (hr.mono (by decide)) TB hcd hmT hu (GX.gx_by (own := [("place", 1)]) (N := N_names_of) (sc := defScope s_names_of) (by decide +kernel)) sc_names_of.nd ?_ (fun _ => rfl) ?_ ?_ ?_; exact (c_iseqw (pi_seq (c_w (c_op od_ix (pe_ix ix_u (c_vw (pv 0)) (c_w (c_c pe_int fun _ => .int _)) (fun _ _ => rfl)))))); exact (fun _ _ _ _ _ _ _ _ => (c_gn (pg_name (i := 1) sc_names_of.nd rfl (by first | exact Or.inl rfl | exact Or.inr rfl)))); exact (fun _ _ _ _ _ _ _ _ hr => (q_nil pts_nil)); exact (fun _ _ _ _ _ _ _ _ hr => (c_op od_ix (pe_ix ix_u (c_vw (pv 1)) (c_w (c_c pe_int fun _ => .int _)) (fun _ _ => rfl)))))))))), spM_in (N := N_names_of) h⟩)
abbrev N_is_web : List Str := ["thing", "top", "places", "ties"]
theorem sc_is_web : FnScope N_is_web ["thing"] (defScope s_is_web) := ⟨rfl, rfl, rfl, by decide +kernel, rfl, by decide +kernel, by decide +kernel⟩
theorem ok_is_web (T : Txt K mg) (F_is_row : OwnFn P w K mg base 1 "is_row" ["thing", "many"] (spM K (tabs K) M_is_row)) (F_names_of : OwnFn P w K mg base 6 "names_of" ["web"] (spM K (tabs K) M_names_of)) (F_are_ties : OwnFn P w K mg base 7 "are_ties" ["names", "thing"] (spM K (tabs K) M_are_ties)) (F_are_places : OwnFn P w K mg base 7 "are_places" ["top", "thing"] (spM K (tabs K) M_are_places)) (F_is_top : OwnFn P w K mg base 3 "is_top" ["thing"] (spM K (tabs K) M_is_top)) : OwnFn P w K mg base 8 "is_web" ["thing"] (spM K (tabs K) M_is_web) := by
  exact own_ok (k := 7) T.D_is_web sc_is_web (fun _ _ _ _ _ _ us hl => match us, hl with | [_], _ => rfl) (fun vs H Q E h => spM_len h) (fun cdv A outer s H vs Q E hr h => ⟨_, PSs.nox (show PSs _ _ (tS K (tabs K) m_is_web) from (PM.s_seq (pss_cons (PM.s_if (ps_if (c_not (pt_not (c_tv (pt_val (c_call (pe_own F_is_row hr passL (a_cons (pa_cons (c_v (pv 0)) (a_cons (pa_cons (c_c pe_int fun _ => .int _) (a_nil pa_nil))))))))))) (pss_one (PM.s_ret (ps_ret (c_c pe_bl fun _ => .bl _)))) (PM.s_nil pss_nil)))
  (PM.s_seq (pss_cons (PM.s_asg (ps_asg (c_v (pv 0)) (c_gt [1, 2, 3] (pg_tupK rfl (pgs_cons (pg_name (i := 1) sc_is_web.nd rfl (by first | exact Or.inl rfl | exact Or.inr rfl)) (pgs_cons (pg_name (i := 2) sc_is_web.nd rfl (by first | exact Or.inl rfl | exact Or.inr rfl)) (pgs_cons (pg_name (i := 3) sc_is_web.nd rfl (by first | exact Or.inl rfl | exact Or.inr rfl)) pgs_nil)))))))
  (pss_one (PM.s_ret (ps_ret (c_andV (pe_and (c_call (pe_own F_is_top hr passL (a_cons (pa_cons (c_v (pv 1)) (a_nil pa_nil))))) (c_andV (pe_and (c_call (pe_own F_are_places hr passL (a_cons (pa_cons (c_v (pv 1)) (a_cons (pa_cons (c_v (pv 2)) (a_nil pa_nil))))))) (pe_one (c_call (pe_own F_are_ties hr passL (a_cons (pa_cons (c_call (pe_own F_names_of hr passL (a_cons (pa_cons (c_v (pv 0)) (a_nil pa_nil))))) (a_cons (pa_cons (c_v (pv 3)) (a_nil pa_nil)))))))))))))))))))), spM_in (N := N_is_web) h⟩)
abbrev N_is_job : List Str := ["thing"]
theorem sc_is_job : FnScope N_is_job ["thing"] (defScope s_is_job) := ⟨rfl, rfl, rfl, by decide +kernel, rfl, by decide +kernel, by decide +kernel⟩
theorem ok_is_job (T : Txt K mg) (F_are_names : OwnFn P w K mg base 6 "are_names" ["thing"] (spM K (tabs K) M_are_names)) (F_is_name : OwnFn P w K mg base 3 "is_name" ["thing"] (spM K (tabs K) M_is_name)) (F_is_row : OwnFn P w K mg base 1 "is_row" ["thing", "many"] (spM K (tabs K) M_is_row)) : OwnFn P w K mg base 7 "is_job" ["thing"] (spM K (tabs K) M_is_job) := by
  exact own_ok (k := 6) T.D_is_job sc_is_job (fun _ _ _ _ _ _ us hl => match us, hl with | [_], _ => rfl) (fun vs H Q E h => spM_len h) (fun cdv A outer s H vs Q E hr h => ⟨_, PSs.nox (show PSs _ _ (tS K (tabs K) m_is_job) from (pss_one (PM.s_ret (ps_ret (c_andV (pe_and (c_call (pe_own F_is_row hr passL (a_cons (pa_cons (c_v (pv 0)) (a_cons (pa_cons (c_c pe_int fun _ => .int _) (a_nil pa_nil))))))) (c_andV (pe_and (c_call (pe_own F_is_name hr passL (a_cons (pa_cons (c_op od_ix (pe_ix ix_u (c_vw (pv 0)) (c_w (c_c pe_int fun _ => .int _)) (fun _ _ => rfl))) (a_nil pa_nil))))) (pe_one (c_call (pe_own F_are_names hr passL (a_cons (pa_cons (c_op od_ix (pe_ix ix_u (c_vw (pv 0)) (c_w (c_c pe_int fun _ => .int _)) (fun _ _ => rfl))) (a_nil pa_nil)))))))))))))), spM_in (N := N_is_job) h⟩)
abbrev N_is_tool : List Str := ["thing"]
theorem sc_is_tool : FnScope N_is_tool ["thing"] (defScope s_is_tool) := ⟨rfl, rfl, rfl, by decide +kernel, rfl, by decide +kernel, by decide +kernel⟩
theorem ok_is_tool (T : Txt K mg) (F_is_name : OwnFn P w K mg base 3 "is_name" ["thing"] (spM K (tabs K) M_is_name)) (F_is_row : OwnFn P w K mg base 1 "is_row" ["thing", "many"] (spM K (tabs K) M_is_row)) : OwnFn P w K mg base 4 "is_tool" ["thing"] (spM K (tabs K) M_is_tool) := by
  exact own_ok (k := 3) T.D_is_tool sc_is_tool (fun _ _ _ _ _ _ us hl => match us, hl with | [_], _ => rfl) (fun vs H Q E h => spM_len h) (fun cdv A outer s H vs Q E hr h => ⟨_, PSs.nox (show PSs _ _ (tS K (tabs K) m_is_tool) from (pss_one (PM.s_ret (ps_ret (c_andV (pe_and (c_call (pe_own F_is_row hr passL (a_cons (pa_cons (c_v (pv 0)) (a_cons (pa_cons (c_c pe_int fun _ => .int _) (a_nil pa_nil))))))) (pe_one (c_call (pe_own F_is_name hr passL (a_cons (pa_cons (c_op od_ix (pe_ix ix_u (c_vw (pv 0)) (c_w (c_c pe_int fun _ => .int _)) (fun _ _ => rfl))) (a_nil pa_nil)))))))))))), spM_in (N := N_is_tool) h⟩)
abbrev N_are_jobs_and_tools : List Str := ["jobs", "tools", "names", "tool", "job", "want"]
theorem sc_are_jobs_and_tools : FnScope N_are_jobs_and_tools ["jobs", "tools"] (defScope s_are_jobs_and_tools) := ⟨rfl, rfl, rfl, by decide +kernel, rfl, by decide +kernel, by decide +kernel⟩
theorem ok_are_jobs_and_tools (T : Txt K mg) (Y : Ext K) (TB : LamX.TabB base mg (He.cT K ("are_jobs_and_tools", none)).1 (He.cT K ("are_jobs_and_tools", none)).2) (F_is_tool : OwnFn P w K mg base 4 "is_tool" ["thing"] (spM K (tabs K) M_is_tool)) (F_is_job : OwnFn P w K mg base 7 "is_job" ["thing"] (spM K (tabs K) M_is_job)) (F_is_rising : OwnFn P w K mg base 3 "is_rising" ["row"] (spM K (tabs K) M_is_rising)) : OwnFn P w K mg base 10 "are_jobs_and_tools" ["jobs", "tools"] (spM K (tabs K) M_are_jobs_and_tools) := by
  have hmT : ((He.cT K ("are_jobs_and_tools", none)).2, qOf "are_jobs_and_tools") ∈ tabs K := tabL_g (by decide +kernel) (by decide +kernel)
  have hu : ∀ p ∈ tabs K, p.1 = (He.cT K ("are_jobs_and_tools", none)).2 → p.2 = qOf "are_jobs_and_tools" := tabL_gu Y.nd (by decide +kernel) (by decide +kernel)
  exact own_okC (k := 9) T.D_are_jobs_and_tools sc_are_jobs_and_tools (fun _ _ _ _ _ _ us hl => match us, hl with | [_, _], _ => rfl) (fun vs H Q E h => spM_len h) (fun cdv A outer s H vs Q E hcd hr h => ⟨_, PSs.nox (show PSs _ _ (tS K (tabs K) m_are_jobs_and_tools) from (PM.s_seq (pss_cons (PM.s_if (ps_if (c_not (pt_not (PW.pt (c_and (pw_and (c_tv (pt_val (c_ag (by refine GX.pe_allG (k := 7) (T := tabs K) (own := [("job", 4)]) (hr.mono (by decide)) (by rfl) T.f_all TB hcd hmT hu (GX.gx_by (own := [("job", 4)]) (N := N_are_jobs_and_tools) (sc := defScope s_are_jobs_and_tools) (by decide +kernel)) sc_are_jobs_and_tools.nd ?_ (fun _ => rfl) ?_ ?_ ?_; exact (c_iseqw (pi_seq (c_vw (pv 0)))); exact (fun _ _ _ _ _ _ _ _ => (c_gn (pg_name (i := 4) sc_are_jobs_and_tools.nd rfl (by first | exact Or.inl rfl | exact Or.inr rfl)))); exact (fun _ _ _ _ _ _ _ _ hr => (q_nil pts_nil)); exact (fun _ _ _ _ _ _ _ _ hr => (c_call (pe_own F_is_job hr passL (a_cons (pa_cons (c_v (pv 4)) (a_nil pa_nil)))))))))) (pw_and1 (c_tv (pt_val (c_ag (by refine GX.pe_allG (k := 4) (T := tabs K) (own := [("tool", 3)]) (hr.mono (by decide)) (by rfl) T.f_all TB hcd hmT hu (GX.gx_by (own := [("tool", 3)]) (N := N_are_jobs_and_tools) (sc := defScope s_are_jobs_and_tools) (by decide +kernel)) sc_are_jobs_and_tools.nd ?_ (fun _ => rfl) ?_ ?_ ?_; exact (c_iseqw (pi_seq (c_vw (pv 1)))); exact (fun _ _ _ _ _ _ _ _ => (c_gn (pg_name (i := 3) sc_are_jobs_and_tools.nd rfl (by first | exact Or.inl rfl | exact Or.inr rfl)))); exact (fun _ _ _ _ _ _ _ _ hr => (q_nil pts_nil)); exact (fun _ _ _ _ _ _ _ _ hr => (c_call (pe_own F_is_tool hr passL (a_cons (pa_cons (c_v (pv 3)) (a_nil pa_nil)))))))))))))))) (pss_one (PM.s_ret (ps_ret (c_c pe_bl fun _ => .bl _)))) (PM.s_nil pss_nil)))
  (PM.s_seq (pss_cons (PM.s_set (ps_set (i := 2) sc_are_jobs_and_tools.nd rfl (by first | exact Or.inl rfl | exact Or.inr rfl) (c_f (c_lc (pe_lc (own := [("tool", 3)]) (by rfl) sc_are_jobs_and_tools.nd (c_iseqw (pi_seq (c_vw (pv 1)))) (blkOk_by (own := [("tool", 3)]) (N := N_are_jobs_and_tools) (sc := defScope s_are_jobs_and_tools) (by decide +kernel)) (fun _ _ _ _ _ => (c_gn (pg_name (i := 3) sc_are_jobs_and_tools.nd rfl (by first | exact Or.inl rfl | exact Or.inr rfl)))) (fun _ _ _ _ _ => (q_nil pts_nil)) (fun _ _ _ _ _ => (c_op od_ix (pe_ix ix_u (c_vw (pv 3)) (c_w (c_c pe_int fun _ => .int _)) (fun _ _ => rfl)))))) mLc_is)))
  (PM.s_seq (pss_cons (PM.s_if (ps_if (c_not (pt_not (PW.pt (c_and (pw_and (c_tv (pt_val (c_call (pe_own F_is_rising hr passL (a_cons (pa_cons (c_f (c_lc (pe_lc (own := [("job", 4)]) (by rfl) sc_are_jobs_and_tools.nd (c_iseqw (pi_seq (c_vw (pv 0)))) (blkOk_by (own := [("job", 4)]) (N := N_are_jobs_and_tools) (sc := defScope s_are_jobs_and_tools) (by decide +kernel)) (fun _ _ _ _ _ => (c_gn (pg_name (i := 4) sc_are_jobs_and_tools.nd rfl (by first | exact Or.inl rfl | exact Or.inr rfl)))) (fun _ _ _ _ _ => (q_nil pts_nil)) (fun _ _ _ _ _ => (c_op od_ix (pe_ix ix_u (c_vw (pv 4)) (c_w (c_c pe_int fun _ => .int _)) (fun _ _ => rfl)))))) mLc_is) (a_nil pa_nil))))))) (pw_and1 (c_tv (pt_val (c_call (pe_own F_is_rising hr passL (a_cons (pa_cons (c_v (pv 2)) (a_nil pa_nil))))))))))))) (pss_one (PM.s_ret (ps_ret (c_c pe_bl fun _ => .bl _)))) (PM.s_nil pss_nil)))
  (pss_one (PM.s_ret (ps_ret (c_ag2 (vs0 := [4]) (by refine GX.pe_allG2 (k := 0) (T := tabs K) (own := [("job", 4), ("want", 5)]) (hr.mono (by decide)) (by rfl) T.f_all TB hcd hmT hu (GX.gx_by (own := [("job", 4), ("want", 5)]) (N := N_are_jobs_and_tools) (sc := defScope s_are_jobs_and_tools) (by decide +kernel)) sc_are_jobs_and_tools.nd ?_ (fun _ => rfl) ?_ ?_ (by decide) (fun _ _ => rfl) ?_ ?_ ?_ ?_; exact (c_iseqw (pi_seq (c_vw (pv 0)))); exact (fun _ _ _ _ _ _ _ _ => (c_gn (pg_name (i := 4) sc_are_jobs_and_tools.nd rfl (by first | exact Or.inl rfl | exact Or.inr rfl)))); exact (fun _ _ _ _ _ _ _ _ hr => (q_nil pts_nil)); exact (fun _ _ _ _ _ _ _ _ hr => (c_iseqw (pi_seq (c_w (c_op od_ix (pe_ix ix_u (c_vw (pv 4)) (c_w (c_c pe_int fun _ => .int _)) (fun _ _ => rfl))))))); exact (fun _ _ _ _ _ _ _ _ => (c_gn (pg_name (i := 5) sc_are_jobs_and_tools.nd rfl (by first | exact Or.inl rfl | exact Or.inr rfl)))); exact (fun _ _ _ _ _ _ _ _ hr => (q_nil pts_nil)); exact (fun _ _ _ _ _ _ _ _ hr => (c_op od_in (pe_cmpR (op_inK K) (c_vw (pv 5)) (c_vw (pv 2)) (by rfl)))))))))))))))), spM_in (N := N_are_jobs_and_tools) h⟩)
abbrev N_house_web : List Str := ["house", "places", "ties", "top", "jobs", "tools", "want", "name", "gain", "grows", "wants", "cost", "falls"]
theorem sc_house_web : FnScope N_house_web ["house"] (defScope s_house_web) := ⟨rfl, rfl, rfl, by decide +kernel, rfl, by decide +kernel, by decide +kernel⟩
theorem ok_house_web (T : Txt K mg) (Y : Ext K) (TB : LamX.TabB base mg (He.cT K ("house_web", none)).1 (He.cT K ("house_web", none)).2) : OwnFn P w K mg base 2 "house_web" ["house"] (spM K (tabs K) M_house_web) := by
  have hmT : ((He.cT K ("house_web", none)).2, ("house_web" : Str) ++ ".<locals>." ++ "<lambda>") ∈ tabs K := tabL_l (by decide +kernel) (by decide +kernel)
  have hu : ∀ p ∈ tabs K, p.1 = (He.cT K ("house_web", none)).2 → p.2 = ("house_web" : Str) ++ ".<locals>." ++ "<lambda>" := tabL_lu Y.nd (by decide +kernel) (by decide +kernel)
  exact own_okC (k := 1) T.D_house_web sc_house_web (fun _ _ _ _ _ _ us hl => match us, hl with | [_], _ => rfl) (fun vs H Q E h => spM_len h) (fun cdv A outer s H vs Q E hcd hr h => ⟨_, PSs.nox (show PSs _ _ (tS K (tabs K) m_house_web) from (PM.s_seq (pss_cons (PM.s_asg (ps_asg (c_v (pv 0)) (c_gt [3, 4, 5] (pg_tupK rfl (pgs_cons (pg_name (i := 3) sc_house_web.nd rfl (by first | exact Or.inl rfl | exact Or.inr rfl)) (pgs_cons (pg_name (i := 4) sc_house_web.nd rfl (by first | exact Or.inl rfl | exact Or.inr rfl)) (pgs_cons (pg_name (i := 5) sc_house_web.nd rfl (by first | exact Or.inl rfl | exact Or.inr rfl)) pgs_nil)))))))
  (PM.s_seq (pss_cons (PM.s_setO (PM.s_lc (ps_setLc (i := 1) (own := [("name", 7), ("gain", 8), ("grows", 9), ("wants", 10)]) (by rfl) sc_house_web.nd rfl rfl (sw_true rfl rfl rfl (by decide +kernel)) (c_iseqw (pi_seq (c_vw (pv 4)))) (blkOk_by (own := [("name", 7), ("gain", 8), ("grows", 9), ("wants", 10)]) (N := N_house_web) (sc := defScope s_house_web) (by decide +kernel)) (fun _ _ _ _ _ => (c_gt [7, 8, 9, 10] (pg_tupK rfl (pgs_cons (pg_name (i := 7) sc_house_web.nd rfl (by first | exact Or.inl rfl | exact Or.inr rfl)) (pgs_cons (pg_name (i := 8) sc_house_web.nd rfl (by first | exact Or.inl rfl | exact Or.inr rfl)) (pgs_cons (pg_name (i := 9) sc_house_web.nd rfl (by first | exact Or.inl rfl | exact Or.inr rfl)) (pgs_cons (pg_name (i := 10) sc_house_web.nd rfl (by first | exact Or.inl rfl | exact Or.inr rfl)) pgs_nil))))))) (fun _ _ _ _ _ => (q_nil pts_nil)) (fun _ _ _ _ _ => (c_tup (pe_tup (a_cons (pa_cons (c_v (pv 7)) (a_cons (pa_cons (c_v (pv 8)) (a_cons (pa_cons (c_v (pv 9)) (a_cons (pa_cons (c_c pe_int fun _ => .int _) (a_cons (pa_cons (c_c pe_int fun _ => .int _) (a_nil pa_nil)))))))))))))))))
  (PM.s_seq (pss_cons (PM.s_augL (ps_aug (i := 1) sc_house_web.nd rfl (by first | exact Or.inl rfl | exact Or.inr rfl) (c_lc (pe_lc (own := [("name", 7), ("cost", 11), ("falls", 12)]) (by rfl) sc_house_web.nd (c_iseqw (pi_seq (c_vw (pv 5)))) (blkOk_by (own := [("name", 7), ("cost", 11), ("falls", 12)]) (N := N_house_web) (sc := defScope s_house_web) (by decide +kernel)) (fun _ _ _ _ _ => (c_gt [7, 11, 12] (pg_tupK rfl (pgs_cons (pg_name (i := 7) sc_house_web.nd rfl (by first | exact Or.inl rfl | exact Or.inr rfl)) (pgs_cons (pg_name (i := 11) sc_house_web.nd rfl (by first | exact Or.inl rfl | exact Or.inr rfl)) (pgs_cons (pg_name (i := 12) sc_house_web.nd rfl (by first | exact Or.inl rfl | exact Or.inr rfl)) pgs_nil)))))) (fun _ _ _ _ _ => (q_nil pts_nil)) (fun _ _ _ _ _ => (c_tup (pe_tup (a_cons (pa_cons (c_v (pv 7)) (a_cons (pa_cons (c_c pe_int fun _ => .int _) (a_cons (pa_cons (c_c pe_int fun _ => .int _) (a_cons (pa_cons (c_v (pv 11)) (a_cons (pa_cons (c_v (pv 12)) (a_nil pa_nil)))))))))))))))) iop_ext))
  (PM.s_seq (pss_cons (PM.s_set (PM.s_fd (PM.s_lc2 (vs0 := [7, 8, 9, 10]) (ps_setLc2 (i := 2) (own := [("name", 7), ("gain", 8), ("grows", 9), ("wants", 10), ("want", 6)]) (by rfl) sc_house_web.nd rfl rfl (sw_true rfl rfl rfl (by decide +kernel)) (c_iseqw (pi_seq (c_vw (pv 4)))) (blkOk_by (own := [("name", 7), ("gain", 8), ("grows", 9), ("wants", 10), ("want", 6)]) (N := N_house_web) (sc := defScope s_house_web) (by decide +kernel)) (by decide) (fun _ _ _ _ _ => (c_gt [7, 8, 9, 10] (pg_tupK rfl (pgs_cons (pg_name (i := 7) sc_house_web.nd rfl (by first | exact Or.inl rfl | exact Or.inr rfl)) (pgs_cons (pg_name (i := 8) sc_house_web.nd rfl (by first | exact Or.inl rfl | exact Or.inr rfl)) (pgs_cons (pg_name (i := 9) sc_house_web.nd rfl (by first | exact Or.inl rfl | exact Or.inr rfl)) (pgs_cons (pg_name (i := 10) sc_house_web.nd rfl (by first | exact Or.inl rfl | exact Or.inr rfl)) pgs_nil))))))) (fun _ _ _ _ _ => (q_nil pts_nil)) (fun _ _ _ _ _ => (c_iseq (pi_seq (c_v (pv 10))))) (fun _ _ _ _ _ => (c_gn (pg_name (i := 6) sc_house_web.nd rfl (by first | exact Or.inl rfl | exact Or.inr rfl)))) (fun _ _ _ _ _ => (q_nil pts_nil)) (fun _ _ _ _ _ => (c_tup (pe_tup (a_cons (pa_cons (c_v (pv 7)) (a_cons (pa_cons (c_v (pv 6)) (a_cons (pa_cons (c_c pe_int fun _ => .int _) (a_nil pa_nil)))))))))))) mLc2_is))
  (pss_one (PM.s_ret (ps_ret (c_tup (pe_tup (a_cons (pa_cons (c_v (pv 3)) (a_cons (pa_cons (c_cb cb_tuple (pe_callTy (call_tupK K) (by rfl) T.f_tuple (by decide +kernel) (a_consw (pa_cons (c_fw (c_sortFst (pe_sortFst (T := tabs K) (k := 0) (by rfl) T.f_sorted (hr.mono (by decide)) (room_u64 hr) TB hcd hmT hu (lamF_by (by decide +kernel)) rfl (fun _ _ _ _ _ _ _ => rfl) (a_consw (pa_cons (c_vw (pv 1)) (a_nilw pa_nil)))))) (a_nilw pa_nil))))) (a_cons (pa_cons (c_cb cb_tuple (pe_callTy (call_tupK K) (by rfl) T.f_tuple (by decide +kernel) (a_consw (pa_cons (c_fw (c_cbF cb_sorted (pe_callB (cr_sortM (room_u64 hr)) (by rfl) T.f_sorted (by decide +kernel) (a_consw (pa_cons (c_vw (pv 2)) (a_nilw pa_nil)))))) (a_nilw pa_nil))))) (a_nil pa_nil))))))))))))))))))))), spM_in (N := N_house_web) h⟩)
abbrev N_has_house_form : List Str := ["thing"]
theorem sc_has_house_form : FnScope N_has_house_form ["thing"] (defScope s_has_house_form) := ⟨rfl, rfl, rfl, by decide +kernel, rfl, by decide +kernel, by decide +kernel⟩
theorem ok_has_house_form (T : Txt K mg) (F_is_row : OwnFn P w K mg base 1 "is_row" ["thing", "many"] (spM K (tabs K) M_is_row)) (F_house_web : OwnFn P w K mg base 2 "house_web" ["house"] (spM K (tabs K) M_house_web)) (F_is_web : OwnFn P w K mg base 8 "is_web" ["thing"] (spM K (tabs K) M_is_web)) (F_are_jobs_and_tools : OwnFn P w K mg base 10 "are_jobs_and_tools" ["jobs", "tools"] (spM K (tabs K) M_are_jobs_and_tools)) : OwnFn P w K mg base 11 "has_house_form" ["thing"] (spM K (tabs K) M_has_house_form) := by
  exact own_ok (k := 10) T.D_has_house_form sc_has_house_form (fun _ _ _ _ _ _ us hl => match us, hl with | [_], _ => rfl) (fun vs H Q E h => spM_len h) (fun cdv A outer s H vs Q E hr h => ⟨_, PSs.nox (show PSs _ _ (tS K (tabs K) m_has_house_form) from (PM.s_seq (pss_cons (PM.s_if (ps_if (c_not (pt_not (PW.pt (c_and (pw_and (c_tv (pt_val (c_call (pe_own F_is_row hr passL (a_cons (pa_cons (c_v (pv 0)) (a_cons (pa_cons (c_c pe_int fun _ => .int _) (a_nil pa_nil))))))))) (c_and (pw_and (c_tv (pt_val (c_is (pe_callB (call_isK K) (by rfl) T.f_isinstance (by decide +kernel) (pa_cons (c_w (c_op od_ix (pe_ix ix_u (c_vw (pv 0)) (c_w (c_c pe_int fun _ => .int _)) (fun _ _ => rfl)))) (pa_cons (pe_bltn (v := .ty "tuple") rfl T.f_tuple (by decide +kernel) rfl) pa_nil)))))) (pw_and1 (c_tv (pt_val (c_is (pe_callB (call_isK K) (by rfl) T.f_isinstance (by decide +kernel) (pa_cons (c_w (c_op od_ix (pe_ix ix_u (c_vw (pv 0)) (c_w (c_c pe_int fun _ => .int _)) (fun _ _ => rfl)))) (pa_cons (pe_bltn (v := .ty "tuple") rfl T.f_tuple (by decide +kernel) rfl) pa_nil)))))))))))))) (pss_one (PM.s_ret (ps_ret (c_c pe_bl fun _ => .bl _)))) (PM.s_nil pss_nil)))
  (pss_one (PM.s_ret (ps_ret (c_andV (pe_and (c_call (pe_own F_are_jobs_and_tools hr passL (a_cons (pa_cons (c_op od_ix (pe_ix ix_u (c_vw (pv 0)) (c_w (c_c pe_int fun _ => .int _)) (fun _ _ => rfl))) (a_cons (pa_cons (c_op od_ix (pe_ix ix_u (c_vw (pv 0)) (c_w (c_c pe_int fun _ => .int _)) (fun _ _ => rfl))) (a_nil pa_nil))))))) (pe_one (c_call (pe_own F_is_web hr passL (a_cons (pa_cons (c_call (pe_own F_house_web hr passL (a_cons (pa_cons (c_v (pv 0)) (a_nil pa_nil))))) (a_nil pa_nil)))))))))))))), spM_in (N := N_has_house_form) h⟩)
abbrev N_is_house : List Str := ["thing"]
theorem sc_is_house : FnScope N_is_house ["thing"] (defScope s_is_house) := ⟨rfl, rfl, rfl, by decide +kernel, rfl, by decide +kernel, by decide +kernel⟩
theorem ok_is_house (T : Txt K mg) (F_has_house_form : OwnFn P w K mg base 11 "has_house_form" ["thing"] (spM K (tabs K) M_has_house_form)) : OwnFn P w K mg base 12 "is_house" ["thing"] (spM K (tabs K) M_is_house) := by
  exact own_ok (k := 11) T.D_is_house sc_is_house (fun _ _ _ _ _ _ us hl => match us, hl with | [_], _ => rfl) (fun vs H Q E h => spM_len h) (fun cdv A outer s H vs Q E hr h => ⟨_, PSs.nox (show PSs _ _ (tS K (tabs K) m_is_house) from (pss_one (PM.s_ret (ps_ret (c_call (pe_own F_has_house_form hr passL (a_cons (pa_cons (c_v (pv 0)) (a_nil pa_nil))))))))), spM_in (N := N_is_house) h⟩)
abbrev N_L_cell : List Str := ["_law_script", "_law_k", "_law_state", "_law_cell_here"]
theorem sc_L_cell : FnScope N_L_cell ["_law_script", "_law_k"] (defScope s_L_cell) := ⟨rfl, rfl, rfl, by decide +kernel, rfl, by decide +kernel, by decide +kernel⟩
theorem ok_L_cell (T : Txt K mg) : OwnFn P w K mg base 1 "_law_cell" ["_law_script", "_law_k"] (spM K (tabs K) M_L_cell) := by
  exact own_ok (k := 0) T.D_L_cell sc_L_cell (fun _ _ _ _ _ _ us hl => match us, hl with | [_, _], _ => rfl) (fun vs H Q E h => spM_len h) (fun cdv A outer s H vs Q E hr h => ⟨_, PSs.nox (show PSs _ _ (tS K (tabs K) m_L_cell) from (PM.s_seq (pss_cons (PM.s_if (ps_if (c_opT od_lt (pt_cmpR op_uLt (c_vw (pv 1)) (c_w (c_cb cb_len (pe_callB (call_lenK K) (by rfl) T.f_len (by decide +kernel) (a_consw (pa_cons (c_vw (pv 0)) (a_nilw pa_nil)))))) (nomark _))) (pss_one (PM.s_ret (ps_ret (c_op od_ix (pe_ix ix_u (c_vw (pv 0)) (c_vw (pv 1)) (fun _ _ => rfl)))))) (PM.s_nil pss_nil)))
  (PM.s_seq (pss_cons (PM.s_set (ps_set (i := 2) sc_L_cell.nd rfl (by first | exact Or.inl rfl | exact Or.inr rfl) (c_op od_mod (pe_op op_modN (c_w (c_op od_mul (pe_op op_uMul (c_w (c_c pe_int fun _ => .int _)) (c_w (c_op od_add (pe_op op_uAdd (c_w (c_op od_add (pe_op op_uAdd (c_w (c_op od_mul (pe_op op_uMul (c_vw (pv 1)) (c_vw (pv 1))))) (c_w (c_op od_mul (pe_op op_uMul (c_w (c_c pe_int fun _ => .int _)) (c_vw (pv 1)))))))) (c_w (c_c pe_int fun _ => .int _)))))))) (c_w (c_c pe_int fun _ => .int _))))))
  (PM.s_seq (pss_cons (PM.s_for (ps_for PassesOwn.never rfl (c_iseq (pi_seq (c_sl (pe_slice sl_u (c_vw (pv 0)) (c_pno po_none) (c_pso (po_some (c_c pe_int fun _ => .int _))))))) (c_gn (pg_name (i := 3) sc_L_cell.nd rfl (by first | exact Or.inl rfl | exact Or.inr rfl)))
   (pss_one (PM.s_set (ps_set (i := 2) sc_L_cell.nd rfl (by first | exact Or.inl rfl | exact Or.inr rfl) (c_op od_mod (pe_op op_modN (c_w (c_op od_add (pe_op op_uAdd (c_w (c_op od_mul (pe_op op_uMul (c_vw (pv 2)) (c_w (c_c pe_int fun _ => .int _))))) (c_vw (pv 3))))) (c_w (c_c pe_int fun _ => .int _)))))))))
  (pss_one (PM.s_ret (ps_ret (c_v (pv 2)))))))))))), spM_in (N := N_L_cell) h⟩)
abbrev N_L_numbers : List Str := ["_law_cell_here", "_law_many", "_law_found", "_law_state", "_law_digits", "_law_k"]
theorem sc_L_numbers : FnScope N_L_numbers ["_law_cell_here", "_law_many"] (defScope s_L_numbers) := ⟨rfl, rfl, rfl, by decide +kernel, rfl, by decide +kernel, by decide +kernel⟩
theorem ok_L_numbers (T : Txt K mg) : OwnFn P w K mg base 1 "_law_numbers" ["_law_cell_here", "_law_many"] (spM K (tabs K) M_L_numbers) := by
  exact own_ok (k := 0) T.D_L_numbers sc_L_numbers (fun _ _ _ _ _ _ us hl => match us, hl with | [_, _], _ => rfl) (fun vs H Q E h => spM_len h) (fun cdv A outer s H vs Q E hr h => ⟨_, PSs.nox (show PSs _ _ (tS K (tabs K) m_L_numbers) from (PM.s_seq (pss_cons (PM.s_setO (ps_set (i := 2) sc_L_numbers.nd rfl (by first | exact Or.inl rfl | exact Or.inr rfl) (c_lst (pe_lst (a_nil pa_nil)))))
  (PM.s_seq (pss_cons (PM.s_set (ps_set (i := 3) sc_L_numbers.nd rfl (by first | exact Or.inl rfl | exact Or.inr rfl) (c_op od_mod (pe_op op_modN (c_w (c_op od_mul (pe_op op_uMul (c_w (c_op od_add (pe_op op_uAdd (c_w (c_op od_mod (pe_op op_modN (c_vw (pv 0)) (c_w (c_c pe_int fun _ => .int _))))) (c_w (c_c pe_int fun _ => .int _))))) (c_w (c_c pe_int fun _ => .int _))))) (c_w (c_c pe_int fun _ => .int _))))))
  (PM.s_seq (pss_cons (PM.s_set (ps_set (i := 4) sc_L_numbers.nd rfl (by first | exact Or.inl rfl | exact Or.inr rfl) (c_c pe_int fun _ => .int _)))
  (PM.s_seq (pss_cons (PM.s_if (ps_if (PW.pt (c_or (pw_or (c_opT od_lt (pt_cmpR op_uLt (c_vw (pv 0)) (c_w (c_c pe_int fun _ => .int _)) (nomark _))) (pw_or1 (c_opT od_ge (pt_cmpR op_ge (c_vw (pv 0)) (c_w (c_op od_pow (pe_op op_pow (c_w (c_c pe_int fun _ => .int _)) (c_w (c_c pe_int fun _ => .int _))))) (nomark _))))))) (pss_one (PM.s_set (ps_set (i := 4) sc_L_numbers.nd rfl (by first | exact Or.inl rfl | exact Or.inr rfl) (c_cb cb_abs (pe_callB call_abs (by rfl) T.f_abs (by decide +kernel) (a_consw (pa_cons (c_vw (pv 0)) (a_nilw pa_nil)))))))) (PM.s_nil pss_nil)))
  (PM.s_seq (pss_cons (PM.s_for (ps_for PassesOwn.never rfl (c_irng (pi_range1 (by rfl) T.f_range (a_cons (pa_cons (c_v (pv 1)) (a_nil pa_nil))))) (c_gn (pg_name (i := 5) sc_L_numbers.nd rfl (by first | exact Or.inl rfl | exact Or.inr rfl)))
   (PM.s_seq (pss_cons (PM.s_set (ps_set (i := 3) sc_L_numbers.nd rfl (by first | exact Or.inl rfl | exact Or.inr rfl) (c_op od_mod (pe_op op_modN (c_w (c_op od_add (pe_op op_uAdd (c_w (c_op od_add (pe_op op_uAdd (c_w (c_op od_mul (pe_op op_uMul (c_vw (pv 3)) (c_w (c_op od_add (pe_op op_uAdd (c_w (c_op od_mod (pe_op op_modN (c_vw (pv 3)) (c_w (c_c pe_int fun _ => .int _))))) (c_w (c_c pe_int fun _ => .int _)))))))) (c_w (c_op od_mul (pe_op op_uMul (c_w (c_c pe_int fun _ => .int _)) (c_vw (pv 5)))))))) (c_w (c_c pe_int fun _ => .int _))))) (c_w (c_c pe_int fun _ => .int _))))))
  (PM.s_seq (pss_cons (PM.s_app (ps_expr (pe_bm PySem.F.plainAttrs_list PySem.F.slot_list_append PySem.F.type_list_append mt_append (pv 2) (pa_cons (c_op od_ix (pe_ix ix_u (c_fw (c_lst (pe_lst (a_cons (pa_cons (c_v (pv 3)) (a_cons (pa_cons (c_op od_mod (pe_op op_modN (c_vw (pv 4)) (c_w (c_c pe_int fun _ => .int _)))) (a_nil pa_nil)))))))) (c_w (c_cb cb_int (pe_callTy call_int1 (by rfl) T.f_int (by decide +kernel) (a_consw (pa_cons (c_w (c_op od_gt (pe_cmpR op_gt (c_vw (pv 4)) (c_w (c_c pe_int fun _ => .int _)) (nomark _)))) (a_nilw pa_nil)))))) (fun _ _ => rfl))) pa_nil))))
  (pss_one (PM.s_set (ps_set (i := 4) sc_L_numbers.nd rfl (by first | exact Or.inl rfl | exact Or.inr rfl) (c_op od_fdv (pe_op op_fdivG (c_vw (pv 4)) (c_w (c_c pe_int fun _ => .int _)))))))))))))
  (pss_one (PM.s_retO (ps_ret (pv 2))))))))))))))), spM_in (N := N_L_numbers) h⟩)
abbrev N_L_names : List Str := ["_law_xs", "_law_many", "_law_letters", "_law_found", "_law_k", "_law_name_here", "_law_middle"]
theorem sc_L_names : FnScope N_L_names ["_law_xs", "_law_many"] (defScope s_L_names) := ⟨rfl, rfl, rfl, by decide +kernel, rfl, by decide +kernel, by decide +kernel⟩
theorem ok_L_names (T : Txt K mg) : OwnFn P w K mg base 1 "_law_names" ["_law_xs", "_law_many"] (spM K (tabs K) M_L_names) := by
  exact own_ok (k := 0) T.D_L_names sc_L_names (fun _ _ _ _ _ _ us hl => match us, hl with | [_, _], _ => rfl) (fun vs H Q E h => spM_len h) (fun cdv A outer s H vs Q E hr h => ⟨_, PSs.nox (show PSs _ _ (tS K (tabs K) m_L_names) from (PM.s_seq (pss_cons (PM.s_set (ps_set (i := 2) sc_L_names.nd rfl (by first | exact Or.inl rfl | exact Or.inr rfl) (c_c pe_str fun _ => .str _)))
  (PM.s_seq (pss_cons (PM.s_setO (ps_set (i := 3) sc_L_names.nd rfl (by first | exact Or.inl rfl | exact Or.inr rfl) (c_lst (pe_lst (a_nil pa_nil)))))
  (PM.s_seq (pss_cons (PM.s_for (ps_for PassesOwn.never rfl (c_irng (pi_range1 (by rfl) T.f_range (a_cons (pa_cons (c_v (pv 1)) (a_nil pa_nil))))) (c_gn (pg_name (i := 4) sc_L_names.nd rfl (by first | exact Or.inl rfl | exact Or.inr rfl)))
   (PM.s_seq (pss_cons (PM.s_set (ps_set (i := 5) sc_L_names.nd rfl (by first | exact Or.inl rfl | exact Or.inr rfl) (c_op od_mul (pe_op op_uMul (c_w (c_op od_ix (pe_ix ix_u (c_vw (pv 2)) (c_w (c_op od_mod (pe_op op_modN (c_w (c_op od_add (pe_op op_uAdd (c_w (c_op od_ix (pe_ix ix_u (c_vw (pv 0)) (c_w (c_c pe_int fun _ => .int _)) (fun _ _ => rfl)))) (c_w (c_op od_mul (pe_op op_uMul (c_w (c_c pe_int fun _ => .int _)) (c_vw (pv 4)))))))) (c_w (c_c pe_int fun _ => .int _))))) (fun _ _ => rfl)))) (c_w (c_op od_add (pe_op op_uAdd (c_w (c_c pe_int fun _ => .int _)) (c_w (c_op od_mod (pe_op op_modN (c_w (c_op od_add (pe_op op_uAdd (c_w (c_op od_ix (pe_ix ix_u (c_vw (pv 0)) (c_w (c_c pe_int fun _ => .int _)) (fun _ _ => rfl)))) (c_w (c_op od_mul (pe_op op_uMul (c_w (c_c pe_int fun _ => .int _)) (c_vw (pv 4)))))))) (c_w (c_op od_ix (pe_ix ix_u (c_fw (c_lst (pe_lst (a_cons (pa_cons (c_c pe_int fun _ => .int _) (a_cons (pa_cons (c_c pe_int fun _ => .int _) (a_nil pa_nil)))))))) (c_w (c_op od_mod (pe_op op_modN (c_w (c_op od_ix (pe_ix ix_u (c_vw (pv 0)) (c_w (c_c pe_int fun _ => .int _)) (fun _ _ => rfl)))) (c_w (c_c pe_int fun _ => .int _))))) (fun _ _ => rfl))))))))))))))
  (PM.s_seq (pss_cons (PM.s_if (ps_if (c_opT od_eq (pt_cmpR (op_eqK (room_u64 hr)) (c_w (c_op od_mod (pe_op op_modN (c_w (c_op od_ix (pe_ix ix_u (c_vw (pv 0)) (c_w (c_c pe_int fun _ => .int _)) (fun _ _ => rfl)))) (c_w (c_c pe_int fun _ => .int _))))) (c_w (c_c pe_int fun _ => .int _)) (nomark _))) (pss_one (PM.s_set (ps_set (i := 5) sc_L_names.nd rfl (by first | exact Or.inl rfl | exact Or.inr rfl) (c_op od_add (pe_op op_uAdd (c_w (c_op od_ix (pe_ix ix_u (c_w (c_c pe_str fun _ => .str _)) (c_vw (pv 4)) (fun _ _ => rfl)))) (c_w (c_op od_mul (pe_op op_uMul (c_w (c_op od_ix (pe_ix ix_u (c_vw (pv 2)) (c_w (c_op od_mod (pe_op op_modN (c_w (c_op od_ix (pe_ix ix_u (c_vw (pv 0)) (c_w (c_c pe_int fun _ => .int _)) (fun _ _ => rfl)))) (c_w (c_c pe_int fun _ => .int _))))) (fun _ _ => rfl)))) (c_w (c_op od_mod (pe_op op_modN (c_w (c_op od_ix (pe_ix ix_u (c_vw (pv 0)) (c_w (c_c pe_int fun _ => .int _)) (fun _ _ => rfl)))) (c_w (c_c pe_int fun _ => .int _))))))))))))) (PM.s_nil pss_nil)))
  (PM.s_seq (pss_cons (PM.s_if (ps_if (c_opT od_eq (pt_cmpR (op_eqK (room_u64 hr)) (c_w (c_op od_mod (pe_op op_modN (c_w (c_op od_ix (pe_ix ix_u (c_vw (pv 0)) (c_w (c_c pe_int fun _ => .int _)) (fun _ _ => rfl)))) (c_w (c_c pe_int fun _ => .int _))))) (c_w (c_c pe_int fun _ => .int _)) (nomark _))) (pss_one (PM.s_set (ps_set (i := 5) sc_L_names.nd rfl (by first | exact Or.inl rfl | exact Or.inr rfl) (c_op od_mul (pe_op op_uMul (c_w (c_op od_ix (pe_ix ix_u (c_vw (pv 2)) (c_w (c_op od_mod (pe_op op_modN (c_w (c_op od_ix (pe_ix ix_u (c_vw (pv 0)) (c_w (c_c pe_int fun _ => .int _)) (fun _ _ => rfl)))) (c_w (c_c pe_int fun _ => .int _))))) (fun _ _ => rfl)))) (c_w (c_op od_add (pe_op op_uAdd (c_w (c_c pe_int fun _ => .int _)) (c_vw (pv 4)))))))))) (PM.s_nil pss_nil)))
  (PM.s_seq (pss_cons (PM.s_if (ps_if (c_opT od_eq (pt_cmpR (op_eqK (room_u64 hr)) (c_w (c_op od_mod (pe_op op_modN (c_w (c_op od_ix (pe_ix ix_u (c_vw (pv 0)) (c_w (c_c pe_int fun _ => .int _)) (fun _ _ => rfl)))) (c_w (c_c pe_int fun _ => .int _))))) (c_w (c_c pe_int fun _ => .int _)) (nomark _))) (PM.s_seq (pss_cons (PM.s_set (ps_set (i := 6) sc_L_names.nd rfl (by first | exact Or.inl rfl | exact Or.inr rfl) (c_op od_ix (pe_ix ix_u (c_vw (pv 2)) (c_w (c_op od_mod (pe_op op_modN (c_w (c_op od_add (pe_op op_uAdd (c_w (c_op od_ix (pe_ix ix_u (c_vw (pv 0)) (c_w (c_c pe_int fun _ => .int _)) (fun _ _ => rfl)))) (c_w (c_op od_mul (pe_op op_uMul (c_w (c_c pe_int fun _ => .int _)) (c_vw (pv 4)))))))) (c_w (c_c pe_int fun _ => .int _))))) (fun _ _ => rfl)))))
  (pss_one (PM.s_set (ps_set (i := 5) sc_L_names.nd rfl (by first | exact Or.inl rfl | exact Or.inr rfl) (c_op od_add (pe_op op_uAdd (c_w (c_op od_add (pe_op op_uAdd (c_w (c_op od_ix (pe_ix ix_u (c_vw (pv 2)) (c_w (c_op od_mod (pe_op op_modN (c_w (c_op od_ix (pe_ix ix_u (c_vw (pv 0)) (c_w (c_c pe_int fun _ => .int _)) (fun _ _ => rfl)))) (c_w (c_c pe_int fun _ => .int _))))) (fun _ _ => rfl)))) (c_vw (pv 6))))) (c_w (c_op od_ix (pe_ix ix_u (c_vw (pv 2)) (c_w (c_op od_mod (pe_op op_modN (c_w (c_op od_ix (pe_ix ix_u (c_vw (pv 0)) (c_w (c_c pe_int fun _ => .int _)) (fun _ _ => rfl)))) (c_w (c_c pe_int fun _ => .int _))))) (fun _ _ => rfl))))))))))) (PM.s_nil pss_nil)))
  (pss_one (PM.s_app (ps_expr (pe_bm PySem.F.plainAttrs_list PySem.F.slot_list_append PySem.F.type_list_append mt_append (pv 3) (pa_cons (c_v (pv 5)) pa_nil)))))))))))))))
  (pss_one (PM.s_ret (ps_ret (c_f (c_cbF cb_sorted (pe_callB (cr_sortM (room_u64 hr)) (by rfl) T.f_sorted (by decide +kernel) (a_consw (pa_cons (c_vw (pv 3)) (a_nilw pa_nil))))) mSorted_is))))))))))), spM_in (N := N_L_names) h⟩)
abbrev N_L_house : List Str := ["_law_script", "_law_at", "_law_xs", "_law_top", "_law_many", "_law_names_here", "_law_some", "_law_tools", "_law_k", "_law_jobs", "_law_left", "_law_name_here", "_law_ys", "_law_falls", "_law_cost", "_law_wants", "_law_most"]
theorem sc_L_house : FnScope N_L_house ["_law_script", "_law_at"] (defScope s_L_house) := ⟨rfl, rfl, rfl, by decide +kernel, rfl, by decide +kernel, by decide +kernel⟩
theorem ok_L_house (T : Txt K mg) (F_L_cell : OwnFn P w K mg base 1 "_law_cell" ["_law_script", "_law_k"] (spM K (tabs K) M_L_cell)) (F_L_numbers : OwnFn P w K mg base 1 "_law_numbers" ["_law_cell_here", "_law_many"] (spM K (tabs K) M_L_numbers)) (F_L_names : OwnFn P w K mg base 1 "_law_names" ["_law_xs", "_law_many"] (spM K (tabs K) M_L_names)) : OwnFn P w K mg base 2 "_law_house" ["_law_script", "_law_at"] (spM K (tabs K) M_L_house) := by
  exact own_ok (k := 1) T.D_L_house sc_L_house (fun _ _ _ _ _ _ us hl => match us, hl with | [_, _], _ => rfl) (fun vs H Q E h => spM_len h) (fun cdv A outer s H vs Q E hr h => ⟨_, PSs.nox (show PSs _ _ (tS K (tabs K) m_L_house) from (PM.s_seq (pss_cons (PM.s_set (ps_set (i := 2) sc_L_house.nd rfl (by first | exact Or.inl rfl | exact Or.inr rfl) (c_call (pe_own F_L_numbers hr passL (a_cons (pa_cons (c_call (pe_own F_L_cell hr passL (a_cons (pa_cons (c_v (pv 0)) (a_cons (pa_cons (c_v (pv 1)) (a_nil pa_nil))))))) (a_cons (pa_cons (c_c pe_int fun _ => .int _) (a_nil pa_nil)))))))))
  (PM.s_seq (pss_cons (PM.s_set (ps_set (i := 3) sc_L_house.nd rfl (by first | exact Or.inl rfl | exact Or.inr rfl) (c_op od_add (pe_op op_uAdd (c_w (c_c pe_int fun _ => .int _)) (c_w (c_op od_mod (pe_op op_modN (c_w (c_op od_ix (pe_ix ix_u (c_vw (pv 2)) (c_w (c_c pe_int fun _ => .int _)) (fun _ _ => rfl)))) (c_w (c_c pe_int fun _ => .int _)))))))))
  (PM.s_seq (pss_cons (PM.s_set (ps_set (i := 4) sc_L_house.nd rfl (by first | exact Or.inl rfl | exact Or.inr rfl) (c_op od_add (pe_op op_uAdd (c_w (c_c pe_int fun _ => .int _)) (c_w (c_op od_mod (pe_op op_modN (c_w (c_op od_ix (pe_ix ix_u (c_vw (pv 2)) (c_w (c_c pe_int fun _ => .int _)) (fun _ _ => rfl)))) (c_w (c_op od_ix (pe_ix ix_u (c_fw (c_lst (pe_lst (a_cons (pa_cons (c_c pe_int fun _ => .int _) (a_cons (pa_cons (c_c pe_int fun _ => .int _) (a_cons (pa_cons (c_c pe_int fun _ => .int _) (a_nil pa_nil)))))))))) (c_w (c_op od_mod (pe_op op_modN (c_w (c_op od_ix (pe_ix ix_u (c_vw (pv 2)) (c_w (c_c pe_int fun _ => .int _)) (fun _ _ => rfl)))) (c_w (c_c pe_int fun _ => .int _))))) (fun _ _ => rfl)))))))))))
  (PM.s_seq (pss_cons (PM.s_set (ps_set (i := 5) sc_L_house.nd rfl (by first | exact Or.inl rfl | exact Or.inr rfl) (c_call (pe_own F_L_names hr passL (a_cons (pa_cons (c_v (pv 2)) (a_cons (pa_cons (c_v (pv 4)) (a_nil pa_nil)))))))))
  (PM.s_seq (pss_cons (PM.s_set (ps_set (i := 6) sc_L_house.nd rfl (by first | exact Or.inl rfl | exact Or.inr rfl) (c_f (c_lc (pe_lc (own := [("_law_k", 8), ("_law_name_here", 11)]) (by rfl) sc_L_house.nd (c_ih (c_iek (pi_ek (by rfl) T.f_enumerate (a_cons (pa_cons (c_v (pv 5)) (a_nil pa_nil)))))) (blkOk_by (own := [("_law_k", 8), ("_law_name_here", 11)]) (N := N_L_house) (sc := defScope s_L_house) (by decide +kernel)) (fun _ _ _ _ _ => (c_gt [8, 11] (pg_tupK rfl (pgs_cons (pg_name (i := 8) sc_L_house.nd rfl (by first | exact Or.inl rfl | exact Or.inr rfl)) (pgs_cons (pg_name (i := 11) sc_L_house.nd rfl (by first | exact Or.inl rfl | exact Or.inr rfl)) pgs_nil))))) (fun _ _ _ _ _ => (pts_one (c_opT od_eq (pt_cmpR (op_eqK (room_u64 hr)) (c_w (c_op od_mod (pe_op op_modN (c_w (c_op od_fdv (pe_op op_fdivG (c_w (c_op od_fdv (pe_op op_fdivG (c_w (c_op od_ix (pe_ix ix_u (c_vw (pv 2)) (c_w (c_c pe_int fun _ => .int _)) (fun _ _ => rfl)))) (c_w (c_c pe_int fun _ => .int _))))) (c_w (c_op od_ix (pe_ix ix_u (c_fw (c_lst (pe_lst (a_cons (pa_cons (c_c pe_int fun _ => .int _) (a_cons (pa_cons (c_c pe_int fun _ => .int _) (a_cons (pa_cons (c_c pe_int fun _ => .int _) (a_cons (pa_cons (c_c pe_int fun _ => .int _) (a_cons (pa_cons (c_c pe_int fun _ => .int _) (a_cons (pa_cons (c_c pe_int fun _ => .int _) (a_cons (pa_cons (c_c pe_int fun _ => .int _) (a_cons (pa_cons (c_c pe_int fun _ => .int _) (a_nil pa_nil)))))))))))))))))))) (c_vw (pv 8)) (fun _ _ => rfl))))))) (c_w (c_c pe_int fun _ => .int _))))) (c_w (c_c pe_int fun _ => .int _)) (nomark _))))) (fun _ _ _ _ _ => (c_v (pv 11))))) mLc_is)))
  (PM.s_seq (pss_cons (PM.s_setO (ps_set (i := 7) sc_L_house.nd rfl (by first | exact Or.inl rfl | exact Or.inr rfl) (c_lst (pe_lst (a_nil pa_nil)))))
  (PM.s_seq (pss_cons (PM.s_for (ps_for PassesOwn.never rfl (c_irng (pi_range1 (by rfl) T.f_range (a_cons (pa_cons (c_cb cb_len (pe_callB (call_lenK K) (by rfl) T.f_len (by decide +kernel) (a_consw (pa_cons (c_vw (pv 6)) (a_nilw pa_nil))))) (a_nil pa_nil))))) (c_gn (pg_name (i := 8) sc_L_house.nd rfl (by first | exact Or.inl rfl | exact Or.inr rfl)))
   (PM.s_seq (pss_cons (PM.s_set (ps_set (i := 12) sc_L_house.nd rfl (by first | exact Or.inl rfl | exact Or.inr rfl) (c_call (pe_own F_L_numbers hr passL (a_cons (pa_cons (c_call (pe_own F_L_cell hr passL (a_cons (pa_cons (c_v (pv 0)) (a_cons (pa_cons (c_op od_add (pe_op op_uAdd (c_w (c_op od_add (pe_op op_uAdd (c_vw (pv 1)) (c_w (c_c pe_int fun _ => .int _))))) (c_vw (pv 8)))) (a_nil pa_nil))))))) (a_cons (pa_cons (c_c pe_int fun _ => .int _) (a_nil pa_nil)))))))))
  (PM.s_seq (pss_cons (PM.s_set (ps_set (i := 13) sc_L_house.nd rfl (by first | exact Or.inl rfl | exact Or.inr rfl) (c_op od_mod (pe_op op_modN (c_w (c_op od_ix (pe_ix ix_u (c_vw (pv 12)) (c_w (c_c pe_int fun _ => .int _)) (fun _ _ => rfl)))) (c_w (c_op od_ix (pe_ix ix_u (c_fw (c_lst (pe_lst (a_cons (pa_cons (c_c pe_int fun _ => .int _) (a_cons (pa_cons (c_c pe_int fun _ => .int _) (a_cons (pa_cons (c_c pe_int fun _ => .int _) (a_nil pa_nil)))))))))) (c_w (c_op od_mod (pe_op op_modN (c_w (c_op od_ix (pe_ix ix_u (c_vw (pv 12)) (c_w (c_c pe_int fun _ => .int _)) (fun _ _ => rfl)))) (c_w (c_c pe_int fun _ => .int _))))) (fun _ _ => rfl))))))))
  (PM.s_seq (pss_cons (PM.s_set (ps_set (i := 14) sc_L_house.nd rfl (by first | exact Or.inl rfl | exact Or.inr rfl) (c_op od_add (pe_op op_uAdd (c_w (c_op od_mul (pe_op op_uMul (c_vw (pv 13)) (c_vw (pv 3))))) (c_w (c_op od_mod (pe_op op_modN (c_w (c_op od_ix (pe_ix ix_u (c_vw (pv 12)) (c_w (c_c pe_int fun _ => .int _)) (fun _ _ => rfl)))) (c_w (c_op od_ix (pe_ix ix_u (c_fw (c_lst (pe_lst (a_cons (pa_cons (c_c pe_int fun _ => .int _) (a_cons (pa_cons (c_c pe_int fun _ => .int _) (a_cons (pa_cons (c_op od_sub (pe_op op_sub (c_w (c_c pe_int fun _ => .int _)) (c_w (c_op od_mul (pe_op op_uMul (c_w (c_c pe_int fun _ => .int _)) (c_w (c_c pe_int fun _ => .int _))))))) (a_nil pa_nil)))))))))) (c_w (c_op od_mod (pe_op op_modN (c_w (c_op od_ix (pe_ix ix_u (c_vw (pv 12)) (c_w (c_c pe_int fun _ => .int _)) (fun _ _ => rfl)))) (c_w (c_c pe_int fun _ => .int _))))) (fun _ _ => rfl)))))))))))
  (pss_one (PM.s_app (ps_expr (pe_bm PySem.F.plainAttrs_list PySem.F.slot_list_append PySem.F.type_list_append mt_append (pv 7) (pa_cons (c_tup (pe_tup (a_cons (pa_cons (c_op od_ix (pe_ix ix_u (c_vw (pv 6)) (c_vw (pv 8)) (fun _ _ => rfl))) (a_cons (pa_cons (c_v (pv 14)) (a_cons (pa_cons (c_v (pv 13)) (a_nil pa_nil))))))))) pa_nil)))))))))))))
  (PM.s_seq (pss_cons (PM.s_setO (ps_set (i := 9) sc_L_house.nd rfl (by first | exact Or.inl rfl | exact Or.inr rfl) (c_lst (pe_lst (a_nil pa_nil)))))
  (PM.s_seq (pss_cons (PM.s_set (ps_set (i := 10) sc_L_house.nd rfl (by first | exact Or.inl rfl | exact Or.inr rfl) (c_c pe_int fun _ => .int _)))
  (PM.s_seq (pss_cons (PM.s_for (ps_for PassesOwn.never rfl (c_iseq (pi_seq (c_v (pv 5)))) (c_gn (pg_name (i := 11) sc_L_house.nd rfl (by first | exact Or.inl rfl | exact Or.inr rfl)))
   (pss_one (PM.s_if (ps_if (c_opT od_nin (pt_cmpR (op_notInK K) (c_vw (pv 11)) (c_vw (pv 6)) (by rfl))) (PM.s_seq (pss_cons (PM.s_set (ps_set (i := 12) sc_L_house.nd rfl (by first | exact Or.inl rfl | exact Or.inr rfl) (c_call (pe_own F_L_numbers hr passL (a_cons (pa_cons (c_call (pe_own F_L_cell hr passL (a_cons (pa_cons (c_v (pv 0)) (a_cons (pa_cons (c_op od_add (pe_op op_uAdd (c_w (c_op od_add (pe_op op_uAdd (c_w (c_op od_add (pe_op op_uAdd (c_vw (pv 1)) (c_w (c_c pe_int fun _ => .int _))))) (c_w (c_cb cb_len (pe_callB (call_lenK K) (by rfl) T.f_len (by decide +kernel) (a_consw (pa_cons (c_vw (pv 7)) (a_nilw pa_nil))))))))) (c_w (c_cb cb_len (pe_callB (call_lenK K) (by rfl) T.f_len (by decide +kernel) (a_consw (pa_cons (c_vw (pv 9)) (a_nilw pa_nil)))))))) (a_nil pa_nil))))))) (a_cons (pa_cons (c_c pe_int fun _ => .int _) (a_nil pa_nil)))))))))
  (PM.s_seq (pss_cons (PM.s_set (ps_set (i := 15) sc_L_house.nd rfl (by first | exact Or.inl rfl | exact Or.inr rfl) (c_cb cb_tuple (pe_callTy (call_tupK K) (by rfl) T.f_tuple (by decide +kernel) (a_consw (pa_cons (c_w (c_sl (pe_slice sl_u (c_fw (c_lc (pe_lc (own := [("_law_k", 8)]) (by rfl) sc_L_house.nd (c_ih (c_irng (pi_range1 (by rfl) T.f_range (a_cons (pa_cons (c_cb cb_len (pe_callB (call_lenK K) (by rfl) T.f_len (by decide +kernel) (a_consw (pa_cons (c_vw (pv 6)) (a_nilw pa_nil))))) (a_nil pa_nil)))))) (blkOk_by (own := [("_law_k", 8)]) (N := N_L_house) (sc := defScope s_L_house) (by decide +kernel)) (fun _ _ _ _ _ => (c_gn (pg_name (i := 8) sc_L_house.nd rfl (by first | exact Or.inl rfl | exact Or.inr rfl)))) (fun _ _ _ _ _ => (pts_one (c_opT od_eq (pt_cmpR (op_eqK (room_u64 hr)) (c_w (c_op od_mod (pe_op op_modN (c_w (c_op od_ix (pe_ix ix_u (c_vw (pv 12)) (c_w (c_op od_add (pe_op op_uAdd (c_w (c_c pe_int fun _ => .int _)) (c_vw (pv 8))))) (fun _ _ => rfl)))) (c_w (c_c pe_int fun _ => .int _))))) (c_w (c_c pe_int fun _ => .int _)) (nomark _))))) (fun _ _ _ _ _ => (c_op od_ix (pe_ix ix_u (c_vw (pv 6)) (c_vw (pv 8)) (fun _ _ => rfl))))))) (c_pno po_none) (c_pso (po_some (c_v (pv 10))))))) (a_nilw pa_nil)))))))
  (PM.s_seq (pss_cons (PM.s_set (ps_set (i := 10) sc_L_house.nd rfl (by first | exact Or.inl rfl | exact Or.inr rfl) (c_op od_sub (pe_op op_sub (c_vw (pv 10)) (c_w (c_cb cb_len (pe_callB (call_lenK K) (by rfl) T.f_len (by decide +kernel) (a_consw (pa_cons (c_vw (pv 15)) (a_nilw pa_nil))))))))))
  (PM.s_seq (pss_cons (PM.s_set (ps_set (i := 16) sc_L_house.nd rfl (by first | exact Or.inl rfl | exact Or.inr rfl) (c_op od_ix (pe_ix ix_u (c_fw (c_lst (pe_lst (a_cons (pa_cons (c_c pe_int fun _ => .int _) (a_cons (pa_cons (c_c pe_int fun _ => .int _) (a_cons (pa_cons (c_c pe_int fun _ => .int _) (a_nil pa_nil)))))))))) (c_w (c_op od_mod (pe_op op_modN (c_w (c_op od_ix (pe_ix ix_u (c_vw (pv 12)) (c_w (c_c pe_int fun _ => .int _)) (fun _ _ => rfl)))) (c_w (c_c pe_int fun _ => .int _))))) (fun _ _ => rfl)))))
  (pss_one (PM.s_app (ps_expr (pe_bm PySem.F.plainAttrs_list PySem.F.slot_list_append PySem.F.type_list_append mt_append (pv 9) (pa_cons (c_tup (pe_tup (a_cons (pa_cons (c_v (pv 11)) (a_cons (pa_cons (c_op od_mod (pe_op op_modN (c_w (c_op od_ix (pe_ix ix_u (c_vw (pv 12)) (c_w (c_c pe_int fun _ => .int _)) (fun _ _ => rfl)))) (c_vw (pv 16)))) (a_cons (pa_cons (c_op od_mod (pe_op op_modN (c_w (c_op od_ix (pe_ix ix_u (c_vw (pv 12)) (c_w (c_c pe_int fun _ => .int _)) (fun _ _ => rfl)))) (c_w (c_op od_ix (pe_ix ix_u (c_fw (c_lst (pe_lst (a_cons (pa_cons (c_c pe_int fun _ => .int _) (a_cons (pa_cons (c_c pe_int fun _ => .int _) (a_cons (pa_cons (c_c pe_int fun _ => .int _) (a_nil pa_nil)))))))))) (c_w (c_op od_mod (pe_op op_modN (c_w (c_op od_fdv (pe_op op_fdivG (c_w (c_op od_ix (pe_ix ix_u (c_vw (pv 12)) (c_w (c_c pe_int fun _ => .int _)) (fun _ _ => rfl)))) (c_w (c_c pe_int fun _ => .int _))))) (c_w (c_c pe_int fun _ => .int _))))) (fun _ _ => rfl)))))) (a_cons (pa_cons (c_v (pv 15)) (a_nil pa_nil))))))))))) pa_nil))))))))))))) (PM.s_nil pss_nil))))))
  (pss_one (PM.s_ret (ps_ret (c_tup (pe_tup (a_cons (pa_cons (c_v (pv 3)) (a_cons (pa_cons (c_cb cb_tuple (pe_callTy (call_tupK K) (by rfl) T.f_tuple (by decide +kernel) (a_consw (pa_cons (c_vw (pv 9)) (a_nilw pa_nil))))) (a_cons (pa_cons (c_cb cb_tuple (pe_callTy (call_tupK K) (by rfl) T.f_tuple (by decide +kernel) (a_consw (pa_cons (c_vw (pv 7)) (a_nilw pa_nil))))) (a_nil pa_nil))))))))))))))))))))))))))))))))), spM_in (N := N_L_house) h⟩)
abbrev N_L_whole : List Str := ["_law_thing", "_law_least", "_law_most"]
theorem sc_L_whole : FnScope N_L_whole ["_law_thing", "_law_least", "_law_most"] (defScope s_L_whole) := ⟨rfl, rfl, rfl, by decide +kernel, rfl, by decide +kernel, by decide +kernel⟩
theorem ok_L_whole (T : Txt K mg) : OwnFn P w K mg base 1 "_law_whole" ["_law_thing", "_law_least", "_law_most"] (spM K (tabs K) M_L_whole) := by
  exact own_ok (k := 0) T.D_L_whole sc_L_whole (fun _ _ _ _ _ _ us hl => match us, hl with | [_, _, _], _ => rfl) (fun vs H Q E h => spM_len h) (fun cdv A outer s H vs Q E hr h => ⟨_, PSs.nox (show PSs _ _ (tS K (tabs K) m_L_whole) from (pss_one (PM.s_ret (ps_ret (c_andV (pe_and (c_is (pe_callB (call_isK K) (by rfl) T.f_isinstance (by decide +kernel) (pa_cons (c_vw (pv 0)) (pa_cons (pe_bltn (v := .ty "int") rfl T.f_int (by decide +kernel) rfl) pa_nil)))) (c_andV (pe_and (c_notV (pe_not (c_is (pe_callB (call_isK K) (by rfl) T.f_isinstance (by decide +kernel) (pa_cons (c_vw (pv 0)) (pa_cons (pe_bltn (v := .ty "bool") rfl T.f_bool (by decide +kernel) rfl) pa_nil)))))) (pe_one (c_ch od_le od_le (pe_chain op_le op_le (c_vw (pv 1)) (c_vw (pv 0)) (c_vw (pv 2))))))))))))), spM_in (N := N_L_whole) h⟩)
abbrev N_L_name : List Str := ["_law_thing", "_law_sign_here"]
theorem sc_L_name : FnScope N_L_name ["_law_thing"] (defScope s_L_name) := ⟨rfl, rfl, rfl, by decide +kernel, rfl, by decide +kernel, by decide +kernel⟩
theorem ok_L_name (T : Txt K mg) : OwnFn P w K mg base 1 "_law_name" ["_law_thing"] (spM K (tabs K) M_L_name) := by
  exact own_ok (k := 0) T.D_L_name sc_L_name (fun _ _ _ _ _ _ us hl => match us, hl with | [_], _ => rfl) (fun vs H Q E h => spM_len h) (fun cdv A outer s H vs Q E hr h => ⟨_, PSs.nox (show PSs _ _ (tS K (tabs K) m_L_name) from (PM.s_seq (pss_cons (PM.s_if (ps_if (PW.pt (c_or (pw_or (c_not (pt_not (c_tv (pt_val (c_is (pe_callB (call_isK K) (by rfl) T.f_isinstance (by decide +kernel) (pa_cons (c_vw (pv 0)) (pa_cons (pe_bltn (v := .ty "str") rfl T.f_str (by decide +kernel) rfl) pa_nil)))))))) (pw_or1 (c_not (pt_not (c_chT od_le od_le (pt_chain op_le op_le (c_w (c_c pe_int fun _ => .int _)) (c_w (c_cb cb_len (pe_callB (call_lenK K) (by rfl) T.f_len (by decide +kernel) (a_consw (pa_cons (c_vw (pv 0)) (a_nilw pa_nil)))))) (c_w (c_c pe_int fun _ => .int _)))))))))) (pss_one (PM.s_ret (ps_ret (c_c pe_bl fun _ => .bl _)))) (PM.s_nil pss_nil)))
  (pss_one (PM.s_ret (ps_ret (c_cb cb_all (pe_callB (cr_allK rfl) (by rfl) T.f_all (by decide +kernel) (a_consw (pa_cons (c_fw (c_lc (pe_lc (own := [("_law_sign_here", 1)]) (by rfl) sc_L_name.nd (c_iseqw (pi_seq (c_vw (pv 0)))) (blkOk_by (own := [("_law_sign_here", 1)]) (N := N_L_name) (sc := defScope s_L_name) (by decide +kernel)) (fun _ _ _ _ _ => (c_gn (pg_name (i := 1) sc_L_name.nd rfl (by first | exact Or.inl rfl | exact Or.inr rfl)))) (fun _ _ _ _ _ => (q_nil pts_nil)) (fun _ _ _ _ _ => (c_op od_inX (pe_cmpR op_uInX (c_vw (pv 1)) (c_w (c_c pe_str fun _ => .str _)) (by rfl))))))) (a_nilw pa_nil))))))))))), spM_in (N := N_L_name) h⟩)
abbrev N_L_row : List Str := ["_law_thing", "_law_size"]
theorem sc_L_row : FnScope N_L_row ["_law_thing", "_law_size"] (defScope s_L_row) := ⟨rfl, rfl, rfl, by decide +kernel, rfl, by decide +kernel, by decide +kernel⟩
theorem ok_L_row (T : Txt K mg) (F_L_name : OwnFn P w K mg base 1 "_law_name" ["_law_thing"] (spM K (tabs K) M_L_name)) : OwnFn P w K mg base 2 "_law_row" ["_law_thing", "_law_size"] (spM K (tabs K) M_L_row) := by
  exact own_ok (k := 1) T.D_L_row sc_L_row (fun _ _ _ _ _ _ us hl => match us, hl with | [_, _], _ => rfl) (fun vs H Q E h => spM_len h) (fun cdv A outer s H vs Q E hr h => ⟨_, PSs.nox (show PSs _ _ (tS K (tabs K) m_L_row) from (pss_one (PM.s_ret (ps_ret (c_andV (pe_and (c_is (pe_callB (call_isK K) (by rfl) T.f_isinstance (by decide +kernel) (pa_cons (c_vw (pv 0)) (pa_cons (pe_bltn (v := .ty "tuple") rfl T.f_tuple (by decide +kernel) rfl) pa_nil)))) (c_andV (pe_and (c_op od_eq (pe_cmpR (op_eqK (room_u64 hr)) (c_w (c_cb cb_len (pe_callB (call_lenK K) (by rfl) T.f_len (by decide +kernel) (a_consw (pa_cons (c_vw (pv 0)) (a_nilw pa_nil)))))) (c_vw (pv 1)) (nomark _))) (pe_one (c_call (pe_own F_L_name hr passL (a_cons (pa_cons (c_op od_ix (pe_ix ix_u (c_vw (pv 0)) (c_w (c_c pe_int fun _ => .int _)) (fun _ _ => rfl))) (a_nil pa_nil)))))))))))))), spM_in (N := N_L_row) h⟩)
abbrev N_L_due : List Str := ["_law_thing", "_law_names_here", "_law_wants", "_law_job", "_law_own", "_law_top", "_law_jobs", "_law_tools", "_law_name_here", "_law_cost", "_law_falls", "_law_tool", "_law_want"]
theorem sc_L_due : FnScope N_L_due ["_law_thing"] (defScope s_L_due) := ⟨rfl, rfl, rfl, by decide +kernel, rfl, by decide +kernel, by decide +kernel⟩
theorem ok_L_due (T : Txt K mg) (F_L_whole : OwnFn P w K mg base 1 "_law_whole" ["_law_thing", "_law_least", "_law_most"] (spM K (tabs K) M_L_whole)) (F_L_row : OwnFn P w K mg base 2 "_law_row" ["_law_thing", "_law_size"] (spM K (tabs K) M_L_row)) (F_L_name : OwnFn P w K mg base 1 "_law_name" ["_law_thing"] (spM K (tabs K) M_L_name)) : OwnFn P w K mg base 3 "_law_due" ["_law_thing"] (spM K (tabs K) M_L_due) := by
  exact own_ok (k := 2) T.D_L_due sc_L_due (fun _ _ _ _ _ _ us hl => match us, hl with | [_], _ => rfl) (fun vs H Q E h => spM_len h) (fun cdv A outer s H vs Q E hr h => ⟨_, PSs.nox (show PSs _ _ (tS K (tabs K) m_L_due) from (PM.s_seq (pss_cons (PM.s_if (ps_if (PW.pt (c_or (pw_or (c_not (pt_not (c_tv (pt_val (c_is (pe_callB (call_isK K) (by rfl) T.f_isinstance (by decide +kernel) (pa_cons (c_vw (pv 0)) (pa_cons (pe_bltn (v := .ty "tuple") rfl T.f_tuple (by decide +kernel) rfl) pa_nil)))))))) (c_or (pw_or (c_opT od_ne (pt_cmpR (op_neK (room_u64 hr)) (c_w (c_cb cb_len (pe_callB (call_lenK K) (by rfl) T.f_len (by decide +kernel) (a_consw (pa_cons (c_vw (pv 0)) (a_nilw pa_nil)))))) (c_w (c_c pe_int fun _ => .int _)) (nomark _))) (pw_or1 (c_not (pt_not (c_tv (pt_val (c_call (pe_own F_L_whole hr passL (a_cons (pa_cons (c_op od_ix (pe_ix ix_u (c_vw (pv 0)) (c_w (c_c pe_int fun _ => .int _)) (fun _ _ => rfl))) (a_cons (pa_cons (c_c pe_int fun _ => .int _) (a_cons (pa_cons (c_c pe_int fun _ => .int _) (a_nil pa_nil))))))))))))))))))) (pss_one (PM.s_ret (ps_ret (c_c pe_bl fun _ => .bl _)))) (PM.s_nil pss_nil)))
  (PM.s_seq (pss_cons (PM.s_asg (ps_asg (c_v (pv 0)) (c_gt [5, 6, 7] (pg_tupK rfl (pgs_cons (pg_name (i := 5) sc_L_due.nd rfl (by first | exact Or.inl rfl | exact Or.inr rfl)) (pgs_cons (pg_name (i := 6) sc_L_due.nd rfl (by first | exact Or.inl rfl | exact Or.inr rfl)) (pgs_cons (pg_name (i := 7) sc_L_due.nd rfl (by first | exact Or.inl rfl | exact Or.inr rfl)) pgs_nil)))))))
  (PM.s_seq (pss_cons (PM.s_if (ps_if (PW.pt (c_or (pw_or (c_not (pt_not (c_tv (pt_val (c_is (pe_callB (call_isK K) (by rfl) T.f_isinstance (by decide +kernel) (pa_cons (c_vw (pv 6)) (pa_cons (pe_bltn (v := .ty "tuple") rfl T.f_tuple (by decide +kernel) rfl) pa_nil)))))))) (pw_or1 (c_not (pt_not (c_tv (pt_val (c_is (pe_callB (call_isK K) (by rfl) T.f_isinstance (by decide +kernel) (pa_cons (c_vw (pv 7)) (pa_cons (pe_bltn (v := .ty "tuple") rfl T.f_tuple (by decide +kernel) rfl) pa_nil)))))))))))) (pss_one (PM.s_ret (ps_ret (c_c pe_bl fun _ => .bl _)))) (PM.s_nil pss_nil)))
  (PM.s_seq (pss_cons (PM.s_if (ps_if (PW.pt (c_or (pw_or (c_not (pt_not (c_tv (pt_val (c_cb cb_all (pe_callB (cr_allK rfl) (by rfl) T.f_all (by decide +kernel) (a_consw (pa_cons (c_fw (c_lc (pe_lc (own := [("_law_job", 3)]) (by rfl) sc_L_due.nd (c_iseqw (pi_seq (c_vw (pv 6)))) (blkOk_by (own := [("_law_job", 3)]) (N := N_L_due) (sc := defScope s_L_due) (by decide +kernel)) (fun _ _ _ _ _ => (c_gn (pg_name (i := 3) sc_L_due.nd rfl (by first | exact Or.inl rfl | exact Or.inr rfl)))) (fun _ _ _ _ _ => (q_nil pts_nil)) (fun _ _ _ _ _ => (c_call (pe_own F_L_row hr passL (a_cons (pa_cons (c_v (pv 3)) (a_cons (pa_cons (c_c pe_int fun _ => .int _) (a_nil pa_nil))))))))))) (a_nilw pa_nil))))))))) (pw_or1 (c_not (pt_not (c_tv (pt_val (c_cb cb_all (pe_callB (cr_allK rfl) (by rfl) T.f_all (by decide +kernel) (a_consw (pa_cons (c_fw (c_lc (pe_lc (own := [("_law_tool", 11)]) (by rfl) sc_L_due.nd (c_iseqw (pi_seq (c_vw (pv 7)))) (blkOk_by (own := [("_law_tool", 11)]) (N := N_L_due) (sc := defScope s_L_due) (by decide +kernel)) (fun _ _ _ _ _ => (c_gn (pg_name (i := 11) sc_L_due.nd rfl (by first | exact Or.inl rfl | exact Or.inr rfl)))) (fun _ _ _ _ _ => (q_nil pts_nil)) (fun _ _ _ _ _ => (c_call (pe_own F_L_row hr passL (a_cons (pa_cons (c_v (pv 11)) (a_cons (pa_cons (c_c pe_int fun _ => .int _) (a_nil pa_nil))))))))))) (a_nilw pa_nil))))))))))))) (pss_one (PM.s_ret (ps_ret (c_c pe_bl fun _ => .bl _)))) (PM.s_nil pss_nil)))
  (PM.s_seq (pss_cons (PM.s_set (ps_set (i := 1) sc_L_due.nd rfl (by first | exact Or.inl rfl | exact Or.inr rfl) (c_f (c_lc (pe_lc (own := [("_law_tool", 11)]) (by rfl) sc_L_due.nd (c_iseqw (pi_seq (c_vw (pv 7)))) (blkOk_by (own := [("_law_tool", 11)]) (N := N_L_due) (sc := defScope s_L_due) (by decide +kernel)) (fun _ _ _ _ _ => (c_gn (pg_name (i := 11) sc_L_due.nd rfl (by first | exact Or.inl rfl | exact Or.inr rfl)))) (fun _ _ _ _ _ => (q_nil pts_nil)) (fun _ _ _ _ _ => (c_op od_ix (pe_ix ix_u (c_vw (pv 11)) (c_w (c_c pe_int fun _ => .int _)) (fun _ _ => rfl)))))) mLc_is)))
  (PM.s_seq (pss_cons (PM.s_for (ps_for PassesOwn.never rfl (c_iseq (pi_seq (c_v (pv 7)))) (c_gt [8, 9, 10] (pg_tupK rfl (pgs_cons (pg_name (i := 8) sc_L_due.nd rfl (by first | exact Or.inl rfl | exact Or.inr rfl)) (pgs_cons (pg_name (i := 9) sc_L_due.nd rfl (by first | exact Or.inl rfl | exact Or.inr rfl)) (pgs_cons (pg_name (i := 10) sc_L_due.nd rfl (by first | exact Or.inl rfl | exact Or.inr rfl)) pgs_nil)))))
   (pss_one (PM.s_if (ps_if (PW.pt (c_or (pw_or (c_not (pt_not (c_tv (pt_val (c_call (pe_own F_L_whole hr passL (a_cons (pa_cons (c_v (pv 10)) (a_cons (pa_cons (c_c pe_int fun _ => .int _) (a_cons (pa_cons (c_c pe_int fun _ => .int _) (a_nil pa_nil))))))))))))) (pw_or1 (c_not (pt_not (c_tv (pt_val (c_call (pe_own F_L_whole hr passL (a_cons (pa_cons (c_v (pv 9)) (a_cons (pa_cons (c_op od_mul (pe_op op_uMul (c_vw (pv 10)) (c_vw (pv 5)))) (a_cons (pa_cons (c_c pe_int fun _ => .int _) (a_nil pa_nil))))))))))))))))) (pss_one (PM.s_ret (ps_ret (c_c pe_bl fun _ => .bl _)))) (PM.s_nil pss_nil))))))
  (PM.s_seq (pss_cons (PM.s_set (ps_set (i := 2) sc_L_due.nd rfl (by first | exact Or.inl rfl | exact Or.inr rfl) (c_c pe_int fun _ => .int _)))
  (PM.s_seq (pss_cons (PM.s_for (ps_for PassesOwn.never rfl (c_iseq (pi_seq (c_v (pv 6)))) (c_gn (pg_name (i := 3) sc_L_due.nd rfl (by first | exact Or.inl rfl | exact Or.inr rfl)))
   (PM.s_seq (pss_cons (PM.s_if (ps_if (PW.pt (c_or (pw_or (c_not (pt_not (c_tv (pt_val (c_call (pe_own F_L_whole hr passL (a_cons (pa_cons (c_op od_ix (pe_ix ix_u (c_vw (pv 3)) (c_w (c_c pe_int fun _ => .int _)) (fun _ _ => rfl))) (a_cons (pa_cons (c_c pe_int fun _ => .int _) (a_cons (pa_cons (c_c pe_int fun _ => .int _) (a_nil pa_nil))))))))))))) (c_or (pw_or (c_not (pt_not (c_tv (pt_val (c_call (pe_own F_L_whole hr passL (a_cons (pa_cons (c_op od_ix (pe_ix ix_u (c_vw (pv 3)) (c_w (c_c pe_int fun _ => .int _)) (fun _ _ => rfl))) (a_cons (pa_cons (c_c pe_int fun _ => .int _) (a_cons (pa_cons (c_c pe_int fun _ => .int _) (a_nil pa_nil))))))))))))) (pw_or1 (c_not (pt_not (c_tv (pt_val (c_is (pe_callB (call_isK K) (by rfl) T.f_isinstance (by decide +kernel) (pa_cons (c_w (c_op od_ix (pe_ix ix_u (c_vw (pv 3)) (c_w (c_c pe_int fun _ => .int _)) (fun _ _ => rfl)))) (pa_cons (pe_bltn (v := .ty "tuple") rfl T.f_tuple (by decide +kernel) rfl) pa_nil)))))))))))))) (pss_one (PM.s_ret (ps_ret (c_c pe_bl fun _ => .bl _)))) (PM.s_nil pss_nil)))
  (PM.s_seq (pss_cons (PM.s_if (ps_if (PW.pt (c_or (pw_or (c_not (pt_not (c_tv (pt_val (c_cb cb_all (pe_callB (cr_allK rfl) (by rfl) T.f_all (by decide +kernel) (a_consw (pa_cons (c_fw (c_lc (pe_lc (own := [("_law_want", 12)]) (by rfl) sc_L_due.nd (c_iseqw (pi_seq (c_w (c_op od_ix (pe_ix ix_u (c_vw (pv 3)) (c_w (c_c pe_int fun _ => .int _)) (fun _ _ => rfl)))))) (blkOk_by (own := [("_law_want", 12)]) (N := N_L_due) (sc := defScope s_L_due) (by decide +kernel)) (fun _ _ _ _ _ => (c_gn (pg_name (i := 12) sc_L_due.nd rfl (by first | exact Or.inl rfl | exact Or.inr rfl)))) (fun _ _ _ _ _ => (q_nil pts_nil)) (fun _ _ _ _ _ => (c_andV (pe_and (c_call (pe_own F_L_name hr passL (a_cons (pa_cons (c_v (pv 12)) (a_nil pa_nil))))) (pe_one (c_op od_in (pe_cmpR (op_inK K) (c_vw (pv 12)) (c_vw (pv 1)) (by rfl)))))))))) (a_nilw pa_nil))))))))) (pw_or1 (c_opT od_ne (pt_cmpR (op_neK (room_u64 hr)) (c_fw (c_cbF cb_list (pe_callTy call_listK (by rfl) T.f_list (by decide +kernel) (a_consw (pa_cons (c_w (c_op od_ix (pe_ix ix_u (c_vw (pv 3)) (c_w (c_c pe_int fun _ => .int _)) (fun _ _ => rfl)))) (a_nilw pa_nil)))))) (c_fw (c_sortX (pe_callB (cr_sortX rfl (room_u64 hr)) (by rfl) T.f_sorted (by decide +kernel) (pa_cons (pe_callTy (cr_setX rfl) (by rfl) T.f_set (by decide +kernel) (a_consw (pa_cons (c_w (c_op od_ix (pe_ix ix_u (c_vw (pv 3)) (c_w (c_c pe_int fun _ => .int _)) (fun _ _ => rfl)))) (a_nilw pa_nil)))) pa_nil)))) (nomark _))))))) (pss_one (PM.s_ret (ps_ret (c_c pe_bl fun _ => .bl _)))) (PM.s_nil pss_nil)))
  (pss_one (PM.s_set (ps_set (i := 2) sc_L_due.nd rfl (by first | exact Or.inl rfl | exact Or.inr rfl) (c_op od_add (pe_op op_uAdd (c_vw (pv 2)) (c_w (c_cb cb_len (pe_callB (call_lenK K) (by rfl) T.f_len (by decide +kernel) (a_consw (pa_cons (c_w (c_op od_ix (pe_ix ix_u (c_vw (pv 3)) (c_w (c_c pe_int fun _ => .int _)) (fun _ _ => rfl)))) (a_nilw pa_nil)))))))))))))))))
  (PM.s_seq (pss_cons (PM.s_set (PM.s_fd (PM.s_lc (ps_setLc (i := 4) (own := [("_law_job", 3)]) (by rfl) sc_L_due.nd rfl rfl (sw_true rfl rfl rfl (by decide +kernel)) (c_iseqw (pi_seq (c_vw (pv 6)))) (blkOk_by (own := [("_law_job", 3)]) (N := N_L_due) (sc := defScope s_L_due) (by decide +kernel)) (fun _ _ _ _ _ => (c_gn (pg_name (i := 3) sc_L_due.nd rfl (by first | exact Or.inl rfl | exact Or.inr rfl)))) (fun _ _ _ _ _ => (q_nil pts_nil)) (fun _ _ _ _ _ => (c_op od_ix (pe_ix ix_u (c_vw (pv 3)) (c_w (c_c pe_int fun _ => .int _)) (fun _ _ => rfl)))))) mLc_is))
  (PM.s_seq (pss_cons (PM.s_if (ps_if (PW.pt (c_or (pw_or (c_opT od_ne (pt_cmpR (op_neK (room_u64 hr)) (c_vw (pv 4)) (c_fw (c_cbF cb_sorted (pe_callB (cr_sortM (room_u64 hr)) (by rfl) T.f_sorted (by decide +kernel) (a_consw (pa_cons (c_vw (pv 4)) (a_nilw pa_nil)))))) (nomark _))) (c_or (pw_or (c_opT od_ne (pt_cmpR (op_neK (room_u64 hr)) (c_vw (pv 1)) (c_fw (c_cbF cb_sorted (pe_callB (cr_sortM (room_u64 hr)) (by rfl) T.f_sorted (by decide +kernel) (a_consw (pa_cons (c_vw (pv 1)) (a_nilw pa_nil)))))) (nomark _))) (pw_or1 (c_opT od_ne (pt_cmpR (op_neK (room_u64 hr)) (c_w (c_lenX (pe_callB cr_lenX (by rfl) T.f_len (by decide +kernel) (pa_cons (pe_callTy (cr_setX rfl) (by rfl) T.f_set (by decide +kernel) (a_consw (pa_cons (c_w (c_op od_add (pe_op op_uAdd (c_vw (pv 4)) (c_vw (pv 1))))) (a_nilw pa_nil)))) pa_nil)))) (c_w (c_cb cb_len (pe_callB (call_lenK K) (by rfl) T.f_len (by decide +kernel) (a_consw (pa_cons (c_w (c_op od_add (pe_op op_uAdd (c_vw (pv 4)) (c_vw (pv 1))))) (a_nilw pa_nil)))))) (nomark _))))))))) (pss_one (PM.s_ret (ps_ret (c_c pe_bl fun _ => .bl _)))) (PM.s_nil pss_nil)))
  (pss_one (PM.s_ret (ps_ret (c_andV (pe_and (c_ch od_le od_le (pe_chain op_le op_le (c_w (c_c pe_int fun _ => .int _)) (c_w (c_cb cb_len (pe_callB (call_lenK K) (by rfl) T.f_len (by decide +kernel) (a_consw (pa_cons (c_w (c_op od_add (pe_op op_uAdd (c_vw (pv 4)) (c_vw (pv 1))))) (a_nilw pa_nil)))))) (c_w (c_c pe_int fun _ => .int _)))) (pe_one (c_op od_le (pe_cmpR op_le (c_vw (pv 2)) (c_w (c_c pe_int fun _ => .int _)) (nomark _)))))))))))))))))))))))))))))), spM_in (N := N_L_due) h⟩)
abbrev N_L_put : List Str := ["_law_row_here", "_law_k", "_law_thing"]
theorem sc_L_put : FnScope N_L_put ["_law_row_here", "_law_k", "_law_thing"] (defScope s_L_put) := ⟨rfl, rfl, rfl, by decide +kernel, rfl, by decide +kernel, by decide +kernel⟩
theorem ok_L_put (T : Txt K mg) : OwnFn P w K mg base 1 "_law_put" ["_law_row_here", "_law_k", "_law_thing"] (spM K (tabs K) M_L_put) := by
  exact own_ok (k := 0) T.D_L_put sc_L_put (fun _ _ _ _ _ _ us hl => match us, hl with | [_, _, _], _ => rfl) (fun vs H Q E h => spM_len h) (fun cdv A outer s H vs Q E hr h => ⟨_, PSs.nox (show PSs _ _ (tS K (tabs K) m_L_put) from (pss_one (PM.s_ret (ps_ret (c_op od_add (pe_op op_uAdd (c_w (c_op od_add (pe_op op_uAdd (c_w (c_sl (pe_slice sl_u (c_vw (pv 0)) (c_pno po_none) (c_pso (po_some (c_v (pv 1))))))) (c_w (c_tup (pe_tup (a_cons (pa_cons (c_v (pv 2)) (a_nil pa_nil))))))))) (c_w (c_sl (pe_slice sl_u (c_vw (pv 0)) (c_pso (po_some (c_op od_add (pe_op op_uAdd (c_vw (pv 1)) (c_w (c_c pe_int fun _ => .int _)))))) (c_pno po_none)))))))))), spM_in (N := N_L_put) h⟩)
abbrev N_L_sign : List Str := ["_law_x", "_law_signs"]
theorem sc_L_sign : FnScope N_L_sign ["_law_x"] (defScope s_L_sign) := ⟨rfl, rfl, rfl, by decide +kernel, rfl, by decide +kernel, by decide +kernel⟩
theorem ok_L_sign (T : Txt K mg) : OwnFn P w K mg base 1 "_law_sign" ["_law_x"] (spM K (tabs K) M_L_sign) := by
  exact own_ok (k := 0) T.D_L_sign sc_L_sign (fun _ _ _ _ _ _ us hl => match us, hl with | [_], _ => rfl) (fun vs H Q E h => spM_len h) (fun cdv A outer s H vs Q E hr h => ⟨_, PSs.nox (show PSs _ _ (tS K (tabs K) m_L_sign) from (PM.s_seq (pss_cons (PM.s_set (ps_set (i := 1) sc_L_sign.nd rfl (by first | exact Or.inl rfl | exact Or.inr rfl) (c_c pe_str fun _ => .str _)))
  (PM.s_seq (pss_cons (PM.s_set (ps_set (i := 1) sc_L_sign.nd rfl (by first | exact Or.inl rfl | exact Or.inr rfl) (c_op od_add (pe_op op_uAdd (c_vw (pv 1)) (c_w (c_c pe_str fun _ => .str _))))))
  (pss_one (PM.s_ret (ps_ret (c_op od_ix (pe_ix ix_u (c_vw (pv 1)) (c_w (c_op od_mod (pe_op op_modN (c_vw (pv 0)) (c_w (c_cb cb_len (pe_callB (call_lenK K) (by rfl) T.f_len (by decide +kernel) (a_consw (pa_cons (c_vw (pv 1)) (a_nilw pa_nil))))))))) (fun _ _ => rfl))))))))))), spM_in (N := N_L_sign) h⟩)
abbrev N_L_spoilt_row : List Str := ["_law_row_here", "_law_xs", "_law_top", "_law_other", "_law_odd", "_law_names_here", "_law_at", "_law_name_here", "_law_wants"]
theorem sc_L_spoilt_row : FnScope N_L_spoilt_row ["_law_row_here", "_law_xs", "_law_top", "_law_other"] (defScope s_L_spoilt_row) := ⟨rfl, rfl, rfl, by decide +kernel, rfl, by decide +kernel, by decide +kernel⟩
theorem ok_L_spoilt_row (T : Txt K mg) (F_L_sign : OwnFn P w K mg base 1 "_law_sign" ["_law_x"] (spM K (tabs K) M_L_sign)) (F_L_put : OwnFn P w K mg base 1 "_law_put" ["_law_row_here", "_law_k", "_law_thing"] (spM K (tabs K) M_L_put)) : OwnFn P w K mg base 2 "_law_spoilt_row" ["_law_row_here", "_law_xs", "_law_top", "_law_other"] (spM K (tabs K) M_L_spoilt_row) := by
  exact own_ok (k := 1) T.D_L_spoilt_row sc_L_spoilt_row (fun _ _ _ _ _ _ us hl => match us, hl with | [_, _, _, _], _ => rfl) (fun vs H Q E h => spM_len h) (fun cdv A outer s H vs Q E hr h => ⟨_, PSs.nox (show PSs _ _ (tS K (tabs K) m_L_spoilt_row) from (PM.s_seq (pss_cons (PM.s_set (ps_set (i := 4) sc_L_spoilt_row.nd rfl (by first | exact Or.inl rfl | exact Or.inr rfl) (c_f (c_lst (pe_lst (a_cons (pa_cons (c_c pe_int fun _ => .int _) (a_cons (pa_cons (c_c pe_int fun _ => .int _) (a_cons (pa_cons (c_c pe_int fun _ => .int _) (a_cons (pa_cons (c_neg (pe_un un_neg (c_c pe_int fun _ => .int _))) (a_cons (pa_cons (c_c pe_bl fun _ => .bl _) (a_cons (pa_cons (c_c pe_non fun _ => .non) (a_cons (pa_cons (c_c pe_int fun _ => .int _) (a_cons (pa_cons (c_c pe_int fun _ => .int _) (a_cons (pa_cons (c_c pe_str fun _ => .str _) (a_cons (pa_cons (c_tup (pe_tup (a_nil pa_nil))) (a_cons (pa_cons (c_f (c_lst (pe_lst (a_nil pa_nil))) mLst_is) (a_cons (pa_cons (c_op od_mul (pe_op op_uMul (c_w (c_c pe_int fun _ => .int _)) (c_vw (pv 2)))) (a_cons (pa_cons (c_c pe_int fun _ => .int _) (a_cons (pa_cons (c_tup (pe_tup (a_cons (pa_cons (c_c pe_int fun _ => .int _) (a_cons (pa_cons (c_c pe_int fun _ => .int _) (a_nil pa_nil))))))) (a_nil pa_nil))))))))))))))))))))))))))))))) mLst_is)))
  (PM.s_seq (pss_cons (PM.s_if (ps_if (c_opT od_eq (pt_cmpR (op_eqK (room_u64 hr)) (c_w (c_op od_mod (pe_op op_modN (c_w (c_op od_ix (pe_ix ix_u (c_vw (pv 1)) (c_w (c_c pe_int fun _ => .int _)) (fun _ _ => rfl)))) (c_w (c_c pe_int fun _ => .int _))))) (c_w (c_c pe_int fun _ => .int _)) (nomark _))) (PM.s_seq (pss_cons (PM.s_set (ps_set (i := 5) sc_L_spoilt_row.nd rfl (by first | exact Or.inl rfl | exact Or.inr rfl) (c_f (c_lst (pe_lst (a_cons (pa_cons (c_c pe_str fun _ => .str _) (a_cons (pa_cons (c_c pe_str fun _ => .str _) (a_cons (pa_cons (c_c pe_str fun _ => .str _) (a_cons (pa_cons (c_c pe_int fun _ => .int _) (a_cons (pa_cons (c_c pe_non fun _ => .non) (a_cons (pa_cons (c_c pe_str fun _ => .str _) (a_cons (pa_cons (c_tup (pe_tup (a_cons (pa_cons (c_c pe_str fun _ => .str _) (a_nil pa_nil))))) (a_cons (pa_cons (c_c pe_str fun _ => .str _) (a_cons (pa_cons (c_c pe_str fun _ => .str _) (a_cons (pa_cons (c_c pe_str fun _ => .str _) (a_cons (pa_cons (c_op od_add (pe_op op_uAdd (c_w (c_op od_ix (pe_ix ix_u (c_vw (pv 0)) (c_w (c_c pe_int fun _ => .int _)) (fun _ _ => rfl)))) (c_w (c_c pe_str fun _ => .str _)))) (a_cons (pa_cons (c_f (c_lst (pe_lst (a_nil pa_nil))) mLst_is) (a_cons (pa_cons (c_v (pv 3)) (a_nil pa_nil))))))))))))))))))))))))))))) mLst_is)))
  (PM.s_seq (pss_cons (PM.s_set (ps_set (i := 6) sc_L_spoilt_row.nd rfl (by first | exact Or.inl rfl | exact Or.inr rfl) (c_op od_mod (pe_op op_modN (c_w (c_op od_ix (pe_ix ix_u (c_vw (pv 1)) (c_w (c_c pe_int fun _ => .int _)) (fun _ _ => rfl)))) (c_w (c_cb cb_len (pe_callB (call_lenK K) (by rfl) T.f_len (by decide +kernel) (a_consw (pa_cons (c_w (c_op od_ix (pe_ix ix_u (c_vw (pv 0)) (c_w (c_c pe_int fun _ => .int _)) (fun _ _ => rfl)))) (a_nilw pa_nil))))))))))
  (PM.s_seq (pss_cons (PM.s_set (ps_set (i := 7) sc_L_spoilt_row.nd rfl (by first | exact Or.inl rfl | exact Or.inr rfl) (c_op od_add (pe_op op_uAdd (c_w (c_op od_add (pe_op op_uAdd (c_w (c_sl (pe_slice sl_u (c_w (c_op od_ix (pe_ix ix_u (c_vw (pv 0)) (c_w (c_c pe_int fun _ => .int _)) (fun _ _ => rfl)))) (c_pno po_none) (c_pso (po_some (c_v (pv 6))))))) (c_w (c_call (pe_own F_L_sign hr passL (a_cons (pa_cons (c_op od_fdv (pe_op op_fdivG (c_w (c_op od_ix (pe_ix ix_u (c_vw (pv 1)) (c_w (c_c pe_int fun _ => .int _)) (fun _ _ => rfl)))) (c_w (c_c pe_int fun _ => .int _)))) (a_nil pa_nil))))))))) (c_w (c_sl (pe_slice sl_u (c_w (c_op od_ix (pe_ix ix_u (c_vw (pv 0)) (c_w (c_c pe_int fun _ => .int _)) (fun _ _ => rfl)))) (c_pso (po_some (c_op od_add (pe_op op_uAdd (c_vw (pv 6)) (c_w (c_c pe_int fun _ => .int _)))))) (c_pno po_none))))))))
  (pss_one (PM.s_ret (ps_ret (c_call (pe_own F_L_put hr passL (a_cons (pa_cons (c_v (pv 0)) (a_cons (pa_cons (c_c pe_int fun _ => .int _) (a_cons (pa_cons (c_op od_ix (pe_ix ix_u (c_w (c_op od_add (pe_op op_uAdd (c_vw (pv 5)) (c_fw (c_repF (pe_op op_rep (c_lst (pe_lst (a_cons (pa_cons (c_v (pv 7)) (a_nil pa_nil))))) (c_w (c_c pe_int fun _ => .int _)))))))) (c_w (c_op od_mod (pe_op op_modN (c_w (c_op od_ix (pe_ix ix_u (c_vw (pv 1)) (c_w (c_c pe_int fun _ => .int _)) (fun _ _ => rfl)))) (c_w (c_c pe_int fun _ => .int _))))) (fun _ _ => rfl))) (a_nil pa_nil)))))))))))))))))) (PM.s_nil pss_nil)))
  (PM.s_seq (pss_cons (PM.s_if (ps_if (c_opT od_eq (pt_cmpR (op_eqK (room_u64 hr)) (c_w (c_op od_mod (pe_op op_modN (c_w (c_op od_ix (pe_ix ix_u (c_vw (pv 1)) (c_w (c_c pe_int fun _ => .int _)) (fun _ _ => rfl)))) (c_w (c_c pe_int fun _ => .int _))))) (c_w (c_c pe_int fun _ => .int _)) (nomark _))) (pss_one (PM.s_ret (ps_ret (c_op od_ix (pe_ix ix_u (c_fw (c_lst (pe_lst (a_cons (pa_cons (c_f (c_cbF cb_list (pe_callTy call_listK (by rfl) T.f_list (by decide +kernel) (a_consw (pa_cons (c_vw (pv 0)) (a_nilw pa_nil))))) mList_is) (a_cons (pa_cons (c_sl (pe_slice sl_u (c_vw (pv 0)) (c_pno po_none) (c_pso (po_some (c_neg (pe_un un_neg (c_c pe_int fun _ => .int _))))))) (a_cons (pa_cons (c_op od_add (pe_op op_uAdd (c_vw (pv 0)) (c_w (c_tup (pe_tup (a_cons (pa_cons (c_c pe_int fun _ => .int _) (a_nil pa_nil)))))))) (a_cons (pa_cons (c_revU (c_rev (pe_revK (c_vw (pv 0)))) (c_revL (pe_revL (c_vw (pv 0))))) (a_cons (pa_cons (c_c pe_non fun _ => .non) (a_cons (pa_cons (c_c pe_int fun _ => .int _) (a_cons (pa_cons (c_c pe_str fun _ => .str _) (a_cons (pa_cons (c_dct (pe_frz pe_dnewK)) (a_nil pa_nil)))))))))))))))))))) (c_w (c_op od_mod (pe_op op_modN (c_w (c_op od_ix (pe_ix ix_u (c_vw (pv 1)) (c_w (c_c pe_int fun _ => .int _)) (fun _ _ => rfl)))) (c_w (c_c pe_int fun _ => .int _))))) (fun _ _ => rfl)))))) (PM.s_nil pss_nil)))
  (PM.s_seq (pss_cons (PM.s_if (ps_if (PW.pt (c_and (pw_and (c_opT od_eq (pt_cmpR (op_eqK (room_u64 hr)) (c_w (c_op od_mod (pe_op op_modN (c_w (c_op od_ix (pe_ix ix_u (c_vw (pv 1)) (c_w (c_c pe_int fun _ => .int _)) (fun _ _ => rfl)))) (c_w (c_c pe_int fun _ => .int _))))) (c_w (c_c pe_int fun _ => .int _)) (nomark _))) (pw_and1 (c_opT od_eq (pt_cmpR (op_eqK (room_u64 hr)) (c_w (c_cb cb_len (pe_callB (call_lenK K) (by rfl) T.f_len (by decide +kernel) (a_consw (pa_cons (c_vw (pv 0)) (a_nilw pa_nil)))))) (c_w (c_c pe_int fun _ => .int _)) (nomark _))))))) (PM.s_seq (pss_cons (PM.s_set (ps_set (i := 8) sc_L_spoilt_row.nd rfl (by first | exact Or.inl rfl | exact Or.inr rfl) (c_f (c_lst (pe_lst (a_cons (pa_cons (c_f (c_cbF cb_list (pe_callTy call_listK (by rfl) T.f_list (by decide +kernel) (a_consw (pa_cons (c_w (c_op od_ix (pe_ix ix_u (c_vw (pv 0)) (c_w (c_c pe_int fun _ => .int _)) (fun _ _ => rfl)))) (a_nilw pa_nil))))) mList_is) (a_cons (pa_cons (c_op od_add (pe_op op_uAdd (c_w (c_op od_ix (pe_ix ix_u (c_vw (pv 0)) (c_w (c_c pe_int fun _ => .int _)) (fun _ _ => rfl)))) (c_w (c_sl (pe_slice sl_u (c_w (c_op od_ix (pe_ix ix_u (c_vw (pv 0)) (c_w (c_c pe_int fun _ => .int _)) (fun _ _ => rfl)))) (c_pno po_none) (c_pso (po_some (c_c pe_int fun _ => .int _)))))))) (a_cons (pa_cons (c_revU (c_rev (pe_revK (c_w (c_op od_ix (pe_ix ix_u (c_vw (pv 0)) (c_w (c_c pe_int fun _ => .int _)) (fun _ _ => rfl)))))) (c_revL (pe_revL (c_w (c_op od_ix (pe_ix ix_u (c_vw (pv 0)) (c_w (c_c pe_int fun _ => .int _)) (fun _ _ => rfl))))))) (a_cons (pa_cons (c_op od_add (pe_op op_uAdd (c_w (c_op od_ix (pe_ix ix_u (c_vw (pv 0)) (c_w (c_c pe_int fun _ => .int _)) (fun _ _ => rfl)))) (c_w (c_tup (pe_tup (a_cons (pa_cons (c_c pe_str fun _ => .str _) (a_nil pa_nil)))))))) (a_nil pa_nil))))))))))) mLst_is)))
  (PM.s_seq (pss_cons (PM.s_set (ps_set (i := 8) sc_L_spoilt_row.nd rfl (by first | exact Or.inl rfl | exact Or.inr rfl) (c_op od_add (pe_op op_uAdd (c_vw (pv 8)) (c_fw (c_lst (pe_lst (a_cons (pa_cons (c_tup (pe_tup (a_cons (pa_cons (c_op od_ix (pe_ix ix_u (c_vw (pv 0)) (c_w (c_c pe_int fun _ => .int _)) (fun _ _ => rfl))) (a_nil pa_nil))))) (a_cons (pa_cons (c_c pe_non fun _ => .non) (a_cons (pa_cons (c_op od_ix (pe_ix ix_u (c_vw (pv 0)) (c_w (c_c pe_int fun _ => .int _)) (fun _ _ => rfl))) (a_cons (pa_cons (c_tup (pe_tup (a_cons (pa_cons (c_tup (pe_tup (a_nil pa_nil))) (a_nil pa_nil))))) (a_cons (pa_cons (c_tup (pe_tup (a_cons (pa_cons (c_f (c_lst (pe_lst (a_nil pa_nil))) mLst_is) (a_nil pa_nil))))) (a_cons (pa_cons (c_tup (pe_tup (a_cons (pa_cons (c_dct (pe_frz pe_dnewK)) (a_nil pa_nil))))) (a_nil pa_nil))))))))))))))))))))
  (PM.s_seq (pss_cons (PM.s_set (ps_set (i := 8) sc_L_spoilt_row.nd rfl (by first | exact Or.inl rfl | exact Or.inr rfl) (c_op od_add (pe_op op_uAdd (c_vw (pv 8)) (c_fw (c_lst (pe_lst (a_cons (pa_cons (c_op od_add (pe_op op_uAdd (c_w (c_op od_ix (pe_ix ix_u (c_vw (pv 0)) (c_w (c_c pe_int fun _ => .int _)) (fun _ _ => rfl)))) (c_w (c_tup (pe_tup (a_cons (pa_cons (c_c pe_non fun _ => .non) (a_nil pa_nil)))))))) (a_cons (pa_cons (c_op od_add (pe_op op_uAdd (c_w (c_tup (pe_tup (a_cons (pa_cons (c_c pe_int fun _ => .int _) (a_nil pa_nil)))))) (c_w (c_op od_ix (pe_ix ix_u (c_vw (pv 0)) (c_w (c_c pe_int fun _ => .int _)) (fun _ _ => rfl)))))) (a_cons (pa_cons (c_op od_add (pe_op op_uAdd (c_w (c_op od_ix (pe_ix ix_u (c_vw (pv 0)) (c_w (c_c pe_int fun _ => .int _)) (fun _ _ => rfl)))) (c_w (c_tup (pe_tup (a_cons (pa_cons (c_f (c_lst (pe_lst (a_nil pa_nil))) mLst_is) (a_nil pa_nil)))))))) (a_nil pa_nil))))))))))))))
  (pss_one (PM.s_ret (ps_ret (c_call (pe_own F_L_put hr passL (a_cons (pa_cons (c_v (pv 0)) (a_cons (pa_cons (c_c pe_int fun _ => .int _) (a_cons (pa_cons (c_op od_ix (pe_ix ix_u (c_vw (pv 8)) (c_w (c_op od_mod (pe_op op_modN (c_w (c_op od_ix (pe_ix ix_u (c_vw (pv 1)) (c_w (c_c pe_int fun _ => .int _)) (fun _ _ => rfl)))) (c_w (c_c pe_int fun _ => .int _))))) (fun _ _ => rfl))) (a_nil pa_nil)))))))))))))))))) (PM.s_nil pss_nil)))
  (pss_one (PM.s_ret (ps_ret (c_call (pe_own F_L_put hr passL (a_cons (pa_cons (c_v (pv 0)) (a_cons (pa_cons (c_op od_add (pe_op op_uAdd (c_w (c_c pe_int fun _ => .int _)) (c_w (c_op od_mod (pe_op op_modN (c_w (c_op od_ix (pe_ix ix_u (c_vw (pv 1)) (c_w (c_c pe_int fun _ => .int _)) (fun _ _ => rfl)))) (c_w (c_c pe_int fun _ => .int _))))))) (a_cons (pa_cons (c_op od_ix (pe_ix ix_u (c_vw (pv 4)) (c_w (c_op od_mod (pe_op op_modN (c_w (c_op od_ix (pe_ix ix_u (c_vw (pv 1)) (c_w (c_c pe_int fun _ => .int _)) (fun _ _ => rfl)))) (c_w (c_c pe_int fun _ => .int _))))) (fun _ _ => rfl))) (a_nil pa_nil))))))))))))))))))))), spM_in (N := N_L_spoilt_row) h⟩)
abbrev N_L_spoilt : List Str := ["_law_house_here", "_law_xs", "_law_way", "_law_top", "_law_jobs", "_law_tools", "_law_some", "_law_k", "_law_other", "_law_row_here"]
theorem sc_L_spoilt : FnScope N_L_spoilt ["_law_house_here", "_law_xs"] (defScope s_L_spoilt) := ⟨rfl, rfl, rfl, by decide +kernel, rfl, by decide +kernel, by decide +kernel⟩
theorem ok_L_spoilt (T : Txt K mg) (F_L_spoilt_row : OwnFn P w K mg base 2 "_law_spoilt_row" ["_law_row_here", "_law_xs", "_law_top", "_law_other"] (spM K (tabs K) M_L_spoilt_row)) : OwnFn P w K mg base 3 "_law_spoilt" ["_law_house_here", "_law_xs"] (spM K (tabs K) M_L_spoilt) := by
  exact own_ok (k := 2) T.D_L_spoilt sc_L_spoilt (fun _ _ _ _ _ _ us hl => match us, hl with | [_, _], _ => rfl) (fun vs H Q E h => spM_len h) (fun cdv A outer s H vs Q E hr h => ⟨_, PSs.nox (show PSs _ _ (tS K (tabs K) m_L_spoilt) from (PM.s_seq (pss_cons (PM.s_asg (ps_asg (c_v (pv 0)) (c_gt [3, 4, 5] (pg_tupK rfl (pgs_cons (pg_name (i := 3) sc_L_spoilt.nd rfl (by first | exact Or.inl rfl | exact Or.inr rfl)) (pgs_cons (pg_name (i := 4) sc_L_spoilt.nd rfl (by first | exact Or.inl rfl | exact Or.inr rfl)) (pgs_cons (pg_name (i := 5) sc_L_spoilt.nd rfl (by first | exact Or.inl rfl | exact Or.inr rfl)) pgs_nil)))))))
  (PM.s_seq (pss_cons (PM.s_set (ps_set (i := 2) sc_L_spoilt.nd rfl (by first | exact Or.inl rfl | exact Or.inr rfl) (c_op od_mod (pe_op op_modN (c_w (c_op od_ix (pe_ix ix_u (c_vw (pv 1)) (c_w (c_c pe_int fun _ => .int _)) (fun _ _ => rfl)))) (c_w (c_c pe_int fun _ => .int _))))))
  (PM.s_seq (pss_cons (PM.s_if (ps_if (c_opT od_eq (pt_cmpR (op_eqK (room_u64 hr)) (c_vw (pv 2)) (c_w (c_c pe_int fun _ => .int _)) (nomark _))) (pss_one (PM.s_ret (ps_ret (c_tup (pe_tup (a_cons (pa_cons (c_op od_ix (pe_ix ix_u (c_fw (c_lst (pe_lst (a_cons (pa_cons (c_c pe_int fun _ => .int _) (a_cons (pa_cons (c_c pe_int fun _ => .int _) (a_cons (pa_cons (c_c pe_int fun _ => .int _) (a_cons (pa_cons (c_c pe_int fun _ => .int _) (a_cons (pa_cons (c_c pe_bl fun _ => .bl _) (a_cons (pa_cons (c_c pe_non fun _ => .non) (a_cons (pa_cons (c_c pe_str fun _ => .str _) (a_cons (pa_cons (c_tup (pe_tup (a_cons (pa_cons (c_c pe_int fun _ => .int _) (a_cons (pa_cons (c_c pe_int fun _ => .int _) (a_nil pa_nil))))))) (a_nil pa_nil)))))))))))))))))))) (c_w (c_op od_mod (pe_op op_modN (c_w (c_op od_ix (pe_ix ix_u (c_vw (pv 1)) (c_w (c_c pe_int fun _ => .int _)) (fun _ _ => rfl)))) (c_w (c_c pe_int fun _ => .int _))))) (fun _ _ => rfl))) (a_cons (pa_cons (c_v (pv 4)) (a_cons (pa_cons (c_v (pv 5)) (a_nil pa_nil)))))))))))) (PM.s_nil pss_nil)))
  (PM.s_seq (pss_cons (PM.s_if (ps_if (c_opT od_eq (pt_cmpR (op_eqK (room_u64 hr)) (c_vw (pv 2)) (c_w (c_c pe_int fun _ => .int _)) (nomark _))) (PM.s_seq (pss_cons (PM.s_set (ps_set (i := 6) sc_L_spoilt.nd rfl (by first | exact Or.inl rfl | exact Or.inr rfl) (c_f (c_lst (pe_lst (a_cons (pa_cons (c_f (c_cbF cb_list (pe_callTy call_listK (by rfl) T.f_list (by decide +kernel) (a_consw (pa_cons (c_vw (pv 0)) (a_nilw pa_nil))))) mList_is) (a_cons (pa_cons (c_sl (pe_slice sl_u (c_vw (pv 0)) (c_pno po_none) (c_pso (po_some (c_c pe_int fun _ => .int _))))) (a_cons (pa_cons (c_op od_add (pe_op op_uAdd (c_vw (pv 0)) (c_w (c_tup (pe_tup (a_cons (pa_cons (c_tup (pe_tup (a_nil pa_nil))) (a_nil pa_nil)))))))) (a_cons (pa_cons (c_tup (pe_tup (a_cons (pa_cons (c_v (pv 3)) (a_cons (pa_cons (c_f (c_cbF cb_list (pe_callTy call_listK (by rfl) T.f_list (by decide +kernel) (a_consw (pa_cons (c_vw (pv 4)) (a_nilw pa_nil))))) mList_is) (a_cons (pa_cons (c_v (pv 5)) (a_nil pa_nil))))))))) (a_nil pa_nil))))))))))) mLst_is)))
  (pss_one (PM.s_ret (ps_ret (c_op od_ix (pe_ix ix_u (c_w (c_op od_add (pe_op op_uAdd (c_vw (pv 6)) (c_fw (c_lst (pe_lst (a_cons (pa_cons (c_tup (pe_tup (a_cons (pa_cons (c_v (pv 3)) (a_cons (pa_cons (c_v (pv 4)) (a_cons (pa_cons (c_f (c_cbF cb_list (pe_callTy call_listK (by rfl) T.f_list (by decide +kernel) (a_consw (pa_cons (c_vw (pv 5)) (a_nilw pa_nil))))) mList_is) (a_nil pa_nil))))))))) (a_nil pa_nil))))))))) (c_w (c_op od_mod (pe_op op_modN (c_w (c_op od_ix (pe_ix ix_u (c_vw (pv 1)) (c_w (c_c pe_int fun _ => .int _)) (fun _ _ => rfl)))) (c_w (c_c pe_int fun _ => .int _))))) (fun _ _ => rfl)))))))) (PM.s_nil pss_nil)))
  (PM.s_seq (pss_cons (PM.s_if (ps_if (c_opT od_eq (pt_cmpR (op_eqK (room_u64 hr)) (c_vw (pv 2)) (c_w (c_c pe_int fun _ => .int _)) (nomark _))) (PM.s_seq (pss_cons (PM.s_set (ps_set (i := 6) sc_L_spoilt.nd rfl (by first | exact Or.inl rfl | exact Or.inr rfl) (c_f (c_lst (pe_lst (a_cons (pa_cons (c_tup (pe_tup (a_cons (pa_cons (c_v (pv 3)) (a_cons (pa_cons (c_revU (c_rev (pe_revK (c_vw (pv 4)))) (c_revL (pe_revL (c_vw (pv 4))))) (a_cons (pa_cons (c_v (pv 5)) (a_nil pa_nil))))))))) (a_cons (pa_cons (c_tup (pe_tup (a_cons (pa_cons (c_v (pv 3)) (a_cons (pa_cons (c_v (pv 4)) (a_cons (pa_cons (c_revU (c_rev (pe_revK (c_vw (pv 5)))) (c_revL (pe_revL (c_vw (pv 5))))) (a_nil pa_nil))))))))) (a_nil pa_nil))))))) mLst_is)))
  (pss_one (PM.s_ret (ps_ret (c_op od_ix (pe_ix ix_u (c_w (c_op od_add (pe_op op_uAdd (c_vw (pv 6)) (c_fw (c_lst (pe_lst (a_cons (pa_cons (c_tup (pe_tup (a_cons (pa_cons (c_v (pv 3)) (a_cons (pa_cons (c_v (pv 5)) (a_cons (pa_cons (c_v (pv 4)) (a_nil pa_nil))))))))) (a_cons (pa_cons (c_tup (pe_tup (a_cons (pa_cons (c_v (pv 3)) (a_cons (pa_cons (c_tup (pe_tup (a_nil pa_nil))) (a_cons (pa_cons (c_tup (pe_tup (a_nil pa_nil))) (a_nil pa_nil))))))))) (a_nil pa_nil))))))))))) (c_w (c_op od_mod (pe_op op_modN (c_w (c_op od_ix (pe_ix ix_u (c_vw (pv 1)) (c_w (c_c pe_int fun _ => .int _)) (fun _ _ => rfl)))) (c_w (c_c pe_int fun _ => .int _))))) (fun _ _ => rfl)))))))) (PM.s_nil pss_nil)))
  (PM.s_seq (pss_cons (PM.s_if (ps_if (PW.pt (c_and (pw_and (c_opT od_eq (pt_cmpR (op_eqK (room_u64 hr)) (c_vw (pv 2)) (c_w (c_c pe_int fun _ => .int _)) (nomark _))) (pw_and1 (c_opT od_ne (pt_cmpR (op_neK (room_u64 hr)) (c_vw (pv 5)) (c_w (c_tup (pe_tup (a_nil pa_nil)))) (nomark _))))))) (pss_one (PM.s_ret (ps_ret (c_tup (pe_tup (a_cons (pa_cons (c_v (pv 3)) (a_cons (pa_cons (c_v (pv 4)) (a_cons (pa_cons (c_op od_add (pe_op op_uAdd (c_vw (pv 5)) (c_w (c_sl (pe_slice sl_u (c_w (c_sl (pe_slice sl_u (c_vw (pv 5)) (c_pso (po_some (c_op od_mod (pe_op op_modN (c_w (c_op od_ix (pe_ix ix_u (c_vw (pv 1)) (c_w (c_c pe_int fun _ => .int _)) (fun _ _ => rfl)))) (c_w (c_cb cb_len (pe_callB (call_lenK K) (by rfl) T.f_len (by decide +kernel) (a_consw (pa_cons (c_vw (pv 5)) (a_nilw pa_nil)))))))))) (c_pno po_none)))) (c_pno po_none) (c_pso (po_some (c_c pe_int fun _ => .int _)))))))) (a_nil pa_nil)))))))))))) (PM.s_nil pss_nil)))
  (PM.s_seq (pss_cons (PM.s_if (ps_if (PW.pt (c_and (pw_and (c_opT od_eq (pt_cmpR (op_eqK (room_u64 hr)) (c_vw (pv 2)) (c_w (c_c pe_int fun _ => .int _)) (nomark _))) (pw_and1 (c_opT od_ne (pt_cmpR (op_neK (room_u64 hr)) (c_vw (pv 4)) (c_w (c_tup (pe_tup (a_nil pa_nil)))) (nomark _))))))) (PM.s_seq (pss_cons (PM.s_set (ps_set (i := 7) sc_L_spoilt.nd rfl (by first | exact Or.inl rfl | exact Or.inr rfl) (c_op od_mod (pe_op op_modN (c_w (c_op od_ix (pe_ix ix_u (c_vw (pv 1)) (c_w (c_c pe_int fun _ => .int _)) (fun _ _ => rfl)))) (c_w (c_cb cb_len (pe_callB (call_lenK K) (by rfl) T.f_len (by decide +kernel) (a_consw (pa_cons (c_vw (pv 4)) (a_nilw pa_nil))))))))))
  (PM.s_seq (pss_cons (PM.s_set (ps_set (i := 8) sc_L_spoilt.nd rfl (by first | exact Or.inl rfl | exact Or.inr rfl) (c_op od_ix (pe_ix ix_u (c_w (c_op od_ix (pe_ix ix_u (c_w (c_op od_add (pe_op op_uAdd (c_vw (pv 5)) (c_vw (pv 4))))) (c_w (c_c pe_int fun _ => .int _)) (fun _ _ => rfl)))) (c_w (c_c pe_int fun _ => .int _)) (fun _ _ => rfl)))))
  (PM.s_seq (pss_cons (PM.s_set (ps_set (i := 9) sc_L_spoilt.nd rfl (by first | exact Or.inl rfl | exact Or.inr rfl) (c_call (pe_own F_L_spoilt_row hr passL (a_cons (pa_cons (c_op od_ix (pe_ix ix_u (c_vw (pv 4)) (c_vw (pv 7)) (fun _ _ => rfl))) (a_cons (pa_cons (c_sl (pe_slice sl_u (c_vw (pv 1)) (c_pso (po_some (c_c pe_int fun _ => .int _))) (c_pno po_none))) (a_cons (pa_cons (c_v (pv 3)) (a_cons (pa_cons (c_v (pv 8)) (a_nil pa_nil)))))))))))))
  (pss_one (PM.s_ret (ps_ret (c_tup (pe_tup (a_cons (pa_cons (c_v (pv 3)) (a_cons (pa_cons (c_op od_add (pe_op op_uAdd (c_w (c_op od_add (pe_op op_uAdd (c_w (c_sl (pe_slice sl_u (c_vw (pv 4)) (c_pno po_none) (c_pso (po_some (c_v (pv 7))))))) (c_w (c_tup (pe_tup (a_cons (pa_cons (c_v (pv 9)) (a_nil pa_nil))))))))) (c_w (c_sl (pe_slice sl_u (c_vw (pv 4)) (c_pso (po_some (c_op od_add (pe_op op_uAdd (c_vw (pv 7)) (c_w (c_c pe_int fun _ => .int _)))))) (c_pno po_none)))))) (a_cons (pa_cons (c_v (pv 5)) (a_nil pa_nil)))))))))))))))))) (PM.s_nil pss_nil)))
  (PM.s_seq (pss_cons (PM.s_if (ps_if (c_opT od_ne (pt_cmpR (op_neK (room_u64 hr)) (c_vw (pv 5)) (c_w (c_tup (pe_tup (a_nil pa_nil)))) (nomark _))) (PM.s_seq (pss_cons (PM.s_set (ps_set (i := 7) sc_L_spoilt.nd rfl (by first | exact Or.inl rfl | exact Or.inr rfl) (c_op od_mod (pe_op op_modN (c_w (c_op od_ix (pe_ix ix_u (c_vw (pv 1)) (c_w (c_c pe_int fun _ => .int _)) (fun _ _ => rfl)))) (c_w (c_cb cb_len (pe_callB (call_lenK K) (by rfl) T.f_len (by decide +kernel) (a_consw (pa_cons (c_vw (pv 5)) (a_nilw pa_nil))))))))))
  (PM.s_seq (pss_cons (PM.s_set (ps_set (i := 8) sc_L_spoilt.nd rfl (by first | exact Or.inl rfl | exact Or.inr rfl) (c_op od_ix (pe_ix ix_u (c_w (c_op od_ix (pe_ix ix_u (c_w (c_op od_add (pe_op op_uAdd (c_vw (pv 4)) (c_vw (pv 5))))) (c_w (c_c pe_int fun _ => .int _)) (fun _ _ => rfl)))) (c_w (c_c pe_int fun _ => .int _)) (fun _ _ => rfl)))))
  (PM.s_seq (pss_cons (PM.s_set (ps_set (i := 9) sc_L_spoilt.nd rfl (by first | exact Or.inl rfl | exact Or.inr rfl) (c_call (pe_own F_L_spoilt_row hr passL (a_cons (pa_cons (c_op od_ix (pe_ix ix_u (c_vw (pv 5)) (c_vw (pv 7)) (fun _ _ => rfl))) (a_cons (pa_cons (c_sl (pe_slice sl_u (c_vw (pv 1)) (c_pso (po_some (c_c pe_int fun _ => .int _))) (c_pno po_none))) (a_cons (pa_cons (c_v (pv 3)) (a_cons (pa_cons (c_v (pv 8)) (a_nil pa_nil)))))))))))))
  (pss_one (PM.s_ret (ps_ret (c_tup (pe_tup (a_cons (pa_cons (c_v (pv 3)) (a_cons (pa_cons (c_v (pv 4)) (a_cons (pa_cons (c_op od_add (pe_op op_uAdd (c_w (c_op od_add (pe_op op_uAdd (c_w (c_sl (pe_slice sl_u (c_vw (pv 5)) (c_pno po_none) (c_pso (po_some (c_v (pv 7))))))) (c_w (c_tup (pe_tup (a_cons (pa_cons (c_v (pv 9)) (a_nil pa_nil))))))))) (c_w (c_sl (pe_slice sl_u (c_vw (pv 5)) (c_pso (po_some (c_op od_add (pe_op op_uAdd (c_vw (pv 7)) (c_w (c_c pe_int fun _ => .int _)))))) (c_pno po_none)))))) (a_nil pa_nil)))))))))))))))))) (PM.s_nil pss_nil)))
  (pss_one (PM.s_ret (ps_ret (c_tup (pe_tup (a_cons (pa_cons (c_v (pv 3)) (a_cons (pa_cons (c_sl (pe_slice sl_u (c_vw (pv 4)) (c_pso (po_some (c_op od_mod (pe_op op_modN (c_w (c_op od_ix (pe_ix ix_u (c_vw (pv 1)) (c_w (c_c pe_int fun _ => .int _)) (fun _ _ => rfl)))) (c_w (c_cb cb_len (pe_callB (call_lenK K) (by rfl) T.f_len (by decide +kernel) (a_consw (pa_cons (c_vw (pv 4)) (a_nilw pa_nil)))))))))) (c_pno po_none))) (a_cons (pa_cons (c_v (pv 5)) (a_nil pa_nil))))))))))))))))))))))))))))), spM_in (N := N_L_spoilt) h⟩)
abbrev N_L_edges : List Str := ["_law_tools", "_law_wants", "_law_jobs", "_law_found", "_law_five", "_law_k", "_law_tool"]
theorem sc_L_edges : FnScope N_L_edges [] (defScope s_L_edges) := ⟨rfl, rfl, rfl, by decide +kernel, rfl, by decide +kernel, by decide +kernel⟩
theorem ok_L_edges (T : Txt K mg) : OwnFn P w K mg base 1 "_law_edges" [] (spM K (tabs K) M_L_edges) := by
  exact own_ok (k := 0) T.D_L_edges sc_L_edges (fun _ _ _ _ _ _ us hl => match us, hl with | [], _ => rfl) (fun vs H Q E h => spM_len h) (fun cdv A outer s H vs Q E hr h => ⟨_, PSs.nox (show PSs _ _ (tS K (tabs K) m_L_edges) from (PM.s_seq (pss_cons (PM.s_set (ps_set (i := 0) sc_L_edges.nd rfl (by first | exact Or.inl rfl | exact Or.inr rfl) (c_cb cb_tuple (pe_callTy (call_tupK K) (by rfl) T.f_tuple (by decide +kernel) (a_consw (pa_cons (c_fw (c_lc (pe_lc (own := [("_law_k", 5)]) (by rfl) sc_L_edges.nd (c_ih (c_irng (pi_range1 (by rfl) T.f_range (a_cons (pa_cons (c_c pe_int fun _ => .int _) (a_nil pa_nil)))))) (blkOk_by (own := [("_law_k", 5)]) (N := N_L_edges) (sc := defScope s_L_edges) (by decide +kernel)) (fun _ _ _ _ _ => (c_gn (pg_name (i := 5) sc_L_edges.nd rfl (by first | exact Or.inl rfl | exact Or.inr rfl)))) (fun _ _ _ _ _ => (q_nil pts_nil)) (fun _ _ _ _ _ => (c_tup (pe_tup (a_cons (pa_cons (c_op od_add (pe_op op_uAdd (c_w (c_c pe_str fun _ => .str _)) (c_w (c_sl (pe_slice sl_u (c_w (c_c pe_str fun _ => .str _)) (c_pno po_none) (c_pso (po_some (c_v (pv 5))))))))) (a_cons (pa_cons (c_c pe_int fun _ => .int _) (a_cons (pa_cons (c_c pe_int fun _ => .int _) (a_nil pa_nil))))))))))))) (a_nilw pa_nil)))))))
  (PM.s_seq (pss_cons (PM.s_set (ps_set (i := 1) sc_L_edges.nd rfl (by first | exact Or.inl rfl | exact Or.inr rfl) (c_cb cb_tuple (pe_callTy (call_tupK K) (by rfl) T.f_tuple (by decide +kernel) (a_consw (pa_cons (c_fw (c_lc (pe_lc (own := [("_law_tool", 6)]) (by rfl) sc_L_edges.nd (c_iseqw (pi_seq (c_vw (pv 0)))) (blkOk_by (own := [("_law_tool", 6)]) (N := N_L_edges) (sc := defScope s_L_edges) (by decide +kernel)) (fun _ _ _ _ _ => (c_gn (pg_name (i := 6) sc_L_edges.nd rfl (by first | exact Or.inl rfl | exact Or.inr rfl)))) (fun _ _ _ _ _ => (q_nil pts_nil)) (fun _ _ _ _ _ => (c_op od_ix (pe_ix ix_u (c_vw (pv 6)) (c_w (c_c pe_int fun _ => .int _)) (fun _ _ => rfl))))))) (a_nilw pa_nil)))))))
  (PM.s_seq (pss_cons (PM.s_set (ps_set (i := 2) sc_L_edges.nd rfl (by first | exact Or.inl rfl | exact Or.inr rfl) (c_cb cb_tuple (pe_callTy (call_tupK K) (by rfl) T.f_tuple (by decide +kernel) (a_consw (pa_cons (c_fw (c_lc (pe_lc (own := [("_law_k", 5)]) (by rfl) sc_L_edges.nd (c_ih (c_irng (pi_range1 (by rfl) T.f_range (a_cons (pa_cons (c_c pe_int fun _ => .int _) (a_nil pa_nil)))))) (blkOk_by (own := [("_law_k", 5)]) (N := N_L_edges) (sc := defScope s_L_edges) (by decide +kernel)) (fun _ _ _ _ _ => (c_gn (pg_name (i := 5) sc_L_edges.nd rfl (by first | exact Or.inl rfl | exact Or.inr rfl)))) (fun _ _ _ _ _ => (q_nil pts_nil)) (fun _ _ _ _ _ => (c_tup (pe_tup (a_cons (pa_cons (c_op od_mul (pe_op op_uMul (c_w (c_c pe_str fun _ => .str _)) (c_w (c_op od_add (pe_op op_uAdd (c_vw (pv 5)) (c_w (c_c pe_int fun _ => .int _))))))) (a_cons (pa_cons (c_c pe_int fun _ => .int _) (a_cons (pa_cons (c_c pe_int fun _ => .int _) (a_cons (pa_cons (c_v (pv 1)) (a_nil pa_nil))))))))))))))) (a_nilw pa_nil)))))))
  (PM.s_seq (pss_cons (PM.s_setO (ps_set (i := 3) sc_L_edges.nd rfl (by first | exact Or.inl rfl | exact Or.inr rfl) (c_lst (pe_lst (a_cons (pa_cons (c_tup (pe_tup (a_cons (pa_cons (c_c pe_int fun _ => .int _) (a_cons (pa_cons (c_v (pv 2)) (a_cons (pa_cons (c_v (pv 0)) (a_nil pa_nil))))))))) (a_cons (pa_cons (c_tup (pe_tup (a_cons (pa_cons (c_c pe_int fun _ => .int _) (a_cons (pa_cons (c_op od_add (pe_op op_uAdd (c_w (c_sl (pe_slice sl_u (c_vw (pv 2)) (c_pno po_none) (c_pso (po_some (c_c pe_int fun _ => .int _)))))) (c_w (c_tup (pe_tup (a_cons (pa_cons (c_tup (pe_tup (a_cons (pa_cons (c_c pe_str fun _ => .str _) (a_cons (pa_cons (c_c pe_int fun _ => .int _) (a_cons (pa_cons (c_c pe_int fun _ => .int _) (a_cons (pa_cons (c_sl (pe_slice sl_u (c_vw (pv 1)) (c_pso (po_some (c_c pe_int fun _ => .int _))) (c_pno po_none))) (a_nil pa_nil))))))))))) (a_nil pa_nil)))))))) (a_cons (pa_cons (c_v (pv 0)) (a_nil pa_nil))))))))) (a_nil pa_nil)))))))))
  (PM.s_seq (pss_cons (PM.s_setO (ps_set (i := 3) sc_L_edges.nd rfl (by first | exact Or.inl rfl | exact Or.inr rfl) (c_catF (pe_op op_uAdd (c_vw (pv 3)) (c_fw (c_lst (pe_lst (a_cons (pa_cons (c_tup (pe_tup (a_cons (pa_cons (c_c pe_int fun _ => .int _) (a_cons (pa_cons (c_v (pv 2)) (a_cons (pa_cons (c_op od_add (pe_op op_uAdd (c_vw (pv 0)) (c_w (c_tup (pe_tup (a_cons (pa_cons (c_tup (pe_tup (a_cons (pa_cons (c_c pe_str fun _ => .str _) (a_cons (pa_cons (c_c pe_int fun _ => .int _) (a_cons (pa_cons (c_c pe_int fun _ => .int _) (a_nil pa_nil))))))))) (a_nil pa_nil)))))))) (a_nil pa_nil))))))))) (a_cons (pa_cons (c_tup (pe_tup (a_cons (pa_cons (c_c pe_int fun _ => .int _) (a_cons (pa_cons (c_tup (pe_tup (a_nil pa_nil))) (a_cons (pa_cons (c_v (pv 0)) (a_nil pa_nil))))))))) (a_cons (pa_cons (c_tup (pe_tup (a_cons (pa_cons (c_c pe_int fun _ => .int _) (a_cons (pa_cons (c_sl (pe_slice sl_u (c_vw (pv 2)) (c_pno po_none) (c_pso (po_some (c_c pe_int fun _ => .int _))))) (a_cons (pa_cons (c_op od_add (pe_op op_uAdd (c_vw (pv 0)) (c_w (c_sl (pe_slice sl_u (c_vw (pv 0)) (c_pno po_none) (c_pso (po_some (c_c pe_int fun _ => .int _)))))))) (a_nil pa_nil))))))))) (a_nil pa_nil))))))))))))))
  (PM.s_seq (pss_cons (PM.s_set (ps_set (i := 4) sc_L_edges.nd rfl (by first | exact Or.inl rfl | exact Or.inr rfl) (c_op od_add (pe_op op_uAdd (c_vw (pv 0)) (c_w (c_tup (pe_tup (a_cons (pa_cons (c_tup (pe_tup (a_cons (pa_cons (c_c pe_str fun _ => .str _) (a_cons (pa_cons (c_c pe_int fun _ => .int _) (a_cons (pa_cons (c_c pe_int fun _ => .int _) (a_nil pa_nil))))))))) (a_nil pa_nil))))))))))
  (PM.s_seq (pss_cons (PM.s_app (ps_expr (pe_bm PySem.F.plainAttrs_list PySem.F.slot_list_append PySem.F.type_list_append mt_append (pv 3) (pa_cons (c_tup (pe_tup (a_cons (pa_cons (c_c pe_int fun _ => .int _) (a_cons (pa_cons (c_op od_add (pe_op op_uAdd (c_w (c_sl (pe_slice sl_u (c_vw (pv 2)) (c_pno po_none) (c_pso (po_some (c_c pe_int fun _ => .int _)))))) (c_w (c_tup (pe_tup (a_cons (pa_cons (c_tup (pe_tup (a_cons (pa_cons (c_c pe_str fun _ => .str _) (a_cons (pa_cons (c_c pe_int fun _ => .int _) (a_cons (pa_cons (c_c pe_int fun _ => .int _) (a_cons (pa_cons (c_op od_add (pe_op op_uAdd (c_vw (pv 1)) (c_w (c_tup (pe_tup (a_cons (pa_cons (c_c pe_str fun _ => .str _) (a_nil pa_nil)))))))) (a_nil pa_nil))))))))))) (a_nil pa_nil)))))))) (a_cons (pa_cons (c_v (pv 4)) (a_nil pa_nil))))))))) pa_nil))))
  (PM.s_seq (pss_cons (PM.s_setO (ps_set (i := 3) sc_L_edges.nd rfl (by first | exact Or.inl rfl | exact Or.inr rfl) (c_catF (pe_op op_uAdd (c_vw (pv 3)) (c_fw (c_lst (pe_lst (a_cons (pa_cons (c_tup (pe_tup (a_cons (pa_cons (c_c pe_int fun _ => .int _) (a_cons (pa_cons (c_sl (pe_slice sl_u (c_vw (pv 2)) (c_pno po_none) (c_pso (po_some (c_c pe_int fun _ => .int _))))) (a_cons (pa_cons (c_v (pv 4)) (a_nil pa_nil))))))))) (a_cons (pa_cons (c_tup (pe_tup (a_cons (pa_cons (c_c pe_int fun _ => .int _) (a_cons (pa_cons (c_tup (pe_tup (a_cons (pa_cons (c_tup (pe_tup (a_cons (pa_cons (c_c pe_str fun _ => .str _) (a_cons (pa_cons (c_c pe_int fun _ => .int _) (a_cons (pa_cons (c_c pe_int fun _ => .int _) (a_cons (pa_cons (c_tup (pe_tup (a_cons (pa_cons (c_c pe_str fun _ => .str _) (a_nil pa_nil))))) (a_nil pa_nil))))))))))) (a_nil pa_nil))))) (a_cons (pa_cons (c_tup (pe_tup (a_cons (pa_cons (c_tup (pe_tup (a_cons (pa_cons (c_c pe_str fun _ => .str _) (a_cons (pa_cons (c_c pe_int fun _ => .int _) (a_cons (pa_cons (c_c pe_int fun _ => .int _) (a_nil pa_nil))))))))) (a_nil pa_nil))))) (a_nil pa_nil))))))))) (a_nil pa_nil))))))))))))
  (pss_one (PM.s_ret (ps_ret (c_op od_add (pe_op op_uAdd (c_vw (pv 3)) (c_fw (c_lst (pe_lst (a_cons (pa_cons (c_tup (pe_tup (a_cons (pa_cons (c_c pe_int fun _ => .int _) (a_cons (pa_cons (c_tup (pe_tup (a_nil pa_nil))) (a_cons (pa_cons (c_tup (pe_tup (a_cons (pa_cons (c_tup (pe_tup (a_cons (pa_cons (c_c pe_str fun _ => .str _) (a_cons (pa_cons (c_c pe_int fun _ => .int _) (a_cons (pa_cons (c_c pe_int fun _ => .int _) (a_nil pa_nil))))))))) (a_nil pa_nil))))) (a_nil pa_nil))))))))) (a_cons (pa_cons (c_c pe_non fun _ => .non) (a_nil pa_nil)))))))))))))))))))))))))))))), spM_in (N := N_L_edges) h⟩)
abbrev N_law : List Str := ["_law_script", "_law_things", "_law_at", "_law_thing", "_law_house_here", "_law_xs", "_law_found"]
theorem sc_law : FnScope N_law ["_law_script"] (defScope s_law) := ⟨rfl, rfl, rfl, by decide +kernel, rfl, by decide +kernel, by decide +kernel⟩
theorem ok_law (T : Txt K mg) (F_L_edges : OwnFn P w K mg base 1 "_law_edges" [] (spM K (tabs K) M_L_edges)) (F_L_house : OwnFn P w K mg base 2 "_law_house" ["_law_script", "_law_at"] (spM K (tabs K) M_L_house)) (F_L_cell : OwnFn P w K mg base 1 "_law_cell" ["_law_script", "_law_k"] (spM K (tabs K) M_L_cell)) (F_L_numbers : OwnFn P w K mg base 1 "_law_numbers" ["_law_cell_here", "_law_many"] (spM K (tabs K) M_L_numbers)) (F_L_spoilt : OwnFn P w K mg base 3 "_law_spoilt" ["_law_house_here", "_law_xs"] (spM K (tabs K) M_L_spoilt)) (F_is_house : OwnFn P w K mg base 12 "is_house" ["thing"] (spM K (tabs K) M_is_house)) (F_L_due : OwnFn P w K mg base 3 "_law_due" ["_law_thing"] (spM K (tabs K) M_L_due)) : OwnFn P w K mg base 13 "law" ["_law_script"] (spM K (tabs K) M_law) := by
  exact own_ok (k := 12) T.D_law sc_law (fun _ _ _ _ _ _ us hl => match us, hl with | [_], _ => rfl) (fun vs H Q E h => spM_len h) (fun cdv A outer s H vs Q E hr h => ⟨_, PSs.nox (show PSs _ _ (tS K (tabs K) m_law) from (PM.s_seq (pss_cons (PM.s_set (ps_set (i := 1) sc_law.nd rfl (by first | exact Or.inl rfl | exact Or.inr rfl) (c_op od_add (pe_op op_uAdd (c_w (c_call0 (pe_own0 F_L_edges hr passL))) (c_fw (c_lst (pe_lst (a_cons (pa_cons (c_c pe_str fun _ => .str _) (a_cons (pa_cons (c_c pe_int fun _ => .int _) (a_cons (pa_cons (c_tup (pe_tup (a_nil pa_nil))) (a_cons (pa_cons (c_tup (pe_tup (a_cons (pa_cons (c_c pe_int fun _ => .int _) (a_nil pa_nil))))) (a_cons (pa_cons (c_f (c_lst (pe_lst (a_nil pa_nil))) mLst_is) (a_cons (pa_cons (c_dct (pe_frz pe_dnewK)) (a_nil pa_nil))))))))))))))))))))
  (PM.s_seq (pss_cons (PM.s_for (ps_for PassesOwn.never rfl (c_irng (pi_range1 (by rfl) T.f_range (a_cons (pa_cons (c_cb cb_max (pe_callB (call_max2 rfl) (by rfl) T.f_max (by decide +kernel) (a_consw (pa_cons (c_w (c_c pe_int fun _ => .int _)) (a_consw (pa_cons (c_w (c_cb cb_min (pe_callB (call_min2 rfl) (by rfl) T.f_min (by decide +kernel) (a_consw (pa_cons (c_w (c_cb cb_len (pe_callB (call_lenK K) (by rfl) T.f_len (by decide +kernel) (a_consw (pa_cons (c_vw (pv 0)) (a_nilw pa_nil)))))) (a_consw (pa_cons (c_w (c_c pe_int fun _ => .int _)) (a_nilw pa_nil)))))))) (a_nilw pa_nil))))))) (a_nil pa_nil))))) (c_gn (pg_name (i := 2) sc_law.nd rfl (by first | exact Or.inl rfl | exact Or.inr rfl)))
   (PM.s_seq (pss_cons (PM.s_set (ps_set (i := 4) sc_law.nd rfl (by first | exact Or.inl rfl | exact Or.inr rfl) (c_call (pe_own F_L_house hr passL (a_cons (pa_cons (c_v (pv 0)) (a_cons (pa_cons (c_v (pv 2)) (a_nil pa_nil)))))))))
  (PM.s_seq (pss_cons (PM.s_set (ps_set (i := 5) sc_law.nd rfl (by first | exact Or.inl rfl | exact Or.inr rfl) (c_sl (pe_slice sl_u (c_w (c_call (pe_own F_L_numbers hr passL (a_cons (pa_cons (c_call (pe_own F_L_cell hr passL (a_cons (pa_cons (c_v (pv 0)) (a_cons (pa_cons (c_v (pv 2)) (a_nil pa_nil))))))) (a_cons (pa_cons (c_c pe_int fun _ => .int _) (a_nil pa_nil)))))))) (c_pso (po_some (c_c pe_int fun _ => .int _))) (c_pno po_none)))))
  (pss_one (PM.s_set (ps_set (i := 1) sc_law.nd rfl (by first | exact Or.inl rfl | exact Or.inr rfl) (c_op od_add (pe_op op_uAdd (c_vw (pv 1)) (c_fw (c_lst (pe_lst (a_cons (pa_cons (c_v (pv 4)) (a_cons (pa_cons (c_call (pe_own F_L_spoilt hr passL (a_cons (pa_cons (c_v (pv 4)) (a_cons (pa_cons (c_v (pv 5)) (a_nil pa_nil))))))) (a_cons (pa_cons (c_call (pe_own F_L_spoilt hr passL (a_cons (pa_cons (c_v (pv 4)) (a_cons (pa_cons (c_sl (pe_slice sl_u (c_vw (pv 5)) (c_pso (po_some (c_c pe_int fun _ => .int _))) (c_pno po_none))) (a_nil pa_nil))))))) (a_nil pa_nil)))))))))))))))))))))
  (PM.s_seq (pss_cons (PM.s_for (ps_for PassesOwn.never rfl (c_iseq (pi_seq (c_v (pv 1)))) (c_gn (pg_name (i := 3) sc_law.nd rfl (by first | exact Or.inl rfl | exact Or.inr rfl)))
   (PM.s_seq (pss_cons (PM.s_set (ps_set (i := 6) sc_law.nd rfl (by first | exact Or.inl rfl | exact Or.inr rfl) (c_call (pe_own F_is_house hr passL (a_cons (pa_cons (c_v (pv 3)) (a_nil pa_nil)))))))
  (pss_one (PM.s_if (ps_if (PW.pt (c_or (pw_or (c_not (pt_not (c_tv (pt_val (c_is (pe_callB (call_isK K) (by rfl) T.f_isinstance (by decide +kernel) (pa_cons (c_vw (pv 6)) (pa_cons (pe_bltn (v := .ty "bool") rfl T.f_bool (by decide +kernel) rfl) pa_nil)))))))) (pw_or1 (c_opT od_ne (pt_cmpR (op_neK (room_u64 hr)) (c_vw (pv 6)) (c_w (c_call (pe_own F_L_due hr passL (a_cons (pa_cons (c_v (pv 3)) (a_nil pa_nil)))))) (nomark _))))))) (pss_one (PM.s_ret (ps_ret (c_c pe_bl fun _ => .bl _)))) (PM.s_nil pss_nil))))))))
  (pss_one (PM.s_ret (ps_ret (c_c pe_bl fun _ => .bl _))))))))))), spM_in (N := N_law) h⟩)
end
end K56
namespace K56
open PySem PySem.Spec PyProof.Rows L2 LB PM
section
variable {P : Program} {w : World} {K : PySem.W.Frag} {mg : Str → Option Value} {base : Heap}
theorem all_ok (T : Txt K mg) (Y : Ext K) (TB : ∀ x, x ∈ gens → LamX.TabB base mg (He.cT K (x, none)).1 (He.cT K (x, none)).2) : OwnFn P w K mg base 13 "law" ["_law_script"] (spM K (tabs K) M_law) := by
  have F_is_whole : OwnFn P w K mg base 1 "is_whole" _ _ := ok_is_whole T
  have F_is_between : OwnFn P w K mg base 2 "is_between" _ _ := ok_is_between T F_is_whole
  have F_is_row : OwnFn P w K mg base 1 "is_row" _ _ := ok_is_row T
  have F_is_name : OwnFn P w K mg base 3 "is_name" _ _ := ok_is_name T Y (TB "is_name" (by decide +kernel))
  have F_is_rising : OwnFn P w K mg base 3 "is_rising" _ _ := ok_is_rising T Y (TB "is_rising" (by decide +kernel))
  have F_are_names : OwnFn P w K mg base 6 "are_names" _ _ := ok_are_names T Y (TB "are_names" (by decide +kernel)) F_is_rising F_is_name
  have F_is_top : OwnFn P w K mg base 3 "is_top" _ _ := ok_is_top T F_is_between
  have F_is_place : OwnFn P w K mg base 4 "is_place" _ _ := ok_is_place T F_is_row F_is_between F_is_name
  have F_is_tie : OwnFn P w K mg base 4 "is_tie" _ _ := ok_is_tie T F_is_row F_is_between F_is_name
  have F_are_places : OwnFn P w K mg base 7 "are_places" _ _ := ok_are_places T Y (TB "are_places" (by decide +kernel)) F_is_rising F_is_place
  have F_are_ties : OwnFn P w K mg base 7 "are_ties" _ _ := ok_are_ties T Y (TB "are_ties" (by decide +kernel)) F_is_rising F_is_tie
  have F_names_of : OwnFn P w K mg base 6 "names_of" _ _ := ok_names_of T Y (TB "names_of" (by decide +kernel))
  have F_is_web : OwnFn P w K mg base 8 "is_web" _ _ := ok_is_web T F_is_row F_names_of F_are_ties F_are_places F_is_top
  have F_is_job : OwnFn P w K mg base 7 "is_job" _ _ := ok_is_job T F_are_names F_is_name F_is_row
  have F_is_tool : OwnFn P w K mg base 4 "is_tool" _ _ := ok_is_tool T F_is_name F_is_row
  have F_are_jobs_and_tools : OwnFn P w K mg base 10 "are_jobs_and_tools" _ _ := ok_are_jobs_and_tools T Y (TB "are_jobs_and_tools" (by decide +kernel)) F_is_tool F_is_job F_is_rising
  have F_house_web : OwnFn P w K mg base 2 "house_web" _ _ := ok_house_web T Y (TB "house_web" (by decide +kernel))
  have F_has_house_form : OwnFn P w K mg base 11 "has_house_form" _ _ := ok_has_house_form T F_is_row F_house_web F_is_web F_are_jobs_and_tools
  have F_is_house : OwnFn P w K mg base 12 "is_house" _ _ := ok_is_house T F_has_house_form
  have F_L_cell : OwnFn P w K mg base 1 "_law_cell" _ _ := ok_L_cell T
  have F_L_numbers : OwnFn P w K mg base 1 "_law_numbers" _ _ := ok_L_numbers T
  have F_L_names : OwnFn P w K mg base 1 "_law_names" _ _ := ok_L_names T
  have F_L_house : OwnFn P w K mg base 2 "_law_house" _ _ := ok_L_house T F_L_cell F_L_numbers F_L_names
  have F_L_whole : OwnFn P w K mg base 1 "_law_whole" _ _ := ok_L_whole T
  have F_L_name : OwnFn P w K mg base 1 "_law_name" _ _ := ok_L_name T
  have F_L_row : OwnFn P w K mg base 2 "_law_row" _ _ := ok_L_row T F_L_name
  have F_L_due : OwnFn P w K mg base 3 "_law_due" _ _ := ok_L_due T F_L_whole F_L_row F_L_name
  have F_L_put : OwnFn P w K mg base 1 "_law_put" _ _ := ok_L_put T
  have F_L_sign : OwnFn P w K mg base 1 "_law_sign" _ _ := ok_L_sign T
  have F_L_spoilt_row : OwnFn P w K mg base 2 "_law_spoilt_row" _ _ := ok_L_spoilt_row T F_L_sign F_L_put
  have F_L_spoilt : OwnFn P w K mg base 3 "_law_spoilt" _ _ := ok_L_spoilt T F_L_spoilt_row
  have F_L_edges : OwnFn P w K mg base 1 "_law_edges" _ _ := ok_L_edges T
  have F_law : OwnFn P w K mg base 13 "law" _ _ := ok_law T F_L_edges F_L_house F_L_cell F_L_numbers F_L_spoilt F_is_house F_L_due
  exact F_law
end
end K56
namespace K56
open PySem PySem.Spec PyProof.Rows L2 LB PM
/-! ### what is drawn -/
theorem cell_ok (ns : List Int) {j : Nat} (hj : j ≤ 1000) : ∃ n, M_L_cell [.list (ns.map .int), .int (j : Int)] = some (.int n) := by
  by_cases hl : j < ns.length
  · refine ⟨ns[j], x_fn (q := .rt (.int ns[j])) rfl (x_ret (x_ifT (x_qv ?_) (x_rt ?_))) rfl⟩
    · show some (PyData.bool (decide ((j : Int) < (((ns.map PyData.int).length : Nat) : Int)))) = _
      rw [decide_eq_true (by rw [List.length_map]; omega)]
    · refine x_op rfl rfl (ix_l (atI_nat ?_))
      rw [List.getElem?_map, List.getElem?_eq_getElem hl] <;> rfl
  · obtain ⟨ρ', h1, z, kv, rfl, _⟩ := x_for (mi := iS (mSl (mW 0) pNo (pSo (mC (.int 3))))) (gm := gN 3) (mb := mSet 2 (mOp oMod (mOp oAdd (mOp oMul (mW 2) (mC (.int 69621))) (mW 3)) (mC (.int 2147483647))))
      (ρ := [.val (.list (ns.map PyData.int)), .val (.int (j : Int)), .val (.int ((48271 * ((j : Int) * (j : Int) + 7 * (j : Int) + 11)).fmod 2147483647)), .no]) (ds := LB.cutD (ns.map PyData.int) none (some 3))
      (fun i ρ => ∃ (z : Int) (kv : Sl), ρ = [.val (.list (ns.map PyData.int)), .val (.int (j : Int)), .val (.int z), kv] ∧ 0 ≤ z ∧ z < 2147483647) rfl ⟨_, _, rfl, fm _ (by decide)⟩ (by
        rintro i d ρ hd ⟨z, kv, rfl, z0, z1⟩
        obtain ⟨c, _, rfl⟩ := List.mem_map.mp (cut_mem (List.mem_of_getElem? hd))
        exact ⟨_, _, rfl, x_set (x_op (x_op (x_op rfl rfl (mul_ii (by omega) (by omega))) rfl rfl) rfl rfl), _, _, rfl, fm _ (by decide)⟩)
    have jj : (j : Int) * (j : Int) ≤ 1000 * 1000 := Int.mul_le_mul (by omega) (by omega) (by omega) (by omega)
    have j0 : (0 : Int) ≤ (j : Int) * (j : Int) := Int.mul_nonneg (by omega) (by omega)
    refine ⟨z, x_fn (q := .rt (.int z)) rfl (x_seq (x_ifF (x_qv ?_) rfl) (x_seq (x_set (x_op (x_op rfl (x_op (x_op (x_op rfl rfl (mul_ii (by omega) (by omega))) (x_op rfl rfl (mul_ii (by omega) (by omega))) rfl) rfl rfl) (mul_ii (by omega) (by omega))) rfl rfl)) (x_seq h1 (x_rt rfl)))) rfl⟩
    show some (PyData.bool (decide ((j : Int) < (((ns.map PyData.int).length : Nat) : Int)))) = _
    rw [decide_eq_false (by rw [List.length_map]; omega)]
theorem nums_ok (c : Int) {m : Nat} (hm : m ≤ 1000) : ∃ xs, NumsOk m xs ∧ M_L_numbers [.int c, .int (m : Int)] = some (.list (xs.map .int)) := by
  have c1 := fm c (b := 1999999973) (by decide)
  have mid : ∃ dg : Int, 0 ≤ dg ∧ mIfS (qOr (qV (mOp oLt (mW 0) (mC (.int 0)))) (qV (mOp oGe (mW 0) (mOp oPow (mC (.int 10)) (mC (.int 18)))))) (mSet 4 (mCb oAbs (aCons (mW 0) aNil))) mNx [.val (.int c), .val (.int (m : Int)), .own (.list []), .val (.int (((c.fmod 1999999973 + 31) * 765432101).fmod 1999999973)), .val (.int 0), .no] = some (.nx [.val (.int c), .val (.int (m : Int)), .own (.list []), .val (.int (((c.fmod 1999999973 + 31) * 765432101).fmod 1999999973)), .val (.int dg), .no]) := by
    have ab : 0 ≤ (if c < 0 then -c else c) := by split <;> omega
    have p1 : ∀ b : Bool, decide (c < 0) = b → qV (mOp oLt (mW 0) (mC (.int 0))) [.val (.int c), .val (.int (m : Int)), .own (.list []), .val (.int (((c.fmod 1999999973 + 31) * 765432101).fmod 1999999973)), .val (.int 0), .no] = some b := fun b h => x_qv (x_op rfl rfl (by show some (PyData.bool (decide (c < 0))) = _; rw [h]))
    have p2 : ∀ b : Bool, decide ((10 : Int) ^ (18 : Int).toNat ≤ c) = b → qV (mOp oGe (mW 0) (mOp oPow (mC (.int 10)) (mC (.int 18)))) [.val (.int c), .val (.int (m : Int)), .own (.list []), .val (.int (((c.fmod 1999999973 + 31) * 765432101).fmod 1999999973)), .val (.int 0), .no] = some b := fun b h => x_qv (x_op rfl (x_op rfl rfl rfl) (by show some (PyData.bool (decide ((10 : Int) ^ (18 : Int).toNat ≤ c))) = _; rw [h]))
    by_cases h1 : c < 0
    · exact ⟨_, ab, x_ifT (x_orT (p1 true (decide_eq_true h1))) (x_set rfl)⟩
    · by_cases h2 : (10 : Int) ^ (18 : Int).toNat ≤ c
      · exact ⟨_, ab, x_ifT (x_orF (p1 false (decide_eq_false h1)) (p2 true (decide_eq_true h2))) (x_set rfl)⟩
      · exact ⟨0, Int.le_refl _, x_ifF (x_orF (p1 false (decide_eq_false h1)) (p2 false (decide_eq_false h2))) rfl⟩
  obtain ⟨dg, dg0, hmid⟩ := mid
  obtain ⟨ρ', h1, xs, st, dg', kv, rfl, hl, hb, _⟩ := x_for (mi := iR (aCons (mV 1) aNil)) (gm := gN 5) (mb := mSeq (mSet 3 (mOp oMod (mOp oAdd (mOp oAdd (mOp oMul (mW 3) (mOp oAdd (mOp oMod (mW 3) (mC (.int 65521))) (mC (.int 40487)))) (mOp oMul (mC (.int 7)) (mW 5))) (mC (.int 5))) (mC (.int 1999999973))))
    (mSeq (mApp 2 (mOp oIx (mLst (aCons (mV 3) (aCons (mOp oMod (mW 4) (mC (.int 1000000))) aNil))) (mCb oInt (aCons (mOp oGt (mW 4) (mC (.int 0))) aNil)))) (mSet 4 (mOp oFdv (mW 4) (mC (.int 1000000))))))
    (ρ := [.val (.int c), .val (.int (m : Int)), .own (.list []), .val (.int (((c.fmod 1999999973 + 31) * 765432101).fmod 1999999973)), .val (.int dg), .no]) (ds := rngD m)
    (fun i ρ => ∃ (xs : List Int) (st dg : Int) (kv : Sl), ρ = [.val (.int c), .val (.int (m : Int)), .own (.list (xs.map PyData.int)), .val (.int st), .val (.int dg), kv] ∧ xs.length = i ∧ (∀ x ∈ xs, 0 ≤ x ∧ x < 2000000000) ∧ 0 ≤ st ∧ st < 1999999973 ∧ 0 ≤ dg)
    (x_rng rfl (by omega)) ⟨[], _, dg, .no, rfl, rfl, fun x hx => (List.not_mem_nil hx).elim, (fm _ (by decide)).1, (fm _ (by decide)).2, dg0⟩ (by
      rintro i d ρ hd ⟨xs, st, dg, kv, rfl, hl, hb, s0, s1, d0⟩
      obtain ⟨i', hi', rfl⟩ := List.mem_map.mp (List.mem_of_getElem? hd)
      have hi2 := List.mem_range.mp hi'
      have il : i < m := by
        have := (List.getElem?_eq_some_iff.mp hd).1
        rw [rngD_length] at this
        exact this
      have f1 := fm st (b := 65521) (by decide)
      have ev : ∀ b : Bool, ∃ v : Int, atI [PyData.int ((st * (st.fmod 65521 + 40487) + 7 * (i' : Int) + 5).fmod 1999999973), PyData.int (dg.fmod 1000000)] (if b = true then 1 else 0) = some (.int v) ∧ 0 ≤ v ∧ v < 2000000000 := fun b => by
        have g1 := fm dg (b := 1000000) (by decide)
        have g2 := fm (st * (st.fmod 65521 + 40487) + 7 * (i' : Int) + 5) (b := 1999999973) (by decide)
        cases b
        · exact ⟨_, at0, g2.1, by omega⟩
        · exact ⟨_, at1, g1.1, by omega⟩
      obtain ⟨v, hv, v0, v1⟩ := ev (decide (0 < dg))
      refine ⟨_, _, rfl, x_seq (x_set (x_op (x_op (x_op (x_op rfl (x_op (x_op rfl rfl rfl) rfl rfl) (mul_ii (by omega) (by omega))) (x_op rfl rfl (mul_ii (by omega) (by omega))) rfl) rfl rfl) rfl rfl)) (x_seq (x_app (d := .int v) (x_op rfl rfl (ix_l hv)) rfl (by rw [List.length_map]; omega)) (x_set rfl)), xs ++ [v], _, _, _, by rw [List.map_append]; rfl, by rw [List.length_append, hl]; rfl, ?_, (fm _ (by decide)).1, (fm _ (by decide)).2, ?_⟩
      · intro x hx
        rcases List.mem_append.mp hx with h | h
        · exact hb x h
        · rw [List.mem_singleton.mp h]
          exact ⟨v0, v1⟩
      · rw [Int.fdiv_eq_ediv_of_nonneg _ (by decide)]
        exact Int.ediv_nonneg d0 (by decide))
  rw [rngD_length] at hl
  exact ⟨xs, ⟨hl, hb⟩, x_fn (q := .rf (.list (xs.map .int))) rfl (x_seq (x_setO rfl) (x_seq (x_set (x_op (x_op (x_op (x_op rfl rfl rfl) rfl rfl) rfl (mul_ii (by omega) (by omega))) rfl rfl)) (x_seq (x_set rfl) (x_seq hmid (x_seq h1 rfl))))) rfl⟩
theorem names_ok {xs : List Int} {n m : Nat} (hx : NumsOk n xs) (hn : 4 ≤ n) (m1 : 1 ≤ m) (m8 : m ≤ 8) : ∃ ns, NamesOk m ns ∧ M_L_names [.list (xs.map .int), .int (m : Int)] = some (.list (ns.map .str)) := by
  obtain ⟨hl, hb⟩ := hx
  match xs, hl, hb with
  | [], hl, _ => simp at hl; omega
  | [_], hl, _ => simp at hl; omega
  | [_, _], hl, _ => simp at hl; omega
  | [_, _, _], hl, _ => simp at hl; omega
  | x0 :: x1 :: x2 :: x3 :: r, hl, hb =>
  have key : ∃ d, M_L_names [.list ((x0 :: x1 :: x2 :: x3 :: r).map .int), .int (m : Int)] = some d ∧ ∃ ns, NamesOk m ns ∧ d = .list (ns.map .str) := by
    refine r_fn rfl (r_seq (x_set rfl) (r_seq (x_setO rfl) (r_for (ds := rngD m) (fun i ρ => ∃ kv nv mv, ρ = [.val (.list ((x0 :: x1 :: x2 :: x3 :: r).map .int)), .val (.int (m : Int)), .val (.str abc), .own (.list (((List.range i).map (nmOf x0 x1 x2 x3)).map .str)), kv, nv, mv]) (x_rng rfl (by omega)) ⟨_, _, _, rfl⟩ ?_ ?_)))
    · rintro i d ρ hd ⟨kv, nv, mv, rfl⟩
      obtain ⟨hi, rfl⟩ := rng_at hd
      have f3 := fm x3 (b := 2) (by decide)
      have pw : atI [PyData.int 1, PyData.int 5] (x3.fmod 2) = some (.int (if x3.fmod 2 = 1 then 5 else 1)) := by
        by_cases h : x3.fmod 2 = 1
        · rw [if_pos h, h]
          exact at1
        · have h0 : x3.fmod 2 = 0 := by omega
          rw [if_neg h, h0]
          exact at0
      have wp : 0 < (if x3.fmod 2 = 1 then (5 : Int) else 1) := by split <;> decide
      have fw := fm (x2 + 3 * (i : Int)) wp
      have w5 : (if x3.fmod 2 = 1 then (5 : Int) else 1) ≤ 5 := by split <;> decide
      have f8 := fm x3 (b := 8) (by decide)
      refine ⟨_, rfl, r_seq (x_set (d := .str (repS (ch (lt26 (x0 + 7 * (i : Int)))) (1 + ((x2 + 3 * (i : Int)).fmod (if x3.fmod 2 = 1 then 5 else 1)).toNat))) (x_op (x_op rfl (x_op (x_op (x_op rfl rfl (ix_l at0)) (x_op rfl rfl (mul_ii (by omega) (by omega))) rfl) rfl (mod_ii (by decide))) (ix_s abc_len (abc_at (fm _ (by decide)).1 (fm _ (by decide)).2)))
        (x_op rfl (x_op (x_op (x_op rfl rfl (ix_l at2)) (x_op rfl rfl (mul_ii (by omega) (by omega))) rfl) (x_op rfl (x_op (x_op rfl rfl (ix_l at3)) rfl (mod_ii (by decide))) (ix_l pw)) (mod_ii (by omega))) rfl) (mul_sk (by omega) (by omega) (by show 1 ≤ 1000; decide)))) ?_⟩
      have te : ∀ (k : Int) (s : Sl) (q : Sl), qV (mOp oEq (mOp oMod (mOp oIx (mW 0) (mC (.int 1))) (mC (.int 4))) (mC (.int k))) [.val (.list ((x0 :: x1 :: x2 :: x3 :: r).map .int)), .val (.int (m : Int)), .val (.str abc), .own (.list (((List.range i).map (nmOf x0 x1 x2 x3)).map .str)), .val (.int (i : Int)), s, q] = some (decide (x1.fmod 4 = k)) := fun k s q => x_qv (x_op (x_op (x_op rfl rfl (ix_l at1)) rfl (mod_ii (by decide))) rfl (eq_ii _ _))
      refine r_mid (fun ρ => ρ = [.val (.list ((x0 :: x1 :: x2 :: x3 :: r).map .int)), .val (.int (m : Int)), .val (.str abc), .own (.list (((List.range i).map (nmOf x0 x1 x2 x3)).map .str)), .val (.int (i : Int)), .val (.str (if x1.fmod 4 = 1 then ch (97 + i) ++ repS (ch (lt26 x2)) (x3.fmod 8).toNat else repS (ch (lt26 (x0 + 7 * (i : Int)))) (1 + ((x2 + 3 * (i : Int)).fmod (if x3.fmod 2 = 1 then 5 else 1)).toNat))), mv]) (r_if (te 1 _ _) (fun h => ?_) (fun h => ?_)) ?_
      · refine r_end (x_set (x_op (x_op rfl rfl (ix_s abch_len (abch_at (by omega)))) (x_op (x_op rfl (x_op (x_op rfl rfl (ix_l at2)) rfl (mod_ii (by decide))) (ix_s abc_len (abc_at (fm _ (by decide)).1 (fm _ (by decide)).2))) (x_op (x_op rfl rfl (ix_l at3)) rfl (mod_ii (by decide))) (mul_sk (n := (x3.fmod 8).toNat) (by omega) (by omega) (by show 1 ≤ 1000; decide))) (add_ss (by
          rw [show (⟨#[97 + (x2.fmod 26).toNat]⟩ : Str) = ch (lt26 x2) from rfl, rep_length]
          show 1 + _ ≤ 10000
          omega)))) ?_
        show _ = _
        rw [if_pos (of_decide_eq_true h)]
        rfl
      · refine r_end rfl ?_
        show _ = _
        rw [if_neg (of_decide_eq_false h)]
        rfl
      rintro ρ rfl
      refine r_mid (fun ρ => ρ = [.val (.list ((x0 :: x1 :: x2 :: x3 :: r).map .int)), .val (.int (m : Int)), .val (.str abc), .own (.list (((List.range i).map (nmOf x0 x1 x2 x3)).map .str)), .val (.int (i : Int)), .val (.str (if x1.fmod 4 = 2 then repS (ch (lt26 x2)) (1 + i) else (if x1.fmod 4 = 1 then ch (97 + i) ++ repS (ch (lt26 x2)) (x3.fmod 8).toNat else repS (ch (lt26 (x0 + 7 * (i : Int)))) (1 + ((x2 + 3 * (i : Int)).fmod (if x3.fmod 2 = 1 then 5 else 1)).toNat)))), mv]) (r_if (te 2 _ _) (fun h => ?_) (fun h => ?_)) ?_
      · refine r_end (x_set (x_op (x_op rfl (x_op (x_op rfl rfl (ix_l at2)) rfl (mod_ii (by decide))) (ix_s abc_len (abc_at (fm _ (by decide)).1 (fm _ (by decide)).2))) (x_op rfl rfl rfl) (mul_sk (n := 1 + i) (by omega) (by omega) (by show 1 ≤ 1000; decide)))) ?_
        show _ = _
        rw [if_pos (of_decide_eq_true h)]
        rfl
      · refine r_end rfl ?_
        show _ = _
        rw [if_neg (of_decide_eq_false h)]
      rintro ρ rfl
      refine r_mid (fun ρ => ∃ mv', ρ = [.val (.list ((x0 :: x1 :: x2 :: x3 :: r).map .int)), .val (.int (m : Int)), .val (.str abc), .own (.list (((List.range i).map (nmOf x0 x1 x2 x3)).map .str)), .val (.int (i : Int)), .val (.str (nmOf x0 x1 x2 x3 i)), mv']) (r_if (te 3 _ _) (fun h => ?_) (fun h => ?_)) ?_
      · refine r_seq (x_set (x_op rfl (x_op (x_op (x_op rfl rfl (ix_l at3)) (x_op rfl rfl (mul_ii (by omega) (by omega))) rfl) rfl (mod_ii (by decide))) (ix_s abc_len (abc_at (fm _ (by decide)).1 (fm _ (by decide)).2)))) (r_end (x_set (x_op (x_op (x_op rfl (x_op (x_op rfl rfl (ix_l at2)) rfl (mod_ii (by decide))) (ix_s abc_len (abc_at (fm _ (by decide)).1 (fm _ (by decide)).2))) rfl (add_ss (by show 1 + 1 ≤ 10000; decide)))
          (x_op rfl (x_op (x_op rfl rfl (ix_l at0)) rfl (mod_ii (by decide))) (ix_s abc_len (abc_at (fm _ (by decide)).1 (fm _ (by decide)).2))) (add_ss (by rw [app_length]; show 1 + 1 + 1 ≤ 10000; decide)))) ⟨.val (.str (ch (lt26 (x3 + 5 * (i : Int))))), ?_⟩)
        unfold nmOf
        rw [if_pos (of_decide_eq_true h)]
        rfl
      · refine r_end rfl ⟨mv, ?_⟩
        unfold nmOf
        rw [if_neg (of_decide_eq_false h)]
      rintro ρ ⟨mv', rfl⟩
      refine r_end (x_app rfl rfl (by rw [List.length_map, List.length_map, List.length_range]; omega)) ⟨.val (.int (i : Int)), .val (.str (nmOf x0 x1 x2 x3 i)), mv', ?_⟩
      rw [List.range_succ, List.map_append, List.map_append]
      rfl
    · rintro ρ ⟨kv, nv, mv, rfl⟩
      rw [rngD_length]
      have nd : ((List.range m).map (nmOf x0 x1 x2 x3)).Nodup := by
        rw [List.nodup_iff_pairwise_ne, List.pairwise_map]
        refine List.Pairwise.imp_of_mem (fun {a b} ha hb hab => ?_) (List.nodup_iff_pairwise_ne.mp List.nodup_range)
        have ha := List.mem_range.mp ha
        have hb := List.mem_range.mp hb
        exact fun e => hab (nm_inj x0 x1 x2 x3 (by omega) (by omega) e)
      refine r_ret (d := .list ((((List.range m).map (nmOf x0 x1 x2 x3)).mergeSort leS).map .str)) (x_cb rfl ?_) ⟨_, rfl, ((List.range m).map (nmOf x0 x1 x2 x3)).mergeSort leS, ⟨?_, rise_sort nd, fun x hx => ?_⟩, rfl⟩
      · rw [x_sorted (srt_strs (by rw [List.length_map, List.length_range]; omega)), sort_strs]
      · rw [List.length_mergeSort, List.length_map, List.length_range]
      · have := (List.mergeSort_perm _ leS).mem_iff.mp hx
        obtain ⟨i, hi, rfl⟩ := List.mem_map.mp this
        have := List.mem_range.mp hi
        exact nm_ok x0 x1 x2 x3 (by omega)
  obtain ⟨d, h1, ns, h2, rfl⟩ := key
  exact ⟨ns, h2, h1⟩
/-- the names of a tie, or of its key -/
def tk : PyData → Str × Str
  | .tuple (.str a :: .str b :: _) => (a, b)
  | _ => ("", "")
def TD (ns : List Str) (kvs : List (PyData × PyData)) : Prop := (kvs.map fun e => tk e.1).Nodup ∧ ∀ e ∈ kvs, ∃ (a b : Str) (s : Int), e = (.tuple [.str a, .str b], .int s) ∧ a ∈ ns ∧ b ∈ ns ∧ a ≠ b ∧ 1 ≤ s ∧ s ≤ 999
theorem TD.put {ns : List Str} {kvs : List (PyData × PyData)} (h : TD ns kvs) {a b : Str} {s : Int} (ha : a ∈ ns) (hb : b ∈ ns) (hn : a ≠ b) (h1 : 1 ≤ s) (h9 : s ≤ 999) : TD ns (putD kvs [.inr a, .inr b] (.int s)) := by
  refine ⟨?_, ?_⟩
  · have key : ∀ e ∈ kvs, (keyL e.1 = some [.inr a, .inr b] ↔ tk e.1 = (a, b)) := fun e he => by
      obtain ⟨a', b', s', rfl, _⟩ := h.2 e he
      show (some [Sum.inr a', Sum.inr b'] = some [Sum.inr a, Sum.inr b]) ↔ (a', b') = (a, b)
      simp
    unfold putD
    split
    · rw [List.map_map]
      refine (List.map_congr_left fun e he => ?_ : kvs.map _ = kvs.map fun e => tk e.1) ▸ h.1
      show tk (if keyL e.1 = some [.inr a, .inr b] then (e.1, PyData.int s) else e).1 = tk e.1
      split <;> rfl
    · rename_i hn
      rw [List.map_append]
      refine List.nodup_append.mpr ⟨h.1, List.nodup_cons.mpr ⟨List.not_mem_nil, List.Pairwise.nil⟩, fun x hx y hy z => hn ?_⟩
      obtain ⟨e, he, rfl⟩ := List.mem_map.mp hx
      have hy : y = (a, b) := List.mem_singleton.mp hy
      exact List.any_eq_true.mpr ⟨e, he, decide_eq_true ((key e he).mpr (by rw [z, hy]))⟩
  intro e he
  unfold putD at he
  split at he
  · obtain ⟨kv, hk, rfl⟩ := List.mem_map.mp he
    obtain ⟨a', b', s', rfl, k1, k2, k3, k4, k5⟩ := h.2 kv hk
    dsimp only
    split
    · exact ⟨a', b', s, rfl, k1, k2, k3, h1, h9⟩
    · exact ⟨a', b', s', rfl, k1, k2, k3, k4, k5⟩
  · rcases List.mem_append.mp he with h' | h'
    · exact h.2 e h'
    · rw [List.mem_singleton.mp h']
      exact ⟨a, b, s, rfl, ha, hb, hn, h1, h9⟩
theorem TD.srt {ns : List Str} {kvs : List (PyData × PyData)} (h : TD ns kvs) (hl : kvs.length ≤ 1000) : Srt (kvs.map (·.1)) ∧ PySem.W.Sortable (kvs.map (·.1)) := by
  have key : ∀ d ∈ kvs.map (·.1), ∃ a b : Str, d = .tuple [.str a, .str b] := fun d hd => by
    obtain ⟨p, hp, rfl⟩ := List.mem_map.mp hd
    obtain ⟨a, b, s, rfl, _⟩ := h.2 p hp
    exact ⟨a, b, rfl⟩
  have ok : PySem.W.Sortable (kvs.map (·.1)) := .inl fun d hd => by
    obtain ⟨a, b, rfl⟩ := key d hd
    exact ⟨_, _, rfl⟩
  refine ⟨⟨fun d hd d' hd' => ?_, .inl ok, fun d hd => ?_, by rw [List.length_map]; omega⟩, ok⟩
  · obtain ⟨a, b, rfl⟩ := key d hd
    obtain ⟨a', b', rfl⟩ := key d' hd'
    rfl
  · obtain ⟨a, b, rfl⟩ := key d hd
    exact Nat.le_of_ble_eq_true rfl
theorem TD.get {ns : List Str} {kvs : List (PyData × PyData)} (h : TD ns kvs) {d : PyData} (hd : d ∈ kvs.map (·.1)) : ∃ (a b : Str) (s : Int), d = .tuple [.str a, .str b] ∧ getD kvs [.inr a, .inr b] = some (.int s) ∧ a ∈ ns ∧ b ∈ ns ∧ a ≠ b ∧ 1 ≤ s ∧ s ≤ 999 := by
  obtain ⟨p, hp, rfl⟩ := List.mem_map.mp hd
  obtain ⟨a, b, s, rfl, _⟩ := h.2 p hp
  cases hf : kvs.find? (fun e => decide (keyL e.1 = some [.inr a, .inr b])) with
  | none =>
    have := List.find?_eq_none.mp hf _ hp
    simp [keyL, keysK, keyK] at this
  | some q =>
    have hq := List.mem_of_find?_eq_some hf
    have hk : keyL q.1 = some [.inr a, .inr b] := by simpa using List.find?_some hf
    obtain ⟨a', b', s', e, h1, h2, h3, h4, h5⟩ := h.2 q hq
    rw [e] at hk
    simp [keyL, keysK, keyK] at hk
    obtain ⟨rfl, rfl⟩ := hk
    refine ⟨a', b', s', rfl, ?_, h1, h2, h3, h4, h5⟩
    unfold getD
    rw [hf, e] <;> rfl
theorem eight : ∀ {xs : List Int}, 8 ≤ xs.length → ∃ x0 x1 x2 x3 x4 x5 x6 x7 r, xs = x0 :: x1 :: x2 :: x3 :: x4 :: x5 :: x6 :: x7 :: r
  | x0 :: x1 :: x2 :: x3 :: x4 :: x5 :: x6 :: x7 :: r, _ => ⟨x0, x1, x2, x3, x4, x5, x6, x7, r, rfl⟩
end K56
namespace K56
open PySem PySem.Spec PyProof.Rows L2 LB PM
/-! ### names, rows that rise, of any kind -/
theorem bls_map (f : PyData → Bool) : ∀ l : List PyData, bls (l.map fun d => .bool (f d)) = some (l.map f)
  | [] => rfl
  | d :: l => by
    show (bls (l.map fun d => .bool (f d))).map _ = _
    rw [bls_map f l]
    rfl
theorem all_bools (f : PyData → Bool) (l : List PyData) : oAll [.list (l.map fun d => .bool (f d))] = some (.bool (l.all f)) := by
  show (bls _).map _ = _
  rw [bls_map]
  show some (PyData.bool ((l.map f).all id)) = _
  rw [List.all_map]
  rfl
theorem is_ty (n : String) (d : PyData) {ρ : Ev} {i : Nat} (h : ρ[i]? = some (.val d)) : mIs n (mW i) ρ = (kitB (tyN d) n).map .bool := by
  unfold mIs mW
  rw [h]
  rfl
theorem isS_is (d : PyData) {ρ : Ev} {i : Nat} (h : ρ[i]? = some (.val d)) : mIs "str" (mW i) ρ = some (.bool (isS d)) := by
  rw [is_ty "str" d h, kit_str]
  rfl
theorem isU_is (d : PyData) {ρ : Ev} {i : Nat} (h : ρ[i]? = some (.val d)) : mIs "tuple" (mW i) ρ = some (.bool (isU d)) := by
  rw [is_ty "tuple" d h, kit_tuple]
  rfl
theorem ch3 {a c i : Int} {e : ME} {ρ : Ev} (h : e ρ = some (.int i)) : mCh oLe oLe (mC (.int a)) e (mC (.int c)) ρ = some (.bool (decide (a ≤ i) && decide (i ≤ c))) := by
  show ((e ρ).bind fun y => (oLe (.int a) y).bind fun z => (asB z).bind fun k => if k = true then (some (PyData.int c)).bind fun w => oLe y w else some (.bool false)) = _
  rw [h]
  show (if decide (a ≤ i) = true then some (PyData.bool (decide (i ≤ c))) else some (.bool false)) = _
  cases decide (a ≤ i) <;> rfl
/-- texts that are no longer than they may be -/
def Shrt (d : PyData) : Prop := ∀ z, d = .str z → z.length ≤ 10000
def sgB (c : Nat) : Bool := decide (c ∈ ("abcdefghijklmnopqrstuvwxyz" : Str).cps.toList)
def sgD : PyData → Bool
  | .str x => match sg1 x with
    | some c => sgB c
    | none => false
  | _ => false
theorem sgD_all (z : Str) : (signsD z).all sgD = z.cps.toList.all sgB := by
  unfold signsD
  rw [List.all_map]
  rfl
theorem sgD_in {z : Str} {d : PyData} (h : d ∈ signsD z) : oInX d (.str "abcdefghijklmnopqrstuvwxyz") = some (.bool (sgD d)) := by
  obtain ⟨c, _, rfl⟩ := List.mem_map.mp h
  rfl
def nmB : PyData → Bool
  | .str z => (decide (1 ≤ (z.length : Int)) && decide ((z.length : Int) ≤ 8)) && z.cps.toList.all sgB
  | _ => false
theorem len_str {z : Str} (h : z.length ≤ 10000) : oLen [.str z] = some (.int (z.length : Int)) := if_pos h
theorem name_is {d : PyData} (hs : Shrt d) : M_is_name [d] = some (.bool (nmB d)) := by
  have hS := isS_is d (ρ := [.val d, .no]) (i := 0) rfl
  refine r_eq rfl (r_ret (d := .bool (nmB d)) ?_ rfl)
  cases d with
  | str z =>
    have hl := len_str (hs z rfl)
    refine x_mandT hS ?_
    have h1 : mCh oLe oLe (mC (.int 1)) (mCb oLen (aCons (mW 0) aNil)) (mC (.int 8)) [.val (.str z), .no] = some (.bool (decide (1 ≤ (z.length : Int)) && decide ((z.length : Int) ≤ 8))) := ch3 (x_cb rfl hl)
    rw [show nmB (.str z) = ((decide (1 ≤ (z.length : Int)) && decide ((z.length : Int) ≤ 8)) && z.cps.toList.all sgB) from rfl]
    cases hb : (decide (1 ≤ (z.length : Int)) && decide ((z.length : Int) ≤ 8)) with
    | false =>
      rw [hb] at h1
      exact x_mandF h1
    | true =>
      rw [hb] at h1
      refine x_mandT h1 ?_
      rw [Bool.true_and, ← sgD_all]
      exact x_ag (ds := signsD z) rfl (x_agGo sgD _ fun d hd => ⟨[.val (.str z), .val d], rfl, rfl, x_op rfl rfl (sgD_in hd)⟩)
  | _ => exact x_mandF hS
end K56
namespace K56
open PySem PySem.Spec PyProof.Rows L2 LB PM
/-! ### rows that rise -/
def ltV (a b : PyData) : Bool := match oLtX a b with
  | some (.bool c) => c
  | _ => false
def rB : List PyData → Bool
  | a :: b :: r => ltV a b && rB (b :: r)
  | _ => true
def Cmp (ds : List PyData) : Prop := ∀ a ∈ ds, ∀ b ∈ ds, oLtX a b = some (.bool (ltV a b))
def ltZ : PyData → Bool
  | .tuple [a, b] => ltV a b
  | _ => false
theorem zip_all : ∀ ds : List PyData, (zipD ds (ds.drop 1)).all ltZ = rB ds
  | [] => rfl
  | [a] => rfl
  | a :: b :: r => by
    show (ltV a b && (zipD (b :: r) ((b :: r).drop 1)).all ltZ) = (ltV a b && rB (b :: r))
    rw [zip_all (b :: r)]
theorem zip_mem : ∀ {xs ys : List PyData} {d : PyData}, d ∈ zipD xs ys → ∃ a ∈ xs, ∃ b ∈ ys, d = .tuple [a, b]
  | a :: xs, b :: ys, d, h => by
    rcases List.mem_cons.mp (show d ∈ PyData.tuple [a, b] :: zipD xs ys from h) with h | h
    · exact ⟨a, List.mem_cons_self, b, List.mem_cons_self, h⟩
    · obtain ⟨a', ha, b', hb, e⟩ := zip_mem h
      exact ⟨a', List.mem_cons_of_mem _ ha, b', List.mem_cons_of_mem _ hb, e⟩
  | [], _, d, h => absurd (show d ∈ [] from h) List.not_mem_nil
  | _ :: _, [], d, h => absurd (show d ∈ [] from h) List.not_mem_nil
theorem rising_is {ds : List PyData} (h : Cmp ds) : M_is_rising [.tuple ds] = some (.bool (rB ds)) := by
  refine r_eq rfl (r_ret (d := .bool (rB ds)) (x_ag (ds := zipD ds (ds.drop 1)) ?_ ?_) rfl)
  · show some (zipD ds (LB.cutD ds (some 1) none)) = _
    rw [cut_tail]
  · rw [x_agGo ltZ _ fun d hd => ?_, zip_all]
    obtain ⟨a, ha, b, hb, rfl⟩ := zip_mem hd
    exact ⟨[.val (.tuple ds), .val a, .val b], rfl, rfl, x_op rfl rfl (h a ha b (List.mem_of_mem_drop hb))⟩
theorem getD_at {ds : List PyData} {k : Nat} (h : k < ds.length) : atI ds (k : Int) = some (ds.getD k .none) ∧ ds.getD k .none ∈ ds := by
  rw [List.getD_eq_getElem?_getD, List.getElem?_eq_getElem h]
  exact ⟨atI_nat (List.getElem?_eq_getElem h), List.getElem_mem h⟩
theorem cmp_strs {ds : List PyData} (h : ∀ d ∈ ds, isS d = true) : Cmp ds := fun a ha b hb => by
  have h1 := h a ha
  have h2 := h b hb
  match a, b, h1, h2 with
  | .str _, .str _, _, _ => rfl
def pairB : PyData → Bool
  | .tuple [.str _, .str _] => true
  | _ => false
theorem cmp_pairs {ds : List PyData} (h : ∀ d ∈ ds, pairB d = true) : Cmp ds := fun a ha b hb => by
  have h1 := h a ha
  have h2 := h b hb
  unfold pairB at h1 h2
  split at h1
  · split at h2
    · have : ∀ p q r s : Str, oLtX (.tuple [.str p, .str q]) (.tuple [.str r, .str s]) = some (.bool (PySem.W.dataLt (.tuple [.str p, .str q]) (.tuple [.str r, .str s]))) := fun p q r s => by
        unfold oLtX
        exact if_pos ⟨rfl, rfl, rfl, Nat.le_of_ble_eq_true rfl⟩
      rw [this]
      unfold ltV
      rw [this]
    · cases h2
  · cases h1
theorem nm_str {d : PyData} (h : nmB d = true) : isS d = true := by
  cases d <;> first | rfl | cases h
/-! ### what a graph is -/
theorem nms_is {xs : List PyData} (h : ∀ x ∈ xs, Shrt x) {ρ : Ev} (h0 : ρ[0]? = some (.val (.tuple xs))) (hl : ρ.length = 2) : mAg (iS (mW 0)) [1] (gN 1) qT (mCb M_is_name (aCons (mV 1) aNil)) ρ = some (.bool (xs.all nmB)) := by
  match ρ, hl with
  | [r0, r1], _ =>
    cases h0
    exact x_ag (ds := xs) rfl (x_agGo nmB _ fun d hd => ⟨[.val (.tuple xs), .val d], rfl, rfl, x_cb rfl (name_is (h d hd))⟩)
def amB : PyData → Bool
  | .tuple xs => xs.all nmB && rB xs
  | _ => false
theorem names_is {d : PyData} (h : ∀ xs, d = .tuple xs → ∀ x ∈ xs, Shrt x) : M_are_names [d] = some (.bool (amB d)) := by
  have hU := isU_is d (ρ := [.val d, .no]) (i := 0) rfl
  cases d with
  | tuple xs =>
    have ha := nms_is (h xs rfl) (ρ := [.val (.tuple xs), .no]) rfl rfl
    refine r_eq rfl (r_ret (d := .bool (xs.all nmB && rB xs)) (x_mandT hU ?_) rfl)
    cases hn : xs.all nmB with
    | false =>
      rw [hn] at ha
      exact x_mandF ha
    | true =>
      rw [hn] at ha
      exact x_mandT ha (x_cb rfl (rising_is (cmp_strs fun d hd => nm_str (List.all_eq_true.mp hn d hd))))
  | _ => exact r_eq rfl (r_ret (d := .bool false) (x_mandF hU) rfl)
def ShP (d : PyData) : Prop := ∀ x y, d = .tuple [x, y] → Shrt x ∧ Shrt y
def txD : PyData → List Str
  | .tuple xs => txs xs
  | _ => []
structure ShG (d : PyData) : Prop where
  nm : ∀ a b xs, d = .tuple [a, b] → a = .tuple xs → ∀ x ∈ xs, Shrt x
  pr : ∀ a b ys, d = .tuple [a, b] → b = .tuple ys → ∀ y ∈ ys, ∀ zs, y = .tuple zs → ∀ z ∈ zs, Shrt z
theorem ShG.sp {d a b : PyData} {ys : List PyData} (h : ShG d) (e : d = .tuple [a, b]) (eb : b = .tuple ys) {y : PyData} (hy : y ∈ ys) : ShP y := fun x z exz => ⟨h.pr a b ys e eb y hy _ exz x (by simp), h.pr a b ys e eb y hy _ exz z (by simp)⟩
theorem nm_strs : ∀ {l : List PyData}, l.all nmB = true → l = (txs l).map .str
  | [], _ => rfl
  | d :: l, hl => by
    rw [List.all_cons, Bool.and_eq_true] at hl
    have := nm_str hl.1
    match d, this with
    | .str x, _ => exact congrArg (PyData.str x :: ·) (nm_strs hl.2)
end K56
namespace K56
open PySem PySem.Spec PyProof.Rows L2 LB PM
/-! ### what a house is, of any kind of thing -/
theorem sgB_iff (c : Nat) : sgB c = true ↔ 97 ≤ c ∧ c ≤ 122 := by
  unfold sgB
  have e : ("abcdefghijklmnopqrstuvwxyz" : Str).cps.toList = (List.range 26).map (· + 97) := by decide
  rw [decide_eq_true_iff, e, List.mem_map]
  constructor
  · rintro ⟨k, hk, rfl⟩
    have := List.mem_range.mp hk
    omega
  · exact fun h => ⟨c - 97, List.mem_range.mpr (by omega), by omega⟩
theorem nmB_iff (x : Str) : nmB (.str x) = true ↔ NameOk x := by
  show ((decide (1 ≤ (x.length : Int)) && decide ((x.length : Int) ≤ 8)) && x.cps.toList.all sgB) = true ↔ _
  rw [Bool.and_eq_true, Bool.and_eq_true, decide_eq_true_iff, decide_eq_true_iff, List.all_eq_true]
  unfold NameOk
  constructor
  · rintro ⟨⟨h1, h2⟩, h3⟩
    exact ⟨by omega, by omega, fun c hc => (sgB_iff c).mp (h3 c hc)⟩
  · rintro ⟨h1, h2, h3⟩
    exact ⟨⟨by omega, by omega⟩, fun c hc => (sgB_iff c).mpr (h3 c hc)⟩
theorem nm_name {d : PyData} (h : nmB d = true) : ∃ x, d = .str x ∧ NameOk x := by
  cases d with
  | str x => exact ⟨x, rfl, (nmB_iff x).mp h⟩
  | _ => cases h
theorem ltV_str (a b : Str) : ltV (.str a) (.str b) = decide (a.cps.toList < b.cps.toList) := rfl
theorem rB_iff : ∀ l : List Str, rB (l.map .str) = true ↔ Rise l
  | [] => ⟨fun _ => List.Pairwise.nil, fun _ => rfl⟩
  | [a] => ⟨fun _ => List.pairwise_singleton _ _, fun _ => rfl⟩
  | a :: b :: r => by
    have ih := rB_iff (b :: r)
    show (ltV (.str a) (.str b) && rB ((b :: r).map .str)) = true ↔ _
    rw [Bool.and_eq_true, ih, ltV_str, decide_eq_true_iff]
    constructor
    · rintro ⟨h1, h2⟩
      refine List.pairwise_cons.mpr ⟨fun x hx => ?_, h2⟩
      rcases List.mem_cons.mp hx with rfl | hx
      · exact h1
      · exact List.lt_trans h1 ((List.pairwise_cons.mp h2).1 x hx)
    · intro h
      obtain ⟨h1, h2⟩ := List.pairwise_cons.mp h
      exact ⟨h1 b List.mem_cons_self, h2⟩
/-- numbers from .. to .. -/
def bwB (a b : Int) : PyData → Bool
  | .int i => decide (a ≤ i) && decide (i ≤ b)
  | _ => false
theorem bw_int {a b : Int} {d : PyData} (h : bwB a b d = true) : ∃ i, d = .int i ∧ a ≤ i ∧ i ≤ b := by
  cases d with
  | int i =>
    have h : (decide (a ≤ i) && decide (i ≤ b)) = true := h
    rw [Bool.and_eq_true, decide_eq_true_iff, decide_eq_true_iff] at h
    exact ⟨i, rfl, h⟩
  | _ => cases h
theorem whole_is (d : PyData) : M_is_whole [d] = some (.bool (match d with | .int _ => true | _ => false)) := by
  cases d with
  | int i => exact r_eq rfl (r_ret (x_mandT rfl rfl) rfl)
  | bool b => exact r_eq rfl (r_ret (x_mandT rfl rfl) rfl)
  | _ => exact r_eq rfl (r_ret (x_mandF rfl) rfl)
theorem between_is (a b : Int) (d : PyData) : M_is_between [d, .int a, .int b] = some (.bool (bwB a b d)) := by
  have w := whole_is d
  cases d with
  | int i =>
    refine r_eq rfl (r_ret (x_mandT (x_cb rfl w) ?_) rfl)
    show (if decide (a ≤ i) = true then some (PyData.bool (decide (i ≤ b))) else some (.bool false)) = some (.bool (decide (a ≤ i) && decide (i ≤ b)))
    cases decide (a ≤ i) <;> rfl
  | _ => exact r_eq rfl (r_ret (x_mandF (x_cb rfl w)) rfl)
theorem L_whole_is (a b : Int) (d : PyData) : M_L_whole [d, .int a, .int b] = some (.bool (bwB a b d)) := by
  cases d with
  | int i =>
    refine r_eq rfl (r_ret (x_mandT rfl (x_mandT rfl ?_)) rfl)
    show (if decide (a ≤ i) = true then some (PyData.bool (decide (i ≤ b))) else some (.bool false)) = some (.bool (decide (a ≤ i) && decide (i ≤ b)))
    cases decide (a ≤ i) <;> rfl
  | bool c => exact r_eq rfl (r_ret (x_mandT rfl (x_mandF rfl)) rfl)
  | _ => exact r_eq rfl (r_ret (x_mandF rfl) rfl)
def rowN (n : Nat) : PyData → Bool
  | .tuple xs => decide (xs.length = n)
  | _ => false
theorem rowN_is (n : Nat) (d : PyData) : M_is_row [d, .int (n : Int)] = some (.bool (rowN n d)) := by
  cases d with
  | tuple xs =>
    refine r_eq rfl (r_ret (d := .bool (decide (xs.length = n))) (x_mandT rfl (x_op (x_cb rfl rfl) rfl ((eq_ii _ _).trans ?_))) rfl)
    exact congrArg (fun b => some (PyData.bool b)) (decide_eq_decide.mpr (by omega))
  | _ => exact r_eq rfl (r_ret (d := .bool false) (x_mandF rfl) rfl)
/-- texts within are short, rows few -/
structure Ths (d : PyData) : Prop where
  few : ∀ t js ls, d = .tuple [t, .tuple js, .tuple ls] → js.length ≤ 20 ∧ ls.length ≤ 20
  row : ∀ t js ls, d = .tuple [t, .tuple js, .tuple ls] → ∀ j ∈ js ++ ls, ∀ xs, j = .tuple xs → ∀ x ∈ xs, Shrt x ∧ ∀ ws, x = .tuple ws → ws.length ≤ 20 ∧ ∀ y ∈ ws, Shrt y
def RowF (j : PyData) : Prop := ∀ xs, j = .tuple xs → ∀ x ∈ xs, Shrt x ∧ ∀ ws, x = .tuple ws → ws.length ≤ 20 ∧ ∀ y ∈ ws, Shrt y
def jobB : PyData → Bool
  | .tuple [a, _, _, w] => nmB a && amB w
  | _ => false
def toolB : PyData → Bool
  | .tuple [a, _, _] => nmB a
  | _ => false
theorem job_is {d : PyData} (h : RowF d) : M_is_job [d] = some (.bool (jobB d)) := by
  have r := rowN_is 4 d
  cases d with
  | tuple xs =>
    match xs with
    | [a, b, c, w] =>
      have na := name_is (h _ rfl a (by simp)).1
      have nw := names_is (d := w) fun ys e => ((h _ rfl w (by simp)).2 ys e).2
      refine r_eq rfl (r_ret (d := .bool (nmB a && amB w)) (x_mandT (x_cb rfl r) ?_) rfl)
      cases hn : nmB a with
      | false =>
        rw [hn] at na
        exact x_mandF (x_cb (x_cons (x_op rfl rfl (ix_t at0)) rfl) na)
      | true =>
        rw [hn] at na
        exact x_mandT (x_cb (x_cons (x_op rfl rfl (ix_t at0)) rfl) na) (x_cb (x_cons (x_op rfl rfl (ix_t at3)) rfl) nw)
    | [] => exact r_eq rfl (r_ret (d := .bool false) (x_mandF (x_cb rfl r)) rfl)
    | [_] => exact r_eq rfl (r_ret (d := .bool false) (x_mandF (x_cb rfl r)) rfl)
    | [_, _] => exact r_eq rfl (r_ret (d := .bool false) (x_mandF (x_cb rfl r)) rfl)
    | [_, _, _] => exact r_eq rfl (r_ret (d := .bool false) (x_mandF (x_cb rfl r)) rfl)
    | a :: b :: c :: e :: f :: l =>
      rw [show rowN 4 (.tuple (a :: b :: c :: e :: f :: l)) = false from by simp [rowN]] at r
      exact r_eq rfl (r_ret (d := .bool false) (x_mandF (x_cb rfl r)) rfl)
  | _ => exact r_eq rfl (r_ret (d := .bool false) (x_mandF (x_cb rfl r)) rfl)
theorem tool_is {d : PyData} (h : RowF d) : M_is_tool [d] = some (.bool (toolB d)) := by
  have r := rowN_is 3 d
  cases d with
  | tuple xs =>
    match xs with
    | [a, b, c] =>
      have na := name_is (h _ rfl a (by simp)).1
      exact r_eq rfl (r_ret (d := .bool (nmB a)) (x_mandT (x_cb rfl r) (x_cb (x_cons (x_op rfl rfl (ix_t at0)) rfl) na)) rfl)
    | [] => exact r_eq rfl (r_ret (d := .bool false) (x_mandF (x_cb rfl r)) rfl)
    | [_] => exact r_eq rfl (r_ret (d := .bool false) (x_mandF (x_cb rfl r)) rfl)
    | [_, _] => exact r_eq rfl (r_ret (d := .bool false) (x_mandF (x_cb rfl r)) rfl)
    | a :: b :: c :: e :: l =>
      rw [show rowN 3 (.tuple (a :: b :: c :: e :: l)) = false from by simp [rowN]] at r
      exact r_eq rfl (r_ret (d := .bool false) (x_mandF (x_cb rfl r)) rfl)
  | _ => exact r_eq rfl (r_ret (d := .bool false) (x_mandF (x_cb rfl r)) rfl)
/-- rows of jobs and tools, whatever their numbers are -/
structure RJ where
  n : Str
  g : PyData
  r : PyData
  w : List Str
structure RT where
  n : Str
  c : PyData
  f : PyData
def rjD (j : RJ) : PyData := .tuple [.str j.n, j.g, j.r, .tuple (j.w.map .str)]
def rtD (t : RT) : PyData := .tuple [.str t.n, t.c, t.f]
theorem names_of_strs {l : List PyData} (h : l.all nmB = true) : ∃ ns : List Str, l = ns.map .str ∧ ∀ x ∈ ns, NameOk x := by
  have e := nm_strs h
  refine ⟨txs l, e, fun x hx => (nmB_iff x).mp ?_⟩
  exact List.all_eq_true.mp h _ (by rw [e]; exact List.mem_map_of_mem hx)
theorem jobs_raw : ∀ {js : List PyData}, js.all jobB = true → ∃ J : List RJ, js = J.map rjD ∧ ∀ j ∈ J, NameOk j.n ∧ Rise j.w ∧ ∀ x ∈ j.w, NameOk x
  | [], _ => ⟨[], rfl, fun j hj => absurd hj List.not_mem_nil⟩
  | d :: js, h => by
    rw [List.all_cons, Bool.and_eq_true] at h
    obtain ⟨J, rfl, hJ⟩ := jobs_raw h.2
    have h1 := h.1
    unfold jobB at h1
    split at h1
    · rename_i a b c w
      rw [Bool.and_eq_true] at h1
      obtain ⟨x, rfl, hx⟩ := nm_name h1.1
      have h2 := h1.2
      unfold amB at h2
      split at h2
      · rw [Bool.and_eq_true] at h2
        obtain ⟨ws, rfl, hw⟩ := names_of_strs h2.1
        refine ⟨⟨x, b, c, ws⟩ :: J, rfl, fun j hj => ?_⟩
        rcases List.mem_cons.mp hj with rfl | hj
        · exact ⟨hx, (rB_iff ws).mp h2.2, hw⟩
        · exact hJ j hj
      · cases h2
    · cases h1
theorem tools_raw : ∀ {ls : List PyData}, ls.all toolB = true → ∃ L : List RT, ls = L.map rtD ∧ ∀ t ∈ L, NameOk t.n
  | [], _ => ⟨[], rfl, fun j hj => absurd hj List.not_mem_nil⟩
  | d :: ls, h => by
    rw [List.all_cons, Bool.and_eq_true] at h
    obtain ⟨L, rfl, hL⟩ := tools_raw h.2
    have h1 := h.1
    unfold toolB at h1
    split at h1
    · obtain ⟨x, rfl, hx⟩ := nm_name h1
      refine ⟨⟨x, _, _⟩ :: L, rfl, fun j hj => ?_⟩
      rcases List.mem_cons.mp hj with rfl | hj
      · exact hx
      · exact hL j hj
    · cases h1
end K56
namespace K56
open PySem PySem.Spec PyProof.Rows L2 LB PM
/-! ### jobs and tools, as the program looks at them -/
theorem map_inj {α β : Type} {f : α → β} (hf : ∀ a b, f a = f b → a = b) : ∀ {l l' : List α}, l.map f = l'.map f → l = l'
  | [], [], _ => rfl
  | [], b :: l', h => by cases h
  | a :: l, [], h => by cases h
  | a :: l, b :: l', h => by
    rw [List.map_cons, List.map_cons] at h
    injection h with h1 h2
    rw [hf a b h1, map_inj hf h2]
theorem str_inj {l l' : List Str} (h : l.map PyData.str = l'.map PyData.str) : l = l' := map_inj (fun a b e => by injection e) h
theorem rjD_inj (a b : RJ) (h : rjD a = rjD b) : a = b := by
  obtain ⟨n, g, r, w⟩ := a
  obtain ⟨n', g', r', w'⟩ := b
  have h : PyData.tuple [.str n, g, r, .tuple (w.map .str)] = .tuple [.str n', g', r', .tuple (w'.map .str)] := h
  injection h with h
  injection h with h1 h
  injection h with h2 h
  injection h with h3 h
  injection h with h4 _
  injection h1 with h1
  injection h4 with h4
  rw [h1, h2, h3, str_inj h4]
theorem rtD_inj (a b : RT) (h : rtD a = rtD b) : a = b := by
  obtain ⟨n, c, f⟩ := a
  obtain ⟨n', c', f'⟩ := b
  have h : PyData.tuple [.str n, c, f] = .tuple [.str n', c', f'] := h
  injection h with h
  injection h with h1 h
  injection h with h2 h
  injection h with h3 _
  injection h1 with h1
  rw [h1, h2, h3]
abbrev jn (J : List RJ) : List Str := J.map (·.n)
abbrev ln (L : List RT) : List Str := L.map (·.n)
def JobOk (j : RJ) : Prop := NameOk j.n ∧ Rise j.w ∧ ∀ x ∈ j.w, NameOk x
/-- jobs and tools, whatever their numbers are -/
structure JT (J : List RJ) (L : List RT) : Prop where
  jok : ∀ j ∈ J, JobOk j
  tok : ∀ t ∈ L, NameOk t.n
  jr : Rise (jn J)
  lr : Rise (ln L)
  wl : ∀ j ∈ J, ∀ x ∈ j.w, x ∈ ln L
theorem nm_all {ns : List Str} (h : ∀ x ∈ ns, NameOk x) : (ns.map PyData.str).all nmB = true := by
  rw [List.all_map, List.all_eq_true]
  exact fun x hx => (nmB_iff x).mpr (h x hx)
theorem job_ok {j : RJ} (h : JobOk j) : jobB (rjD j) = true := by
  show (nmB (.str j.n) && ((j.w.map PyData.str).all nmB && rB (j.w.map .str))) = true
  rw [(nmB_iff _).mpr h.1, nm_all h.2.2, (rB_iff _).mpr h.2.1]
  rfl
theorem lc_fst {α : Type} {ρ : Ev} {i : Nat} (D : α → PyData) (F : α → Str) (l : List α) {e : ME} (h : ∀ a ∈ l, ∃ ρ1, gN i (D a) ρ = some ρ1 ∧ e ρ1 = some (.str (F a))) : lcGo (gN i) qT e ρ (l.map D) = some ((l.map F).map .str) := by
  rw [List.map_map]
  have : ∀ l : List α, (∀ a ∈ l, ∃ ρ1, gN i (D a) ρ = some ρ1 ∧ e ρ1 = some (.str (F a))) → lcGo (gN i) qT e ρ (l.map D) = some (l.map fun a => .str (F a)) := fun l => by
    induction l with
    | nil => exact fun _ => rfl
    | cons a l ih =>
      intro h
      obtain ⟨ρ1, h1, h2⟩ := h a List.mem_cons_self
      have ih := ih fun x hx => h x (List.mem_cons_of_mem _ hx)
      show (gN i (D a) ρ).bind _ = _
      rw [h1]
      show (e ρ1).bind _ = _
      rw [h2]
      show (lcGo (gN i) qT e ρ (l.map D)).map _ = _
      rw [ih]
      rfl
  exact this l h
theorem rising_strs (ns : List Str) : M_is_rising [.list (ns.map .str)] = some (.bool (rB (ns.map .str))) := by
  have h : Cmp (ns.map PyData.str) := cmp_strs fun d hd => by
    obtain ⟨x, _, rfl⟩ := List.mem_map.mp hd
    rfl
  generalize ns.map PyData.str = ds at h
  refine r_eq rfl (r_ret (d := .bool (rB ds)) (x_ag (ds := zipD ds (ds.drop 1)) ?_ ?_) rfl)
  · show some (zipD ds (LB.cutD ds (some 1) none)) = _
    rw [cut_tail]
  · rw [x_agGo ltZ _ fun d hd => ?_, zip_all]
    obtain ⟨a, ha, b, hb, rfl⟩ := zip_mem hd
    exact ⟨[.val (.list ds), .val a, .val b], rfl, rfl, x_op rfl rfl (h a ha b (List.mem_of_mem_drop hb))⟩
theorem jt_is {js ls : List PyData} (hj : ∀ j ∈ js, RowF j) (hl : ∀ t ∈ ls, RowF t) (j20 : js.length ≤ 20) (l20 : ls.length ≤ 20) : ∃ b, M_are_jobs_and_tools [.tuple js, .tuple ls] = some (.bool b) ∧ (b = true ↔ ∃ J L, js = J.map rjD ∧ ls = L.map rtD ∧ JT J L) := by
  have a1 : mAg (iS (mW 0)) [4] (gN 4) qT (mCb M_is_job (aCons (mV 4) aNil)) (evOf 2 6 [.tuple js, .tuple ls]) = some (.bool (js.all jobB)) := x_ag (ds := js) rfl (x_agGo jobB _ fun d hd => ⟨_, rfl, rfl, x_cb rfl (job_is (hj d hd))⟩)
  have a2 : mAg (iS (mW 1)) [3] (gN 3) qT (mCb M_is_tool (aCons (mV 3) aNil)) (evOf 2 6 [.tuple js, .tuple ls]) = some (.bool (ls.all toolB)) := x_ag (ds := ls) rfl (x_agGo toolB _ fun d hd => ⟨_, rfl, rfl, x_cb rfl (tool_is (hl d hd))⟩)
  have no1 : js.all jobB = false → ¬ ∃ J L, js = J.map rjD ∧ ls = L.map rtD ∧ JT J L := fun h ⟨J, L, e, _, H⟩ => by
    have : js.all jobB = true := by
      rw [e, List.all_map, List.all_eq_true]
      exact fun j hj => job_ok (H.jok j hj)
    rw [h] at this
    cases this
  have no2 : ls.all toolB = false → ¬ ∃ J L, js = J.map rjD ∧ ls = L.map rtD ∧ JT J L := fun h ⟨J, L, _, e, H⟩ => by
    have : ls.all toolB = true := by
      rw [e, List.all_map, List.all_eq_true]
      exact fun t ht => (nmB_iff _).mpr (H.tok t ht)
    rw [h] at this
    cases this
  cases h1 : js.all jobB with
  | false =>
    rw [h1] at a1
    exact ⟨false, r_eq rfl ⟨_, x_ret (x_ifT (x_not (c := false) (x_andF (x_qv a1))) (x_rt rfl)), rfl⟩, (fun z => nomatch z), fun z => absurd z (no1 h1)⟩
  | true =>
    rw [h1] at a1
    cases h2 : ls.all toolB with
    | false =>
      rw [h2] at a2
      exact ⟨false, r_eq rfl ⟨_, x_ret (x_ifT (x_not (c := false) (x_andT (x_qv a1) (x_qv a2))) (x_rt rfl)), rfl⟩, (fun z => nomatch z), fun z => absurd z (no2 h2)⟩
    | true =>
      rw [h2] at a2
      obtain ⟨J, rfl, hJ⟩ := jobs_raw h1
      obtain ⟨L, rfl, hL⟩ := tools_raw h2
      have uniq : (∃ J' L', J.map rjD = J'.map rjD ∧ L.map rtD = L'.map rtD ∧ JT J' L') ↔ JT J L := ⟨fun ⟨J', L', e1, e2, H⟩ => by rw [map_inj rjD_inj e1, map_inj rtD_inj e2]; exact H, fun H => ⟨J, L, rfl, rfl, H⟩⟩
      rw [List.length_map] at j20 l20
      have e1 : ∀ {ρ : Ev}, (∀ a ∈ L, ∃ ρ1, gN 3 (rtD a) (wipeM ρ [3]) = some ρ1 ∧ mOp oIx (mW 3) (mC (.int 0)) ρ1 = some (.str a.n)) → iS (mW 1) ρ = some (L.map rtD) → mLc (iS (mW 1)) [3] (gN 3) qT (mOp oIx (mW 3) (mC (.int 0))) ρ = some (.list ((ln L).map .str)) := fun h hi => x_lc hi (by rw [List.length_map]; omega) (lc_fst rtD (·.n) L h)
      have n1 : mLc (iS (mW 1)) [3] (gN 3) qT (mOp oIx (mW 3) (mC (.int 0))) (evOf 2 6 [.tuple (J.map rjD), .tuple (L.map rtD)]) = some (.list ((ln L).map .str)) := e1 (fun a _ => ⟨_, rfl, x_op rfl rfl (ix_t at0)⟩) rfl
      have n2 : mLc (iS (mW 0)) [4] (gN 4) qT (mOp oIx (mW 4) (mC (.int 0))) [.val (.tuple (J.map rjD)), .val (.tuple (L.map rtD)), .val (.list ((ln L).map .str)), .no, .no, .no] = some (.list ((jn J).map .str)) := x_lc (ds := J.map rjD) rfl (by rw [List.length_map]; omega) (lc_fst rjD (·.n) J fun a _ => ⟨_, rfl, x_op rfl rfl (ix_t at0)⟩)
      have r1 : qV (mCb M_is_rising (aCons (mLc (iS (mW 0)) [4] (gN 4) qT (mOp oIx (mW 4) (mC (.int 0)))) aNil)) [.val (.tuple (J.map rjD)), .val (.tuple (L.map rtD)), .val (.list ((ln L).map .str)), .no, .no, .no] = some (rB ((jn J).map .str)) := x_qv (x_cb (x_cons n2 rfl) (rising_strs _))
      have r2 : qV (mCb M_is_rising (aCons (mV 2) aNil)) [.val (.tuple (J.map rjD)), .val (.tuple (L.map rtD)), .val (.list ((ln L).map .str)), .no, .no, .no] = some (rB ((ln L).map .str)) := x_qv (x_cb (x_cons rfl rfl) (rising_strs _))
      have w20 : ∀ j ∈ J, j.w.length ≤ 20 := fun j hj' => by
        have := ((hj (rjD j) (List.mem_map_of_mem hj') _ rfl (.tuple (j.w.map .str)) (by simp)).2 _ rfl).1
        rwa [List.length_map] at this
      have ag : mAg2 (iS (mW 0)) [4, 5] (gN 4) qT (iS (mOp oIx (mW 4) (mC (.int 3)))) [5] (gN 5) qT (mOp oIn (mW 5) (mW 2)) [.val (.tuple (J.map rjD)), .val (.tuple (L.map rtD)), .val (.list ((ln L).map .str)), .no, .no, .no] = some (.bool (J.all fun j => j.w.all fun x => decide (x ∈ ln L))) := by
        refine x_ag2 (ds := J.map rjD) rfl (by rw [List.length_map]; omega) (agGo2_map rjD _ J fun j hj' => ?_)
        refine ⟨_, j.w.map .str, rfl, rfl, ?_, by rw [List.length_map]; have := w20 j hj'; omega, ?_⟩
        · unfold iS
          rw [show mOp oIx (mW 4) (mC (.int 3)) _ = some (.tuple (j.w.map .str)) from x_op rfl rfl (ix_t at3)]
          rfl
        · have := agGo_map (gm := gN 5) (mt := qT) (me := mOp oIn (mW 5) (mW 2)) (ρ := wipeM [.val (.tuple (J.map rjD)), .val (.tuple (L.map rtD)), .val (.list ((ln L).map .str)), .no, .val (rjD j), .no] [5]) PyData.str (fun _ => true) (fun x => decide (x ∈ ln L)) j.w fun x _ => ⟨_, rfl, rfl, fun _ => x_op rfl rfl (in_strs rfl)⟩
          rw [List.filter_eq_self.mpr fun _ _ => rfl] at this
          exact this
      cases h3 : rB ((jn J).map .str) with
      | false =>
        rw [h3] at r1
        refine ⟨false, r_eq rfl (r_seq (x_ifF (x_not (c := true) (x_andT (x_qv a1) (x_qv a2))) rfl) (r_seq (x_set n1) ⟨_, x_ret (x_ifT (x_not (c := false) (x_andF r1)) (x_rt rfl)), rfl⟩)), (fun z => nomatch z), fun z => ?_⟩
        rw [uniq] at z
        have := (rB_iff _).mpr z.jr
        rw [h3] at this
        cases this
      | true =>
        rw [h3] at r1
        cases h4 : rB ((ln L).map .str) with
        | false =>
          rw [h4] at r2
          refine ⟨false, r_eq rfl (r_seq (x_ifF (x_not (c := true) (x_andT (x_qv a1) (x_qv a2))) rfl) (r_seq (x_set n1) ⟨_, x_ret (x_ifT (x_not (c := false) (x_andT r1 r2)) (x_rt rfl)), rfl⟩)), (fun z => nomatch z), fun z => ?_⟩
          rw [uniq] at z
          have := (rB_iff _).mpr z.lr
          rw [h4] at this
          cases this
        | true =>
          rw [h4] at r2
          refine ⟨_, r_eq rfl (r_seq (x_ifF (x_not (c := true) (x_andT (x_qv a1) (x_qv a2))) rfl) (r_seq (x_set n1) (r_seq (x_ifF (x_not (c := true) (x_andT r1 r2)) rfl) (r_ret ag rfl)))), ?_⟩
          rw [uniq, List.all_eq_true]
          constructor
          · exact fun h => ⟨hJ, hL, (rB_iff _).mp h3, (rB_iff _).mp h4, fun j hj' x hx => of_decide_eq_true (List.all_eq_true.mp (h j hj') x hx)⟩
          · exact fun H j hj' => List.all_eq_true.mpr fun x hx => decide_eq_true (H.wl j hj' x hx)
end K56
namespace K56
open PySem PySem.Spec PyProof.Rows L2 LB PM
/-! ### the web of jobs and tools -/
theorem lcGo_map {α : Type} {gm : MG} {mt : MT} {me : ME} {ρ : Ev} (D : α → PyData) (p : α → Bool) (F : α → PyData) : ∀ (L : List α), (∀ a ∈ L, ∃ ρ1, gm (D a) ρ = some ρ1 ∧ mt ρ1 = some (p a) ∧ (p a = true → me ρ1 = some (F a))) → lcGo gm mt me ρ (L.map D) = some ((L.filter p).map F)
  | [], _ => rfl
  | a :: L, h => by
    obtain ⟨ρ1, h1, h2, h3⟩ := h a List.mem_cons_self
    have ih := lcGo_map (gm := gm) (mt := mt) (me := me) (ρ := ρ) D p F L fun x hx => h x (List.mem_cons_of_mem _ hx)
    show (gm (D a) ρ).bind _ = _
    rw [h1]
    show (mt ρ1).bind _ = _
    rw [h2]
    cases hp : p a with
    | true =>
      show (me ρ1).bind _ = _
      rw [h3 hp]
      show (lcGo gm mt me ρ (L.map D)).map _ = _
      rw [ih, List.filter_cons_of_pos hp]
      rfl
    | false =>
      show lcGo gm mt me ρ (L.map D) = _
      rw [ih, List.filter_cons_of_neg (by rw [hp]; decide)]
theorem filter_all {α : Type} (L : List α) : L.filter (fun _ => true) = L := List.filter_eq_self.mpr fun _ _ => rfl
theorem name_lay {x : Str} (h : NameOk x) : PyData.strOk x = true := by
  have h := h.2.2
  unfold PyData.strOk
  rw [← Array.all_toList, List.all_eq_true]
  intro c hc
  have := h c hc
  exact decide_eq_true (by omega)
theorem ne_str {x y : Str} (hx : SeqAt.shaped (.str x) = true) (hy : SeqAt.shaped (.str y) = true) : oNe (.str x) (.str y) = some (.bool (!decide (x = y))) := by
  unfold oNe
  rw [if_pos ⟨hx, hy⟩, eqv_str]
  rfl
theorem lcGo2_map {α : Type} {gm gm1 : MG} {mt mt1 : MT} {mi1 : MA} {vs1 : List Nat} {me : ME} {ρ : Ev} (D : α → PyData) (G : α → List PyData) : ∀ (L : List α), (∀ a ∈ L, ∃ ρ1 es, gm (D a) ρ = some ρ1 ∧ mt ρ1 = some true ∧ mi1 ρ1 = some es ∧ lcGo gm1 mt1 me (wipeM ρ1 vs1) es = some (G a)) → lcGo2 gm mt mi1 vs1 gm1 mt1 me ρ (L.map D) = some (L.flatMap G)
  | [], _ => rfl
  | a :: L, h => by
    obtain ⟨ρ1, es, h1, h2, h3, h4⟩ := h a List.mem_cons_self
    have ih := lcGo2_map (gm := gm) (mt := mt) (mi1 := mi1) (vs1 := vs1) (gm1 := gm1) (mt1 := mt1) (me := me) (ρ := ρ) D G L fun x hx => h x (List.mem_cons_of_mem _ hx)
    show (gm (D a) ρ).bind _ = _
    rw [h1]
    show (mt ρ1).bind _ = _
    rw [h2]
    show (mi1 ρ1).bind _ = _
    rw [h3]
    show (lcGo gm1 mt1 me (wipeM ρ1 vs1) es).bind _ = _
    rw [h4]
    show (lcGo2 gm mt mi1 vs1 gm1 mt1 me ρ (L.map D)).map _ = _
    rw [ih]
    rfl
theorem lc_all {α : Type} {gm : MG} {me : ME} {ρ : Ev} (D : α → PyData) (E : α → PyData) (l : List α) (h : ∀ a ∈ l, ∃ ρ1, gm (D a) ρ = some ρ1 ∧ me ρ1 = some (E a)) : lcGo gm qT me ρ (l.map D) = some (l.map E) := by
  have := lcGo_map (gm := gm) (mt := qT) (me := me) (ρ := ρ) D (fun _ => true) E l fun a ha => by
    obtain ⟨ρ1, h1, h2⟩ := h a ha
    exact ⟨ρ1, h1, rfl, fun _ => h2⟩
  rwa [filter_all] at this
theorem x_asg {e : ME} {gm : MG} {ρ ρ' : Ev} {d : PyData} (h : e ρ = some d) (h2 : gm d ρ = some ρ') : mAsg e gm ρ = some (.nx ρ') := by
  unfold mAsg
  rw [h]
  show (gm d ρ).map _ = _
  rw [h2]
  rfl
def pRJ (j : RJ) : PyData := .tuple [.str j.n, j.g, j.r, .int 0, .int 0]
def pRT (t : RT) : PyData := .tuple [.str t.n, .int 0, .int 0, t.c, t.f]
def tRJ (j : RJ) : List PyData := j.w.map fun x => .tuple [.str j.n, .str x, .int 999]
def plU (J : List RJ) (L : List RT) : List PyData := J.map pRJ ++ L.map pRT
noncomputable def plS (J : List RJ) (L : List RT) : List PyData := (plU J L).mergeSort (PySem.W.dataLe false fun d => .str (fstS d))
noncomputable def nsS (J : List RJ) (L : List RT) : List Str := (jn J ++ ln L).mergeSort leS
noncomputable def tsS (J : List RJ) : List PyData := sortD (J.flatMap tRJ)
def hsR (t : PyData) (J : List RJ) (L : List RT) : PyData := .tuple [t, .tuple (J.map rjD), .tuple (L.map rtD)]
noncomputable def webR (t : PyData) (J : List RJ) (L : List RT) : PyData := .tuple [t, .tuple (plS J L), .tuple (tsS J)]
theorem plS_names (J : List RJ) (L : List RT) : (plS J L).map fstS = nsS J L := by
  unfold plS nsS
  have := List.map_mergeSort (r := PySem.W.dataLe false fun d => .str (fstS d)) (s := leS) (f := fstS) (l := plU J L) fun a _ b _ => by
    show (!PySem.W.dataLt (.str (fstS b)) (.str (fstS a))) = leS (fstS a) (fstS b)
    rw [PySem.W.dataLt_str]
    rfl
  rw [this]
  congr 1
  unfold plU
  rw [List.map_append, List.map_map, List.map_map]
  rfl
theorem flat_len (J : List RJ) : (J.flatMap tRJ).length = (J.flatMap (·.w)).length := by
  induction J with
  | nil => rfl
  | cons j J ih =>
    rw [List.flatMap_cons, List.flatMap_cons, List.length_append, List.length_append, ih]
    unfold tRJ
    rw [List.length_map]
theorem flat_few : ∀ {J : List RJ}, (∀ j ∈ J, j.w.length ≤ 20) → (J.flatMap (·.w)).length ≤ 20 * J.length
  | [], _ => Nat.zero_le _
  | j :: J, h => by
    have ih := flat_few (J := J) fun x hx => h x (List.mem_cons_of_mem _ hx)
    have := h j List.mem_cons_self
    rw [List.flatMap_cons, List.length_append, List.length_cons]
    omega
theorem fst_all (J : List RJ) (L : List RT) : ∀ d ∈ plU J L, isFst d = true := fun d hd => by
  unfold plU at hd
  rcases List.mem_append.mp hd with h | h
  · obtain ⟨j, _, rfl⟩ := List.mem_map.mp h
    rfl
  · obtain ⟨t, _, rfl⟩ := List.mem_map.mp h
    rfl
theorem srt_rj (J : List RJ) (hl : (J.flatMap tRJ).length ≤ 1000) : Srt (J.flatMap tRJ) := by
  have key : ∀ d ∈ J.flatMap tRJ, ∃ (a b : Str), d = .tuple [.str a, .str b, .int 999] := fun d hd => by
    obtain ⟨j, _, hd⟩ := List.mem_flatMap.mp hd
    obtain ⟨x, _, rfl⟩ := List.mem_map.mp hd
    exact ⟨_, _, rfl⟩
  refine ⟨fun d hd d' hd' => ?_, .inl (.inl fun d hd => ?_), fun d hd => ?_, by omega⟩
  · obtain ⟨a, b, rfl⟩ := key d hd
    obtain ⟨a', b', rfl⟩ := key d' hd'
    rfl
  · obtain ⟨a, b, rfl⟩ := key d hd
    exact ⟨_, _, rfl⟩
  · obtain ⟨a, b, rfl⟩ := key d hd
    exact Nat.le_of_ble_eq_true rfl
theorem web_raw (t : PyData) {J : List RJ} {L : List RT} (j20 : J.length ≤ 20) (l20 : L.length ≤ 20) (w20 : ∀ j ∈ J, j.w.length ≤ 20) : M_house_web [hsR t J L] = some (webR t J L) := by
  have ff := flat_few w20
  refine r_eq rfl (r_seq (x_asg rfl rfl) (r_seq (x_setO (x_lc (ds := J.map rjD) (es := J.map pRJ) rfl (by rw [List.length_map]; omega) (lc_all rjD pRJ J fun j _ => ⟨_, rfl, x_tup rfl (by show 5 ≤ 100000; decide)⟩))) (r_seq (x_augL (x_lc (ds := L.map rtD) (es := L.map pRT) rfl (by rw [List.length_map]; omega) (lc_all rtD pRT L fun t _ => ⟨_, rfl, x_tup rfl (by show 5 ≤ 100000; decide)⟩)) rfl (by rw [List.length_map, List.length_map]; omega)) (r_seq (x_set (x_lc2 (ds := J.map rjD) (es := J.flatMap tRJ) rfl (lcGo2_map rjD tRJ J fun j _ => ⟨_, j.w.map .str, rfl, rfl, rfl, ?_⟩) ?_)) (r_ret (x_tup (x_cons rfl (x_cons (x_cb (x_cons (x_sortFst (ds := plU J L) rfl (fst_all J L) ?_) rfl) rfl) (x_cons (x_cb (x_cons (x_cb (x_cons rfl rfl) (x_sorted (srt_rj J ?_))) rfl) rfl) rfl))) (by show 3 ≤ 100000; decide)) rfl)))))
  · exact lc_all PyData.str (fun x => .tuple [.str j.n, .str x, .int 999]) j.w fun x _ => ⟨_, rfl, x_tup rfl (by show 3 ≤ 100000; decide)⟩
  · rw [flat_len]
    omega
  · unfold plU
    rw [List.length_append, List.length_map, List.length_map]
    omega
  · rw [flat_len]
    omega
end K56
namespace K56
open PySem PySem.Spec PyProof.Rows L2 LB PM PySem.W
/-! ### the web's places and ties -/
def ctB (top : Int) (f c : PyData) : Bool := match f with
  | .int i => bwB (i * top) 999 c
  | _ => false
def plB (top : Int) (g r c f : PyData) : Bool := (bwB 0 99 g && (bwB 0 99 r && bwB 0 99 f)) && ctB top f c
theorem place_is {top : Int} (t1 : 1 ≤ top) (t9 : top ≤ 9) {x : Str} (hx : NameOk x) (g r c f : PyData) : M_is_place [.int top, .tuple [.str x, g, r, c, f]] = some (.bool (plB top g r c f)) := by
  have hr := rowN_is 5 (.tuple [.str x, g, r, c, f])
  have hn := name_is (d := .str x) fun z e => by
    injection e with e
    subst e
    have := hx.2.1
    omega
  rw [(nmB_iff x).mpr hx] at hn
  have bg := between_is 0 99 g
  have br := between_is 0 99 r
  have bf := between_is 0 99 f
  have q0 : qV (mCb M_is_name (aCons (mV 2) aNil)) [.val (.int top), .val (.tuple [.str x, g, r, c, f]), .val (.str x), .val g, .val r, .val c, .val f] = some true := x_qv (x_cb rfl hn)
  have q1 : qV (mCb M_is_between (aCons (mV 3) (aCons (mC (.int 0)) (aCons (mC (.int 99)) aNil)))) [.val (.int top), .val (.tuple [.str x, g, r, c, f]), .val (.str x), .val g, .val r, .val c, .val f] = some (bwB 0 99 g) := x_qv (x_cb rfl bg)
  have q2 : qV (mCb M_is_between (aCons (mV 4) (aCons (mC (.int 0)) (aCons (mC (.int 99)) aNil)))) [.val (.int top), .val (.tuple [.str x, g, r, c, f]), .val (.str x), .val g, .val r, .val c, .val f] = some (bwB 0 99 r) := x_qv (x_cb rfl br)
  have q3 : qV (mCb M_is_between (aCons (mV 6) (aCons (mC (.int 0)) (aCons (mC (.int 99)) aNil)))) [.val (.int top), .val (.tuple [.str x, g, r, c, f]), .val (.str x), .val g, .val r, .val c, .val f] = some (bwB 0 99 f) := x_qv (x_cb rfl bf)
  have qq : qAnd (qV (mCb M_is_name (aCons (mV 2) aNil))) (qAnd (qV (mCb M_is_between (aCons (mV 3) (aCons (mC (.int 0)) (aCons (mC (.int 99)) aNil))))) (qAnd (qV (mCb M_is_between (aCons (mV 4) (aCons (mC (.int 0)) (aCons (mC (.int 99)) aNil))))) (qV (mCb M_is_between (aCons (mV 6) (aCons (mC (.int 0)) (aCons (mC (.int 99)) aNil))))))) [.val (.int top), .val (.tuple [.str x, g, r, c, f]), .val (.str x), .val g, .val r, .val c, .val f] = some (bwB 0 99 g && (bwB 0 99 r && bwB 0 99 f)) := by
    refine x_andT q0 ?_
    cases hg : bwB 0 99 g with
    | false =>
      rw [hg] at q1
      exact x_andF q1
    | true =>
      rw [hg] at q1
      refine (x_andT q1 (c := bwB 0 99 r && bwB 0 99 f) ?_)
      cases hr' : bwB 0 99 r with
      | false =>
        rw [hr'] at q2
        exact x_andF q2
      | true =>
        rw [hr'] at q2
        exact x_andT q2 q3
  unfold plB
  refine r_eq rfl (r_seq (x_ifF (x_not (c := true) (x_qv (x_cb rfl hr))) rfl) (r_seq (x_asg rfl rfl) ?_))
  cases hb : (bwB 0 99 g && (bwB 0 99 r && bwB 0 99 f)) with
  | false =>
    rw [hb] at qq
    exact ⟨_, x_ret (x_ifT (x_not (c := false) qq) (x_rt rfl)), rfl⟩
  | true =>
    rw [hb] at qq
    rw [Bool.and_eq_true, Bool.and_eq_true] at hb
    obtain ⟨i, rfl, i0, i9⟩ := bw_int hb.2.2
    have bc := between_is (i * top) 999 c
    exact r_seq (x_ifF (x_not (c := true) qq) rfl) (r_ret (x_cb (x_cons rfl (x_cons (x_op rfl rfl (mul_ii (by omega) (by omega))) (x_cons rfl rfl))) bc) rfl)
theorem tie_is {ns : List Str} {a b : Str} (ha : NameOk a) (hb : NameOk b) (ma : a ∈ ns) (mb : b ∈ ns) (ne : a ≠ b) : M_is_tie [.tuple (ns.map .str), .tuple [.str a, .str b, .int 999]] = some (.bool true) := by
  have short : ∀ {x : Str}, NameOk x → M_is_name [.str x] = some (.bool true) := fun {x} hx => by
    have hn := name_is (d := .str x) fun z e => by
      injection e with e
      subst e
      have := hx.2.1
      omega
    rwa [(nmB_iff x).mpr hx] at hn
  have sh : ∀ {x : Str}, NameOk x → SeqAt.shaped (.str x) = true := fun {x} hx => by
    have hs : PyData.strOk x = true := name_lay hx
    have l : PyData.canLay0 (.str x) = true := by
      unfold PyData.canLay0
      exact hs
    unfold SeqAt.shaped
    rw [l]
    rfl
  have hr := rowN_is 3 (.tuple [.str a, .str b, .int 999])
  have hn : oNe (.str a) (.str b) = some (.bool true) := by
    rw [ne_str (sh ha) (sh hb), decide_eq_false ne]
    rfl
  refine r_eq rfl (r_seq (x_ifF (x_not (c := true) (x_qv (x_cb rfl hr))) rfl) (r_seq (x_asg rfl rfl) (r_seq (x_ifF (x_not (c := true) (x_andT (x_qv (x_cb rfl (short ha))) (x_andT (x_qv (x_cb rfl (short hb))) (x_qv (x_cb rfl (between_is 1 999 (.int 999))))))) rfl) (r_ret (x_mandT (x_op rfl rfl ((in_strs rfl).trans (by rw [decide_eq_true ma]))) (x_mandT (x_op rfl rfl ((in_strs rfl).trans (by rw [decide_eq_true mb]))) (x_op rfl rfl hn))) rfl))))
/-! ### ties in their order -/
theorem lex_app : ∀ {p p' s s' : List (Int ⊕ List Nat)}, p.length = p'.length → lexLt itemOrd p p' = true → lexLt itemOrd (p ++ s) (p' ++ s') = true
  | [], [], s, s', _, h => by
    rw [lex_irrefl] at h
    cases h
  | [], _ :: _, _, _, h, _ => by cases h
  | _ :: _, [], _, _, h, _ => by cases h
  | x :: r, y :: t, s, s', hl, h => by
    rw [List.length_cons, List.length_cons] at hl
    rcases lex_true.mp h with h | ⟨h1, h2⟩
    · exact lex_true.mpr (.inl h)
    · exact lex_true.mpr (.inr ⟨h1, lex_app (by omega) h2⟩)
def pkT (e : Str × Str) : PyData := .tuple [.str e.1, .str e.2]
def tkT (e : Str × Str) : PyData := .tuple [.str e.1, .str e.2, .int 999]
def tok4 (e : Str × Str) : List (Int ⊕ List Nat) := [.inl 1, .inr e.1.cps.toList, .inl 1, .inr e.2.cps.toList]
theorem toks2 (e : Str × Str) : keyToksAll [.str e.1, .str e.2] = tok4 e ++ [.inl 0] := by
  simp [keyToksAll, keyToks, tok4]
theorem toks3 (e : Str × Str) : keyToksAll [.str e.1, .str e.2, .int 999] = tok4 e ++ [.inl 1, .inl 999, .inl 0] := by
  simp [keyToksAll, keyToks, tok4]
theorem tok4_inj {e f : Str × Str} (h : tok4 e = tok4 f) : e = f := by
  unfold tok4 at h
  simp only [List.cons.injEq, Sum.inr.injEq, and_true, true_and] at h
  obtain ⟨h1, h2⟩ := h
  obtain ⟨a, b⟩ := e
  obtain ⟨c, d⟩ := f
  have h1 : a = c := str_of_cps h1
  have h2 : b = d := str_of_cps h2
  rw [h1, h2]
theorem pair_lt {e f : Str × Str} (ne : e ≠ f) (h : dataLe false id (tkT e) (tkT f) = true) : ltV (pkT e) (pkT f) = true := by
  have h : (!dataLt (tkT f) (tkT e)) = true := h
  unfold tkT at h
  rw [dataLt_tuple, toks3, toks3, Bool.not_eq_true'] at h
  have h1 : lexLt itemOrd (tok4 f) (tok4 e) = false := by
    cases z : lexLt itemOrd (tok4 f) (tok4 e) with
    | false => rfl
    | true =>
      rw [lex_app (p := tok4 f) (p' := tok4 e) rfl z] at h
      cases h
  have h2 : lexLt itemOrd (tok4 e) (tok4 f) = true := by
    cases z : lexLt itemOrd (tok4 e) (tok4 f) with
    | true => rfl
    | false => exact absurd (tok4_inj (lex_total (O := itemOrd) _ _ z h1)) ne
  have hc : oLtX (pkT e) (pkT f) = some (.bool (dataLt (pkT e) (pkT f))) := by
    unfold oLtX pkT
    exact if_pos ⟨rfl, rfl, rfl, Nat.le_of_ble_eq_true rfl⟩
  unfold ltV
  rw [hc]
  show dataLt (pkT e) (pkT f) = true
  unfold pkT
  rw [dataLt_tuple, toks2, toks2]
  exact lex_app rfl h2
theorem rB_pairs : ∀ {l : List PyData}, l.Pairwise (fun a b => ltV a b = true) → rB l = true
  | [], _ => rfl
  | [_], _ => rfl
  | a :: b :: r, h => by
    obtain ⟨h1, h2⟩ := List.pairwise_cons.mp h
    show (ltV a b && rB (b :: r)) = true
    rw [h1 b List.mem_cons_self, rB_pairs h2]
    rfl
end K56
namespace K56
open PySem PySem.Spec PyProof.Rows L2 LB PM PySem.W
/-! ### what the program says of a house -/
theorem le_tr : ∀ a b c : PyData, dataLe false id a b = true → dataLe false id b c = true → dataLe false id a c = true := fun a b c h1 h2 => by
  have h1 : (!lexLt itemOrd (keyToks b) (keyToks a)) = true := h1
  have h2 : (!lexLt itemOrd (keyToks c) (keyToks b)) = true := h2
  show (!lexLt itemOrd (keyToks c) (keyToks a)) = true
  cases h : lexLt itemOrd (keyToks c) (keyToks a) with
  | false => rfl
  | true =>
    rcases lex_negTrans (O := itemOrd) _ (keyToks b) _ h with z | z
    · rw [z] at h2
      cases h2
    · rw [z] at h1
      cases h1
theorem le_tot : ∀ a b : PyData, (dataLe false id a b || dataLe false id b a) = true := fun a b => by
  show (!lexLt itemOrd (keyToks b) (keyToks a) || !lexLt itemOrd (keyToks a) (keyToks b)) = true
  cases h : lexLt itemOrd (keyToks b) (keyToks a) with
  | false => rfl
  | true =>
    cases h2 : lexLt itemOrd (keyToks a) (keyToks b) with
    | false => rfl
    | true =>
      have := lex_trans (O := itemOrd) _ _ _ h h2
      rw [lex_irrefl] at this
      cases this
theorem rising_list {ds : List PyData} (h : Cmp ds) : M_is_rising [.list ds] = some (.bool (rB ds)) := by
  refine r_eq rfl (r_ret (d := .bool (rB ds)) (x_ag (ds := zipD ds (ds.drop 1)) ?_ ?_) rfl)
  · show some (zipD ds (LB.cutD ds (some 1) none)) = _
    rw [cut_tail]
  · rw [x_agGo ltZ _ fun d hd => ?_, zip_all]
    obtain ⟨a, ha, b, hb, rfl⟩ := zip_mem hd
    exact ⟨[.val (.list ds), .val a, .val b], rfl, rfl, x_op rfl rfl (h a ha b (List.mem_of_mem_drop hb))⟩
theorem rise_nodup {ns : List Str} (h : Rise ns) : ns.Nodup := List.nodup_iff_pairwise_ne.mpr (h.imp fun h e => by
  rw [e] at h
  exact absurd h (List.lt_irrefl _))
theorem rise_iff (J : List RJ) (L : List RT) : Rise (nsS J L) ↔ (jn J ++ ln L).Nodup := ⟨fun h => (List.mergeSort_perm _ leS).nodup_iff.mp (rise_nodup h), fun h => rise_sort h⟩
theorem ns_mem {J : List RJ} {L : List RT} {x : Str} : x ∈ nsS J L ↔ x ∈ jn J ∨ x ∈ ln L := by
  unfold nsS
  rw [(List.mergeSort_perm _ leS).mem_iff, List.mem_append]
theorem pl_mem {J : List RJ} {L : List RT} {d : PyData} : d ∈ plS J L ↔ (∃ j ∈ J, d = pRJ j) ∨ ∃ t ∈ L, d = pRT t := by
  unfold plS
  rw [(List.mergeSort_perm _ _).mem_iff]
  unfold plU
  rw [List.mem_append, List.mem_map, List.mem_map]
  constructor
  · rintro (⟨j, h, rfl⟩ | ⟨j, h, rfl⟩)
    · exact .inl ⟨j, h, rfl⟩
    · exact .inr ⟨j, h, rfl⟩
  · rintro (⟨j, h, rfl⟩ | ⟨j, h, rfl⟩)
    · exact .inl ⟨j, h, rfl⟩
    · exact .inr ⟨j, h, rfl⟩
theorem pl_len (J : List RJ) (L : List RT) : (plS J L).length = J.length + L.length := by
  unfold plS plU
  rw [(List.mergeSort_perm _ _).length_eq, List.length_append, List.length_map, List.length_map]
def plD (top : Int) : PyData → Bool
  | .tuple [_, g, r, c, f] => plB top g r c f
  | _ => false
structure PB (top : Int) (J : List RJ) (L : List RT) : Prop where
  n1 : 1 ≤ J.length + L.length
  n8 : J.length + L.length ≤ 8
  jg : ∀ j ∈ J, bwB 0 99 j.g = true ∧ bwB 0 99 j.r = true
  lf : ∀ t ∈ L, bwB 0 99 t.f = true ∧ ctB top t.f t.c = true
  nd : (jn J ++ ln L).Nodup
theorem pl_job (top : Int) (j : RJ) : plD top (pRJ j) = true ↔ bwB 0 99 j.g = true ∧ bwB 0 99 j.r = true := by
  show ((bwB 0 99 j.g && (bwB 0 99 j.r && true)) && bwB (0 * top) 999 (.int 0)) = true ↔ _
  rw [Int.zero_mul, show bwB 0 999 (.int 0) = true from rfl, Bool.and_true, Bool.and_true, Bool.and_eq_true]
theorem pl_tool (top : Int) (t : RT) : plD top (pRT t) = true ↔ bwB 0 99 t.f = true ∧ ctB top t.f t.c = true := by
  show ((true && (true && bwB 0 99 t.f)) && ctB top t.f t.c) = true ↔ _
  rw [Bool.true_and, Bool.true_and, Bool.and_eq_true]
theorem places_is {top : Int} (t1 : 1 ≤ top) (t9 : top ≤ 9) {J : List RJ} {L : List RT} (H : JT J L) (j20 : J.length ≤ 20) (l20 : L.length ≤ 20) : ∃ b, M_are_places [.int top, .tuple (plS J L)] = some (.bool b) ∧ (b = true ↔ PB top J L) := by
  have len := pl_len J L
  have e0 : qV (mIs "tuple" (mW 1)) [.val (.int top), .val (.tuple (plS J L)), .no] = some true := x_qv rfl
  have e1 : qV (mCh oLe oLe (mC (.int 1)) (mCb oLen (aCons (mW 1) aNil)) (mC (.int 8))) [.val (.int top), .val (.tuple (plS J L)), .no] = some (decide (1 ≤ ((plS J L).length : Int)) && decide (((plS J L).length : Int) ≤ 8)) := x_qv (ch3 (x_cb (x_cons rfl rfl) rfl))
  have e2 : mAg (iS (mW 1)) [2] (gN 2) qT (mCb M_is_place (aCons (mV 0) (aCons (mV 2) aNil))) [.val (.int top), .val (.tuple (plS J L)), .no] = some (.bool ((plS J L).all (plD top))) := x_ag (ds := plS J L) rfl (x_agGo (plD top) _ fun d hd => by
    rcases pl_mem.mp hd with ⟨j, hj, rfl⟩ | ⟨t, ht, rfl⟩
    · exact ⟨_, rfl, rfl, x_cb rfl (place_is t1 t9 (H.jok j hj).1 _ _ _ _)⟩
    · exact ⟨_, rfl, rfl, x_cb rfl (place_is t1 t9 (H.tok t ht) _ _ _ _)⟩)
  have e3 : mLc (iS (mW 1)) [2] (gN 2) qT (mOp oIx (mW 2) (mC (.int 0))) [.val (.int top), .val (.tuple (plS J L)), .no] = some (.list ((nsS J L).map .str)) := by
    refine x_lc (ds := plS J L) rfl (by omega) ?_
    have := lc_fst (i := 2) (e := mOp oIx (mW 2) (mC (.int 0))) (ρ := wipeM [.val (.int top), .val (.tuple (plS J L)), .no] [2]) (fun d : PyData => d) fstS (plS J L) fun d hd => by
      rcases pl_mem.mp hd with ⟨j, hj, rfl⟩ | ⟨t, ht, rfl⟩
      · exact ⟨_, rfl, x_op rfl rfl (ix_t at0)⟩
      · exact ⟨_, rfl, x_op rfl rfl (ix_t at0)⟩
    rw [List.map_id', plS_names] at this
    exact this
  rw [len] at e1
  have hall : (plS J L).all (plD top) = true ↔ (∀ j ∈ J, bwB 0 99 j.g = true ∧ bwB 0 99 j.r = true) ∧ ∀ t ∈ L, bwB 0 99 t.f = true ∧ ctB top t.f t.c = true := by
    rw [List.all_eq_true]
    constructor
    · exact fun h => ⟨fun j hj => (pl_job top j).mp (h _ (pl_mem.mpr (.inl ⟨j, hj, rfl⟩))), fun t ht => (pl_tool top t).mp (h _ (pl_mem.mpr (.inr ⟨t, ht, rfl⟩)))⟩
    · rintro ⟨h1, h2⟩ d hd
      rcases pl_mem.mp hd with ⟨j, hj, rfl⟩ | ⟨t, ht, rfl⟩
      · exact (pl_job top j).mpr (h1 j hj)
      · exact (pl_tool top t).mpr (h2 t ht)
  generalize plS J L = P at e0 e1 e2 e3 hall
  by_cases hn : 1 ≤ J.length + L.length ∧ J.length + L.length ≤ 8
  · rw [show (decide (1 ≤ ((J.length + L.length : Nat) : Int)) && decide (((J.length + L.length : Nat) : Int) ≤ 8)) = true by rw [Bool.and_eq_true, decide_eq_true_iff, decide_eq_true_iff]; omega] at e1
    cases ha : P.all (plD top) with
    | false =>
      rw [ha] at e2
      refine ⟨false, r_eq rfl (r_seq (x_ifF (x_not (c := true) (x_andT e0 e1)) rfl) (r_ret (x_mandF e2) rfl)), (fun z => nomatch z), fun z => ?_⟩
      have := hall.mpr ⟨z.jg, z.lf⟩
      rw [ha] at this
      cases this
    | true =>
      rw [ha] at e2
      refine ⟨rB ((nsS J L).map .str), r_eq rfl (r_seq (x_ifF (x_not (c := true) (x_andT e0 e1)) rfl) (r_ret (x_mandT e2 (x_cb (x_cons e3 rfl) (rising_strs _))) rfl)), ?_⟩
      rw [rB_iff, rise_iff]
      exact ⟨fun h => ⟨hn.1, hn.2, (hall.mp ha).1, (hall.mp ha).2, h⟩, fun h => h.nd⟩
  · rw [show (decide (1 ≤ ((J.length + L.length : Nat) : Int)) && decide (((J.length + L.length : Nat) : Int) ≤ 8)) = false by rw [Bool.and_eq_false_iff, decide_eq_false_iff_not, decide_eq_false_iff_not]; omega] at e1
    exact ⟨false, r_eq rfl ⟨_, x_ret (x_ifT (x_not (c := false) (x_andT e0 e1)) (x_rt rfl)), rfl⟩, (fun z => nomatch z), fun z => absurd ⟨z.n1, z.n8⟩ hn⟩
def esJ (J : List RJ) : List (Str × Str) := J.flatMap fun j => j.w.map fun x => (j.n, x)
theorem flat_es (J : List RJ) : J.flatMap tRJ = (esJ J).map tkT := by
  unfold esJ
  rw [List.map_flatMap]
  refine congrArg (fun f => J.flatMap f) (funext fun j => ?_)
  rw [List.map_map]
  rfl
theorem es_nodup : ∀ {J : List RJ}, (∀ j ∈ J, j.w.Nodup) → (jn J).Nodup → (esJ J).Nodup
  | [], _, _ => List.nodup_nil
  | j :: J, h1, h2 => by
    have h2 : (j.n :: jn J).Nodup := h2
    rw [List.nodup_cons] at h2
    have ih := es_nodup (J := J) (fun j' hj => h1 j' (List.mem_cons_of_mem _ hj)) h2.2
    unfold esJ at ih ⊢
    rw [List.flatMap_cons, List.nodup_append]
    refine ⟨List.pairwise_map.mpr ((h1 j List.mem_cons_self).imp fun {a b} h z => h (by injection z)), ih, fun a ha b hb z => ?_⟩
    obtain ⟨x, hx, rfl⟩ := List.mem_map.mp ha
    obtain ⟨j', hj', hb⟩ := List.mem_flatMap.mp hb
    obtain ⟨y, hy, rfl⟩ := List.mem_map.mp hb
    injection z with z1 _
    exact h2.1 (z1 ▸ List.mem_map_of_mem (f := fun j : RJ => j.n) hj')
theorem ties_is {J : List RJ} {L : List RT} (H : JT J L) (nd : (jn J ++ ln L).Nodup) (few : (J.flatMap (·.w)).length ≤ 1000) : M_are_ties [.tuple ((nsS J L).map .str), .tuple (tsS J)] = some (.bool (decide ((J.flatMap (·.w)).length ≤ 16))) := by
  obtain ⟨nj, _, dis⟩ := List.nodup_append.mp nd
  have esn := es_nodup (fun j hj => rise_nodup (H.jok j hj).2.1) nj
  have esl : (esJ J).length = (J.flatMap (·.w)).length := by rw [← flat_len, flat_es, List.length_map]
  have ok : ∀ e ∈ esJ J, NameOk e.1 ∧ NameOk e.2 ∧ e.1 ∈ nsS J L ∧ e.2 ∈ nsS J L ∧ e.1 ≠ e.2 := fun e he => by
    obtain ⟨j, hj, he⟩ := List.mem_flatMap.mp he
    obtain ⟨x, hx, rfl⟩ := List.mem_map.mp he
    have m1 : j.n ∈ jn J := List.mem_map_of_mem (f := fun j : RJ => j.n) hj
    have m2 := H.wl j hj x hx
    exact ⟨(H.jok j hj).1, (H.jok j hj).2.2 x hx, ns_mem.mpr (.inl m1), ns_mem.mpr (.inr m2), dis _ m1 _ m2⟩
  obtain ⟨S, hS, hp, hw⟩ : ∃ S : List (Str × Str), tsS J = S.map tkT ∧ S.Perm (esJ J) ∧ S.Pairwise fun e f => dataLe false id (tkT e) (tkT f) = true := by
    refine ⟨(esJ J).mergeSort fun e f => dataLe false id (tkT e) (tkT f), ?_, List.mergeSort_perm _ _, ?_⟩
    · unfold tsS sortD
      rw [flat_es]
      exact (List.map_mergeSort (r := fun e f => dataLe false id (tkT e) (tkT f)) (s := dataLe false id) (f := tkT) (l := esJ J) fun a _ b _ => rfl).symm
    · exact List.pairwise_mergeSort (le := fun e f => dataLe false id (tkT e) (tkT f)) (fun a b c h1 h2 => le_tr (tkT a) (tkT b) (tkT c) h1 h2) (fun a b => le_tot (tkT a) (tkT b)) _
  have sl : S.length = (J.flatMap (·.w)).length := by rw [hp.length_eq, esl]
  have nS : S.Nodup := hp.nodup_iff.mpr esn
  have hr : rB (S.map pkT) = true := rB_pairs (List.pairwise_map.mpr ((hw.and nS).imp fun {e f} h => pair_lt h.2 h.1))
  have hc : Cmp (S.map pkT) := cmp_pairs fun d hd => by
    obtain ⟨e, _, rfl⟩ := List.mem_map.mp hd
    rfl
  have rl := rising_list hc
  rw [hr] at rl
  have okS : ∀ e ∈ S, M_is_tie [.tuple ((nsS J L).map .str), tkT e] = some (.bool true) := fun e he => by
    obtain ⟨h1, h2, h3, h4, h5⟩ := ok e (hp.mem_iff.mp he)
    exact tie_is h1 h2 h3 h4 h5
  rw [hS]
  generalize nsS J L = ns at okS
  have e0 : qV (mIs "tuple" (mW 1)) [.val (.tuple (ns.map .str)), .val (.tuple (S.map tkT)), .no] = some true := x_qv rfl
  have e1 : qV (mOp oLe (mCb oLen (aCons (mW 1) aNil)) (mC (.int 16))) [.val (.tuple (ns.map .str)), .val (.tuple (S.map tkT)), .no] = some (decide ((J.flatMap (·.w)).length ≤ 16)) := by
    refine x_qv (x_op (x_cb (x_cons rfl rfl) rfl) rfl ?_)
    show some (PyData.bool (decide ((((S.map tkT).length : Nat) : Int) ≤ 16))) = _
    rw [List.length_map, sl]
    exact congrArg (fun b => some (PyData.bool b)) (decide_eq_decide.mpr (by omega))
  have e2 : mAg (iS (mW 1)) [2] (gN 2) qT (mCb M_is_tie (aCons (mV 0) (aCons (mV 2) aNil))) [.val (.tuple (ns.map .str)), .val (.tuple (S.map tkT)), .no] = some (.bool ((S.map tkT).all fun _ => true)) := x_ag (ds := S.map tkT) rfl (x_agGo (fun _ => true) _ fun d hd => by
    obtain ⟨e, he, rfl⟩ := List.mem_map.mp hd
    exact ⟨_, rfl, rfl, x_cb rfl (okS e he)⟩)
  rw [List.all_eq_true.mpr fun _ _ => rfl] at e2
  have e3 : mLc (iS (mW 1)) [2] (gN 2) qT (mSl (mW 2) pNo (pSo (mC (.int 2)))) [.val (.tuple (ns.map .str)), .val (.tuple (S.map tkT)), .no] = some (.list (S.map pkT)) := x_lc (ds := S.map tkT) rfl (by rw [List.length_map]; omega) (lc_all tkT pkT S fun e _ => ⟨_, rfl, rfl⟩)
  by_cases h : (J.flatMap (·.w)).length ≤ 16
  · rw [decide_eq_true h] at e1 ⊢
    exact r_eq rfl (r_seq (x_ifF (x_not (c := true) (x_andT e0 e1)) rfl) (r_ret (x_mandT e2 (x_cb (x_cons e3 rfl) rl)) rfl))
  · rw [decide_eq_false h] at e1 ⊢
    exact r_eq rfl ⟨_, x_ret (x_ifT (x_not (c := false) (x_andT e0 e1)) (x_rt rfl)), rfl⟩
end K56
namespace K56
open PySem PySem.Spec PyProof.Rows L2 LB PM
theorem x_mis {n : String} {a : ME} {ρ : Ev} {d : PyData} {c : Bool} (h : a ρ = some d) (h2 : kitB (tyN d) n = some c) : mIs n a ρ = some (.bool c) := by
  unfold mIs
  rw [h]
  show (kitB (tyN d) n).map _ = _
  rw [h2]
  rfl
theorem iS_tup {a : ME} {ρ : Ev} {l : List PyData} (h : a ρ = some (.tuple l)) : iS a ρ = some l := by
  unfold iS
  rw [h]
  rfl
theorem names_web (t : PyData) {J : List RJ} {L : List RT} (n40 : J.length + L.length ≤ 100) : M_names_of [webR t J L] = some (.tuple ((nsS J L).map .str)) := by
  have len := pl_len J L
  refine r_eq rfl (r_ret (x_tg (ds := plS J L) (iS_tup (x_op rfl rfl (ix_t at1))) (by omega) ?_) rfl)
  have := lc_fst (i := 1) (e := mOp oIx (mW 1) (mC (.int 0))) (ρ := wipeM [.val (webR t J L), .no] [1]) (fun d : PyData => d) fstS (plS J L) fun d hd => by
    rcases pl_mem.mp hd with ⟨j, hj, rfl⟩ | ⟨t, ht, rfl⟩
    · exact ⟨_, rfl, x_op rfl rfl (ix_t at0)⟩
    · exact ⟨_, rfl, x_op rfl rfl (ix_t at0)⟩
  rw [List.map_id', plS_names] at this
  exact this
theorem web_is (t : PyData) {J : List RJ} {L : List RT} (H : JT J L) (j20 : J.length ≤ 20) (l20 : L.length ≤ 20) (w20 : ∀ j ∈ J, j.w.length ≤ 20) : ∃ b, M_is_web [webR t J L] = some (.bool b) ∧ (b = true ↔ ∃ top, t = .int top ∧ 1 ≤ top ∧ top ≤ 9 ∧ PB top J L ∧ (J.flatMap (·.w)).length ≤ 16) := by
  have ff := flat_few w20
  have hr := rowN_is 3 (webR t J L)
  have ht : M_is_top [t] = some (.bool (bwB 1 9 t)) := r_eq rfl (r_ret (x_cb (x_cons rfl (x_cons rfl (x_cons rfl rfl))) (between_is 1 9 t)) rfl)
  have hn := names_web t (J := J) (L := L) (by omega)
  have start : ∀ {o : ME} {d : PyData}, o [.val (webR t J L), .val t, .val (.tuple (plS J L)), .val (.tuple (tsS J))] = some d → Run (mSeq (mIfS (qNot (qV (mCb M_is_row (aCons (mV 0) (aCons (mC (.int 3)) aNil))))) (mRet (mC (.bool false))) mNx) (mSeq (mAsg (mV 0) (gT [1, 2, 3])) (mRet o))) (evOf 1 4 [webR t J L]) fun q => outR q = some d := fun {o d} ho => r_seq (x_ifF (x_not (c := true) (x_qv (x_cb rfl hr))) rfl) (r_seq (x_asg rfl rfl) (r_ret ho rfl))
  cases hb : bwB 1 9 t with
  | false =>
    rw [hb] at ht
    refine ⟨false, r_eq rfl (start (x_mandF (x_cb rfl ht))), (fun z => nomatch z), fun ⟨top, e, h1, h2, _⟩ => ?_⟩
    rw [e] at hb
    have : (decide (1 ≤ top) && decide (top ≤ 9)) = true := by
      rw [decide_eq_true h1, decide_eq_true h2]
      rfl
    rw [show bwB 1 9 (.int top) = (decide (1 ≤ top) && decide (top ≤ 9)) from rfl, this] at hb
    cases hb
  | true =>
    rw [hb] at ht
    obtain ⟨top, rfl, t1, t9⟩ := bw_int hb
    obtain ⟨b, b1, b2⟩ := places_is t1 t9 H j20 l20
    cases b with
    | false =>
      refine ⟨false, r_eq rfl (start (x_mandT (x_cb rfl ht) (x_mandF (x_cb (x_cons rfl (x_cons rfl rfl)) b1)))), (fun z => nomatch z), fun ⟨top', e, _, _, h, _⟩ => ?_⟩
      injection e with e
      subst e
      have := b2.mpr h
      cases this
    | true =>
      have P := b2.mp rfl
      refine ⟨_, r_eq rfl (start (x_mandT (x_cb rfl ht) (x_mandT (x_cb (x_cons rfl (x_cons rfl rfl)) b1) (x_cb (x_cons (x_cb rfl hn) (x_cons rfl rfl)) (ties_is H P.nd (by omega)))))), ?_⟩
      rw [decide_eq_true_iff]
      exact ⟨fun h => ⟨top, rfl, t1, t9, P, h⟩, fun ⟨_, _, _, _, _, h⟩ => h⟩
def IsH (d : PyData) : Prop := ∃ top J L, d = hsR (.int top) J L ∧ 1 ≤ top ∧ top ≤ 9 ∧ JT J L ∧ PB top J L ∧ (J.flatMap (·.w)).length ≤ 16
theorem form_is {d : PyData} (hT : Ths d) : ∃ b, M_has_house_form [d] = some (.bool b) ∧ (b = true ↔ IsH d) := by
  have hr := rowN_is 3 d
  have q0 : qV (mCb M_is_row (aCons (mV 0) (aCons (mC (.int 3)) aNil))) (evOf 1 1 [d]) = some (rowN 3 d) := x_qv (x_cb rfl hr)
  have out : ∀ {q : MT}, (qAnd (qV (mCb M_is_row (aCons (mV 0) (aCons (mC (.int 3)) aNil)))) q) (evOf 1 1 [d]) = some false → ∀ {r : MS}, Run (mSeq (mIfS (qNot (qAnd (qV (mCb M_is_row (aCons (mV 0) (aCons (mC (.int 3)) aNil)))) q)) (mRet (mC (.bool false))) mNx) r) (evOf 1 1 [d]) fun o => outR o = some (PyData.bool false) := fun {q} h {r} => ⟨_, x_ret (x_ifT (x_not (c := false) h) (x_rt rfl)), rfl⟩
  cases h3 : rowN 3 d with
  | false =>
    rw [h3] at q0
    refine ⟨false, r_eq rfl (out (x_andF q0)), (fun z => nomatch z), fun ⟨top, J, L, e, _⟩ => ?_⟩
    rw [e] at h3
    cases h3
  | true =>
    rw [h3] at q0
    obtain ⟨t, u, v, rfl⟩ : ∃ t u v, d = .tuple [t, u, v] := by
      cases d with
      | tuple xs =>
        match xs, of_decide_eq_true (show decide (xs.length = 3) = true from h3) with
        | [t, u, v], _ => exact ⟨t, u, v, rfl⟩
      | _ => cases h3
    have q1 : qV (mIs "tuple" (mOp oIx (mW 0) (mC (.int 1)))) (evOf 1 1 [.tuple [t, u, v]]) = some (isU u) := x_qv (x_mis (x_op rfl rfl (ix_t at1)) (kit_tuple u))
    have q2 : qV (mIs "tuple" (mOp oIx (mW 0) (mC (.int 2)))) (evOf 1 1 [.tuple [t, u, v]]) = some (isU v) := x_qv (x_mis (x_op rfl rfl (ix_t at2)) (kit_tuple v))
    cases hu : isU u with
    | false =>
      rw [hu] at q1
      refine ⟨false, r_eq rfl (out (x_andT q0 (x_andF q1))), (fun z => nomatch z), fun ⟨top, J, L, e, _⟩ => ?_⟩
      have e : PyData.tuple [t, u, v] = .tuple [.int top, .tuple (J.map rjD), .tuple (L.map rtD)] := e
      injection e with e
      injection e with _ e
      injection e with e _
      rw [e] at hu
      cases hu
    | true =>
      rw [hu] at q1
      cases hv : isU v with
      | false =>
        rw [hv] at q2
        refine ⟨false, r_eq rfl (out (x_andT q0 (x_andT q1 q2))), (fun z => nomatch z), fun ⟨top, J, L, e, _⟩ => ?_⟩
        have e : PyData.tuple [t, u, v] = .tuple [.int top, .tuple (J.map rjD), .tuple (L.map rtD)] := e
        injection e with e
        injection e with _ e
        injection e with _ e
        injection e with e _
        rw [e] at hv
        cases hv
      | true =>
        rw [hv] at q2
        obtain ⟨js, rfl⟩ : ∃ js, u = .tuple js := by
          cases u with
          | tuple js => exact ⟨js, rfl⟩
          | _ => cases hu
        obtain ⟨ls, rfl⟩ : ∃ ls, v = .tuple ls := by
          cases v with
          | tuple ls => exact ⟨ls, rfl⟩
          | _ => cases hv
        obtain ⟨j20, l20⟩ := hT.few t js ls rfl
        have rows := hT.row t js ls rfl
        obtain ⟨b, b1, b2⟩ := jt_is (fun j hj => rows j (List.mem_append_left _ hj)) (fun j hj => rows j (List.mem_append_right _ hj)) j20 l20
        have m1 : mCb M_are_jobs_and_tools (aCons (mOp oIx (mW 0) (mC (.int 1))) (aCons (mOp oIx (mW 0) (mC (.int 2))) aNil)) (evOf 1 1 [.tuple [t, .tuple js, .tuple ls]]) = some (.bool b) := x_cb (x_cons (x_op rfl rfl (ix_t at1)) (x_cons (x_op rfl rfl (ix_t at2)) rfl)) b1
        cases b with
        | false =>
          refine ⟨false, r_eq rfl (r_seq (x_ifF (x_not (c := true) (x_andT q0 (x_andT q1 q2))) rfl) (r_ret (x_mandF m1) rfl)), (fun z => nomatch z), fun ⟨top, J, L, e, _, _, H, _⟩ => ?_⟩
          have e : PyData.tuple [t, .tuple js, .tuple ls] = .tuple [.int top, .tuple (J.map rjD), .tuple (L.map rtD)] := e
          injection e with e
          injection e with _ e
          injection e with e1 e
          injection e with e2 _
          injection e1 with e1
          injection e2 with e2
          have := b2.mpr ⟨J, L, e1, e2, H⟩
          cases this
        | true =>
          obtain ⟨J, L, rfl, rfl, H⟩ := b2.mp rfl
          have w20 : ∀ j ∈ J, j.w.length ≤ 20 := fun j hj' => by
            have := ((rows (rjD j) (List.mem_append_left _ (List.mem_map_of_mem hj')) _ rfl (.tuple (j.w.map .str)) (by simp)).2 _ rfl).1
            rwa [List.length_map] at this
          rw [List.length_map] at j20 l20
          obtain ⟨b, c1, c2⟩ := web_is t H j20 l20 w20
          have hw := web_raw t j20 l20 w20
          refine ⟨b, r_eq rfl (r_seq (x_ifF (x_not (c := true) (x_andT q0 (x_andT q1 q2))) rfl) (r_ret (x_mandT m1 (x_cb (x_cons (x_cb (x_cons rfl rfl) hw) rfl) c1)) rfl)), ?_⟩
          rw [c2]
          constructor
          · rintro ⟨top, rfl, h1, h2, h3, h4⟩
            exact ⟨top, J, L, rfl, h1, h2, H, h3, h4⟩
          · rintro ⟨top, J', L', e, h1, h2, _, h3, h4⟩
            have e : PyData.tuple [t, .tuple (J.map rjD), .tuple (L.map rtD)] = .tuple [.int top, .tuple (J'.map rjD), .tuple (L'.map rtD)] := e
            injection e with e
            injection e with e0 e
            injection e with e1 e
            injection e with e2 _
            injection e1 with e1
            injection e2 with e2
            rw [map_inj rjD_inj e1, map_inj rtD_inj e2]
            exact ⟨top, e0, h1, h2, h3, h4⟩
theorem house_is {d : PyData} (hT : Ths d) : ∃ b, M_is_house [d] = some (.bool b) ∧ (b = true ↔ IsH d) := by
  obtain ⟨b, h1, h2⟩ := form_is hT
  exact ⟨b, r_eq rfl (r_ret (x_cb rfl h1) rfl), h2⟩
end K56
namespace K56
open PySem PySem.Spec PyProof.Rows L2 LB PM
/-! ### what the law says of a house -/
theorem L_name_is {d : PyData} (hs : Shrt d) : M_L_name [d] = some (.bool (nmB d)) := by
  have hS := isS_is d (ρ := [.val d, .no]) (i := 0) rfl
  have q0 : qV (mIs "str" (mW 0)) [.val d, .no] = some (isS d) := x_qv hS
  cases d with
  | str z =>
    have hl := len_str (hs z rfl)
    have h1 : qV (mCh oLe oLe (mC (.int 1)) (mCb oLen (aCons (mW 0) aNil)) (mC (.int 8))) [.val (.str z), .no] = some (decide (1 ≤ (z.length : Int)) && decide ((z.length : Int) ≤ 8)) := x_qv (ch3 (x_cb rfl hl))
    rw [show nmB (.str z) = ((decide (1 ≤ (z.length : Int)) && decide ((z.length : Int) ≤ 8)) && z.cps.toList.all sgB) from rfl]
    cases hb : (decide (1 ≤ (z.length : Int)) && decide ((z.length : Int) ≤ 8)) with
    | false =>
      rw [hb] at h1
      exact r_eq rfl ⟨_, x_ret (x_ifT (x_orF (x_not (c := true) q0) (x_not (c := false) h1)) (x_rt rfl)), rfl⟩
    | true =>
      rw [hb] at h1
      rw [Bool.and_eq_true, decide_eq_true_iff, decide_eq_true_iff] at hb
      rw [Bool.true_and, ← sgD_all]
      have sl : (signsD z).length = z.length := by
        unfold signsD
        rw [List.length_map]
        rfl
      refine r_eq rfl (r_seq (x_ifF (x_orF (x_not (c := true) q0) (x_not (c := true) h1)) rfl) (r_ret (x_cb (x_cons (x_lc (ds := signsD z) (es := (signsD z).map fun d => PyData.bool (sgD d)) rfl (by omega) ?_) rfl) (all_bools sgD _)) rfl))
      have := lc_all (gm := gN 1) (me := mOp oInX (mW 1) (mC (.str "abcdefghijklmnopqrstuvwxyz"))) (ρ := wipeM [.val (.str z), .no] [1]) (fun d : PyData => d) (fun d => PyData.bool (sgD d)) (signsD z) fun d hd => ⟨_, rfl, x_op rfl rfl (sgD_in hd)⟩
      rw [List.map_id'] at this
      exact this
  | _ => exact r_eq rfl ⟨_, x_ret (x_ifT (x_orT (x_not (c := false) q0)) (x_rt rfl)), rfl⟩
def lrB (n : Nat) : PyData → Bool
  | .tuple xs => decide (xs.length = n) && nmB (xs.getD 0 .none)
  | _ => false
theorem L_row_is {n : Nat} (n1 : 1 ≤ n) {d : PyData} (h : RowF d) : M_L_row [d, .int (n : Int)] = some (.bool (lrB n d)) := by
  cases d with
  | tuple xs =>
    have e : mOp oEq (mCb oLen (aCons (mW 0) aNil)) (mW 1) [.val (.tuple xs), .val (.int (n : Int))] = some (.bool (decide (xs.length = n))) := x_op (x_cb rfl rfl) rfl ((eq_ii _ _).trans (congrArg (fun b => some (PyData.bool b)) (decide_eq_decide.mpr (by omega))))
    show _ = some (PyData.bool (decide (xs.length = n) && nmB (xs.getD 0 .none)))
    by_cases hl : xs.length = n
    · rw [decide_eq_true hl] at e ⊢
      cases xs with
      | nil =>
        have : (0 : Nat) = n := hl
        omega
      | cons x xs => exact r_eq rfl (r_ret (x_mandT rfl (x_mandT e (x_cb (x_cons (x_op rfl rfl (ix_t at0)) rfl) (L_name_is (h _ rfl x List.mem_cons_self).1)))) rfl)
    · rw [decide_eq_false hl] at e ⊢
      exact r_eq rfl (r_ret (x_mandT rfl (x_mandF e)) rfl)
  | _ => exact r_eq rfl (r_ret (d := .bool false) (x_mandF rfl) rfl)
/-- a job's row, whatever its numbers and wants are -/
structure QJ where
  n : Str
  g : PyData
  r : PyData
  w : PyData
def qjD (j : QJ) : PyData := .tuple [.str j.n, j.g, j.r, j.w]
theorem q_raw : ∀ {js : List PyData}, js.all (lrB 4) = true → ∃ Q : List QJ, js = Q.map qjD ∧ ∀ j ∈ Q, NameOk j.n
  | [], _ => ⟨[], rfl, fun j hj => absurd hj List.not_mem_nil⟩
  | d :: js, h => by
    rw [List.all_cons, Bool.and_eq_true] at h
    obtain ⟨Q, rfl, hQ⟩ := q_raw h.2
    have h1 := h.1
    cases d with
    | tuple xs =>
      have h1 : (decide (xs.length = 4) && nmB (xs.getD 0 .none)) = true := h1
      rw [Bool.and_eq_true] at h1
      match xs, of_decide_eq_true h1.1, h1.2 with
      | [a, b, c, w], _, ha =>
        obtain ⟨x, rfl, hx⟩ := nm_name (d := a) ha
        refine ⟨⟨x, b, c, w⟩ :: Q, rfl, fun j hj => ?_⟩
        rcases List.mem_cons.mp hj with rfl | hj
        · exact hx
        · exact hQ j hj
    | _ => cases h1
theorem t_raw : ∀ {ls : List PyData}, ls.all (lrB 3) = true → ∃ L : List RT, ls = L.map rtD ∧ ∀ t ∈ L, NameOk t.n
  | [], _ => ⟨[], rfl, fun j hj => absurd hj List.not_mem_nil⟩
  | d :: ls, h => by
    rw [List.all_cons, Bool.and_eq_true] at h
    obtain ⟨L, rfl, hL⟩ := t_raw h.2
    have h1 := h.1
    cases d with
    | tuple xs =>
      have h1 : (decide (xs.length = 3) && nmB (xs.getD 0 .none)) = true := h1
      rw [Bool.and_eq_true] at h1
      match xs, of_decide_eq_true h1.1, h1.2 with
      | [a, b, c], _, ha =>
        obtain ⟨x, rfl, hx⟩ := nm_name (d := a) ha
        refine ⟨⟨x, b, c⟩ :: L, rfl, fun j hj => ?_⟩
        rcases List.mem_cons.mp hj with rfl | hj
        · exact hx
        · exact hL j hj
    | _ => cases h1
theorem rise_of {ns : List Str} (h : ns.mergeSort leS = ns) (nd : ns.Nodup) : Rise ns := h ▸ rise_sort nd
theorem rise_sorted {l : List Str} (h : Rise l) : l.mergeSort leS = l := by
  refine List.mergeSort_of_pairwise (h.imp fun {a b} h => ?_)
  unfold leS
  rw [decide_eq_false (List.lt_asymm h)]
  rfl
theorem strs_shaped {l : List Str} (h : ∀ x ∈ l, NameOk x) : SeqAt.shaped (.list (l.map .str)) = true := by
  have hl : ∀ l : List Str, (∀ x ∈ l, NameOk x) → PyData.canLayAll0 (l.map .str) = true ∧ PyData.depthAll (l.map .str) ≤ 0 := fun l => by
    induction l with
    | nil => exact fun _ => ⟨rfl, Nat.le_refl _⟩
    | cons x l ih =>
      intro h
      obtain ⟨h1, h2⟩ := ih fun y hy => h y (List.mem_cons_of_mem _ hy)
      have hs : PyData.strOk x = true := name_lay (h x List.mem_cons_self)
      constructor
      · show (PyData.canLay0 (.str x) && PyData.canLayAll0 (l.map .str)) = true
        rw [h1, Bool.and_true]
        unfold PyData.canLay0
        exact hs
      · show max (PyData.depth (.str x)) (PyData.depthAll (l.map .str)) ≤ 0
        have : PyData.depth (.str x) = 0 := rfl
        omega
  obtain ⟨h1, h2⟩ := hl l h
  unfold SeqAt.shaped PyData.canLay0 PyData.depth
  rw [h1, Bool.true_and]
  exact decide_eq_true (by omega)
theorem eqv_strs : ∀ (a b : List Str), PyData.eqvAll (a.map .str) (b.map .str) = decide (a = b)
  | [], [] => by
    rw [decide_eq_true rfl]
    rfl
  | [], y :: b => by
    rw [decide_eq_false (fun z => by cases z)]
    rfl
  | x :: a, [] => by
    rw [decide_eq_false (fun z => by cases z)]
    rfl
  | x :: a, y :: b => by
    rw [List.map_cons, List.map_cons, PySem.W.eqv_all_cons, eqv_strs a b]
    show ((x == y) && _) = _
    by_cases h1 : x = y
    · subst h1
      rw [beq_self_eq_true, Bool.true_and]
      exact decide_eq_decide.mpr ⟨fun h => by rw [h], fun h => by injection h⟩
    · rw [beq_eq_false_iff_ne.mpr h1, Bool.false_and]
      exact (decide_eq_false fun h => h1 (by injection h)).symm
theorem ne_lists {a b : List Str} (ha : ∀ x ∈ a, NameOk x) (hb : ∀ x ∈ b, NameOk x) : oNe (.list (a.map .str)) (.list (b.map .str)) = some (.bool (!decide (a = b))) := by
  unfold oNe
  rw [if_pos ⟨strs_shaped ha, strs_shaped hb⟩]
  show some (PyData.bool (!PyData.eqvAll (a.map .str) (b.map .str))) = _
  rw [eqv_strs]
end K56
namespace K56
open PySem PySem.Spec PyProof.Rows L2 LB PM
/-! ### the law's own look -/
theorem bw_of {a b i : Int} (h1 : a ≤ i) (h2 : i ≤ b) : bwB a b (.int i) = true := by
  show (decide (a ≤ i) && decide (i ≤ b)) = true
  rw [decide_eq_true h1, decide_eq_true h2]
  rfl
def wB (ns : List Str) : PyData → Bool
  | .str z => nmB (.str z) && decide (z ∈ ns)
  | _ => false
structure GJ (L : List RT) (j : RJ) : Prop where
  nm : NameOk j.n
  g : bwB 0 99 j.g = true
  r : bwB 0 99 j.r = true
  rw' : Rise j.w
  wn : ∀ x ∈ j.w, NameOk x
  wl : ∀ x ∈ j.w, x ∈ ln L
/-- the rest of the law's look, from where jobs and tools are rows with names -/
theorem rest_is {top : Int} (t1 : 1 ≤ top) (t9 : top ≤ 9) {Q : List QJ} {L : List RT} (hQ : ∀ j ∈ Q, NameOk j.n) (hL : ∀ t ∈ L, NameOk t.n) (q20 : Q.length ≤ 20) (l20 : L.length ≤ 20) (rows : ∀ j ∈ Q, RowF (qjD j)) {d : PyData} (hd : d = .tuple [.int top, .tuple (Q.map qjD), .tuple (L.map rtD)]) {R : PyData → Prop} (no : ¬ IsH d → R (.bool false)) (yes : ∀ b, (b = true ↔ IsH d) → R (.bool b)) :
    Run (mSeq (mFor (iS (mV 7)) (gT [8, 9, 10])
   (mIfS (qOr (qNot (qV (mCb M_L_whole (aCons (mV 10) (aCons (mC (.int 0)) (aCons (mC (.int 99)) aNil)))))) (qNot (qV (mCb M_L_whole (aCons (mV 9) (aCons (mOp oMul (mW 10) (mW 5)) (aCons (mC (.int 999)) aNil))))))) (mRet (mC (.bool false))) mNx))
  (mSeq (mSet 2 (mC (.int 0)))
  (mSeq (mFor (iS (mV 6)) (gN 3)
   (mSeq (mIfS (qOr (qNot (qV (mCb M_L_whole (aCons (mOp oIx (mW 3) (mC (.int 1))) (aCons (mC (.int 0)) (aCons (mC (.int 99)) aNil)))))) (qOr (qNot (qV (mCb M_L_whole (aCons (mOp oIx (mW 3) (mC (.int 2))) (aCons (mC (.int 0)) (aCons (mC (.int 99)) aNil)))))) (qNot (qV (mIs "tuple" (mOp oIx (mW 3) (mC (.int 3)))))))) (mRet (mC (.bool false))) mNx)
  (mSeq (mIfS (qOr (qNot (qV (mCb oAll (aCons (mLc (iS (mOp oIx (mW 3) (mC (.int 3)))) [12] (gN 12) qT (mAnd (mCb M_L_name (aCons (mV 12) aNil)) (mOp oIn (mW 12) (mW 1)))) aNil)))) (qV (mOp oNe (mCb oList (aCons (mOp oIx (mW 3) (mC (.int 3))) aNil)) (mCb oSortX (aCons (mOp oIx (mW 3) (mC (.int 3))) aNil))))) (mRet (mC (.bool false))) mNx)
  (mSet 2 (mOp oAdd (mW 2) (mCb oLen (aCons (mOp oIx (mW 3) (mC (.int 3))) aNil)))))))
  (mSeq (mSet 4 (mLc (iS (mW 6)) [3] (gN 3) qT (mOp oIx (mW 3) (mC (.int 0)))))
  (mSeq (mIfS (qOr (qV (mOp oNe (mW 4) (mCb oSorted (aCons (mW 4) aNil)))) (qOr (qV (mOp oNe (mW 1) (mCb oSorted (aCons (mW 1) aNil)))) (qV (mOp oNe (mCb oLenX (aCons (mOp oAdd (mW 4) (mW 1)) aNil)) (mCb oLen (aCons (mOp oAdd (mW 4) (mW 1)) aNil)))))) (mRet (mC (.bool false))) mNx)
  (mRet (mAnd (mCh oLe oLe (mC (.int 1)) (mCb oLen (aCons (mOp oAdd (mW 4) (mW 1)) aNil)) (mC (.int 8))) (mOp oLe (mW 2) (mC (.int 16))))))))))
    [.val d, .val (.list ((ln L).map .str)), .no, .no, .no, .val (.int top), .val (.tuple (Q.map qjD)), .val (.tuple (L.map rtD)), .no, .no, .no, .no, .no] fun q => ∃ dd, outR q = some dd ∧ R dd := by
  have out : ∀ {J' : List RJ} {L' : List RT} {t' : Int}, d = hsR (.int t') J' L' → t' = top ∧ Q.map qjD = J'.map rjD ∧ L = L' := fun {J' L' t'} e => by
    rw [hd] at e
    have e : PyData.tuple [.int top, .tuple (Q.map qjD), .tuple (L.map rtD)] = .tuple [.int t', .tuple (J'.map rjD), .tuple (L'.map rtD)] := e
    injection e with e
    injection e with e0 e
    injection e with e1 e
    injection e with e2 _
    injection e0 with e0
    injection e1 with e1
    injection e2 with e2
    exact ⟨e0.symm, e1, map_inj rtD_inj e2⟩
  refine r_forR (ds := L.map rtD) (fun i ρ => ∃ s8 s9 s10, ρ = [.val d, .val (.list ((ln L).map .str)), .no, .no, .no, .val (.int top), .val (.tuple (Q.map qjD)), .val (.tuple (L.map rtD)), s8, s9, s10, .no, .no] ∧ ∀ t ∈ L.take i, bwB 0 99 t.f = true ∧ ctB top t.f t.c = true) rfl ⟨_, _, _, rfl, fun t ht => absurd ht List.not_mem_nil⟩ ?_ ?_
  · rintro i dt ρ hdt ⟨s8, s9, s10, rfl, hok⟩
    rw [List.getElem?_map] at hdt
    cases hi : L[i]? with
    | none =>
      rw [hi] at hdt
      cases hdt
    | some t =>
      rw [hi] at hdt
      have hdt : some (rtD t) = some dt := hdt
      cases hdt
      have es : L.take (i + 1) = L.take i ++ [t] := by
        obtain ⟨hl, e⟩ := List.getElem?_eq_some_iff.mp hi
        rw [List.take_succ_eq_append_getElem hl, e]
      have q1 : qV (mCb M_L_whole (aCons (mV 10) (aCons (mC (.int 0)) (aCons (mC (.int 99)) aNil)))) [.val d, .val (.list ((ln L).map .str)), .no, .no, .no, .val (.int top), .val (.tuple (Q.map qjD)), .val (.tuple (L.map rtD)), .val (.str t.n), .val t.c, .val t.f, .no, .no] = some (bwB 0 99 t.f) := x_qv (x_cb (x_cons rfl (x_cons rfl (x_cons rfl rfl))) (L_whole_is 0 99 t.f))
      refine ⟨_, rfl, ?_⟩
      have bad : ¬ (bwB 0 99 t.f = true ∧ ctB top t.f t.c = true) → ¬ IsH d := fun h ⟨t', J', L', e, _, _, _, P, _⟩ => by
        obtain ⟨e0, _, e2⟩ := out e
        subst e0 e2
        exact h (P.lf t (List.mem_of_getElem? hi))
      cases hb : bwB 0 99 t.f with
      | false =>
        rw [hb] at q1
        exact ⟨_, x_ifT (x_orT (x_not (c := false) q1)) (x_rt rfl), .inr ⟨_, rfl, _, rfl, no (bad fun h => by rw [hb] at h; cases h.1)⟩⟩
      | true =>
        rw [hb] at q1
        obtain ⟨k, hk, k0, k9⟩ := bw_int hb
        have q2 : qV (mCb M_L_whole (aCons (mV 9) (aCons (mOp oMul (mW 10) (mW 5)) (aCons (mC (.int 999)) aNil)))) [.val d, .val (.list ((ln L).map .str)), .no, .no, .no, .val (.int top), .val (.tuple (Q.map qjD)), .val (.tuple (L.map rtD)), .val (.str t.n), .val t.c, .val t.f, .no, .no] = some (ctB top t.f t.c) := by
          rw [hk]
          exact x_qv (x_cb (x_cons rfl (x_cons (x_op rfl rfl (mul_ii (by omega) (by omega))) (x_cons rfl rfl))) (L_whole_is (k * top) 999 t.c))
        cases hc : ctB top t.f t.c with
        | false =>
          rw [hc] at q2
          exact ⟨_, x_ifT (x_orF (x_not (c := true) q1) (x_not (c := false) q2)) (x_rt rfl), .inr ⟨_, rfl, _, rfl, no (bad fun h => by rw [hc] at h; cases h.2)⟩⟩
        | true =>
          rw [hc] at q2
          refine ⟨_, x_ifF (x_orF (x_not (c := true) q1) (x_not (c := true) q2)) rfl, .inl ⟨_, rfl, _, _, _, rfl, fun t' ht' => ?_⟩⟩
          rw [es] at ht'
          rcases List.mem_append.mp ht' with h | h
          · exact hok t' h
          · rw [List.mem_singleton.mp h]
            exact ⟨hb, hc⟩
  · rintro ρ ⟨s8, s9, s10, rfl, hlf⟩
    rw [List.length_map, List.take_length] at hlf
    refine r_seq (x_set rfl) (r_forR (ds := Q.map qjD) (fun i ρ => ∃ (Jt : List RJ) (s3 : Sl), ρ = [.val d, .val (.list ((ln L).map .str)), .val (.int ((Jt.flatMap (·.w)).length : Int)), s3, .no, .val (.int top), .val (.tuple (Q.map qjD)), .val (.tuple (L.map rtD)), s8, s9, s10, .no, .no] ∧ (Q.take i).map qjD = Jt.map rjD ∧ ∀ j ∈ Jt, GJ L j) rfl ⟨[], _, rfl, rfl, fun j hj => absurd hj List.not_mem_nil⟩ ?_ ?_)
    · rintro i dj ρ hdj ⟨Jt, s3, rfl, hm, hg⟩
      rw [List.getElem?_map] at hdj
      cases hi : Q[i]? with
      | none =>
        rw [hi] at hdj
        cases hdj
      | some j =>
        rw [hi] at hdj
        have hdj : some (qjD j) = some dj := hdj
        cases hdj
        have es : Q.take (i + 1) = Q.take i ++ [j] := by
          obtain ⟨hl, e⟩ := List.getElem?_eq_some_iff.mp hi
          rw [List.take_succ_eq_append_getElem hl, e]
        have jm := List.mem_of_getElem? hi
        have want : IsH d → ∃ j', j = ⟨j'.n, j'.g, j'.r, .tuple (j'.w.map .str)⟩ ∧ GJ L j' := fun ⟨t', J', L', e, _, _, H, P, _⟩ => by
          obtain ⟨_, e1, e2⟩ := out e
          subst e2
          have : (J'.map rjD)[i]? = some (qjD j) := by
            rw [← e1, List.getElem?_map, hi]
            rfl
          rw [List.getElem?_map] at this
          cases hj' : J'[i]? with
          | none =>
            rw [hj'] at this
            cases this
          | some j' =>
            rw [hj'] at this
            have m' := List.mem_of_getElem? hj'
            have e : PyData.tuple [.str j'.n, j'.g, j'.r, .tuple (j'.w.map .str)] = .tuple [.str j.n, j.g, j.r, j.w] := Option.some.inj this
            injection e with e
            injection e with a1 e
            injection e with a2 e
            injection e with a3 e
            injection e with a4 _
            injection a1 with a1
            refine ⟨j', ?_, ⟨(H.jok j' m').1, (P.jg j' m').1, (P.jg j' m').2, (H.jok j' m').2.1, (H.jok j' m').2.2, H.wl j' m'⟩⟩
            obtain ⟨n, g, r, w⟩ := j
            show QJ.mk n g r w = _
            rw [show n = j'.n from a1.symm, show g = j'.g from a2.symm, show r = j'.r from a3.symm, show w = .tuple (j'.w.map .str) from a4.symm]
        obtain ⟨n, g, r, w⟩ := j
        refine ⟨_, rfl, ?_⟩
        have q1 : qV (mCb M_L_whole (aCons (mOp oIx (mW 3) (mC (.int 1))) (aCons (mC (.int 0)) (aCons (mC (.int 99)) aNil)))) [.val d, .val (.list ((ln L).map .str)), .val (.int ((Jt.flatMap (·.w)).length : Int)), .val (qjD ⟨n, g, r, w⟩), .no, .val (.int top), .val (.tuple (Q.map qjD)), .val (.tuple (L.map rtD)), s8, s9, s10, .no, .no] = some (bwB 0 99 g) := x_qv (x_cb (x_cons (x_op rfl rfl (ix_t at1)) (x_cons rfl (x_cons rfl rfl))) (L_whole_is 0 99 g))
        have q2 : qV (mCb M_L_whole (aCons (mOp oIx (mW 3) (mC (.int 2))) (aCons (mC (.int 0)) (aCons (mC (.int 99)) aNil)))) [.val d, .val (.list ((ln L).map .str)), .val (.int ((Jt.flatMap (·.w)).length : Int)), .val (qjD ⟨n, g, r, w⟩), .no, .val (.int top), .val (.tuple (Q.map qjD)), .val (.tuple (L.map rtD)), s8, s9, s10, .no, .no] = some (bwB 0 99 r) := x_qv (x_cb (x_cons (x_op rfl rfl (ix_t at2)) (x_cons rfl (x_cons rfl rfl))) (L_whole_is 0 99 r))
        have q3 : qV (mIs "tuple" (mOp oIx (mW 3) (mC (.int 3)))) [.val d, .val (.list ((ln L).map .str)), .val (.int ((Jt.flatMap (·.w)).length : Int)), .val (qjD ⟨n, g, r, w⟩), .no, .val (.int top), .val (.tuple (Q.map qjD)), .val (.tuple (L.map rtD)), s8, s9, s10, .no, .no] = some (isU w) := x_qv (x_mis (x_op rfl rfl (ix_t at3)) (kit_tuple w))
        have bye : ∀ {m : MS} {ρ : Ev} {q : MT}, q ρ = some true → ¬ IsH d → Run (mSeq (mIfS q (mRet (mC (.bool false))) mNx) m) ρ fun o => (∃ ρ2, o = .nx ρ2 ∧ ∃ (Jt : List RJ) (s3 : Sl), ρ2 = [.val d, .val (.list ((ln L).map .str)), .val (.int ((Jt.flatMap (·.w)).length : Int)), s3, .no, .val (.int top), .val (.tuple (Q.map qjD)), .val (.tuple (L.map rtD)), s8, s9, s10, .no, .no] ∧ (Q.take (i + 1)).map qjD = Jt.map rjD ∧ ∀ j ∈ Jt, GJ L j) ∨ ∃ v, o = .rt v ∧ ∃ dd, outR (.rt v) = some dd ∧ R dd := fun {m ρ q} h1 h2 => ⟨_, x_ret (x_ifT h1 (x_rt rfl)), .inr ⟨_, rfl, _, rfl, no h2⟩⟩
        cases hb : bwB 0 99 g with
        | false =>
          rw [hb] at q1
          refine bye (x_orT (x_not (c := false) q1)) fun h => ?_
          obtain ⟨j', e, G⟩ := want h
          injection e with _ e _ _
          rw [e, G.g] at hb
          cases hb
        | true =>
          rw [hb] at q1
          cases hr : bwB 0 99 r with
          | false =>
            rw [hr] at q2
            refine bye (x_orF (x_not (c := true) q1) (x_orT (x_not (c := false) q2))) fun h => ?_
            obtain ⟨j', e, G⟩ := want h
            injection e with _ _ e _
            rw [e, G.r] at hr
            cases hr
          | true =>
            rw [hr] at q2
            cases hu : isU w with
            | false =>
              rw [hu] at q3
              refine bye (x_orF (x_not (c := true) q1) (x_orF (x_not (c := true) q2) (x_not (c := false) q3))) fun h => ?_
              obtain ⟨j', e, _⟩ := want h
              injection e with _ _ _ e
              rw [e] at hu
              cases hu
            | true =>
              rw [hu] at q3
              refine r_seq (x_ifF (x_orF (x_not (c := true) q1) (x_orF (x_not (c := true) q2) (x_not (c := true) q3))) rfl) ?_
              obtain ⟨ws, rfl⟩ : ∃ ws, w = .tuple ws := by
                cases w with
                | tuple ws => exact ⟨ws, rfl⟩
                | _ => cases hu
              have sh := (rows _ jm _ rfl (.tuple ws) (by simp)).2 ws rfl
              have al : mCb oAll (aCons (mLc (iS (mOp oIx (mW 3) (mC (.int 3)))) [12] (gN 12) qT (mAnd (mCb M_L_name (aCons (mV 12) aNil)) (mOp oIn (mW 12) (mW 1)))) aNil) [.val d, .val (.list ((ln L).map .str)), .val (.int ((Jt.flatMap (·.w)).length : Int)), .val (qjD ⟨n, g, r, .tuple ws⟩), .no, .val (.int top), .val (.tuple (Q.map qjD)), .val (.tuple (L.map rtD)), s8, s9, s10, .no, .no] = some (.bool (ws.all (wB (ln L)))) := by
                refine x_cb (x_cons (x_lc (ds := ws) (es := ws.map fun x => PyData.bool (wB (ln L) x)) (iS_tup (x_op rfl rfl (ix_t at3))) (by omega) ?_) rfl) (all_bools (wB (ln L)) ws)
                have := lc_all (gm := gN 12) (me := mAnd (mCb M_L_name (aCons (mV 12) aNil)) (mOp oIn (mW 12) (mW 1))) (ρ := wipeM [.val d, .val (.list ((ln L).map .str)), .val (.int ((Jt.flatMap (·.w)).length : Int)), .val (qjD ⟨n, g, r, .tuple ws⟩), .no, .val (.int top), .val (.tuple (Q.map qjD)), .val (.tuple (L.map rtD)), s8, s9, s10, .no, .no] [12]) (fun x : PyData => x) (fun x => PyData.bool (wB (ln L) x)) ws fun x hx => by
                  have hn := L_name_is (sh.2 x hx)
                  refine ⟨_, rfl, ?_⟩
                  cases hnb : nmB x with
                  | false =>
                    rw [hnb] at hn
                    have : wB (ln L) x = false := by
                      cases x with
                      | str z =>
                        show (nmB (.str z) && decide (z ∈ ln L)) = false
                        rw [hnb]
                        rfl
                      | _ => rfl
                    rw [this]
                    exact x_mandF (x_cb (x_cons rfl rfl) hn)
                  | true =>
                    rw [hnb] at hn
                    obtain ⟨z, rfl, _⟩ := nm_name hnb
                    rw [show wB (ln L) (.str z) = (nmB (.str z) && decide (z ∈ ln L)) from rfl, hnb, Bool.true_and]
                    exact x_mandT (x_cb (x_cons rfl rfl) hn) (x_op rfl rfl (in_strs rfl))
                rw [List.map_id'] at this
                exact this
              have q4 := x_qv al
              cases ha : ws.all (wB (ln L)) with
              | false =>
                rw [ha] at q4
                refine bye (x_orT (x_not (c := false) q4)) fun h => ?_
                obtain ⟨j', e, G⟩ := want h
                injection e with _ _ _ e
                injection e with e
                have : ws.all (wB (ln L)) = true := by
                  rw [e, List.all_map, List.all_eq_true]
                  intro x hx
                  show (nmB (.str x) && decide (x ∈ ln L)) = true
                  rw [(nmB_iff x).mpr (G.wn x hx), decide_eq_true (G.wl x hx)]
                  rfl
                rw [ha] at this
                cases this
              | true =>
                rw [ha] at q4
                have hal := List.all_eq_true.mp ha
                obtain ⟨zs, rfl, hz⟩ := names_of_strs (l := ws) (List.all_eq_true.mpr fun x hx => by
                  have := hal x hx
                  cases x with
                  | str z =>
                    have this : (nmB (.str z) && decide (z ∈ ln L)) = true := this
                    rw [Bool.and_eq_true] at this
                    exact this.1
                  | _ => cases this)
                have zl : ∀ x ∈ zs, x ∈ ln L := fun x hx => by
                  have this : (nmB (.str x) && decide (x ∈ ln L)) = true := hal _ (List.mem_map_of_mem hx)
                  rw [Bool.and_eq_true, decide_eq_true_iff] at this
                  exact this.2
                have z20 : zs.length ≤ 20 := by
                  have := sh.1
                  rwa [List.length_map] at this
                have hsx : oSortX [.tuple (zs.map .str)] = some (.list (((dedS zs).mergeSort leS).map .str)) := by
                  show (PM.txD (zs.map PyData.str)).bind _ = _
                  rw [PM.txD_strs]
                  show (if zs.length ≤ 1000 then _ else none) = _
                  rw [if_pos (by omega)]
                have q5 : qV (mOp oNe (mCb oList (aCons (mOp oIx (mW 3) (mC (.int 3))) aNil)) (mCb oSortX (aCons (mOp oIx (mW 3) (mC (.int 3))) aNil))) [.val d, .val (.list ((ln L).map .str)), .val (.int ((Jt.flatMap (·.w)).length : Int)), .val (qjD ⟨n, g, r, .tuple (zs.map .str)⟩), .no, .val (.int top), .val (.tuple (Q.map qjD)), .val (.tuple (L.map rtD)), s8, s9, s10, .no, .no] = some (!decide (zs = (dedS zs).mergeSort leS)) := x_qv (x_op (x_cb (x_cons (x_op rfl rfl (ix_t at3)) rfl) rfl) (x_cb (x_cons (x_op rfl rfl (ix_t at3)) rfl) hsx) (ne_lists hz fun x hx => hz x (dedS_mem.mp ((List.mergeSort_perm _ leS).mem_iff.mp hx))))
                by_cases hzz : zs = (dedS zs).mergeSort leS
                · rw [decide_eq_true hzz] at q5
                  have rz : Rise zs := by
                    rw [hzz]
                    exact rise_sort (dedS_nodup zs)
                  refine r_seq (x_ifF (x_orF (x_not (c := true) q4) q5) rfl) (r_end (x_set (d := .int (((Jt ++ [(⟨n, g, r, zs⟩ : RJ)]).flatMap (·.w)).length : Int)) (x_op rfl (x_cb (x_cons (x_op rfl rfl (ix_t at3)) rfl) rfl) ?_)) (.inl ⟨_, rfl, Jt ++ [(⟨n, g, r, zs⟩ : RJ)], _, rfl, ?_, fun j hj => ?_⟩))
                  · show some (PyData.int (((Jt.flatMap (·.w)).length : Int) + (((zs.map PyData.str).length : Nat) : Int))) = _
                    rw [List.length_map, List.flatMap_append, List.length_append, List.flatMap_cons, List.flatMap_nil, List.append_nil]
                    rfl
                  · rw [es, List.map_append, List.map_append, hm]
                    rfl
                  · rcases List.mem_append.mp hj with hj | hj
                    · exact hg j hj
                    · rw [List.mem_singleton.mp hj]
                      exact ⟨hQ _ jm, hb, hr, rz, hz, zl⟩
                · rw [decide_eq_false hzz] at q5
                  refine bye (x_orF (x_not (c := true) q4) q5) fun h => ?_
                  obtain ⟨j', e, G⟩ := want h
                  injection e with _ _ _ e
                  injection e with e
                  have e := str_inj e
                  rw [e, dedS_id (rise_nodup G.rw'), rise_sorted G.rw'] at hzz
                  exact hzz rfl
    · rintro ρ ⟨Jt, s3, rfl, hm, hg⟩
      rw [List.length_map, List.take_length] at hm
      have jl : Jt.length = Q.length := by
        have := congrArg List.length hm
        rw [List.length_map, List.length_map] at this
        omega
      have on : ∀ x ∈ jn Jt, NameOk x := fun x hx => by
        obtain ⟨j, hj, rfl⟩ := List.mem_map.mp hx
        exact (hg j hj).nm
      have tn : ∀ x ∈ ln L, NameOk x := fun x hx => by
        obtain ⟨t, ht, rfl⟩ := List.mem_map.mp hx
        exact hL t ht
      have jn20 : (jn Jt).length = Q.length := by rw [List.length_map, jl]
      have ln20 : (ln L).length = L.length := by rw [List.length_map]
      have uniq : ∀ {J' : List RJ} {L' : List RT} {t' : Int}, d = hsR (.int t') J' L' → J' = Jt ∧ L' = L := fun e => by
        obtain ⟨_, e1, e2⟩ := out e
        exact ⟨(map_inj rjD_inj (hm.symm.trans e1)).symm, e2.symm⟩
      have own : mLc (iS (mW 6)) [3] (gN 3) qT (mOp oIx (mW 3) (mC (.int 0))) [.val d, .val (.list ((ln L).map .str)), .val (.int ((Jt.flatMap (·.w)).length : Int)), s3, .no, .val (.int top), .val (.tuple (Q.map qjD)), .val (.tuple (L.map rtD)), s8, s9, s10, .no, .no] = some (.list ((jn Jt).map .str)) := by
        rw [hm]
        exact x_lc (ds := Jt.map rjD) rfl (by rw [List.length_map]; omega) (lc_fst rjD (·.n) Jt fun a _ => ⟨_, rfl, x_op rfl rfl (ix_t at0)⟩)
      have srt : ∀ {l : List Str}, l.length ≤ 1000 → oSorted [.list (l.map .str)] = some (.list ((l.mergeSort leS).map .str)) := fun {l} h => by rw [x_sorted (srt_strs h), sort_strs]
      have ne1 := ne_lists on (b := (jn Jt).mergeSort leS) fun x hx => on x ((List.mergeSort_perm _ leS).mem_iff.mp hx)
      have ne2 := ne_lists tn (b := (ln L).mergeSort leS) fun x hx => tn x ((List.mergeSort_perm _ leS).mem_iff.mp hx)
      have s1 := srt (l := jn Jt) (by omega)
      have s2 := srt (l := ln L) (by omega)
      have cat : oAdd (.list ((jn Jt).map .str)) (.list ((ln L).map .str)) = some (.list ((jn Jt ++ ln L).map .str)) := by
        refine (add_ll ?_).trans ?_
        · have h1 : ((jn Jt).map PyData.str).length = (jn Jt).length := List.length_map _
          have h2 : ((ln L).map PyData.str).length = (ln L).length := List.length_map _
          omega
        · rw [List.map_append]
      have hlx : oLenX [.list ((jn Jt ++ ln L).map .str)] = some (.int ((dedS (jn Jt ++ ln L)).length : Int)) := by
        show (PM.txD ((jn Jt ++ ln L).map PyData.str)).bind _ = _
        rw [PM.txD_strs]
        show (if (jn Jt ++ ln L).length ≤ 1000 then _ else none) = _
        rw [if_pos (by rw [List.length_append]; omega)]
      have hln : oLen [.list ((jn Jt ++ ln L).map .str)] = some (.int ((jn Jt ++ ln L).length : Int)) := by
        show some (PyData.int (((((jn Jt ++ ln L).map PyData.str).length : Nat)) : Int)) = _
        rw [List.length_map]
      have tot : (jn Jt ++ ln L).length = Jt.length + L.length := by rw [List.length_append, List.length_map, List.length_map]
      refine r_seq (x_set own) ?_
      have p1 : qV (mOp oNe (mW 4) (mCb oSorted (aCons (mW 4) aNil))) [.val d, .val (.list ((ln L).map .str)), .val (.int ((Jt.flatMap (·.w)).length : Int)), s3, .val (.list ((jn Jt).map .str)), .val (.int top), .val (.tuple (Q.map qjD)), .val (.tuple (L.map rtD)), s8, s9, s10, .no, .no] = some (!decide (jn Jt = (jn Jt).mergeSort leS)) := x_qv (x_op rfl (x_cb (x_cons rfl rfl) s1) ne1)
      have p2 : qV (mOp oNe (mW 1) (mCb oSorted (aCons (mW 1) aNil))) [.val d, .val (.list ((ln L).map .str)), .val (.int ((Jt.flatMap (·.w)).length : Int)), s3, .val (.list ((jn Jt).map .str)), .val (.int top), .val (.tuple (Q.map qjD)), .val (.tuple (L.map rtD)), s8, s9, s10, .no, .no] = some (!decide (ln L = (ln L).mergeSort leS)) := x_qv (x_op rfl (x_cb (x_cons rfl rfl) s2) ne2)
      have p3 : qV (mOp oNe (mCb oLenX (aCons (mOp oAdd (mW 4) (mW 1)) aNil)) (mCb oLen (aCons (mOp oAdd (mW 4) (mW 1)) aNil))) [.val d, .val (.list ((ln L).map .str)), .val (.int ((Jt.flatMap (·.w)).length : Int)), s3, .val (.list ((jn Jt).map .str)), .val (.int top), .val (.tuple (Q.map qjD)), .val (.tuple (L.map rtD)), s8, s9, s10, .no, .no] = some (!decide (((dedS (jn Jt ++ ln L)).length : Int) = ((jn Jt ++ ln L).length : Int))) := x_qv (x_op (x_cb (x_cons (x_op rfl rfl cat) rfl) hlx) (x_cb (x_cons (x_op rfl rfl cat) rfl) hln) (ne_ii _ _))
      have p4 : mCh oLe oLe (mC (.int 1)) (mCb oLen (aCons (mOp oAdd (mW 4) (mW 1)) aNil)) (mC (.int 8)) [.val d, .val (.list ((ln L).map .str)), .val (.int ((Jt.flatMap (·.w)).length : Int)), s3, .val (.list ((jn Jt).map .str)), .val (.int top), .val (.tuple (Q.map qjD)), .val (.tuple (L.map rtD)), s8, s9, s10, .no, .no] = some (.bool (decide (1 ≤ ((jn Jt ++ ln L).length : Int)) && decide (((jn Jt ++ ln L).length : Int) ≤ 8))) := ch3 (x_cb (x_cons (x_op rfl rfl cat) rfl) hln)
      have p5 : mOp oLe (mW 2) (mC (.int 16)) [.val d, .val (.list ((ln L).map .str)), .val (.int ((Jt.flatMap (·.w)).length : Int)), s3, .val (.list ((jn Jt).map .str)), .val (.int top), .val (.tuple (Q.map qjD)), .val (.tuple (L.map rtD)), s8, s9, s10, .no, .no] = some (.bool (decide (((Jt.flatMap (·.w)).length : Int) ≤ 16))) := x_op rfl rfl rfl
      have bye : ∀ {m : MS} {ρ : Ev} {q : MT}, q ρ = some true → ¬ IsH d → Run (mSeq (mIfS q (mRet (mC (.bool false))) mNx) m) ρ fun q => ∃ dd, outR q = some dd ∧ R dd := fun {m ρ q} h1 h2 => ⟨_, x_ret (x_ifT h1 (x_rt rfl)), _, rfl, no h2⟩
      by_cases c1 : jn Jt = (jn Jt).mergeSort leS
      · rw [decide_eq_true c1] at p1
        by_cases c2 : ln L = (ln L).mergeSort leS
        · rw [decide_eq_true c2] at p2
          by_cases c3 : (jn Jt ++ ln L).Nodup
          · rw [dedS_id c3, decide_eq_true rfl] at p3
            refine r_seq (x_ifF (x_orF p1 (x_orF p2 p3)) rfl) ?_
            obtain ⟨nj, nl, _⟩ := List.nodup_append.mp c3
            have made : (1 ≤ Jt.length + L.length ∧ Jt.length + L.length ≤ 8) → (Jt.flatMap (·.w)).length ≤ 16 → IsH d := fun h1 h2 => ⟨top, Jt, L, by rw [hd, hm]; rfl, t1, t9, ⟨fun j hj => ⟨(hg j hj).nm, (hg j hj).rw', (hg j hj).wn⟩, hL, rise_of c1.symm nj, rise_of c2.symm nl, fun j hj => (hg j hj).wl⟩, ⟨h1.1, h1.2, fun j hj => ⟨(hg j hj).g, (hg j hj).r⟩, hlf, c3⟩, h2⟩
            have back : IsH d → (1 ≤ Jt.length + L.length ∧ Jt.length + L.length ≤ 8) ∧ (Jt.flatMap (·.w)).length ≤ 16 := fun ⟨t', J', L', e, _, _, _, P, h⟩ => by
              obtain ⟨e1, e2⟩ := uniq e
              subst e1 e2
              exact ⟨⟨P.n1, P.n8⟩, h⟩
            by_cases c4 : 1 ≤ Jt.length + L.length ∧ Jt.length + L.length ≤ 8
            · rw [show (decide (1 ≤ ((jn Jt ++ ln L).length : Int)) && decide (((jn Jt ++ ln L).length : Int) ≤ 8)) = true by rw [Bool.and_eq_true, decide_eq_true_iff, decide_eq_true_iff]; omega] at p4
              exact r_ret (x_mandT p4 p5) ⟨_, rfl, yes _ (by rw [decide_eq_true_iff]; exact ⟨fun h => made c4 (by omega), fun h => by have := (back h).2; omega⟩)⟩
            · rw [show (decide (1 ≤ ((jn Jt ++ ln L).length : Int)) && decide (((jn Jt ++ ln L).length : Int) ≤ 8)) = false by rw [Bool.and_eq_false_iff, decide_eq_false_iff_not, decide_eq_false_iff_not]; omega] at p4
              exact r_ret (x_mandF p4) ⟨_, rfl, no fun h => c4 (back h).1⟩
          · have := dedS_short c3
            rw [decide_eq_false (by omega)] at p3
            exact bye (x_orF p1 (x_orF p2 p3)) fun ⟨t', J', L', e, _, _, _, P, _⟩ => by
              obtain ⟨e1, e2⟩ := uniq e
              subst e1 e2
              exact c3 P.nd
        · rw [decide_eq_false c2] at p2
          exact bye (x_orF p1 (x_orT p2)) fun ⟨t', J', L', e, _, _, H, _, _⟩ => by
            obtain ⟨e1, e2⟩ := uniq e
            subst e1 e2
            exact c2 (rise_sorted H.lr).symm
      · rw [decide_eq_false c1] at p1
        exact bye (x_orT p1) fun ⟨t', J', L', e, _, _, H, _, _⟩ => by
          obtain ⟨e1, e2⟩ := uniq e
          subst e1 e2
          exact c1 (rise_sorted H.jr).symm
end K56
namespace K56
open PySem PySem.Spec PyProof.Rows L2 LB PM
theorem due_is {d : PyData} (hT : Ths d) : ∃ b, M_L_due [d] = some (.bool b) ∧ (b = true ↔ IsH d) := by
  have key : ∃ dd, M_L_due [d] = some dd ∧ ∃ b, dd = .bool b ∧ (b = true ↔ IsH d) := by
    have no : ¬ IsH d → ∃ b, PyData.bool false = .bool b ∧ (b = true ↔ IsH d) := fun h => ⟨false, rfl, (fun z => nomatch z), fun z => absurd z h⟩
    have bye : ∀ {m : MS} {ρ : Ev} {q : MT}, q ρ = some true → ¬ IsH d → Run (mSeq (mIfS q (mRet (mC (.bool false))) mNx) m) ρ fun q => ∃ dd, outR q = some dd ∧ ∃ b, dd = .bool b ∧ (b = true ↔ IsH d) := fun {m ρ q} h1 h2 => ⟨_, x_ret (x_ifT h1 (x_rt rfl)), _, rfl, no h2⟩
    refine r_fn rfl ?_
    have q0 : qV (mIs "tuple" (mW 0)) (evOf 1 13 [d]) = some (isU d) := x_qv (x_mis rfl (kit_tuple d))
    cases hu : isU d with
    | false =>
      rw [hu] at q0
      refine bye (x_orT (x_not (c := false) q0)) fun ⟨top, J, L, e, _⟩ => ?_
      rw [e] at hu
      cases hu
    | true =>
      rw [hu] at q0
      obtain ⟨xs, rfl⟩ : ∃ xs, d = .tuple xs := by
        cases d with
        | tuple xs => exact ⟨xs, rfl⟩
        | _ => cases hu
      have q1 : qV (mOp oNe (mCb oLen (aCons (mW 0) aNil)) (mC (.int 3))) (evOf 1 13 [.tuple xs]) = some (!decide ((xs.length : Int) = 3)) := x_qv (x_op (x_cb (x_cons rfl rfl) rfl) rfl (ne_ii _ _))
      by_cases hl : xs.length = 3
      · rw [decide_eq_true (by omega)] at q1
        match xs, hl with
        | [t, u, v], _ =>
          have q2 : qV (mCb M_L_whole (aCons (mOp oIx (mW 0) (mC (.int 0))) (aCons (mC (.int 1)) (aCons (mC (.int 9)) aNil)))) (evOf 1 13 [.tuple [t, u, v]]) = some (bwB 1 9 t) := x_qv (x_cb (x_cons (x_op rfl rfl (ix_t at0)) (x_cons rfl (x_cons rfl rfl))) (L_whole_is 1 9 t))
          cases hb : bwB 1 9 t with
          | false =>
            rw [hb] at q2
            refine bye (x_orF (x_not (c := true) q0) (x_orF q1 (x_not (c := false) q2))) fun ⟨top, J, L, e, t1, t9, _⟩ => ?_
            have e : PyData.tuple [t, u, v] = .tuple [.int top, .tuple (J.map rjD), .tuple (L.map rtD)] := e
            injection e with e
            injection e with e _
            rw [e, bw_of t1 t9] at hb
            cases hb
          | true =>
            rw [hb] at q2
            obtain ⟨top, rfl, t1, t9⟩ := bw_int hb
            refine r_seq (x_ifF (x_orF (x_not (c := true) q0) (x_orF q1 (x_not (c := true) q2))) rfl) (r_seq (x_asg rfl rfl) ?_)
            have q3 : qV (mIs "tuple" (mW 6)) [.val (.tuple [.int top, u, v]), .no, .no, .no, .no, .val (.int top), .val u, .val v, .no, .no, .no, .no, .no] = some (isU u) := x_qv (x_mis rfl (kit_tuple u))
            have q4 : qV (mIs "tuple" (mW 7)) [.val (.tuple [.int top, u, v]), .no, .no, .no, .no, .val (.int top), .val u, .val v, .no, .no, .no, .no, .no] = some (isU v) := x_qv (x_mis rfl (kit_tuple v))
            cases hu2 : isU u with
            | false =>
              rw [hu2] at q3
              refine bye (x_orT (x_not (c := false) q3)) fun ⟨top', J, L, e, _⟩ => ?_
              have e : PyData.tuple [.int top, u, v] = .tuple [.int top', .tuple (J.map rjD), .tuple (L.map rtD)] := e
              injection e with e
              injection e with _ e
              injection e with e _
              rw [e] at hu2
              cases hu2
            | true =>
              rw [hu2] at q3
              cases hv2 : isU v with
              | false =>
                rw [hv2] at q4
                refine bye (x_orF (x_not (c := true) q3) (x_not (c := false) q4)) fun ⟨top', J, L, e, _⟩ => ?_
                have e : PyData.tuple [.int top, u, v] = .tuple [.int top', .tuple (J.map rjD), .tuple (L.map rtD)] := e
                injection e with e
                injection e with _ e
                injection e with _ e
                injection e with e _
                rw [e] at hv2
                cases hv2
              | true =>
                rw [hv2] at q4
                obtain ⟨js, rfl⟩ : ∃ js, u = .tuple js := by
                  cases u with
                  | tuple js => exact ⟨js, rfl⟩
                  | _ => cases hu2
                obtain ⟨ls, rfl⟩ : ∃ ls, v = .tuple ls := by
                  cases v with
                  | tuple ls => exact ⟨ls, rfl⟩
                  | _ => cases hv2
                obtain ⟨j20, l20⟩ := hT.few _ js ls rfl
                have rows := hT.row _ js ls rfl
                have is4 : ∀ {J : List RJ} {L : List RT} {t' : Int}, PyData.tuple [.int top, .tuple js, .tuple ls] = hsR (.int t') J L → js = J.map rjD ∧ ls = L.map rtD := fun {J L t'} e => by
                  have e : PyData.tuple [.int top, .tuple js, .tuple ls] = .tuple [.int t', .tuple (J.map rjD), .tuple (L.map rtD)] := e
                  injection e with e
                  injection e with _ e
                  injection e with e1 e
                  injection e with e2 _
                  injection e1 with e1
                  injection e2 with e2
                  exact ⟨e1, e2⟩
                refine r_seq (x_ifF (x_orF (x_not (c := true) q3) (x_not (c := true) q4)) rfl) ?_
                have all4 : qV (mCb oAll (aCons (mLc (iS (mW 6)) [3] (gN 3) qT (mCb M_L_row (aCons (mV 3) (aCons (mC (.int 4)) aNil)))) aNil)) [.val (.tuple [.int top, .tuple js, .tuple ls]), .no, .no, .no, .no, .val (.int top), .val (.tuple js), .val (.tuple ls), .no, .no, .no, .no, .no] = some (js.all (lrB 4)) := by
                  refine x_qv (x_cb (x_cons (x_lc (ds := js) (es := js.map fun x => PyData.bool (lrB 4 x)) rfl (by omega) ?_) rfl) (all_bools (lrB 4) js))
                  have := lc_all (gm := gN 3) (me := mCb M_L_row (aCons (mV 3) (aCons (mC (.int 4)) aNil))) (ρ := wipeM [.val (.tuple [.int top, .tuple js, .tuple ls]), .no, .no, .no, .no, .val (.int top), .val (.tuple js), .val (.tuple ls), .no, .no, .no, .no, .no] [3]) (fun x : PyData => x) (fun x => PyData.bool (lrB 4 x)) js fun x hx => ⟨_, rfl, x_cb (x_cons rfl (x_cons rfl rfl)) (L_row_is (n := 4) (by decide) (rows x (List.mem_append_left _ hx)))⟩
                  rw [List.map_id'] at this
                  exact this
                have all3 : qV (mCb oAll (aCons (mLc (iS (mW 7)) [11] (gN 11) qT (mCb M_L_row (aCons (mV 11) (aCons (mC (.int 3)) aNil)))) aNil)) [.val (.tuple [.int top, .tuple js, .tuple ls]), .no, .no, .no, .no, .val (.int top), .val (.tuple js), .val (.tuple ls), .no, .no, .no, .no, .no] = some (ls.all (lrB 3)) := by
                  refine x_qv (x_cb (x_cons (x_lc (ds := ls) (es := ls.map fun x => PyData.bool (lrB 3 x)) rfl (by omega) ?_) rfl) (all_bools (lrB 3) ls))
                  have := lc_all (gm := gN 11) (me := mCb M_L_row (aCons (mV 11) (aCons (mC (.int 3)) aNil))) (ρ := wipeM [.val (.tuple [.int top, .tuple js, .tuple ls]), .no, .no, .no, .no, .val (.int top), .val (.tuple js), .val (.tuple ls), .no, .no, .no, .no, .no] [11]) (fun x : PyData => x) (fun x => PyData.bool (lrB 3 x)) ls fun x hx => ⟨_, rfl, x_cb (x_cons rfl (x_cons rfl rfl)) (L_row_is (n := 3) (by decide) (rows x (List.mem_append_right _ hx)))⟩
                  rw [List.map_id'] at this
                  exact this
                cases ha : js.all (lrB 4) with
                | false =>
                  rw [ha] at all4
                  refine bye (x_orT (x_not (c := false) all4)) fun ⟨top', J, L, e, _, _, H, _⟩ => ?_
                  obtain ⟨e1, _⟩ := is4 e
                  have : js.all (lrB 4) = true := by
                    rw [e1, List.all_map, List.all_eq_true]
                    exact fun j hj => (nmB_iff _).mpr (H.jok j hj).1
                  rw [ha] at this
                  cases this
                | true =>
                  rw [ha] at all4
                  cases hc : ls.all (lrB 3) with
                  | false =>
                    rw [hc] at all3
                    refine bye (x_orF (x_not (c := true) all4) (x_not (c := false) all3)) fun ⟨top', J, L, e, _, _, H, _⟩ => ?_
                    obtain ⟨_, e2⟩ := is4 e
                    have : ls.all (lrB 3) = true := by
                      rw [e2, List.all_map, List.all_eq_true]
                      exact fun j hj => (nmB_iff _).mpr (H.tok j hj)
                    rw [hc] at this
                    cases this
                  | true =>
                    rw [hc] at all3
                    refine r_seq (x_ifF (x_orF (x_not (c := true) all4) (x_not (c := true) all3)) rfl) ?_
                    obtain ⟨Q, rfl, hQ⟩ := q_raw ha
                    obtain ⟨L, rfl, hL⟩ := t_raw hc
                    rw [List.length_map] at j20 l20
                    refine r_seq (x_set (d := .list ((ln L).map .str)) (x_lc (ds := L.map rtD) rfl (by rw [List.length_map]; omega) (lc_fst rtD (·.n) L fun a _ => ⟨_, rfl, x_op rfl rfl (ix_t at0)⟩))) ?_
                    exact rest_is t1 t9 hQ hL j20 l20 (fun j hj => rows _ (List.mem_append_left _ (List.mem_map_of_mem hj))) rfl no fun b h => ⟨b, rfl, h⟩
      · rw [decide_eq_false (by omega)] at q1
        refine bye (x_orF (x_not (c := true) q0) (x_orT q1)) fun ⟨top, J, L, e, _⟩ => ?_
        have e : PyData.tuple xs = .tuple [.int top, .tuple (J.map rjD), .tuple (L.map rtD)] := e
        injection e with e
        rw [e] at hl
        exact hl rfl
  obtain ⟨dd, h1, b, rfl, h2⟩ := key
  exact ⟨b, h1, h2⟩
/-- both say the same of each thing -/
theorem both_is {d : PyData} (hT : Ths d) : ∃ b, M_is_house [d] = some (.bool b) ∧ M_L_due [d] = some (.bool b) := by
  obtain ⟨b, h1, h2⟩ := house_is hT
  obtain ⟨c, h3, h4⟩ := due_is hT
  have : b = c := Bool.eq_iff_iff.mpr (h2.trans h4.symm)
  subst this
  exact ⟨b, h1, h3⟩
end K56
namespace K56.Y
open PySem PySem.Spec PyProof.Rows L2 LB PM K56
/-! ### the drawn house -/
structure Job where
  n : Str
  g : Int
  r : Int
  w : List Str
structure Tool where
  n : Str
  c : Int
  f : Int
def jD (j : Job) : PyData := .tuple [.str j.n, .int j.g, .int j.r, .tuple (j.w.map .str)]
def oD (t : Tool) : PyData := .tuple [.str t.n, .int t.c, .int t.f]
def houseD (top : Int) (J : List Job) (L : List Tool) : PyData := .tuple [.int top, .tuple (J.map jD), .tuple (L.map oD)]
abbrev jn (J : List Job) : List Str := J.map (·.n)
abbrev ln (L : List Tool) : List Str := L.map (·.n)
structure House (top : Int) (J : List Job) (L : List Tool) : Prop where
  t1 : 1 ≤ top
  t9 : top ≤ 9
  n1 : 1 ≤ J.length + L.length
  n8 : J.length + L.length ≤ 8
  jr : Rise (jn J)
  nd : (jn J ++ ln L).Nodup
  ok : ∀ x ∈ jn J ++ ln L, NameOk x
  jg : ∀ j ∈ J, (0 ≤ j.g ∧ j.g ≤ 99) ∧ (0 ≤ j.r ∧ j.r ≤ 99) ∧ j.w.Nodup ∧ ∀ x ∈ j.w, x ∈ ln L
  lf : ∀ t ∈ L, (0 ≤ t.f ∧ t.f ≤ 99) ∧ t.f * top ≤ t.c ∧ t.c ≤ 999
  wm : (J.flatMap (·.w)).length ≤ 16
theorem sub_filter : ∀ {c l : List Str}, c.Sublist l → l.Nodup → l.filter (fun x => decide (x ∈ c)) = c := by
  intro c l h
  induction h with
  | slnil => intro _; rfl
  | @cons c l a h ih =>
    intro nd
    rw [List.nodup_cons] at nd
    rw [List.filter_cons_of_neg]
    · exact ih nd.2
    · intro z
      exact nd.1 (h.subset (of_decide_eq_true z))
  | @cons_cons c l a h ih =>
    intro nd
    rw [List.nodup_cons] at nd
    rw [List.filter_cons_of_pos (by simp)]
    congr 1
    rw [← ih nd.2]
    refine List.filter_congr fun x hx => ?_
    rw [ih nd.2]
    have ne : x ≠ a := fun z => nd.1 (z ▸ hx)
    simp [ne]
theorem snoc_at {α : Type} {l : List α} {i : Nat} {x : α} (h : l[i]? = some x) : l.take (i + 1) = l.take i ++ [x] := by
  obtain ⟨hi, e⟩ := List.getElem?_eq_some_iff.mp h
  rw [List.take_succ_eq_append_getElem hi, e]
theorem cut_to {α : Type} (l : List α) (k : Nat) : LB.cutD l none (some (k : Int)) = l.take k := by
  show (l.drop 0).take (HT.sIx l.length l.length (some ((k : Nat) : Int)) - 0) = _
  rw [HT.sIx_nat, List.drop_zero, Nat.sub_zero]
  rcases Nat.le_total k l.length with h | h
  · rw [Nat.min_eq_left h]
  · rw [Nat.min_eq_right h, List.take_of_length_le (Nat.le_refl _), List.take_of_length_le h]
theorem pick3 (a b c x : Int) : ∃ v, (v = a ∨ v = b ∨ v = c) ∧ oIx (.list [PyData.int a, .int b, .int c]) (.int (x.fmod 3)) = some (.int v) := by
  have f := fm x (b := 3) (by decide)
  rcases (show x.fmod 3 = 0 ∨ x.fmod 3 = 1 ∨ x.fmod 3 = 2 by omega) with e | e | e
  · exact ⟨a, .inl rfl, by rw [e]; exact ix_l at0⟩
  · exact ⟨b, .inr (.inl rfl), by rw [e]; exact ix_l at1⟩
  · exact ⟨c, .inr (.inr rfl), by rw [e]; exact ix_l at2⟩
theorem pow8 {k : Nat} (h : k < 8) : ∃ v : Int, 1 ≤ v ∧ v ≤ 128 ∧ oIx (.list [PyData.int 1, .int 2, .int 4, .int 8, .int 16, .int 32, .int 64, .int 128]) (.int (k : Int)) = some (.int v) := by
  rcases (show k = 0 ∨ k = 1 ∨ k = 2 ∨ k = 3 ∨ k = 4 ∨ k = 5 ∨ k = 6 ∨ k = 7 by omega) with rfl | rfl | rfl | rfl | rfl | rfl | rfl | rfl
  · exact ⟨1, by decide, by decide, ix_l (atI_nat rfl)⟩
  · exact ⟨2, by decide, by decide, ix_l (atI_nat rfl)⟩
  · exact ⟨4, by decide, by decide, ix_l (atI_nat rfl)⟩
  · exact ⟨8, by decide, by decide, ix_l (atI_nat rfl)⟩
  · exact ⟨16, by decide, by decide, ix_l (atI_nat rfl)⟩
  · exact ⟨32, by decide, by decide, ix_l (atI_nat rfl)⟩
  · exact ⟨64, by decide, by decide, ix_l (atI_nat rfl)⟩
  · exact ⟨128, by decide, by decide, ix_l (atI_nat rfl)⟩
theorem range_map {α : Type} (l : List α) (d : α) : (List.range l.length).map (fun k => l.getD k d) = l := by
  refine List.ext_getElem? fun i => ?_
  rw [List.getElem?_map]
  by_cases h : i < l.length
  · rw [List.getElem?_range h, List.getElem?_eq_getElem h]
    show some (l.getD i d) = _
    rw [List.getD_eq_getElem?_getD, List.getElem?_eq_getElem h]
    rfl
  · rw [List.getElem?_eq_none (by rw [List.length_range]; omega), List.getElem?_eq_none (by omega)]
    rfl
theorem range_sub {α : Type} (l : List α) (d : α) (p : Nat → Bool) : (((List.range l.length).filter p).map fun k => l.getD k d).Sublist l := by
  have := (List.filter_sublist (p := p) (l := List.range l.length)).map fun k => l.getD k d
  rwa [range_map] at this
theorem getD_at {α : Type} {l : List α} {d : α} {k : Nat} (h : k < l.length) : l[k]? = some (l.getD k d) := by
  rw [List.getD_eq_getElem?_getD, List.getElem?_eq_getElem h]
  rfl
theorem str_get {S : List Str} {k : Nat} (h : k < S.length) : oIx (.list (S.map .str)) (.int (k : Int)) = some (.str (S.getD k Str.empty)) := ix_l (atI_nat (by rw [List.getElem?_map, getD_at (d := Str.empty) h]; rfl))
theorem int_get {S : List Int} {k : Nat} (h : k < S.length) : oIx (.list (S.map .int)) (.int (k : Int)) = some (.int (S.getD k 0)) := ix_l (atI_nat (by rw [List.getElem?_map, getD_at (d := 0) h]; rfl))
theorem len_get {S : List Str} : oLen [.list (S.map .str)] = some (.int (S.length : Int)) := by
  show some (PyData.int (((S.map PyData.str).length : Nat) : Int)) = _
  rw [List.length_map]
theorem enum_is : ∀ (ns : List Str), enumD (ns.map PyData.str) = (List.range ns.length).map fun k => .tuple [.int (k : Int), .str (ns.getD k Str.empty)] := fun ns => by
  refine List.ext_getElem? fun i => ?_
  rw [List.getElem?_map]
  by_cases h : i < ns.length
  · rw [enumD_at (show (ns.map PyData.str)[i]? = some (.str (ns.getD i Str.empty)) by rw [List.getElem?_map, getD_at (d := Str.empty) h]; rfl), List.getElem?_range h]
    rfl
  · rw [List.getElem?_eq_none (by rw [enumD_len, List.length_map]; omega), List.getElem?_eq_none (by rw [List.length_range]; omega)]
    rfl
theorem cell_at (script : List Int) {e : Int} {j : Nat} (h : e = (j : Int)) (hj : j ≤ 1000) : ∃ n, M_L_cell [.list (script.map .int), .int e] = some (.int n) := by
  rw [h]
  exact cell_ok script hj
theorem filter_split {α : Type} (p : α → Bool) : ∀ l : List α, (l.filter p).length + (l.filter fun x => !p x).length = l.length
  | [] => rfl
  | a :: l => by
    have ih := filter_split p l
    cases h : p a with
    | true =>
      rw [List.filter_cons_of_pos h, List.filter_cons_of_neg (by rw [h]; exact Bool.false_ne_true), List.length_cons, List.length_cons]
      omega
    | false =>
      rw [List.filter_cons_of_neg (by rw [h]; exact Bool.false_ne_true), List.filter_cons_of_pos (by rw [h]; rfl), List.length_cons, List.length_cons]
      omega
structure JobOk (S : List Str) (j : Job) : Prop where
  g : 0 ≤ j.g ∧ j.g ≤ 99
  r : 0 ≤ j.r ∧ j.r ≤ 99
  nd : j.w.Nodup
  m : ∀ x ∈ j.w, x ∈ S
structure ToolOk (top : Int) (t : Tool) : Prop where
  f : 0 ≤ t.f ∧ t.f ≤ 99
  lo : t.f * top ≤ t.c
  hi : t.c ≤ 999
theorem house_ok (script : List Int) {at' : Nat} (hat : at' ≤ 100) : ∃ top J L, House top J L ∧ M_L_house [.list (script.map .int), .int (at' : Int)] = some (houseD top J L) := by
  have key : ∃ d, M_L_house [.list (script.map .int), .int (at' : Int)] = some d ∧ ∃ top J L, House top J L ∧ d = houseD top J L := by
    obtain ⟨n, hcell⟩ := cell_at script (e := (at' : Int)) (j := at') rfl (by omega)
    obtain ⟨xs, hx, hnums⟩ := nums_ok n (m := 16) (by decide)
    have hxl := hx.1
    obtain ⟨mm, hmm, hmi⟩ := pick3 4 6 8 (xs.getD 6 0)
    have f4 := fm (xs.getD 4 0) (b := 9) (by decide)
    have f5 := fm (xs.getD 5 0) (b := mm) (by omega)
    obtain ⟨m, hm⟩ : ∃ m : Nat, 1 + (xs.getD 5 0).fmod mm = (m : Int) := ⟨(1 + (xs.getD 5 0).fmod mm).toNat, by omega⟩
    obtain ⟨ns, hns, hnames⟩ := names_ok hx (by decide) (show 1 ≤ m by omega) (show m ≤ 8 by omega)
    have nl := hns.len
    have ig : ∀ {k : Nat}, k < 16 → oIx (.list (xs.map .int)) (.int (k : Int)) = some (.int (xs.getD k 0)) := fun h => int_get (by omega)
    generalize ht : 1 + (xs.getD 4 0).fmod 9 = top
    have nd : ns.Nodup := List.nodup_iff_pairwise_ne.mpr (hns.rise.imp fun h e => by
      rw [e] at h
      exact absurd h (List.lt_irrefl _))
    refine r_fn rfl (r_seq (x_set (x_cb (x_cons (x_cb (x_cons rfl (x_cons rfl rfl)) hcell) (x_cons rfl rfl)) hnums)) (r_seq (x_set (d := .int top) (x_op rfl (x_op (x_op rfl rfl (ig (k := 4) (by decide))) rfl (mod_ii (by decide))) (by rw [← ht]; rfl))) (r_seq (x_set (d := .int (m : Int)) (x_op rfl (x_op (x_op rfl rfl (ig (k := 5) (by decide))) (x_op (x_lst (x_cons rfl (x_cons rfl (x_cons rfl rfl))) (by show 3 ≤ 100000; decide)) (x_op (x_op rfl rfl (ig (k := 6) (by decide))) rfl (mod_ii (by decide))) hmi) (mod_ii (by omega))) (by rw [← hm]; rfl))) (r_seq (x_set (x_cb (x_cons rfl (x_cons rfl rfl)) hnames)) ?_))))
    -- the tools' names
    obtain ⟨S, hS, hs⟩ : ∃ S : List Str, S.Sublist ns ∧ mLc (iEk (aCons (mV 5) aNil)) [8, 11] (gT [8, 11]) (qV (mOp oEq (mOp oMod (mOp oFdv (mOp oFdv (mOp oIx (mW 2) (mC (.int 7))) (mC (.int 2))) (mOp oIx (mLst (aCons (mC (.int 1)) (aCons (mC (.int 2)) (aCons (mC (.int 4)) (aCons (mC (.int 8)) (aCons (mC (.int 16)) (aCons (mC (.int 32)) (aCons (mC (.int 64)) (aCons (mC (.int 128)) aNil))))))))) (mW 8))) (mC (.int 2))) (mC (.int 0)))) (mV 11) [.val (.list (script.map .int)), .val (.int (at' : Int)), .val (.list (xs.map .int)), .val (.int top), .val (.int (m : Int)), .val (.list (ns.map .str)), .no, .no, .no, .no, .no, .no, .no, .no, .no, .no, .no] = some (.list (S.map .str)) := by
      have pw : ∀ k : Nat, k < 8 → ∃ v : Int, 1 ≤ v ∧ v ≤ 128 ∧ oIx (.list [PyData.int 1, .int 2, .int 4, .int 8, .int 16, .int 32, .int 64, .int 128]) (.int (k : Int)) = some (.int v) := fun k h => pow8 h
      have pw2 : ∃ V : Nat → Int, ∀ k, k < 8 → 1 ≤ V k ∧ V k ≤ 128 ∧ oIx (.list [PyData.int 1, .int 2, .int 4, .int 8, .int 16, .int 32, .int 64, .int 128]) (.int (k : Int)) = some (.int (V k)) := by
        have : ∀ k : Nat, ∃ v : Int, k < 8 → 1 ≤ v ∧ v ≤ 128 ∧ oIx (.list [PyData.int 1, .int 2, .int 4, .int 8, .int 16, .int 32, .int 64, .int 128]) (.int (k : Int)) = some (.int v) := fun k => by
          by_cases h : k < 8
          · obtain ⟨v, hv⟩ := pw k h
            exact ⟨v, fun _ => hv⟩
          · exact ⟨0, fun z => absurd z h⟩
        exact Classical.axiomOfChoice this
      obtain ⟨V, hV⟩ := pw2
      refine ⟨_, range_sub ns Str.empty fun k => decide ((((xs.getD 7 0).fdiv 2).fdiv (V k)).fmod 2 = 0), ?_⟩
      rw [List.map_map]
      refine x_lc (ds := enumD (ns.map .str)) rfl (by rw [enumD_len, List.length_map]; omega) ?_
      rw [enum_is]
      refine lcGo_map (fun k : Nat => PyData.tuple [.int (k : Int), .str (ns.getD k Str.empty)]) _ _ _ fun k hk => ?_
      have hk := List.mem_range.mp hk
      obtain ⟨v1, v2, v3⟩ := hV k (by omega)
      exact ⟨_, rfl, x_qv (x_op (x_op (x_op (x_op (x_op rfl rfl (ig (k := 7) (by decide))) rfl (fdv_ii (by decide) (by decide))) (x_op (x_lst (x_cons rfl (x_cons rfl (x_cons rfl (x_cons rfl (x_cons rfl (x_cons rfl (x_cons rfl (x_cons rfl rfl)))))))) (by show 8 ≤ 100000; decide)) rfl v3) (fdv_ii (by omega) (by omega))) rfl (mod_ii (by decide))) rfl (eq_ii _ _)), fun _ => rfl⟩
    have sl : S.length ≤ 8 := by
      have := hS.length_le
      omega
    have sn : S.Nodup := nd.sublist hS
    refine r_seq (x_set hs) (r_seq (x_setO (x_lst rfl (by decide))) (r_for (ds := rngD S.length) (fun i ρ => ∃ (Lt : List Tool) (s8 s12 s13 s14 : Sl), ρ = [.val (.list (script.map .int)), .val (.int (at' : Int)), .val (.list (xs.map .int)), .val (.int top), .val (.int (m : Int)), .val (.list (ns.map .str)), .val (.list (S.map .str)), .own (.list (Lt.map oD)), s8, .no, .no, .no, s12, s13, s14, .no, .no] ∧ Lt.map (·.n) = S.take i ∧ (∀ t ∈ Lt, ToolOk top t) ∧ i ≤ S.length) (x_rng (n := S.length) (x_cons (x_cb (x_cons rfl rfl) len_get) rfl) (by omega)) ⟨[], _, _, _, _, rfl, rfl, fun t ht => absurd ht List.not_mem_nil, Nat.zero_le _⟩ ?_ ?_))
    · rintro i d ρ hd ⟨Lt, s8, s12, s13, s14, rfl, hl, hok, hi⟩
      obtain ⟨hk, rfl⟩ := rng_at hd
      obtain ⟨n', hc'⟩ := cell_at script (e := (at' : Int) + 1 + (i : Int)) (j := at' + 1 + i) (by omega) (by omega)
      obtain ⟨ys, hy, hn'⟩ := nums_ok n' (m := 14) (by decide)
      have hyl := hy.1
      have yg : ∀ {k : Nat}, k < 14 → oIx (.list (ys.map .int)) (.int (k : Int)) = some (.int (ys.getD k 0)) := fun h => int_get (by omega)
      obtain ⟨a, ha, hai⟩ := pick3 3 6 100 (ys.getD 1 0)
      obtain ⟨b, hb, hbi⟩ := pick3 6 40 (1000 - 99 * 9) (ys.getD 3 0)
      have fa := fm (ys.getD 0 0) (b := a) (by omega)
      have fb := fm (ys.getD 2 0) (b := b) (by omega)
      generalize hfa : (ys.getD 0 0).fmod a = fl at fa
      have t9 : fl * top ≤ fl * 9 := Int.mul_le_mul_of_nonneg_left (by omega) fa.1
      have ll : Lt.length = i := by
        have := congrArg List.length hl
        rw [List.length_map, List.length_take] at this
        omega
      refine ⟨_, rfl, r_seq (x_set (x_cb (x_cons (x_cb (x_cons rfl (x_cons (x_op (x_op rfl rfl rfl) rfl rfl) rfl)) hc') (x_cons rfl rfl)) hn')) (r_seq (x_set (d := .int fl) (x_op (x_op rfl rfl (yg (k := 0) (by decide))) (x_op (x_lst (x_cons rfl (x_cons rfl (x_cons rfl rfl))) (by show 3 ≤ 100000; decide)) (x_op (x_op rfl rfl (yg (k := 1) (by decide))) rfl (mod_ii (by decide))) hai) ((mod_ii (by omega)).trans (by rw [hfa])))) (r_seq (x_set (d := .int (fl * top + (ys.getD 2 0).fmod b)) (x_op (x_op rfl rfl (mul_ii (by omega) (by omega))) (x_op (x_op rfl rfl (yg (k := 2) (by decide))) (x_op (x_lst (x_cons rfl (x_cons rfl (x_cons (x_op rfl (x_op rfl rfl (mul_ii (by decide) (by decide))) rfl) rfl))) (by show 3 ≤ 100000; decide)) (x_op (x_op rfl rfl (yg (k := 3) (by decide))) rfl (mod_ii (by decide))) hbi) (mod_ii (by omega))) rfl)) (r_end (x_app (d := oD ⟨S.getD i Str.empty, fl * top + (ys.getD 2 0).fmod b, fl⟩) (x_tup (x_cons (x_op rfl rfl (str_get hk)) (x_cons rfl (x_cons rfl rfl))) (by show 3 ≤ 100000; decide)) rfl (by rw [List.length_map]; omega)) ⟨Lt ++ [⟨S.getD i Str.empty, fl * top + (ys.getD 2 0).fmod b, fl⟩], .val (.int (i : Int)), .val (.list (ys.map .int)), .val (.int fl), .val (.int (fl * top + (ys.getD 2 0).fmod b)), ?_, ?_, ?_, hk⟩)))⟩
      · rw [List.map_append]
        rfl
      · rw [List.map_append, hl, snoc_at (getD_at (d := Str.empty) hk)]
        rfl
      · intro t ht
        rcases List.mem_append.mp ht with ht | ht
        · exact hok t ht
        · rw [List.mem_singleton.mp ht]
          exact ⟨⟨fa.1, by show fl ≤ 99; omega⟩, by show fl * top ≤ fl * top + _; omega, by show fl * top + _ ≤ 999; omega⟩
    · rintro ρ ⟨Lt, s8, s12, s13, s14, rfl, hl, hok, _⟩
      rw [rngD_length, List.take_length] at hl
      have ll : Lt.length = S.length := by rw [← hl, List.length_map]
      refine r_seq (x_setO (x_lst rfl (by decide))) (r_seq (x_set rfl) (r_for (ds := ns.map .str) (fun i ρ => ∃ (Jt : List Job) (left : Nat) (s8 s11 s12 s13 s14 s15 s16 : Sl), ρ = [.val (.list (script.map .int)), .val (.int (at' : Int)), .val (.list (xs.map .int)), .val (.int top), .val (.int (m : Int)), .val (.list (ns.map .str)), .val (.list (S.map .str)), .own (.list (Lt.map oD)), s8, .own (.list (Jt.map jD)), .val (.int (left : Int)), s11, s12, s13, s14, s15, s16] ∧ jn Jt = (ns.take i).filter (fun x => !decide (x ∈ S)) ∧ (∀ j ∈ Jt, JobOk S j) ∧ (Jt.flatMap (·.w)).length + left = 16 ∧ i ≤ ns.length) rfl ⟨[], 16, _, _, _, _, _, _, _, rfl, rfl, fun j hj => absurd hj List.not_mem_nil, rfl, Nat.zero_le _⟩ ?_ ?_))
      · rintro i d ρ hd ⟨Jt, left, s8, s11, s12, s13, s14, s15, s16, rfl, hj, hjo, hw, hi⟩
        have hin : i < ns.length := by
          have := (List.getElem?_eq_some_iff.mp hd).1
          rwa [List.length_map] at this
        rw [List.getElem?_map, List.getElem?_eq_getElem hin] at hd
        have hd : some (PyData.str ns[i]) = some d := hd
        cases hd
        have es := snoc_at (List.getElem?_eq_getElem hin)
        have jl : Jt.length ≤ i := by
          have := congrArg List.length hj
          rw [List.length_map] at this
          have h2 := List.length_filter_le (fun x => !decide (x ∈ S)) (ns.take i)
          rw [List.length_take] at h2
          omega
        generalize ns[i] = x at es
        refine ⟨_, rfl, r_if (c := !decide (x ∈ S)) (x_qv (x_op rfl rfl (nin_strs rfl))) (fun h => ?_) (fun h => r_end rfl ⟨Jt, left, s8, .val (.str x), s12, s13, s14, s15, s16, rfl, ?_, hjo, hw, hin⟩)⟩
        · obtain ⟨n', hc'⟩ := cell_at script (e := (at' : Int) + 1 + (Lt.length : Int) + (Jt.length : Int)) (j := at' + 1 + Lt.length + Jt.length) (by omega) (by omega)
          obtain ⟨ys, hy, hn'⟩ := nums_ok n' (m := 14) (by decide)
          have hyl := hy.1
          have yg : ∀ {k : Nat}, k < 14 → oIx (.list (ys.map .int)) (.int (k : Int)) = some (.int (ys.getD k 0)) := fun h => int_get (by omega)
          obtain ⟨a, ha, hai⟩ := pick3 5 20 100 (ys.getD 1 0)
          obtain ⟨b, hb, hbi⟩ := pick3 2 6 100 ((ys.getD 1 0).fdiv 3)
          have fa := fm (ys.getD 2 0) (b := a) (by omega)
          have fb := fm (ys.getD 3 0) (b := b) (by omega)
          have lenT : ∀ {ρ : Ev}, mW 7 ρ = some (.list (Lt.map oD)) → mCb oLen (aCons (mW 7) aNil) ρ = some (.int (Lt.length : Int)) := fun h => x_cb (x_cons h rfl) (by
            show some (PyData.int (((Lt.map oD).length : Nat) : Int)) = _
            rw [List.length_map])
          have lenJ : ∀ {ρ : Ev}, mW 9 ρ = some (.list (Jt.map jD)) → mCb oLen (aCons (mW 9) aNil) ρ = some (.int (Jt.length : Int)) := fun h => x_cb (x_cons h rfl) (by
            show some (PyData.int (((Jt.map jD).length : Nat) : Int)) = _
            rw [List.length_map])
          have hW := range_sub S Str.empty fun k => decide ((ys.getD (4 + k) 0).fmod 3 = 1)
          have lc : ∀ {s8 s13 s14 s15 s16 : Sl}, mLc (iR (aCons (mCb oLen (aCons (mW 6) aNil)) aNil)) [8] (gN 8) (qV (mOp oEq (mOp oMod (mOp oIx (mW 12) (mOp oAdd (mC (.int 4)) (mW 8))) (mC (.int 3))) (mC (.int 1)))) (mOp oIx (mW 6) (mW 8)) [.val (.list (script.map .int)), .val (.int (at' : Int)), .val (.list (xs.map .int)), .val (.int top), .val (.int (m : Int)), .val (.list (ns.map .str)), .val (.list (S.map .str)), .own (.list (Lt.map oD)), s8, .own (.list (Jt.map jD)), .val (.int (left : Int)), .val (.str x), .val (.list (ys.map .int)), s13, s14, s15, s16] = some (.list ((((List.range S.length).filter fun k => decide ((ys.getD (4 + k) 0).fmod 3 = 1)).map fun k => S.getD k Str.empty).map .str)) := fun {s8 s13 s14 s15 s16} => by
            refine x_lc (ds := rngD S.length) (x_rng (n := S.length) (x_cons (x_cb (x_cons rfl rfl) len_get) rfl) (by omega)) (by rw [rngD_length]; omega) ?_
            rw [List.map_map]
            refine lcGo_map (fun k : Nat => PyData.int (k : Int)) _ _ _ fun k hk => ?_
            have hk := List.mem_range.mp hk
            exact ⟨_, rfl, x_qv (x_op (x_op (x_op rfl (x_op rfl rfl rfl) (yg (k := 4 + k) (by omega))) rfl (mod_ii (by decide))) rfl (eq_ii _ _)), fun _ => x_op rfl rfl (str_get hk)⟩
          generalize ((List.range S.length).filter fun k => decide ((ys.getD (4 + k) 0).fmod 3 = 1)).map (fun k => S.getD k Str.empty) = W at hW lc
          have wl : (W.take left).length ≤ left := by
            rw [List.length_take]
            omega
          have ws : (W.take left).Sublist S := (List.take_sublist _ _).trans hW
          have hcut : ∀ {s8 s13 s14 s15 s16 : Sl}, mSl (mLc (iR (aCons (mCb oLen (aCons (mW 6) aNil)) aNil)) [8] (gN 8) (qV (mOp oEq (mOp oMod (mOp oIx (mW 12) (mOp oAdd (mC (.int 4)) (mW 8))) (mC (.int 3))) (mC (.int 1)))) (mOp oIx (mW 6) (mW 8))) pNo (pSo (mV 10)) [.val (.list (script.map .int)), .val (.int (at' : Int)), .val (.list (xs.map .int)), .val (.int top), .val (.int (m : Int)), .val (.list (ns.map .str)), .val (.list (S.map .str)), .own (.list (Lt.map oD)), s8, .own (.list (Jt.map jD)), .val (.int (left : Int)), .val (.str x), .val (.list (ys.map .int)), s13, s14, s15, s16] = some (.list ((W.take left).map .str)) := fun {s8 s13 s14 s15 s16} => by
            unfold mSl
            rw [lc]
            show some (PyData.list (LB.cutD (W.map .str) none (some (left : Int)))) = _
            rw [cut_to, List.map_take]
          have hlen : oLen [.tuple ((W.take left).map .str)] = some (.int ((W.take left).length : Int)) := by
            show some (PyData.int ((((W.take left).map PyData.str).length : Nat) : Int)) = _
            rw [List.length_map]
          generalize W.take left = w at wl ws hcut hlen
          refine r_seq (x_set (x_cb (x_cons (x_cb (x_cons rfl (x_cons (x_op (x_op (x_op rfl rfl rfl) (lenT rfl) rfl) (lenJ rfl) rfl) rfl)) hc') (x_cons rfl rfl)) hn')) (r_seq (x_set (x_cb (x_cons hcut rfl) rfl)) (r_seq (x_set (d := .int ((left - w.length : Nat) : Int)) (x_op rfl (x_cb (x_cons rfl rfl) hlen) (by
            show some (PyData.int ((left : Int) - (w.length : Int))) = _
            exact congrArg (fun z => some (PyData.int z)) (by omega)))) (r_seq (x_set (d := .int a) (x_op (x_lst (x_cons rfl (x_cons rfl (x_cons rfl rfl))) (by show 3 ≤ 100000; decide)) (x_op (x_op rfl rfl (yg (k := 1) (by decide))) rfl (mod_ii (by decide))) hai)) (r_end (x_app (d := jD ⟨x, (ys.getD 2 0).fmod a, (ys.getD 3 0).fmod b, w⟩) (x_tup (x_cons rfl (x_cons (x_op (x_op rfl rfl (yg (k := 2) (by decide))) rfl (mod_ii (by omega))) (x_cons (x_op (x_op rfl rfl (yg (k := 3) (by decide))) (x_op (x_lst (x_cons rfl (x_cons rfl (x_cons rfl rfl))) (by show 3 ≤ 100000; decide)) (x_op (x_op (x_op rfl rfl (yg (k := 1) (by decide))) rfl (fdv_ii (by decide) (by decide))) rfl (mod_ii (by decide))) hbi) (mod_ii (by omega))) (x_cons rfl rfl)))) (by show 4 ≤ 100000; decide)) rfl (by rw [List.length_map]; omega)) ⟨Jt ++ [⟨x, (ys.getD 2 0).fmod a, (ys.getD 3 0).fmod b, w⟩], left - w.length, s8, .val (.str x), .val (.list (ys.map .int)), s13, s14, .val (.tuple (w.map .str)), .val (.int a), ?_, ?_, ?_, ?_, hin⟩))))
          · rw [List.map_append]
            rfl
          · rw [es, List.filter_append, ← hj, List.filter_cons_of_pos (by exact h)]
            show List.map _ (Jt ++ _) = _
            rw [List.map_append]
            rfl
          · intro j hj'
            rcases List.mem_append.mp hj' with hj' | hj'
            · exact hjo j hj'
            · rw [List.mem_singleton.mp hj']
              exact ⟨⟨fa.1, by show (ys.getD 2 0).fmod a ≤ 99; omega⟩, ⟨fb.1, by show (ys.getD 3 0).fmod b ≤ 99; omega⟩, sn.sublist ws, fun y hy => ws.subset hy⟩
          · rw [List.flatMap_append, List.length_append, List.flatMap_cons, List.flatMap_nil, List.append_nil]
            show _ + w.length + _ = 16
            omega
        · rw [es, List.filter_append, hj, List.filter_cons_of_neg (by rw [h]; exact Bool.false_ne_true), List.filter_nil, List.append_nil]
      · rintro ρ ⟨Jt, left, s8, s11, s12, s13, s14, s15, s16, rfl, hj, hjo, hw, _⟩
        rw [List.length_map, List.take_length] at hj
        have eS : ns.filter (fun x => decide (x ∈ S)) = S := sub_filter hS nd
        have cnt : Jt.length + Lt.length = ns.length := by
          have h1 : Jt.length = (ns.filter fun x => !decide (x ∈ S)).length := by rw [← hj, List.length_map]
          have h2 := filter_split (fun x => decide (x ∈ S)) ns
          rw [eS] at h2
          omega
        refine r_ret (x_tup (x_cons rfl (x_cons (x_cb (x_cons rfl rfl) rfl) (x_cons (x_cb (x_cons rfl rfl) rfl) rfl))) (by show 3 ≤ 100000; decide)) ⟨_, rfl, top, Jt, Lt, ⟨by omega, by omega, by omega, by omega, ?_, ?_, fun x hx => ?_, fun j hj' => ?_, fun t ht' => ?_, by omega⟩, rfl⟩
        · rw [hj]
          exact hns.rise.filter _
        · show (jn Jt ++ ln Lt).Nodup
          rw [hj, show ln Lt = S from hl]
          refine List.nodup_append.mpr ⟨nd.filter _, sn, fun a ha b hb e => ?_⟩
          have := (List.mem_filter.mp ha).2
          rw [e, decide_eq_true hb] at this
          cases this
        · rw [hj, show ln Lt = S from hl] at hx
          rcases List.mem_append.mp hx with hx | hx
          · exact hns.each x (List.mem_filter.mp hx).1
          · exact hns.each x (hS.subset hx)
        · obtain ⟨h1, h2, h3, h4⟩ := hjo j hj'
          exact ⟨h1, h2, h3, by rw [show ln Lt = S from hl]; exact h4⟩
        · obtain ⟨h1, h2, h3⟩ := hok t ht'
          exact ⟨h1, h2, h3⟩
  obtain ⟨d, h1, top, J, L, h2, rfl⟩ := key
  exact ⟨top, J, L, h2, h1⟩
end K56.Y
namespace K56
open PySem PySem.Spec PyProof.Rows L2 LB PM
/-! ### things: the fixed ones -/
def CellF (x : PyData) : Prop := Shrt x ∧ ∀ ws, x = .tuple ws → ws.length ≤ 20 ∧ ∀ y ∈ ws, Shrt y
theorem row_f {xs : List PyData} (h : ∀ x ∈ xs, CellF x) : RowF (.tuple xs) := fun ys e x hx => by
  injection e with e
  subst e
  exact h x hx
theorem row_no {d : PyData} (h : ∀ xs, d ≠ .tuple xs) : RowF d := fun xs e => absurd e (h xs)
def PartF (u : PyData) : Prop := ∀ js, u = .tuple js → js.length ≤ 20 ∧ ∀ j ∈ js, RowF j
theorem part_f {js : List PyData} (h : js.length ≤ 20) (h2 : ∀ j ∈ js, RowF j) : PartF (.tuple js) := fun ys e => by
  injection e with e
  subst e
  exact ⟨h, h2⟩
theorem part_no {d : PyData} (h : ∀ xs, d ≠ .tuple xs) : PartF d := fun xs e => absurd e (h xs)
theorem ths3 {t u v : PyData} (hu : PartF u) (hv : PartF v) : Ths (.tuple [t, u, v]) := by
  refine ⟨fun t' js ls e => ?_, fun t' js ls e j hj => ?_⟩
  · injection e with e
    injection e with _ e
    injection e with e1 e
    injection e with e2 _
    exact ⟨(hu js e1).1, (hv ls e2).1⟩
  · injection e with e
    injection e with _ e
    injection e with e1 e
    injection e with e2 _
    rcases List.mem_append.mp hj with h | h
    · exact (hu js e1).2 j h
    · exact (hv ls e2).2 j h
theorem ths_no {d : PyData} (h : ∀ t u v, d ≠ .tuple [t, u, v]) : Ths d := ⟨fun t js ls e => absurd e (h _ _ _), fun t js ls e => absurd e (h _ _ _)⟩
theorem cell_int (i : Int) : CellF (.int i) := ⟨fun _ e => (nomatch e), fun _ e => (nomatch e)⟩
theorem cell_none : CellF .none := ⟨fun _ e => (nomatch e), fun _ e => (nomatch e)⟩
theorem cell_list (l : List PyData) : CellF (.list l) := ⟨fun _ e => (nomatch e), fun _ e => (nomatch e)⟩
theorem cell_str {x : Str} (h : x.length ≤ 10000) : CellF (.str x) := ⟨fun z e => by injection e with e; subst e; exact h, fun _ e => (nomatch e)⟩
theorem cell_tup {ws : List PyData} (h : ws.length ≤ 20) (h2 : ∀ y ∈ ws, Shrt y) : CellF (.tuple ws) := ⟨fun _ e => (nomatch e), fun z e => by injection e with e; subst e; exact ⟨h, h2⟩⟩
def shrB : PyData → Bool
  | .str z => decide (z.length ≤ 10000)
  | _ => true
theorem shr_of {d : PyData} (h : shrB d = true) : Shrt d := fun z e => by
  subst e
  exact of_decide_eq_true h
def cellB : PyData → Bool
  | .tuple ws => decide (ws.length ≤ 20) && ws.all shrB
  | d => shrB d
theorem cell_of {d : PyData} (h : cellB d = true) : CellF d := by
  cases d with
  | tuple ws =>
    have h : (decide (ws.length ≤ 20) && ws.all shrB) = true := h
    rw [Bool.and_eq_true, decide_eq_true_iff, List.all_eq_true] at h
    exact cell_tup h.1 fun y hy => shr_of (h.2 y hy)
  | str z => exact cell_str (of_decide_eq_true h)
  | _ => exact ⟨fun _ e => (nomatch e), fun _ e => (nomatch e)⟩
def rowFB : PyData → Bool
  | .tuple xs => xs.all cellB
  | _ => true
theorem rowF_of {d : PyData} (h : rowFB d = true) : RowF d := by
  cases d with
  | tuple xs => exact row_f fun x hx => cell_of (List.all_eq_true.mp h x hx)
  | _ => exact row_no fun _ e => (nomatch e)
def partB : PyData → Bool
  | .tuple js => decide (js.length ≤ 20) && js.all rowFB
  | _ => true
theorem part_of {d : PyData} (h : partB d = true) : PartF d := by
  cases d with
  | tuple js =>
    have h : (decide (js.length ≤ 20) && js.all rowFB) = true := h
    rw [Bool.and_eq_true, decide_eq_true_iff, List.all_eq_true] at h
    exact part_f h.1 fun j hj => rowF_of (h.2 j hj)
  | _ => exact part_no fun _ e => (nomatch e)
def thsB : PyData → Bool
  | .tuple [_, u, v] => partB u && partB v
  | _ => true
theorem ths_of {d : PyData} (h : thsB d = true) : Ths d := by
  unfold thsB at h
  split at h
  · rw [Bool.and_eq_true] at h
    exact ths3 (part_of h.1) (part_of h.2)
  · rename_i hn
    exact ths_no fun t u v e => hn t u v e
theorem edges_ok : ∃ E : List PyData, M_L_edges [] = some (.list E) ∧ E.length ≤ 20 ∧ ∀ d ∈ E, Ths d := by
  have h : (match M_L_edges [] with | some (.list E) => decide (E.length ≤ 20) && E.all thsB | _ => false) = true := by decide +kernel
  cases he : M_L_edges [] with
  | none =>
    rw [he] at h
    cases h
  | some d =>
    rw [he] at h
    cases d with
    | list E =>
      have h : (decide (E.length ≤ 20) && E.all thsB) = true := h
      rw [Bool.and_eq_true, decide_eq_true_iff, List.all_eq_true] at h
      exact ⟨E, rfl, h.1, fun d hd => ths_of (h.2 d hd)⟩
    | _ => cases h
end K56
namespace K56
open PySem PySem.Spec PyProof.Rows L2 LB PM
/-! ### things: one put otherwise -/
theorem pick_l {l : List PyData} {n : Nat} (hn : l.length = n) (h : 0 < n) (x : Int) : ∃ d ∈ l, oIx (.list l) (.int (x.fmod (n : Int))) = some d := by
  have f := fm x (b := (n : Int)) (by omega)
  obtain ⟨k, hk⟩ : ∃ k : Nat, x.fmod (n : Int) = (k : Int) := ⟨(x.fmod (n : Int)).toNat, by omega⟩
  rw [hk]
  have hl : k < l.length := by omega
  exact ⟨l[k], List.getElem_mem hl, ix_l (atI_nat (List.getElem?_eq_getElem hl))⟩
theorem cut_from {α : Type} (l : List α) {k : Nat} (h : k ≤ l.length) : LB.cutD l (some (k : Int)) none = l.drop k := by
  unfold LB.cutD
  rw [HT.sIx_nat, Nat.min_eq_left h, show HT.sIx l.length l.length none = l.length from rfl]
  exact List.take_of_length_le (by rw [List.length_drop]; omega)
theorem sl_to {xs : List PyData} {a : ME} {hi : Ev → Option (Option Int)} {ρ : Ev} {k : Nat} (h : a ρ = some (.tuple xs)) (h2 : hi ρ = some (some (k : Int))) : mSl a pNo hi ρ = some (.tuple (xs.take k)) := by
  unfold mSl
  rw [h]
  show (hi ρ).bind _ = _
  rw [h2]
  show some (PyData.tuple (LB.cutD xs none (some (k : Int)))) = _
  rw [Y.cut_to]
theorem sl_from {xs : List PyData} {a : ME} {lo : Ev → Option (Option Int)} {ρ : Ev} {k : Nat} (h : a ρ = some (.tuple xs)) (h2 : lo ρ = some (some (k : Int))) (hk : k ≤ xs.length) : mSl a lo pNo ρ = some (.tuple (xs.drop k)) := by
  unfold mSl
  rw [h]
  show (lo ρ).bind _ = _
  rw [h2]
  show some (PyData.tuple (LB.cutD xs (some (k : Int)) none)) = _
  rw [cut_from _ hk]
theorem p_so {a : ME} {ρ : Ev} {i : Int} (h : a ρ = some (.int i)) : pSo a ρ = some (some i) := by
  unfold pSo
  rw [h]
  rfl
theorem put_ok {xs : List PyData} {k : Nat} (h : k < xs.length) (hl : xs.length ≤ 100) (d : PyData) : M_L_put [.tuple xs, .int (k : Int), d] = some (.tuple (xs.take k ++ [d] ++ xs.drop (k + 1))) := by
  have e : mOp oAdd (mW 1) (mC (.int 1)) [.val (.tuple xs), .val (.int (k : Int)), .val d] = some (.int ((k + 1 : Nat) : Int)) := x_op rfl rfl rfl
  refine r_eq rfl (r_ret (x_op (x_op (sl_to rfl (p_so rfl)) (x_tup (x_cons rfl rfl) (by show 1 ≤ 100000; decide)) (add_tt ?_)) (sl_from rfl (p_so e) (by omega)) (add_tt ?_)) rfl)
  · rw [List.length_take]
    show min k xs.length + 1 ≤ 100000
    omega
  · rw [List.length_append, List.length_take, List.length_drop]
    show min k xs.length + 1 + (xs.length - (k + 1)) ≤ 100000
    omega
theorem put_row {xs : List PyData} (h : ∀ x ∈ xs, CellF x) {d : PyData} (hd : CellF d) (k : Nat) : RowF (.tuple (xs.take k ++ [d] ++ xs.drop (k + 1))) := row_f fun x hx => by
  rcases List.mem_append.mp hx with hx | hx
  · rcases List.mem_append.mp hx with hx | hx
    · exact h x (List.mem_of_mem_take hx)
    · rw [List.mem_singleton.mp hx]
      exact hd
  · exact h x (List.mem_of_mem_drop hx)
def signs : Str := " !#$&'()*+,-./0123456789:;<=>?@ABCDEFGHIJKLMNOPQRSTUVWXYZ[]^_abcdefghijklmnopqrstuvwxyz{|}~\n\"\\`"
theorem signs_len : signs.length = 95 := by decide +kernel
theorem sign_ok (x : Int) : ∃ z : Str, M_L_sign [.int x] = some (.str z) ∧ z.length = 1 := by
  have e0 : mOp oAdd (mW 1) (mC (.str "\n\"\\`")) [.val (.int x), .val (.str " !#$&'()*+,-./0123456789:;<=>?@ABCDEFGHIJKLMNOPQRSTUVWXYZ[]^_abcdefghijklmnopqrstuvwxyz{|}~")] = some (.str signs) := by
    refine x_op rfl rfl ((add_ss (by decide +kernel)).trans ?_)
    exact congrArg (fun z => some (PyData.str z)) (by decide +kernel)
  have hl : oLen [.str signs] = some (.int (95 : Int)) := by
    rw [len_str (by rw [signs_len]; decide), signs_len]
    rfl
  have f := fm x (b := 95) (by decide)
  obtain ⟨k, hk⟩ : ∃ k : Nat, x.fmod 95 = (k : Int) := ⟨(x.fmod 95).toNat, by omega⟩
  have hc : k < signs.cps.toList.length := by
    show k < signs.cps.toList.length
    have : signs.cps.toList.length = 95 := by rw [Array.length_toList]; exact signs_len
    omega
  have hi : oIx (.str signs) (.int (x.fmod 95)) = some (.str ⟨#[signs.cps.toList[k]]⟩) := by
    rw [hk]
    exact ix_s (by rw [signs_len]; decide) (atI_nat (List.getElem?_eq_getElem hc))
  exact ⟨_, r_eq rfl (r_seq (x_set rfl) (r_seq (x_set e0) (r_ret (x_op rfl (x_op rfl (x_cb (x_cons rfl rfl) hl) (mod_ii (by decide))) hi) rfl))), rfl⟩
end K56
namespace K56
open PySem PySem.Spec PyProof.Rows L2 LB PM
theorem cutS_len (z : Str) (l u : Option Int) : (cutS z l u).length ≤ z.length := by
  show (List.toArray _).size ≤ _
  rw [List.size_toArray]
  have h : z.length = z.cps.toList.length := (Array.length_toList).symm
  rw [h]
  first
    | exact Nat.le_trans (List.length_take_le _ _) (List.length_drop_le _ _)
    | (refine Nat.le_trans (List.length_take_le' _ _) ?_
       rw [List.length_drop]
       omega)
theorem x_slS {a : ME} {lo hi : Ev → Option (Option Int)} {ρ : Ev} {z : Str} {l u : Option Int} (h : a ρ = some (.str z)) (h1 : lo ρ = some l) (h2 : hi ρ = some u) (hz : z.length ≤ 10000) : mSl a lo hi ρ = some (.str (cutS z l u)) := by
  unfold mSl
  rw [h]
  show (lo ρ).bind _ = _
  rw [h1]
  show (hi ρ).bind _ = _
  rw [h2]
  show (if z.length ≤ 10000 then some (PyData.str (cutS z l u)) else none) = _
  rw [if_pos hz]
structure RowOk (n : Str) (xs : List PyData) : Prop where
  hd : xs[0]? = some (.str n)
  n1 : 1 ≤ n.length
  n8 : n.length ≤ 8
  cells : ∀ x ∈ xs, CellF x
  len : xs.length = 3 ∨ xs.length = 4 ∧ ∃ ws : List Str, xs[3]? = some (.tuple (ws.map .str)) ∧ ws.length ≤ 8 ∧ ∀ w ∈ ws, w.length ≤ 8
def oddC (top : Int) : List PyData := [.int 0, .int 99, .int 100, .int (-1), .bool true, .none, .int 999, .int 1000, .str "0", .tuple [], .list [], .int (99 * top), .int 891, .tuple [.int 1, .int 1]]
theorem odd_cell (top : Int) : ∀ d ∈ oddC top, CellF d := fun d hd => by
  unfold oddC at hd
  simp only [List.mem_cons, List.not_mem_nil, or_false] at hd
  rcases hd with rfl | rfl | rfl | rfl | rfl | rfl | rfl | rfl | rfl | rfl | rfl | rfl | rfl | rfl
  all_goals first
    | exact cell_int _
    | exact cell_of rfl
    | exact cell_of (by decide +kernel)
def nmC (n other : Str) : List PyData := [.str "", .str "A", .str "ninesigns", .int 7, .none, .str "a b", .tuple [.str "a"], .str "zzzzzzzz", .str "z", .str "none", .str (n ++ "\n"), .list [], .str other]
theorem app_len (a b : Str) : (a ++ b).length = a.length + b.length := by
  show (a.cps ++ b.cps).size = _
  rw [Array.size_append]
  rfl
theorem nm_cell {n other : Str} (h1 : n.length ≤ 8) (h2 : other.length ≤ 8) : ∀ d ∈ nmC n other, CellF d := fun d hd => by
  unfold nmC at hd
  simp only [List.mem_cons, List.not_mem_nil, or_false] at hd
  rcases hd with rfl | rfl | rfl | rfl | rfl | rfl | rfl | rfl | rfl | rfl | rfl | rfl | rfl
  all_goals first
    | exact cell_of (by decide +kernel)
    | (refine cell_str ?_
       rw [app_len]
       have : ("\n" : Str).length = 1 := by decide
       omega)
    | exact cell_str (by omega)
    | exact cell_list _
end K56
namespace K56
open PySem PySem.Spec PyProof.Rows L2 LB PM
theorem pick_row {l : List PyData} {n : Nat} (hn : l.length = n) (h : 0 < n) (hr : ∀ d ∈ l, RowF d) (x : Int) : ∃ d, RowF d ∧ oIx (.list l) (.int (x.fmod (n : Int))) = some d := by
  obtain ⟨d, hd, e⟩ := pick_l hn h x
  exact ⟨d, hr d hd, e⟩
theorem spoilt_row_ok {n : Str} {xs : List PyData} (H : RowOk n xs) {ys : List Int} (hy : 3 ≤ ys.length) {top : Int} (t9 : top.natAbs ≤ 9) {other : Str} (ho : other.length ≤ 8) : ∃ d, M_L_spoilt_row [.tuple xs, .list (ys.map .int), .int top, .str other] = some d ∧ RowF d := by
  have n1 := H.n1
  have n8 := H.n8
  have xl : 3 ≤ xs.length ∧ xs.length ≤ 4 := by
    rcases H.len with h | h
    · omega
    · omega
  have yg : ∀ {k : Nat}, k < 3 → oIx (.list (ys.map .int)) (.int (k : Int)) = some (.int (ys.getD k 0)) := fun h => Y.int_get (by omega)
  have y0 := yg (k := 0) (by decide)
  have y1 := yg (k := 1) (by decide)
  have y2 := yg (k := 2) (by decide)
  generalize ys.getD 0 0 = a0 at y0
  generalize ys.getD 1 0 = a1 at y1
  generalize ys.getD 2 0 = a2 at y2
  have h0 : oIx (.tuple xs) (.int 0) = some (.str n) := ix_t (atI_nat (j := 0) H.hd)
  have f2 := fm a2 (b := 2) (by decide)
  refine r_fn rfl (r_seq (x_set (d := .list (oddC top)) ?_) ?_)
  · exact x_lst (x_cons rfl (x_cons rfl (x_cons rfl (x_cons rfl (x_cons rfl (x_cons rfl (x_cons rfl (x_cons rfl (x_cons rfl (x_cons (x_tup rfl (by decide)) (x_cons (x_lst rfl (by decide)) (x_cons (x_op rfl rfl (mul_ii (by decide) (by omega))) (x_cons rfl (x_cons (x_tup (x_cons rfl (x_cons rfl rfl)) (by show 2 ≤ 100000; decide)) rfl)))))))))))))) (by show 14 ≤ 100000; decide)
  have tq : ∀ (j : Int), qV (mOp oEq (mOp oMod (mOp oIx (mW 1) (mC (.int 0))) (mC (.int 4))) (mC (.int j))) [.val (.tuple xs), .val (.list (ys.map .int)), .val (.int top), .val (.str other), .val (.list (oddC top)), .no, .no, .no, .no] = some (decide (a0.fmod 4 = j)) := fun j => x_qv (x_op (x_op (x_op rfl rfl y0) rfl (mod_ii (by decide))) rfl (eq_ii _ _))
  have hodd := odd_cell top
  have hol : (oddC top).length = 14 := rfl
  generalize oddC top = O at hodd hol tq
  by_cases c0 : a0.fmod 4 = 0
  · obtain ⟨k, kn, hk⟩ : ∃ k : Nat, k < n.length ∧ a2.fmod (n.length : Int) = (k : Int) := by
      have f := fm a2 (b := (n.length : Int)) (by omega)
      exact ⟨(a2.fmod (n.length : Int)).toNat, by omega, by omega⟩
    obtain ⟨z, hz, z1⟩ := sign_ok (a2.fdiv 8)
    have ln : oLen [.str n] = some (.int (n.length : Int)) := len_str (by omega)
    have c1 := cutS_len n none (some (k : Int))
    have c2 := cutS_len n (some ((k + 1 : Nat) : Int)) none
    have nl : ("\n" : Str).length = 1 := by decide
    have ncell := nm_cell n8 ho
    have e5 : mLst (aCons (mC (.str "")) (aCons (mC (.str "A")) (aCons (mC (.str "ninesigns")) (aCons (mC (.int 7)) (aCons (mC .none) (aCons (mC (.str "a b")) (aCons (mTup (aCons (mC (.str "a")) aNil)) (aCons (mC (.str "zzzzzzzz")) (aCons (mC (.str "z")) (aCons (mC (.str "none")) (aCons (mOp oAdd (mOp oIx (mW 0) (mC (.int 0))) (mC (.str "\n"))) (aCons (mLst aNil) (aCons (mV 3) aNil))))))))))))) [.val (.tuple xs), .val (.list (ys.map .int)), .val (.int top), .val (.str other), .val (.list O), .no, .no, .no, .no] = some (.list (nmC n other)) := x_lst (x_cons rfl (x_cons rfl (x_cons rfl (x_cons rfl (x_cons rfl (x_cons rfl (x_cons (x_tup (x_cons rfl rfl) (by show 1 ≤ 100000; decide)) (x_cons rfl (x_cons rfl (x_cons rfl (x_cons (x_op (x_op rfl rfl h0) rfl (add_ss (by omega))) (x_cons (x_lst rfl (by decide)) (x_cons rfl rfl))))))))))))) (by show 13 ≤ 100000; decide)
    have nlen : (nmC n other).length = 13 := rfl
    generalize nmC n other = N at ncell e5 nlen
    generalize hZ : cutS n none (some (k : Int)) ++ z ++ cutS n (some ((k + 1 : Nat) : Int)) none = Z
    have zl : Z.length ≤ 10000 := by
      rw [← hZ, app_len, app_len]
      omega
    have all : ∀ d ∈ N ++ (List.replicate 13 [PyData.str Z]).flatten, CellF d := fun d hd => by
      rcases List.mem_append.mp hd with h | h
      · exact ncell d h
      · obtain ⟨l, hl, h⟩ := List.mem_flatten.mp h
        rw [(List.mem_replicate.mp hl).2] at h
        rw [List.mem_singleton.mp h]
        exact cell_str zl
    have alen : (N ++ (List.replicate 13 [PyData.str Z]).flatten).length = 26 := by
      rw [List.length_append, nlen]
      rfl
    obtain ⟨e, he, hp⟩ := pick_l alen (by decide) a1
    have hput := put_ok (xs := xs) (k := 0) (by omega) (by omega) e
    refine ⟨_, x_ret (x_ifT ((tq 0).trans (by rw [decide_eq_true c0])) (x_seq (x_set e5) (x_seq (x_set (d := .int (k : Int)) (x_op (x_op rfl rfl y2) (x_cb (x_cons (x_op rfl rfl h0) rfl) ln) ((mod_ii (by omega)).trans (by rw [hk])))) (x_seq (x_set (d := .str Z) (x_op (x_op (x_slS (l := none) (u := some (k : Int)) (x_op rfl rfl h0) rfl (p_so rfl) (by omega)) (x_cb (x_cons (x_op (x_op rfl rfl y2) rfl (fdv_ii (by decide) (by decide))) rfl) hz) (add_ss (by omega))) (x_slS (l := some ((k + 1 : Nat) : Int)) (u := none) (x_op rfl rfl h0) (p_so (x_op rfl rfl rfl)) rfl (by omega)) ((add_ss ?_).trans (by rw [hZ])))) (x_rt (x_cb (x_cons rfl (x_cons rfl (x_cons (x_op (x_op rfl (x_op (x_lst (x_cons rfl rfl) (by show 1 ≤ 100000; decide)) rfl rfl) (add_ll ?_)) (x_op (x_op rfl rfl y1) rfl (mod_ii (by decide))) hp) rfl))) hput)))))), _, rfl, put_row H.cells (all e he) 0⟩
    · rw [app_len]
      omega
    · rw [nlen]
      have : (List.replicate (Int.toNat 13) [PyData.str Z]).flatten.length = 13 := rfl
      omega
  · have q0 := (tq 0).trans (by rw [decide_eq_false c0])
    refine r_seq (x_ifF q0 rfl) ?_
    by_cases c1 : a0.fmod 4 = 1
    · have rows : ∀ d ∈ ([.list xs, .tuple (LB.cutD xs none (some (-1))), .tuple (xs ++ [.int 0]), .tuple xs.reverse, .none, .int 7, .str "abcd", .dict []] : List PyData), RowF d := fun d hd => by
        simp only [List.mem_cons, List.not_mem_nil, or_false] at hd
        rcases hd with rfl | rfl | rfl | rfl | rfl | rfl | rfl | rfl
        · exact row_no fun _ e => (nomatch e)
        · exact row_f fun x hx => H.cells x (cut_mem hx)
        · refine row_f fun x hx => ?_
          rcases List.mem_append.mp hx with h | h
          · exact H.cells x h
          · rw [List.mem_singleton.mp h]
            exact cell_int 0
        · exact row_f fun x hx => H.cells x (List.mem_reverse.mp hx)
        · exact row_no fun _ e => (nomatch e)
        · exact row_no fun _ e => (nomatch e)
        · exact row_no fun _ e => (nomatch e)
        · exact row_no fun _ e => (nomatch e)
      obtain ⟨d, hd, hp⟩ := pick_row (n := 8) rfl (by decide) rows a1
      exact ⟨_, x_ret (x_ifT ((tq 1).trans (by rw [decide_eq_true c1])) (x_rt (x_op (x_lst (x_cons (x_cb (x_cons rfl rfl) rfl) (x_cons rfl (x_cons (x_op rfl (x_tup (x_cons rfl rfl) (by show 1 ≤ 100000; decide)) (add_tt (by show xs.length + 1 ≤ 100000; omega))) (x_cons rfl (x_cons rfl (x_cons rfl (x_cons rfl (x_cons rfl rfl)))))))) (by show 8 ≤ 100000; decide)) (x_op (x_op rfl rfl y1) rfl (mod_ii (by decide))) hp))), _, rfl, hd⟩
    · have q1 := (tq 1).trans (by rw [decide_eq_false c1])
      refine r_seq (x_ifF q1 rfl) ?_
      have qlen : qV (mOp oEq (mCb oLen (aCons (mW 0) aNil)) (mC (.int 4))) [.val (.tuple xs), .val (.list (ys.map .int)), .val (.int top), .val (.str other), .val (.list O), .no, .no, .no, .no] = some (decide ((xs.length : Int) = 4)) := x_qv (x_op (x_cb (x_cons rfl rfl) rfl) rfl (eq_ii _ _))
      have last : ∀ {ρ : Ev}, ρ = [.val (.tuple xs), .val (.list (ys.map .int)), .val (.int top), .val (.str other), .val (.list O), .no, .no, .no, .no] → Run (mRet (mCb M_L_put (aCons (mV 0) (aCons (mOp oAdd (mC (.int 1)) (mOp oMod (mOp oIx (mW 1) (mC (.int 2))) (mC (.int 2)))) (aCons (mOp oIx (mW 4) (mOp oMod (mOp oIx (mW 1) (mC (.int 1))) (mC (.int 14)))) aNil))))) ρ fun q => ∃ d, outR q = some d ∧ RowF d := fun {ρ} e => by
        subst e
        obtain ⟨e, he, hp⟩ := pick_l hol (by decide) a1
        obtain ⟨k, hk, k2⟩ : ∃ k : Nat, 1 + a2.fmod 2 = (k : Int) ∧ k < xs.length := ⟨(1 + a2.fmod 2).toNat, by omega, by omega⟩
        have hput := put_ok (xs := xs) (k := k) k2 (by omega) e
        exact r_ret (x_cb (x_cons rfl (x_cons (d := .int (k : Int)) (x_op rfl (x_op (x_op rfl rfl y2) rfl (mod_ii (by decide))) (by rw [← hk]; rfl)) (x_cons (x_op rfl (x_op (x_op rfl rfl y1) rfl (mod_ii (by decide))) hp) rfl))) hput) ⟨_, rfl, put_row H.cells (hodd e he) k⟩
      by_cases c2 : a0.fmod 4 = 2
      · have q2 := (tq 2).trans (by rw [decide_eq_true c2])
        rcases H.len with h3 | ⟨h4, ws, hw, w8, wn⟩
        · rw [decide_eq_false (by omega)] at qlen
          exact r_seq (x_ifF (x_andT q2 qlen) rfl) (last rfl)
        · rw [decide_eq_true (by omega)] at qlen
          have hx3 : oIx (.tuple xs) (.int 3) = some (.tuple (ws.map .str)) := ix_t (atI_nat (j := 3) hw)
          have wsh : ∀ y ∈ ws.map PyData.str, Shrt y := fun y hy => by
            obtain ⟨w, hw, rfl⟩ := List.mem_map.mp hy
            intro z e
            injection e with e
            subst e
            have := wn w hw
            omega
          have wl : (ws.map PyData.str).length ≤ 8 := by rw [List.length_map]; exact w8
          generalize ws.map PyData.str = W at hx3 wsh wl
          have sh0 : ∀ {d : PyData}, shrB d = true → Shrt d := fun h => shr_of h
          have cells : ∀ d ∈ (([.list W, .tuple (W ++ W.take 1), .tuple W.reverse, .tuple (W ++ [.str "zzzzzzzz"])] ++ [.tuple [.str n], .none, .str n, .tuple [.tuple []], .tuple [.list []], .tuple [.dict []]]) ++ [.tuple (W ++ [.none]), .tuple ([.int 7] ++ W), .tuple (W ++ [.list []])] : List PyData), CellF d := fun d hd => by
            have ap : ∀ {l : List PyData} {m : List PyData}, l.length + m.length ≤ 20 → (∀ y ∈ l, Shrt y) → (∀ y ∈ m, Shrt y) → CellF (.tuple (l ++ m)) := fun {l m} h1 h2 h3 => cell_tup (by rw [List.length_append]; exact h1) fun y hy => (List.mem_append.mp hy).elim (h2 y) (h3 y)
            have one : ∀ {x : PyData}, Shrt x → ∀ y ∈ [x], Shrt y := fun h y hy => by
              rw [List.mem_singleton.mp hy]
              exact h
            have sn : Shrt (.str n) := fun z e => by
              injection e with e
              subst e
              omega
            simp only [List.mem_append, List.mem_cons, List.not_mem_nil, or_false] at hd
            rcases hd with ((rfl | rfl | rfl | rfl) | (rfl | rfl | rfl | rfl | rfl | rfl)) | (rfl | rfl | rfl)
            · exact cell_list _
            · exact ap (by rw [List.length_take]; omega) wsh fun y hy => wsh y (List.mem_of_mem_take hy)
            · exact cell_tup (by rw [List.length_reverse]; omega) fun y hy => wsh y (List.mem_reverse.mp hy)
            · exact ap (by show W.length + 1 ≤ 20; omega) wsh (one (sh0 (by decide +kernel)))
            · exact cell_tup (by show 1 ≤ 20; decide) (one sn)
            · exact cell_none
            · exact cell_str (by omega)
            · exact cell_of rfl
            · exact cell_of rfl
            · exact cell_of rfl
            · exact ap (by show W.length + 1 ≤ 20; omega) wsh (one (sh0 rfl))
            · exact ap (by show 1 + W.length ≤ 20; omega) (one (sh0 rfl)) wsh
            · exact ap (by show W.length + 1 ≤ 20; omega) wsh (one (sh0 rfl))
          obtain ⟨e, he, hp⟩ := pick_l (n := 13) rfl (by decide) a1
            (l := (([.list W, .tuple (W ++ W.take 1), .tuple W.reverse, .tuple (W ++ [.str "zzzzzzzz"])] ++ [.tuple [.str n], .none, .str n, .tuple [.tuple []], .tuple [.list []], .tuple [.dict []]]) ++ [.tuple (W ++ [.none]), .tuple ([.int 7] ++ W), .tuple (W ++ [.list []])] : List PyData))
          have hput := put_ok (xs := xs) (k := 3) (by omega) (by omega) e
          have i3 : ∀ {ρ : Ev}, mW 0 ρ = some (.tuple xs) → mOp oIx (mW 0) (mC (.int 3)) ρ = some (.tuple W) := fun h => x_op h rfl hx3
          have i0 : ∀ {ρ : Ev}, mW 0 ρ = some (.tuple xs) → mOp oIx (mW 0) (mC (.int 0)) ρ = some (.str n) := fun h => x_op h rfl h0
          refine ⟨_, x_ret (x_ifT (x_andT q2 qlen) (x_seq (x_set (x_lst (x_cons (x_cb (x_cons (i3 rfl) rfl) rfl) (x_cons (x_op (i3 rfl) (sl_to (k := 1) (i3 rfl) rfl) (add_tt ?_)) (x_cons ?_ (x_cons (x_op (i3 rfl) (x_tup (x_cons rfl rfl) (by show 1 ≤ 100000; decide)) (add_tt ?_)) rfl)))) (by show 4 ≤ 100000; decide))) (x_seq (x_set (x_op rfl (x_lst (x_cons (x_tup (x_cons (i0 rfl) rfl) (by show 1 ≤ 100000; decide)) (x_cons rfl (x_cons (i0 rfl) (x_cons (x_tup (x_cons (x_tup rfl (by decide)) rfl) (by show 1 ≤ 100000; decide)) (x_cons (x_tup (x_cons (x_lst rfl (by decide)) rfl) (by show 1 ≤ 100000; decide)) (x_cons (x_tup (x_cons rfl rfl) (by show 1 ≤ 100000; decide)) rfl)))))) (by show 6 ≤ 100000; decide)) (add_ll (by show 4 + 6 ≤ 100000; decide)))) (x_seq (x_set (x_op rfl (x_lst (x_cons (x_op (i3 rfl) (x_tup (x_cons rfl rfl) (by show 1 ≤ 100000; decide)) (add_tt ?_)) (x_cons (x_op (x_tup (x_cons rfl rfl) (by show 1 ≤ 100000; decide)) (i3 rfl) (add_tt ?_)) (x_cons (x_op (i3 rfl) (x_tup (x_cons (x_lst rfl (by decide)) rfl) (by show 1 ≤ 100000; decide)) (add_tt ?_)) rfl))) (by show 3 ≤ 100000; decide)) (add_ll (by show 10 + 3 ≤ 100000; decide)))) (x_rt (x_cb (x_cons rfl (x_cons rfl (x_cons (x_op rfl (x_op (x_op rfl rfl y1) rfl (mod_ii (by decide))) hp) rfl))) hput)))))), _, rfl, put_row H.cells (cells e he) 3⟩
          · rw [List.length_take]
            omega
          · show mUn oRevU (mOp oIx (mW 0) (mC (.int 3))) _ = _
            unfold mUn
            rw [i3 rfl]
            rfl
          · show W.length + 1 ≤ 100000
            omega
          · show W.length + 1 ≤ 100000
            omega
          · show 1 + W.length ≤ 100000
            omega
          · show W.length + 1 ≤ 100000
            omega
      · have q2 := (tq 2).trans (by rw [decide_eq_false c2])
        exact r_seq (x_ifF (x_andF q2) rfl) (last rfl)
end K56
namespace K56
open PySem PySem.Spec PyProof.Rows L2 LB PM Y
theorem nodup_few {α : Type} : ∀ {l m : List α}, l.Nodup → (∀ x ∈ l, x ∈ m) → l.length ≤ m.length
  | [], _, _, _ => Nat.zero_le _
  | x :: l, m, nd, h => by
    rw [List.nodup_cons] at nd
    obtain ⟨a, b, rfl⟩ := List.append_of_mem (h x List.mem_cons_self)
    have := nodup_few (m := a ++ b) nd.2 fun y hy => by
      have := h y (List.mem_cons_of_mem _ hy)
      rcases List.mem_append.mp this with h' | h'
      · exact List.mem_append_left _ h'
      · rcases List.mem_cons.mp h' with rfl | h'
        · exact absurd hy nd.1
        · exact List.mem_append_right _ h'
    rw [List.length_append] at this ⊢
    rw [List.length_cons, List.length_cons]
    omega
def LayN (n : Nat) (d : PyData) : Prop := d.canLay0 = true ∧ d.depth ≤ n
theorem lay_all {n : Nat} : ∀ {ds : List PyData}, (∀ d ∈ ds, LayN n d) → PyData.canLayAll0 ds = true ∧ PyData.depthAll ds ≤ n
  | [], _ => ⟨rfl, Nat.zero_le _⟩
  | d :: ds, h => by
    obtain ⟨a, b⟩ := lay_all (ds := ds) fun x hx => h x (List.mem_cons_of_mem _ hx)
    obtain ⟨c, e⟩ := h d List.mem_cons_self
    refine ⟨?_, ?_⟩
    · show (PyData.canLay0 d && PyData.canLayAll0 ds) = true
      rw [c, a]
      rfl
    · show max (PyData.depth d) (PyData.depthAll ds) ≤ n
      omega
theorem lay_t {n : Nat} {ds : List PyData} (h : ∀ d ∈ ds, LayN n d) : LayN (n + 1) (.tuple ds) := by
  obtain ⟨a, b⟩ := lay_all h
  refine ⟨?_, ?_⟩
  · unfold PyData.canLay0
    exact a
  · unfold PyData.depth
    omega
theorem lay_s {n : Nat} {x : Str} (h : NameOk x) : LayN n (.str x) := ⟨by unfold PyData.canLay0; exact name_lay h, Nat.zero_le _⟩
theorem lay_i {n : Nat} (i : Int) : LayN n (.int i) := ⟨rfl, Nat.zero_le _⟩
theorem ne_e {ds : List PyData} (h : ∀ d ∈ ds, LayN 5 d) : oNe (.tuple ds) (.tuple []) = some (.bool (!decide (ds.length = 0))) := by
  obtain ⟨a, b⟩ := lay_t h
  have s : SeqAt.shaped (.tuple ds) = true := by
    unfold SeqAt.shaped
    rw [a, decide_eq_true (by omega)]
    rfl
  unfold oNe
  rw [if_pos ⟨s, rfl⟩]
  cases ds <;> rfl
def RowD (d : PyData) : Prop := (∃ n xs, d = .tuple xs ∧ RowOk n xs) ∧ LayN 5 d
theorem rowD_f {d : PyData} (h : RowD d) : RowF d := by
  obtain ⟨⟨n, xs, rfl, h⟩, _⟩ := h
  exact row_f h.cells
theorem lay_strs {ws : List Str} (h : ∀ x ∈ ws, NameOk x) : LayN 1 (.tuple (ws.map .str)) := lay_t (n := 0) fun d hd => by
  obtain ⟨x, hx, rfl⟩ := List.mem_map.mp hd
  exact lay_s (h x hx)
theorem rowD_o {t : Tool} (h : NameOk t.n) : RowD (oD t) := by
  have h8 := h.2.1
  refine ⟨⟨t.n, _, rfl, rfl, h.1, h8, fun x hx => ?_, Or.inl rfl⟩, ?_⟩
  · simp only [List.mem_cons, List.not_mem_nil, or_false] at hx
    rcases hx with rfl | rfl | rfl
    · exact cell_str (by omega)
    · exact cell_int _
    · exact cell_int _
  · refine lay_t (n := 4) fun d hd => ?_
    simp only [List.mem_cons, List.not_mem_nil, or_false] at hd
    rcases hd with rfl | rfl | rfl
    · exact lay_s h
    · exact lay_i _
    · exact lay_i _
theorem rowD_j {j : Job} (h : NameOk j.n) (h2 : ∀ x ∈ j.w, NameOk x) (h3 : j.w.length ≤ 8) : RowD (jD j) := by
  have h8 := h.2.1
  refine ⟨⟨j.n, _, rfl, rfl, h.1, h8, fun x hx => ?_, Or.inr ⟨rfl, j.w, rfl, h3, fun x hx => (h2 x hx).2.1⟩⟩, ?_⟩
  · simp only [List.mem_cons, List.not_mem_nil, or_false] at hx
    rcases hx with rfl | rfl | rfl | rfl
    · exact cell_str (by omega)
    · exact cell_int _
    · exact cell_int _
    · refine cell_tup (by rw [List.length_map]; omega) fun y hy => ?_
      obtain ⟨x, hx, rfl⟩ := List.mem_map.mp hy
      intro z e
      injection e with e
      subst e
      have := (h2 x hx).2.1
      omega
  · refine lay_t (n := 4) fun d hd => ?_
    simp only [List.mem_cons, List.not_mem_nil, or_false] at hd
    rcases hd with rfl | rfl | rfl | rfl
    · exact lay_s h
    · exact lay_i _
    · exact lay_i _
    · obtain ⟨a, b⟩ := lay_strs h2
      exact ⟨a, by omega⟩
theorem part_rows {ds : List PyData} (h : ds.length ≤ 20) (h2 : ∀ d ∈ ds, RowF d) : PartF (.tuple ds) := part_f h h2
theorem part_put {ds : List PyData} (h : ds.length ≤ 8) (h2 : ∀ d ∈ ds, RowF d) {d : PyData} (hd : RowF d) (k : Nat) : PartF (.tuple (ds.take k ++ [d] ++ ds.drop (k + 1))) := by
  refine part_f ?_ fun x hx => ?_
  · rw [List.length_append, List.length_append, List.length_take, List.length_drop]
    show min k ds.length + 1 + _ ≤ 20
    omega
  · rcases List.mem_append.mp hx with hx | hx
    · rcases List.mem_append.mp hx with hx | hx
      · exact h2 x (List.mem_of_mem_take hx)
      · rw [List.mem_singleton.mp hx]
        exact hd
    · exact h2 x (List.mem_of_mem_drop hx)
theorem sl_list {xs : List PyData} {a : ME} {lo : Ev → Option (Option Int)} {ρ : Ev} {k : Nat} (h : a ρ = some (.list xs)) (h2 : lo ρ = some (some (k : Int))) (hk : k ≤ xs.length) : mSl a lo pNo ρ = some (.list (xs.drop k)) := by
  unfold mSl
  rw [h]
  show (lo ρ).bind _ = _
  rw [h2]
  show some (PyData.list (LB.cutD xs (some (k : Int)) none)) = _
  rw [cut_from _ hk]
theorem spoilt_gen {top : Int} (t9 : top.natAbs ≤ 9) {ps ts : List PyData} (hp : ps.length ≤ 8) (ht : ts.length ≤ 8) (h1 : 1 ≤ ps.length + ts.length) (Hp : ∀ d ∈ ps, RowD d) (Ht : ∀ d ∈ ts, RowD d) {ys : List Int} (hy : 5 ≤ ys.length) : ∃ d, M_L_spoilt [.tuple [.int top, .tuple ps, .tuple ts], .list (ys.map .int)] = some d ∧ Ths d := by
  have yg : ∀ {k : Nat}, k < 3 → oIx (.list (ys.map .int)) (.int (k : Int)) = some (.int (ys.getD k 0)) := fun h => Y.int_get (by omega)
  have y0 := yg (k := 0) (by decide)
  have y1 := yg (k := 1) (by decide)
  generalize ys.getD 0 0 = a0 at y0
  generalize ys.getD 1 0 = a1 at y1
  have fp : ∀ d ∈ ps, RowF d := fun d hd => rowD_f (Hp d hd)
  have ft : ∀ d ∈ ts, RowF d := fun d hd => rowD_f (Ht d hd)
  have pp := part_rows (by omega) fp
  have pt := part_rows (by omega) ft
  have pno : ∀ {l : List PyData}, PartF (.list l) := part_no fun _ e => (nomatch e)
  have nep := ne_e fun d hd => (Hp d hd).2
  have net := ne_e fun d hd => (Ht d hd).2
  have cut : ∀ {ρ : Ev}, mW 1 ρ = some (.list (ys.map .int)) → mSl (mW 1) (pSo (mC (.int 2))) pNo ρ = some (.list ((ys.drop 2).map .int)) := fun h => by
    rw [List.map_drop]
    exact sl_list (k := 2) h rfl (by rw [List.length_map]; omega)
  have yl : 3 ≤ (ys.drop 2).length := by
    rw [List.length_drop]
    omega
  refine r_fn rfl (r_seq (x_asg rfl rfl) (r_seq (x_set (d := .int (a0.fmod 7)) (x_op (x_op rfl rfl y0) rfl (mod_ii (by decide)))) ?_))
  have tq : ∀ (j : Int), qV (mOp oEq (mW 2) (mC (.int j))) [.val (.tuple [.int top, .tuple ps, .tuple ts]), .val (.list (ys.map .int)), .val (.int (a0.fmod 7)), .val (.int top), .val (.tuple ps), .val (.tuple ts), .no, .no, .no, .no] = some (decide (a0.fmod 7 = j)) := fun j => x_qv (x_op rfl rfl (eq_ii _ _))
  generalize a0.fmod 7 = w at tq
  have idx : ∀ {ρ : Ev} {b : ME} {n : Nat}, mW 1 ρ = some (.list (ys.map .int)) → 0 < n → (mCb oLen (aCons b aNil)) ρ = some (.int (n : Int)) → ∃ k : Nat, k < n ∧ mOp oMod (mOp oIx (mW 1) (mC (.int 1))) (mCb oLen (aCons b aNil)) ρ = some (.int (k : Int)) := fun {ρ b n} hw hn hl => by
    have f := fm a1 (b := (n : Int)) (by omega)
    refine ⟨(a1.fmod (n : Int)).toNat, by omega, ?_⟩
    have : ((a1.fmod (n : Int)).toNat : Int) = a1.fmod (n : Int) := by omega
    rw [this]
    exact x_op (x_op hw rfl y1) hl (mod_ii (by omega))
  have first : ∀ {l : List PyData}, 0 < l.length → (∀ d ∈ l, RowD d) → ∃ (n : Str) (xs : List PyData), l[0]? = some (.tuple xs) ∧ RowOk n xs := fun {l} hl h => by
    cases l with
    | nil => exact absurd hl (Nat.lt_irrefl _)
    | cons d l =>
      obtain ⟨⟨n, xs, rfl, hr⟩, _⟩ := h d List.mem_cons_self
      exact ⟨n, xs, rfl, hr⟩
  have at' : ∀ {l : List PyData} {k : Nat}, k < l.length → (∀ d ∈ l, RowD d) → ∃ (n : Str) (xs : List PyData), l[k]? = some (.tuple xs) ∧ RowOk n xs := fun {l k} hl h => by
    obtain ⟨⟨n, xs, e, hr⟩, _⟩ := h _ (List.getElem_mem hl)
    exact ⟨n, xs, by rw [List.getElem?_eq_getElem hl, e], hr⟩
  by_cases c0 : w = 0
  · obtain ⟨e, he, hpk⟩ := pick_l (n := 8) rfl (by decide) a1 (l := ([.int 0, .int 10, .int 9, .int 1, .bool true, .none, .str "1", .tuple [.int 1, .int 1]] : List PyData))
    exact ⟨_, x_ret (x_ifT ((tq 0).trans (by rw [decide_eq_true c0])) (x_rt (x_tup (x_cons (x_op (x_lst (x_cons rfl (x_cons rfl (x_cons rfl (x_cons rfl (x_cons rfl (x_cons rfl (x_cons rfl (x_cons (x_tup (x_cons rfl (x_cons rfl rfl)) (by show 2 ≤ 100000; decide)) rfl)))))))) (by show 8 ≤ 100000; decide)) (x_op (x_op rfl rfl y1) rfl (mod_ii (by decide))) hpk) (x_cons rfl (x_cons rfl rfl))) (by show 3 ≤ 100000; decide)))), _, rfl, ths3 pp pt⟩
  refine r_seq (x_ifF ((tq 0).trans (by rw [decide_eq_false c0])) rfl) ?_
  by_cases c1 : w = 1
  · obtain ⟨e, he, hpk⟩ := pick_l (n := 5) rfl (by decide) a1 (l := ([.list [.int top, .tuple ps, .tuple ts], .tuple ([.int top, .tuple ps, .tuple ts].take 2), .tuple ([.int top, .tuple ps, .tuple ts] ++ [.tuple []]), .tuple [.int top, .list ps, .tuple ts]] ++ [.tuple [.int top, .tuple ps, .list ts]] : List PyData))
    refine ⟨_, x_ret (x_ifT ((tq 1).trans (by rw [decide_eq_true c1])) (x_seq (x_set (x_lst (x_cons (x_cb (x_cons rfl rfl) rfl) (x_cons (sl_to (k := 2) rfl rfl) (x_cons (x_op rfl (x_tup (x_cons (x_tup rfl (by decide)) rfl) (by show 1 ≤ 100000; decide)) (add_tt (by show 3 + 1 ≤ 100000; decide))) (x_cons (x_tup (x_cons rfl (x_cons (x_cb (x_cons rfl rfl) rfl) (x_cons rfl rfl))) (by show 3 ≤ 100000; decide)) rfl)))) (by show 4 ≤ 100000; decide))) (x_rt (x_op (x_op rfl (x_lst (x_cons (x_tup (x_cons rfl (x_cons rfl (x_cons (x_cb (x_cons rfl rfl) rfl) rfl))) (by show 3 ≤ 100000; decide)) rfl) (by show 1 ≤ 100000; decide)) (add_ll (by show 4 + 1 ≤ 100000; decide))) (x_op (x_op rfl rfl y1) rfl (mod_ii (by decide))) hpk)))), _, rfl, ?_⟩
    simp only [List.mem_append, List.mem_cons, List.not_mem_nil, or_false] at he
    rcases he with (rfl | rfl | rfl | rfl) | rfl
    · exact ths_no fun _ _ _ e => (nomatch e)
    · refine ths_no fun _ _ _ e => ?_
      injection e with e
      exact absurd (congrArg List.length e) (by show ¬ (2 = 3); decide)
    · refine ths_no fun _ _ _ e => ?_
      injection e with e
      exact absurd (congrArg List.length e) (by show ¬ (4 = 3); decide)
    · exact ths3 pno pt
    · exact ths3 pp pno
  refine r_seq (x_ifF ((tq 1).trans (by rw [decide_eq_false c1])) rfl) ?_
  by_cases c2 : w = 2
  · obtain ⟨e, he, hpk⟩ := pick_l (n := 4) rfl (by decide) a1 (l := ([.tuple [.int top, .tuple ps.reverse, .tuple ts], .tuple [.int top, .tuple ps, .tuple ts.reverse]] ++ [.tuple [.int top, .tuple ts, .tuple ps], .tuple [.int top, .tuple [], .tuple []]] : List PyData))
    refine ⟨_, x_ret (x_ifT ((tq 2).trans (by rw [decide_eq_true c2])) (x_seq (x_set (x_lst (x_cons (x_tup (x_cons rfl (x_cons (by rfl) (x_cons rfl rfl))) (by show 3 ≤ 100000; decide)) (x_cons (x_tup (x_cons rfl (x_cons rfl (x_cons (by rfl) rfl))) (by show 3 ≤ 100000; decide)) rfl)) (by show 2 ≤ 100000; decide))) (x_rt (x_op (x_op rfl (x_lst (x_cons (x_tup (x_cons rfl (x_cons rfl (x_cons rfl rfl))) (by show 3 ≤ 100000; decide)) (x_cons (x_tup (x_cons rfl (x_cons (x_tup rfl (by decide)) (x_cons (x_tup rfl (by decide)) rfl))) (by show 3 ≤ 100000; decide)) rfl)) (by show 2 ≤ 100000; decide)) (add_ll (by show 2 + 2 ≤ 100000; decide))) (x_op (x_op rfl rfl y1) rfl (mod_ii (by decide))) hpk)))), _, rfl, ?_⟩
    simp only [List.mem_append, List.mem_cons, List.not_mem_nil, or_false] at he
    have rv : ∀ {l : List PyData}, l.length ≤ 8 → (∀ d ∈ l, RowF d) → PartF (.tuple l.reverse) := fun h1 h2 => part_f (by rw [List.length_reverse]; omega) fun d hd => h2 d (List.mem_reverse.mp hd)
    have nil : PartF (.tuple []) := part_f (by decide) fun d hd => (nomatch hd)
    rcases he with (rfl | rfl) | (rfl | rfl)
    · exact ths3 (rv hp fp) pt
    · exact ths3 pp (rv ht ft)
    · exact ths3 pt pp
    · exact ths3 nil nil
  refine r_seq (x_ifF ((tq 2).trans (by rw [decide_eq_false c2])) rfl) ?_
  by_cases c3 : w = 3 ∧ ¬ ts.length = 0
  · obtain ⟨k, hk, hi⟩ := idx (ρ := [.val (.tuple [.int top, .tuple ps, .tuple ts]), .val (.list (ys.map .int)), .val (.int w), .val (.int top), .val (.tuple ps), .val (.tuple ts), .no, .no, .no, .no]) (b := mW 5) (n := ts.length) rfl (by omega) (x_cb (x_cons rfl rfl) rfl)
    refine ⟨_, x_ret (x_ifT (x_andT ((tq 3).trans (by rw [decide_eq_true c3.1])) (x_qv (x_op rfl (x_tup rfl (by decide)) (net.trans (by rw [decide_eq_false c3.2]; rfl))))) (x_rt (x_tup (x_cons rfl (x_cons rfl (x_cons (x_op rfl (sl_to (k := 1) (sl_from rfl (p_so hi) (by omega)) rfl) (add_tt ?_)) rfl))) (by show 3 ≤ 100000; decide)))), _, rfl, ths3 pp (part_f ?_ fun d hd => ?_)⟩
    · rw [List.length_take]
      omega
    · rw [List.length_append, List.length_take]
      omega
    · rcases List.mem_append.mp hd with hd | hd
      · exact ft d hd
      · exact ft d (List.mem_of_mem_drop (List.mem_of_mem_take hd))
  have q3 : qAnd (qV (mOp oEq (mW 2) (mC (.int 3)))) (qV (mOp oNe (mW 5) (mTup aNil))) [.val (.tuple [.int top, .tuple ps, .tuple ts]), .val (.list (ys.map .int)), .val (.int w), .val (.int top), .val (.tuple ps), .val (.tuple ts), .no, .no, .no, .no] = some false := by
    by_cases e : w = 3
    · refine x_andT ((tq 3).trans (by rw [decide_eq_true e])) (x_qv (x_op rfl (x_tup rfl (by decide)) (net.trans (by rw [decide_eq_true (Classical.not_not.mp fun z => c3 ⟨e, z⟩)]; rfl))))
    · exact x_andF ((tq 3).trans (by rw [decide_eq_false e]))
  refine r_seq (x_ifF q3 rfl) ?_
  by_cases c4 : w = 4 ∧ ¬ ps.length = 0
  · obtain ⟨k, hk, hi⟩ := idx (ρ := [.val (.tuple [.int top, .tuple ps, .tuple ts]), .val (.list (ys.map .int)), .val (.int w), .val (.int top), .val (.tuple ps), .val (.tuple ts), .no, .no, .no, .no]) (b := mW 4) (n := ps.length) rfl (by omega) (x_cb (x_cons rfl rfl) rfl)
    obtain ⟨o, os, ho, Ho⟩ := first (l := ts ++ ps) (by rw [List.length_append]; omega) fun d hd => (List.mem_append.mp hd).elim (Ht d) (Hp d)
    obtain ⟨n, xs, hn, Hn⟩ := at' hk Hp
    obtain ⟨d, hd, rd⟩ := spoilt_row_ok Hn yl t9 Ho.n8
    have e1 : ∀ {ρ : Ev}, mW 7 ρ = some (.int (k : Int)) → mOp oAdd (mW 7) (mC (.int 1)) ρ = some (.int ((k + 1 : Nat) : Int)) := fun h => x_op h rfl rfl
    refine ⟨_, x_ret (x_ifT (x_andT ((tq 4).trans (by rw [decide_eq_true c4.1])) (x_qv (x_op rfl (x_tup rfl (by decide)) (nep.trans (by rw [decide_eq_false c4.2]; rfl))))) (x_seq (x_set hi) (x_seq (x_set (x_op (x_op (x_op rfl rfl (add_tt (by omega))) rfl (ix_t (atI_nat (j := 0) ho))) rfl (ix_t (atI_nat (j := 0) Ho.hd)))) (x_seq (x_set (x_cb (x_cons (x_op rfl rfl (ix_t (atI_nat hn))) (x_cons (cut rfl) (x_cons rfl (x_cons rfl rfl)))) hd)) (x_rt (x_tup (x_cons rfl (x_cons (x_op (x_op (sl_to rfl (p_so rfl)) (x_tup (x_cons rfl rfl) (by show 1 ≤ 100000; decide)) (add_tt ?_)) (sl_from rfl (p_so (e1 rfl)) (by omega)) (add_tt ?_)) (x_cons rfl rfl))) (by show 3 ≤ 100000; decide))))))), _, rfl, ths3 (part_put hp fp rd k) pt⟩
    · rw [List.length_take]
      show min k ps.length + 1 ≤ 100000
      omega
    · rw [List.length_append, List.length_take, List.length_drop]
      show min k ps.length + 1 + _ ≤ 100000
      omega
  have q4 : qAnd (qV (mOp oEq (mW 2) (mC (.int 4)))) (qV (mOp oNe (mW 4) (mTup aNil))) [.val (.tuple [.int top, .tuple ps, .tuple ts]), .val (.list (ys.map .int)), .val (.int w), .val (.int top), .val (.tuple ps), .val (.tuple ts), .no, .no, .no, .no] = some false := by
    by_cases e : w = 4
    · refine x_andT ((tq 4).trans (by rw [decide_eq_true e])) (x_qv (x_op rfl (x_tup rfl (by decide)) (nep.trans (by rw [decide_eq_true (Classical.not_not.mp fun z => c4 ⟨e, z⟩)]; rfl))))
    · exact x_andF ((tq 4).trans (by rw [decide_eq_false e]))
  refine r_seq (x_ifF q4 rfl) ?_
  by_cases c5 : ts.length = 0
  · refine r_seq (x_ifF (x_qv (x_op rfl (x_tup rfl (by decide)) (net.trans (by rw [decide_eq_true c5]; rfl)))) rfl) ?_
    obtain ⟨k, hk, hi⟩ := idx (ρ := [.val (.tuple [.int top, .tuple ps, .tuple ts]), .val (.list (ys.map .int)), .val (.int w), .val (.int top), .val (.tuple ps), .val (.tuple ts), .no, .no, .no, .no]) (b := mW 4) (n := ps.length) rfl (by omega) (x_cb (x_cons rfl rfl) rfl)
    refine ⟨_, x_rt (x_tup (x_cons rfl (x_cons (sl_from rfl (p_so hi) (by omega)) (x_cons rfl rfl))) (by show 3 ≤ 100000; decide)), _, rfl, ths3 (part_f ?_ fun d hd => fp d (List.mem_of_mem_drop hd)) pt⟩
    rw [List.length_drop]
    omega
  · obtain ⟨k, hk, hi⟩ := idx (ρ := [.val (.tuple [.int top, .tuple ps, .tuple ts]), .val (.list (ys.map .int)), .val (.int w), .val (.int top), .val (.tuple ps), .val (.tuple ts), .no, .no, .no, .no]) (b := mW 5) (n := ts.length) rfl (by omega) (x_cb (x_cons rfl rfl) rfl)
    obtain ⟨o, os, ho, Ho⟩ := first (l := ps ++ ts) (by rw [List.length_append]; omega) fun d hd => (List.mem_append.mp hd).elim (Hp d) (Ht d)
    obtain ⟨n, xs, hn, Hn⟩ := at' hk Ht
    obtain ⟨d, hd, rd⟩ := spoilt_row_ok Hn yl t9 Ho.n8
    have e1 : ∀ {ρ : Ev}, mW 7 ρ = some (.int (k : Int)) → mOp oAdd (mW 7) (mC (.int 1)) ρ = some (.int ((k + 1 : Nat) : Int)) := fun h => x_op h rfl rfl
    refine ⟨_, x_ret (x_ifT (x_qv (x_op rfl (x_tup rfl (by decide)) (net.trans (by rw [decide_eq_false c5]; rfl)))) (x_seq (x_set hi) (x_seq (x_set (x_op (x_op (x_op rfl rfl (add_tt (by omega))) rfl (ix_t (atI_nat (j := 0) ho))) rfl (ix_t (atI_nat (j := 0) Ho.hd)))) (x_seq (x_set (x_cb (x_cons (x_op rfl rfl (ix_t (atI_nat hn))) (x_cons (cut rfl) (x_cons rfl (x_cons rfl rfl)))) hd)) (x_rt (x_tup (x_cons rfl (x_cons rfl (x_cons (x_op (x_op (sl_to rfl (p_so rfl)) (x_tup (x_cons rfl rfl) (by show 1 ≤ 100000; decide)) (add_tt ?_)) (sl_from rfl (p_so (e1 rfl)) (by omega)) (add_tt ?_)) rfl))) (by show 3 ≤ 100000; decide))))))), _, rfl, ths3 pp (part_put ht ft rd k)⟩
    · rw [List.length_take]
      show min k ts.length + 1 ≤ 100000
      omega
    · rw [List.length_append, List.length_take, List.length_drop]
      show min k ts.length + 1 + _ ≤ 100000
      omega
theorem spoilt_ok {top : Int} {J : List Job} {L : List Tool} (H : Y.House top J L) {ys : List Int} (hy : 5 ≤ ys.length) : ∃ d, M_L_spoilt [houseD top J L, .list (ys.map .int)] = some d ∧ Ths d := by
  have t1 := H.t1
  have t9 := H.t9
  have n1 := H.n1
  have n8 := H.n8
  refine spoilt_gen (by omega) (by rw [List.length_map]; omega) (by rw [List.length_map]; omega) (by rw [List.length_map, List.length_map]; omega) (fun d hd => ?_) (fun d hd => ?_) hy
  · obtain ⟨j, hj, rfl⟩ := List.mem_map.mp hd
    obtain ⟨_, _, nd, hw⟩ := H.jg j hj
    refine rowD_j (H.ok _ (List.mem_append_left _ (List.mem_map.mpr ⟨j, hj, rfl⟩))) (fun x hx => H.ok _ (List.mem_append_right _ (hw x hx))) ?_
    have := nodup_few nd hw
    rw [List.length_map] at this
    omega
  · obtain ⟨t, ht, rfl⟩ := List.mem_map.mp hd
    exact rowD_o (H.ok _ (List.mem_append_right _ (List.mem_map.mpr ⟨t, ht, rfl⟩)))
end K56
namespace K56
open PySem PySem.Spec PyProof.Rows L2 LB PM Y
theorem house_ths {top : Int} {J : List Job} {L : List Tool} (H : Y.House top J L) : Ths (houseD top J L) := by
  have n8 := H.n8
  refine ths3 (part_f (by rw [List.length_map]; omega) fun d hd => rowD_f ?_) (part_f (by rw [List.length_map]; omega) fun d hd => rowD_f ?_)
  · obtain ⟨j, hj, rfl⟩ := List.mem_map.mp hd
    obtain ⟨_, _, nd, hw⟩ := H.jg j hj
    refine rowD_j (H.ok _ (List.mem_append_left _ (List.mem_map.mpr ⟨j, hj, rfl⟩))) (fun x hx => H.ok _ (List.mem_append_right _ (hw x hx))) ?_
    have := nodup_few nd hw
    rw [List.length_map] at this
    omega
  · obtain ⟨t, ht, rfl⟩ := List.mem_map.mp hd
    exact rowD_o (H.ok _ (List.mem_append_right _ (List.mem_map.mpr ⟨t, ht, rfl⟩)))
theorem x_misK {n : String} {a : ME} {ρ : Ev} {d : PyData} {c : Bool} (h : a ρ = some d) (h2 : kitB (tyN d) n = some c) : mIs n a ρ = some (.bool c) := by
  unfold mIs
  rw [h]
  show (kitB (tyN d) n).map _ = _
  rw [h2]
  rfl
theorem ne_bb (b : Bool) : oNe (.bool b) (.bool b) = some (.bool false) := by
  cases b
  · unfold oNe
    rw [if_pos ⟨rfl, rfl⟩]
    rfl
  · unfold oNe
    rw [if_pos ⟨rfl, rfl⟩]
    rfl
theorem law_ok (script : List Int) (hs : script.length ≤ 63) : M_law [.list (script.map .int)] = some (.bool true) := by
  have hlen : (((script.map PyData.int).length : Nat) : Int) = (script.length : Int) := by rw [List.length_map]
  obtain ⟨m, hm, m8⟩ : ∃ m : Nat, (if (if (8 : Int) < (script.length : Int) then (8 : Int) else (script.length : Int)) > 1 then (if (8 : Int) < (script.length : Int) then (8 : Int) else (script.length : Int)) else 1) = (m : Int) ∧ m ≤ 8 := ⟨(if (if (8 : Int) < (script.length : Int) then (8 : Int) else (script.length : Int)) > 1 then (if (8 : Int) < (script.length : Int) then (8 : Int) else (script.length : Int)) else 1).toNat, by split <;> split <;> omega, by split <;> split <;> omega⟩
  obtain ⟨E, hE, hEl, hEt⟩ := edges_ok
  have hT0 : ∀ d ∈ E ++ [.str "", .int 7, .tuple [], .tuple [.int 1], .list [], .dict []], Ths d := fun d hd => by
    rcases List.mem_append.mp hd with hd | hd
    · exact hEt d hd
    · simp only [List.mem_cons, List.not_mem_nil, or_false] at hd
      rcases hd with rfl | rfl | rfl | rfl | rfl | rfl
      all_goals exact ths_no fun _ _ _ e => (nomatch e)
  refine r_eq rfl (r_seq (x_set (x_op (x_cb rfl hE) (x_lst (x_cons rfl (x_cons rfl (x_cons (x_tup rfl (by decide)) (x_cons (x_tup (x_cons rfl rfl) (by show 1 ≤ 100000; decide)) (x_cons (x_lst rfl (by decide)) (x_cons rfl rfl)))))) (by show 6 ≤ 100000; decide)) (add_ll (by show E.length + 6 ≤ 100000; omega)))) (r_for (ds := rngD m) (fun i ρ => ∃ (T : List PyData) (s2 s4 s5 : Sl), ρ = [.val (.list (script.map .int)), .val (.list T), s2, .no, s4, s5, .no] ∧ (∀ d ∈ T, Ths d) ∧ T.length ≤ 30 + 3 * i ∧ i ≤ 8) ?_ ⟨_, _, _, _, rfl, hT0, ?_, by omega⟩ ?_ ?_))
  · refine x_rng (n := m) ?_ (by omega)
    refine x_cons (d := .int (m : Int)) ?_ rfl
    rw [← hm, ← hlen]
    exact x_cb (x_cons rfl (x_cons (x_cb (x_cons (x_cb (x_cons rfl rfl) rfl) (x_cons rfl rfl)) rfl) rfl)) rfl
  · rw [List.length_append]
    show E.length + 6 ≤ 30 + 3 * 0
    omega
  · rintro i d ρ hd ⟨T, s2, s4, s5, rfl, hT, hl, h8⟩
    obtain ⟨hk, rfl⟩ := rng_at hd
    obtain ⟨n, hcell⟩ := cell_ok script (j := i) (by omega)
    obtain ⟨xs, hx, hnums⟩ := nums_ok n (m := 24) (by decide)
    have hxl := hx.1
    obtain ⟨top, J, L, H, hh⟩ := Y.house_ok script (at' := i) (by omega)
    have l1 : (xs.drop 16).length = 8 := by
      rw [List.length_drop]
      omega
    have l2 : ((xs.drop 16).drop 3).length = 5 := by
      rw [List.length_drop]
      omega
    obtain ⟨d1, e1, t1⟩ := spoilt_ok H (ys := xs.drop 16) (by omega)
    obtain ⟨d2, e2, t2⟩ := spoilt_ok H (ys := (xs.drop 16).drop 3) (by omega)
    have t0 := house_ths H
    generalize houseD top J L = D at hh e1 e2 t0
    have q16 : mSl (mCb M_L_numbers (aCons (mCb M_L_cell (aCons (mV 0) (aCons (mV 2) aNil))) (aCons (mC (.int 24)) aNil))) (pSo (mC (.int 16))) pNo [.val (.list (script.map .int)), .val (.list T), .val (.int (i : Int)), .no, .val D, s5, .no] = some (.list ((xs.drop 16).map .int)) := by
      rw [List.map_drop]
      exact sl_list (k := 16) (x_cb (x_cons (x_cb (x_cons rfl (x_cons rfl rfl)) hcell) (x_cons rfl rfl)) hnums) rfl (by rw [List.length_map]; omega)
    have q3 : mSl (mW 5) (pSo (mC (.int 3))) pNo [.val (.list (script.map .int)), .val (.list T), .val (.int (i : Int)), .no, .val D, .val (.list ((xs.drop 16).map .int)), .no] = some (.list (((xs.drop 16).drop 3).map .int)) := by
      rw [List.map_drop (l := xs.drop 16)]
      exact sl_list (k := 3) rfl rfl (by rw [List.length_map]; omega)
    refine ⟨_, rfl, r_seq (x_set (x_cb (x_cons rfl (x_cons rfl rfl)) hh)) (r_seq (x_set q16) (r_end (x_set (x_op rfl (x_lst (x_cons rfl (x_cons (x_cb (x_cons rfl (x_cons rfl rfl)) e1) (x_cons (x_cb (x_cons rfl (x_cons q3 rfl)) e2) rfl))) (by show 3 ≤ 100000; decide)) (add_ll (by show T.length + 3 ≤ 100000; omega)))) ⟨_, _, _, _, rfl, fun d hd => ?_, ?_, ?_⟩))⟩
    · rcases List.mem_append.mp hd with hd | hd
      · exact hT d hd
      · simp only [List.mem_cons, List.not_mem_nil, or_false] at hd
        rcases hd with rfl | rfl | rfl
        · exact t0
        · exact t1
        · exact t2
    · rw [List.length_append]
      show T.length + 3 ≤ _
      omega
    · omega
  · rintro ρ ⟨T, s2, s4, s5, rfl, hT, hl, h8⟩
    refine r_for (ds := T) (fun i ρ => ∃ s3 s6, ρ = [.val (.list (script.map .int)), .val (.list T), s2, s3, s4, s5, s6]) rfl ⟨_, _, rfl⟩ ?_ ?_
    · rintro i d ρ hd ⟨s3, s6, rfl⟩
      obtain ⟨b, h1, h2⟩ := both_is (hT d (List.mem_of_getElem? hd))
      exact ⟨_, rfl, r_seq (x_set (x_cb (x_cons rfl rfl) h1)) (r_end (x_ifF (x_orF (x_not (c := true) (x_qv (x_misK rfl rfl))) (x_qv (x_op rfl (x_cb (x_cons rfl rfl) h2) (ne_bb b)))) rfl) ⟨_, _, rfl⟩)⟩
    · rintro ρ ⟨s3, s6, rfl⟩
      exact r_ret rfl rfl
end K56
set_option maxHeartbeats 0
namespace K56
open PySem PySem.Spec PyProof.Rows L2
def d_is_whole : He.DefD := ⟨("is_whole", none), "is_whole", "is_whole", defArgs s_is_whole, defBody s_is_whole, defScope s_is_whole, [], []⟩
def d_is_between : He.DefD := ⟨("is_between", none), "is_between", "is_between", defArgs s_is_between, defBody s_is_between, defScope s_is_between, [], []⟩
def d_is_row : He.DefD := ⟨("is_row", none), "is_row", "is_row", defArgs s_is_row, defBody s_is_row, defScope s_is_row, [], []⟩
def d_is_name : He.DefD := ⟨("is_name", none), "is_name", "is_name", defArgs s_is_name, defBody s_is_name, defScope s_is_name, [], []⟩
def d_is_rising : He.DefD := ⟨("is_rising", none), "is_rising", "is_rising", defArgs s_is_rising, defBody s_is_rising, defScope s_is_rising, [], []⟩
def d_are_names : He.DefD := ⟨("are_names", none), "are_names", "are_names", defArgs s_are_names, defBody s_are_names, defScope s_are_names, [], []⟩
def d_is_top : He.DefD := ⟨("is_top", none), "is_top", "is_top", defArgs s_is_top, defBody s_is_top, defScope s_is_top, [], []⟩
def d_is_place : He.DefD := ⟨("is_place", none), "is_place", "is_place", defArgs s_is_place, defBody s_is_place, defScope s_is_place, [], []⟩
def d_is_tie : He.DefD := ⟨("is_tie", none), "is_tie", "is_tie", defArgs s_is_tie, defBody s_is_tie, defScope s_is_tie, [], []⟩
def d_are_places : He.DefD := ⟨("are_places", none), "are_places", "are_places", defArgs s_are_places, defBody s_are_places, defScope s_are_places, [], []⟩
def d_are_ties : He.DefD := ⟨("are_ties", none), "are_ties", "are_ties", defArgs s_are_ties, defBody s_are_ties, defScope s_are_ties, [], []⟩
def d_is_web : He.DefD := ⟨("is_web", none), "is_web", "is_web", defArgs s_is_web, defBody s_is_web, defScope s_is_web, [], []⟩
def d_names_of : He.DefD := ⟨("names_of", none), "names_of", "names_of", defArgs s_names_of, defBody s_names_of, defScope s_names_of, [], []⟩
def d_is_job : He.DefD := ⟨("is_job", none), "is_job", "is_job", defArgs s_is_job, defBody s_is_job, defScope s_is_job, [], []⟩
def d_is_tool : He.DefD := ⟨("is_tool", none), "is_tool", "is_tool", defArgs s_is_tool, defBody s_is_tool, defScope s_is_tool, [], []⟩
def d_are_jobs_and_tools : He.DefD := ⟨("are_jobs_and_tools", none), "are_jobs_and_tools", "are_jobs_and_tools", defArgs s_are_jobs_and_tools, defBody s_are_jobs_and_tools, defScope s_are_jobs_and_tools, [], []⟩
def d_house_web : He.DefD := ⟨("house_web", none), "house_web", "house_web", defArgs s_house_web, defBody s_house_web, defScope s_house_web, [], []⟩
def d_has_house_form : He.DefD := ⟨("has_house_form", none), "has_house_form", "has_house_form", defArgs s_has_house_form, defBody s_has_house_form, defScope s_has_house_form, [], []⟩
def d_is_house : He.DefD := ⟨("is_house", none), "is_house", "is_house", defArgs s_is_house, defBody s_is_house, defScope s_is_house, [], []⟩
def d_L_cell : He.DefD := ⟨("_law_cell", none), "_law_cell", "_law_cell", defArgs s_L_cell, defBody s_L_cell, defScope s_L_cell, [], []⟩
def d_L_numbers : He.DefD := ⟨("_law_numbers", none), "_law_numbers", "_law_numbers", defArgs s_L_numbers, defBody s_L_numbers, defScope s_L_numbers, [], []⟩
def d_L_names : He.DefD := ⟨("_law_names", none), "_law_names", "_law_names", defArgs s_L_names, defBody s_L_names, defScope s_L_names, [], []⟩
def d_L_house : He.DefD := ⟨("_law_house", none), "_law_house", "_law_house", defArgs s_L_house, defBody s_L_house, defScope s_L_house, [], []⟩
def d_L_whole : He.DefD := ⟨("_law_whole", none), "_law_whole", "_law_whole", defArgs s_L_whole, defBody s_L_whole, defScope s_L_whole, [], []⟩
def d_L_name : He.DefD := ⟨("_law_name", none), "_law_name", "_law_name", defArgs s_L_name, defBody s_L_name, defScope s_L_name, [], []⟩
def d_L_row : He.DefD := ⟨("_law_row", none), "_law_row", "_law_row", defArgs s_L_row, defBody s_L_row, defScope s_L_row, [], []⟩
def d_L_due : He.DefD := ⟨("_law_due", none), "_law_due", "_law_due", defArgs s_L_due, defBody s_L_due, defScope s_L_due, [], []⟩
def d_L_put : He.DefD := ⟨("_law_put", none), "_law_put", "_law_put", defArgs s_L_put, defBody s_L_put, defScope s_L_put, [], []⟩
def d_L_sign : He.DefD := ⟨("_law_sign", none), "_law_sign", "_law_sign", defArgs s_L_sign, defBody s_L_sign, defScope s_L_sign, [], []⟩
def d_L_spoilt_row : He.DefD := ⟨("_law_spoilt_row", none), "_law_spoilt_row", "_law_spoilt_row", defArgs s_L_spoilt_row, defBody s_L_spoilt_row, defScope s_L_spoilt_row, [], []⟩
def d_L_spoilt : He.DefD := ⟨("_law_spoilt", none), "_law_spoilt", "_law_spoilt", defArgs s_L_spoilt, defBody s_L_spoilt, defScope s_L_spoilt, [], []⟩
def d_L_edges : He.DefD := ⟨("_law_edges", none), "_law_edges", "_law_edges", defArgs s_L_edges, defBody s_L_edges, defScope s_L_edges, [], []⟩
def d_law : He.DefD := ⟨("law", none), "law", "law", defArgs s_law, defBody s_law, defScope s_law, [], []⟩
def fn : List He.DefD := [d_is_whole, d_is_between, d_is_row, d_is_name, d_is_rising, d_are_names, d_is_top, d_is_place, d_is_tie, d_are_places, d_are_ties, d_is_web, d_names_of, d_is_job, d_is_tool, d_are_jobs_and_tools, d_house_web, d_has_house_form, d_is_house, d_L_cell, d_L_numbers, d_L_names, d_L_house, d_L_whole, d_L_name, d_L_row, d_L_due, d_L_put, d_L_sign, d_L_spoilt_row, d_L_spoilt, d_L_edges, d_law]
def fa0 : List He.Fa := [.glo "is_whole", .glo "is_between", .glo "is_row", .glo "is_name", .glo "is_rising", .glo "are_names", .glo "is_top", .glo "is_place", .glo "is_tie", .glo "are_places", .glo "are_ties", .glo "is_web", .glo "names_of", .glo "is_job", .glo "is_tool", .glo "are_jobs_and_tools", .glo "house_web", .glo "has_house_form", .glo "is_house", .glo "_law_cell", .glo "_law_numbers", .glo "_law_names", .glo "_law_house", .glo "_law_whole", .glo "_law_name", .glo "_law_row", .glo "_law_due", .glo "_law_put", .glo "_law_sign", .glo "_law_spoilt_row"]
def fa1 : List He.Fa := [.glo "_law_spoilt", .glo "_law_edges", .glo "law", .free "abs", .free "all", .free "bool", .free "enumerate", .free "int", .free "isinstance", .free "len", .free "list", .free "max", .free "min", .free "range", .free "set", .free "sorted", .free "str", .free "tuple", .free "zip", .str "LETTERS" "abcdefghijklmnopqrstuvwxyz"]
def fa : List He.Fa := fa0 ++ fa1
def tf : List He.Defn := [("is_name", none), ("is_rising", none), ("are_names", none), ("are_places", none), ("are_ties", none), ("names_of", none), ("are_jobs_and_tools", none), ("house_web", none)]
def loose0 : List Str := ["is_whole", "is_between", "is_row", "LETTERS", "is_name", "is_rising", "are_names", "is_top", "is_place", "is_tie", "are_places", "are_ties", "is_web", "names_of", "is_job", "is_tool", "are_jobs_and_tools", "house_web", "has_house_form", "is_house", "_law_cell", "_law_numbers", "_law_names", "_law_house", "_law_whole", "_law_name", "_law_row", "_law_due", "_law_put", "_law_sign"]
def loose1 : List Str := ["_law_spoilt_row", "_law_spoilt", "_law_edges"]
def loose : List Str := loose0 ++ loose1
end K56
namespace K56
open PySem PySem.Spec PyProof.Rows L2
abbrev R : PySem.W.OpenRow := PySem.W.OpenLaw.row PySem.Challenge.rw_cutstairs_k56_what_houses_are
abbrev hk : PySem.W.Hook := He.hookX 2 fa fn [] tf ex
def ob (s : PySem.W.SharedT) : He.AlX := He.obsX 2 fa fn [] tf ex (HandSHeadRun.getT s)
theorem ob_eq (s : PySem.W.SharedT) : ob s = hk.obs s.abs := He.obsX_eq (HandSHeadRun.getT_eq s)
theorem run (w : World) : HandSHeadRun.RunEq R (PySem.W.view R.prog [37]) hk ob 20000 loose w := by
  intro os
  kernel_rfl
end K56
namespace K56
open PySem PySem.Spec PyProof.Rows L2 LB
theorem txt_of {K : PySem.W.Frag} {w : World} {h : Heap} {mg : Str → Option Value} (X : K.In h) (G : h.Ns mainGlobals mg) (c : He.SaysX fa fn [] tf ex w h K) : Txt K mg where
  m_is_whole := He.glo_ok X G (c.t.d.fact 0 (f := .glo "is_whole") rfl)
  m_is_between := He.glo_ok X G (c.t.d.fact 1 (f := .glo "is_between") rfl)
  m_is_row := He.glo_ok X G (c.t.d.fact 2 (f := .glo "is_row") rfl)
  m_is_name := He.glo_ok X G (c.t.d.fact 3 (f := .glo "is_name") rfl)
  m_is_rising := He.glo_ok X G (c.t.d.fact 4 (f := .glo "is_rising") rfl)
  m_are_names := He.glo_ok X G (c.t.d.fact 5 (f := .glo "are_names") rfl)
  m_is_top := He.glo_ok X G (c.t.d.fact 6 (f := .glo "is_top") rfl)
  m_is_place := He.glo_ok X G (c.t.d.fact 7 (f := .glo "is_place") rfl)
  m_is_tie := He.glo_ok X G (c.t.d.fact 8 (f := .glo "is_tie") rfl)
  m_are_places := He.glo_ok X G (c.t.d.fact 9 (f := .glo "are_places") rfl)
  m_are_ties := He.glo_ok X G (c.t.d.fact 10 (f := .glo "are_ties") rfl)
  m_is_web := He.glo_ok X G (c.t.d.fact 11 (f := .glo "is_web") rfl)
  m_names_of := He.glo_ok X G (c.t.d.fact 12 (f := .glo "names_of") rfl)
  m_is_job := He.glo_ok X G (c.t.d.fact 13 (f := .glo "is_job") rfl)
  m_is_tool := He.glo_ok X G (c.t.d.fact 14 (f := .glo "is_tool") rfl)
  m_are_jobs_and_tools := He.glo_ok X G (c.t.d.fact 15 (f := .glo "are_jobs_and_tools") rfl)
  m_house_web := He.glo_ok X G (c.t.d.fact 16 (f := .glo "house_web") rfl)
  m_has_house_form := He.glo_ok X G (c.t.d.fact 17 (f := .glo "has_house_form") rfl)
  m_is_house := He.glo_ok X G (c.t.d.fact 18 (f := .glo "is_house") rfl)
  m_L_cell := He.glo_ok X G (c.t.d.fact 19 (f := .glo "_law_cell") rfl)
  m_L_numbers := He.glo_ok X G (c.t.d.fact 20 (f := .glo "_law_numbers") rfl)
  m_L_names := He.glo_ok X G (c.t.d.fact 21 (f := .glo "_law_names") rfl)
  m_L_house := He.glo_ok X G (c.t.d.fact 22 (f := .glo "_law_house") rfl)
  m_L_whole := He.glo_ok X G (c.t.d.fact 23 (f := .glo "_law_whole") rfl)
  m_L_name := He.glo_ok X G (c.t.d.fact 24 (f := .glo "_law_name") rfl)
  m_L_row := He.glo_ok X G (c.t.d.fact 25 (f := .glo "_law_row") rfl)
  m_L_due := He.glo_ok X G (c.t.d.fact 26 (f := .glo "_law_due") rfl)
  m_L_put := He.glo_ok X G (c.t.d.fact 27 (f := .glo "_law_put") rfl)
  m_L_sign := He.glo_ok X G (c.t.d.fact 28 (f := .glo "_law_sign") rfl)
  m_L_spoilt_row := He.glo_ok X G (c.t.d.fact 29 (f := .glo "_law_spoilt_row") rfl)
  m_L_spoilt := He.glo_ok X G (c.t.d.fact 30 (f := .glo "_law_spoilt") rfl)
  m_L_edges := He.glo_ok X G (c.t.d.fact 31 (f := .glo "_law_edges") rfl)
  m_law := He.glo_ok X G (c.t.d.fact 32 (f := .glo "law") rfl)
  f_abs := He.free_ok X G (c.t.d.fact 33 (f := .free "abs") rfl)
  f_all := He.free_ok X G (c.t.d.fact 34 (f := .free "all") rfl)
  f_bool := He.free_ok X G (c.t.d.fact 35 (f := .free "bool") rfl)
  f_enumerate := He.free_ok X G (c.t.d.fact 36 (f := .free "enumerate") rfl)
  f_int := He.free_ok X G (c.t.d.fact 37 (f := .free "int") rfl)
  f_isinstance := He.free_ok X G (c.t.d.fact 38 (f := .free "isinstance") rfl)
  f_len := He.free_ok X G (c.t.d.fact 39 (f := .free "len") rfl)
  f_list := He.free_ok X G (c.t.d.fact 40 (f := .free "list") rfl)
  f_max := He.free_ok X G (c.t.d.fact 41 (f := .free "max") rfl)
  f_min := He.free_ok X G (c.t.d.fact 42 (f := .free "min") rfl)
  f_range := He.free_ok X G (c.t.d.fact 43 (f := .free "range") rfl)
  f_set := He.free_ok X G (c.t.d.fact 44 (f := .free "set") rfl)
  f_sorted := He.free_ok X G (c.t.d.fact 45 (f := .free "sorted") rfl)
  f_str := He.free_ok X G (c.t.d.fact 46 (f := .free "str") rfl)
  f_tuple := He.free_ok X G (c.t.d.fact 47 (f := .free "tuple") rfl)
  f_zip := He.free_ok X G (c.t.d.fact 48 (f := .free "zip") rfl)
  c_LETTERS := He.str_ok X G (c.t.d.fact 49 (f := .str "LETTERS" "abcdefghijklmnopqrstuvwxyz") rfl)
  D_is_whole := let ⟨fd, F⟩ := c.t.d.def_ 0 (d := d_is_whole) rfl; ⟨fd, F, He.glo_ok X G (c.t.d.fact 0 (f := .glo "is_whole") rfl)⟩
  D_is_between := let ⟨fd, F⟩ := c.t.d.def_ 1 (d := d_is_between) rfl; ⟨fd, F, He.glo_ok X G (c.t.d.fact 1 (f := .glo "is_between") rfl)⟩
  D_is_row := let ⟨fd, F⟩ := c.t.d.def_ 2 (d := d_is_row) rfl; ⟨fd, F, He.glo_ok X G (c.t.d.fact 2 (f := .glo "is_row") rfl)⟩
  D_is_name := let ⟨fd, F⟩ := c.t.d.def_ 3 (d := d_is_name) rfl; ⟨fd, F, He.glo_ok X G (c.t.d.fact 3 (f := .glo "is_name") rfl)⟩
  D_is_rising := let ⟨fd, F⟩ := c.t.d.def_ 4 (d := d_is_rising) rfl; ⟨fd, F, He.glo_ok X G (c.t.d.fact 4 (f := .glo "is_rising") rfl)⟩
  D_are_names := let ⟨fd, F⟩ := c.t.d.def_ 5 (d := d_are_names) rfl; ⟨fd, F, He.glo_ok X G (c.t.d.fact 5 (f := .glo "are_names") rfl)⟩
  D_is_top := let ⟨fd, F⟩ := c.t.d.def_ 6 (d := d_is_top) rfl; ⟨fd, F, He.glo_ok X G (c.t.d.fact 6 (f := .glo "is_top") rfl)⟩
  D_is_place := let ⟨fd, F⟩ := c.t.d.def_ 7 (d := d_is_place) rfl; ⟨fd, F, He.glo_ok X G (c.t.d.fact 7 (f := .glo "is_place") rfl)⟩
  D_is_tie := let ⟨fd, F⟩ := c.t.d.def_ 8 (d := d_is_tie) rfl; ⟨fd, F, He.glo_ok X G (c.t.d.fact 8 (f := .glo "is_tie") rfl)⟩
  D_are_places := let ⟨fd, F⟩ := c.t.d.def_ 9 (d := d_are_places) rfl; ⟨fd, F, He.glo_ok X G (c.t.d.fact 9 (f := .glo "are_places") rfl)⟩
  D_are_ties := let ⟨fd, F⟩ := c.t.d.def_ 10 (d := d_are_ties) rfl; ⟨fd, F, He.glo_ok X G (c.t.d.fact 10 (f := .glo "are_ties") rfl)⟩
  D_is_web := let ⟨fd, F⟩ := c.t.d.def_ 11 (d := d_is_web) rfl; ⟨fd, F, He.glo_ok X G (c.t.d.fact 11 (f := .glo "is_web") rfl)⟩
  D_names_of := let ⟨fd, F⟩ := c.t.d.def_ 12 (d := d_names_of) rfl; ⟨fd, F, He.glo_ok X G (c.t.d.fact 12 (f := .glo "names_of") rfl)⟩
  D_is_job := let ⟨fd, F⟩ := c.t.d.def_ 13 (d := d_is_job) rfl; ⟨fd, F, He.glo_ok X G (c.t.d.fact 13 (f := .glo "is_job") rfl)⟩
  D_is_tool := let ⟨fd, F⟩ := c.t.d.def_ 14 (d := d_is_tool) rfl; ⟨fd, F, He.glo_ok X G (c.t.d.fact 14 (f := .glo "is_tool") rfl)⟩
  D_are_jobs_and_tools := let ⟨fd, F⟩ := c.t.d.def_ 15 (d := d_are_jobs_and_tools) rfl; ⟨fd, F, He.glo_ok X G (c.t.d.fact 15 (f := .glo "are_jobs_and_tools") rfl)⟩
  D_house_web := let ⟨fd, F⟩ := c.t.d.def_ 16 (d := d_house_web) rfl; ⟨fd, F, He.glo_ok X G (c.t.d.fact 16 (f := .glo "house_web") rfl)⟩
  D_has_house_form := let ⟨fd, F⟩ := c.t.d.def_ 17 (d := d_has_house_form) rfl; ⟨fd, F, He.glo_ok X G (c.t.d.fact 17 (f := .glo "has_house_form") rfl)⟩
  D_is_house := let ⟨fd, F⟩ := c.t.d.def_ 18 (d := d_is_house) rfl; ⟨fd, F, He.glo_ok X G (c.t.d.fact 18 (f := .glo "is_house") rfl)⟩
  D_L_cell := let ⟨fd, F⟩ := c.t.d.def_ 19 (d := d_L_cell) rfl; ⟨fd, F, He.glo_ok X G (c.t.d.fact 19 (f := .glo "_law_cell") rfl)⟩
  D_L_numbers := let ⟨fd, F⟩ := c.t.d.def_ 20 (d := d_L_numbers) rfl; ⟨fd, F, He.glo_ok X G (c.t.d.fact 20 (f := .glo "_law_numbers") rfl)⟩
  D_L_names := let ⟨fd, F⟩ := c.t.d.def_ 21 (d := d_L_names) rfl; ⟨fd, F, He.glo_ok X G (c.t.d.fact 21 (f := .glo "_law_names") rfl)⟩
  D_L_house := let ⟨fd, F⟩ := c.t.d.def_ 22 (d := d_L_house) rfl; ⟨fd, F, He.glo_ok X G (c.t.d.fact 22 (f := .glo "_law_house") rfl)⟩
  D_L_whole := let ⟨fd, F⟩ := c.t.d.def_ 23 (d := d_L_whole) rfl; ⟨fd, F, He.glo_ok X G (c.t.d.fact 23 (f := .glo "_law_whole") rfl)⟩
  D_L_name := let ⟨fd, F⟩ := c.t.d.def_ 24 (d := d_L_name) rfl; ⟨fd, F, He.glo_ok X G (c.t.d.fact 24 (f := .glo "_law_name") rfl)⟩
  D_L_row := let ⟨fd, F⟩ := c.t.d.def_ 25 (d := d_L_row) rfl; ⟨fd, F, He.glo_ok X G (c.t.d.fact 25 (f := .glo "_law_row") rfl)⟩
  D_L_due := let ⟨fd, F⟩ := c.t.d.def_ 26 (d := d_L_due) rfl; ⟨fd, F, He.glo_ok X G (c.t.d.fact 26 (f := .glo "_law_due") rfl)⟩
  D_L_put := let ⟨fd, F⟩ := c.t.d.def_ 27 (d := d_L_put) rfl; ⟨fd, F, He.glo_ok X G (c.t.d.fact 27 (f := .glo "_law_put") rfl)⟩
  D_L_sign := let ⟨fd, F⟩ := c.t.d.def_ 28 (d := d_L_sign) rfl; ⟨fd, F, He.glo_ok X G (c.t.d.fact 28 (f := .glo "_law_sign") rfl)⟩
  D_L_spoilt_row := let ⟨fd, F⟩ := c.t.d.def_ 29 (d := d_L_spoilt_row) rfl; ⟨fd, F, He.glo_ok X G (c.t.d.fact 29 (f := .glo "_law_spoilt_row") rfl)⟩
  D_L_spoilt := let ⟨fd, F⟩ := c.t.d.def_ 30 (d := d_L_spoilt) rfl; ⟨fd, F, He.glo_ok X G (c.t.d.fact 30 (f := .glo "_law_spoilt") rfl)⟩
  D_L_edges := let ⟨fd, F⟩ := c.t.d.def_ 31 (d := d_L_edges) rfl; ⟨fd, F, He.glo_ok X G (c.t.d.fact 31 (f := .glo "_law_edges") rfl)⟩
  D_law := let ⟨fd, F⟩ := c.t.d.def_ 32 (d := d_law) rfl; ⟨fd, F, He.glo_ok X G (c.t.d.fact 32 (f := .glo "law") rfl)⟩
end K56
namespace K56
open PySem PySem.Spec PyProof.Rows L2 LB PM
theorem tf_mem {x : Str} (h : x ∈ gens) : (x, none) ∈ tf := List.mem_map_of_mem (f := fun x : Str => ((x, none) : He.Defn)) h
theorem law_at {w : World} {K : PySem.W.Frag} {h : Heap} {mg : Str → Option Value} {f : Addr} (X : K.In h) (G : h.Ns mainGlobals mg) (hfa : mg ("law" : Str) = some (.ref f)) (c : He.SaysX fa fn [] tf ex w h K) :
    LamX.LawAtS PySem.Challenge.rw_cutstairs_k56_what_houses_are w K (L2.CX (PySem.Challenge.rw_cutstairs_k56_what_houses_are).prog w) 13 63 "_law_script" mg f h := by
  have T := txt_of X G c
  have Y := ext_of c.more
  obtain ⟨fd, F, hm⟩ := T.D_law
  have e := hfa.symm.trans hm
  cases e
  have b := FunD.bindsA (ps := ["_law_script"]) F fun _ _ _ _ _ _ us hl => match us, hl with | [_], _ => rfl
  refine ⟨fd, tf.map (He.cT K), spM K (tabs K) M_law, fun p hp => ?_, fun p hp => ?_, fun p hp => ?_, fun s u => b s [u] rfl, fun H a ns hn _ hT hS => ?_, fun base _ _ TB => ?_⟩
  · obtain ⟨q, hq, rfl⟩ := List.mem_map.mp hp
    exact c.empty q hq
  · obtain ⟨q, hq, rfl⟩ := List.mem_map.mp hp
    exact c.out q hq
  · obtain ⟨q, hq, rfl⟩ := List.mem_map.mp hp
    exact PySem.W.codeHd_of_K X (c.hd q hq)
  · have t : LamX.Tabs (tabs K) H := fun p hp => by
      obtain ⟨x, hx, rfl⟩ := List.mem_map.mp hp
      exact LamX.TabS.nil (hT _ (List.mem_map.mpr ⟨(x, none), tf_mem hx, rfl⟩))
    obtain ⟨P, rfl, hs⟩ := start_pr t hS
    refine ⟨P, [.list (ns.map .int)], .bool true, rfl, .cons (.lst hs (rp_ints ns)) .nil, law_ok ns hn, fun v P' _ r => ?_⟩
    cases r
    rfl
  · obtain ⟨oc, od, dV, kV, doc, pm, an, cdv, ct, osl, rfl, lk, _⟩ := F.ex
    exact (all_ok T Y fun x hx => TB _ (List.mem_map.mpr ⟨(x, none), tf_mem hx, rfl⟩)).at hm lk
end K56
open PySem PySem.W PySem.Calls PyProof.Rows
theorem PySem.Challenge.cw_cutstairs_k56_what_houses_are_holds : PySem.Challenge.rw_cutstairs_k56_what_houses_are.Holds := by
  w_on; o_law
  refine HandSHeadRun.head_any (r := OpenLaw.row PySem.Challenge.rw_cutstairs_k56_what_houses_are) (q := view (OpenLaw.row PySem.Challenge.rw_cutstairs_k56_what_houses_are).prog [37]) (H := K56.hk) (ob := K56.ob) (M := 20000) (loose := K56.loose) (d := HandSHeadRun.topDef (OpenLaw.row PySem.Challenge.rw_cutstairs_k56_what_houses_are).prog 37) (kwd := []) K56.ob_eq
    (by kernel_rfl) (fun s => by kernel_rfl) K56.run (by kernel_rfl) (by kernel_rfl) (by kernel_rfl) (by rfl) (by first | assumption | decide +kernel) (by decide +kernel) ⟨rfl, rfl, rfl, rfl, rfl, by decide +kernel⟩ ?hw ?hc
  case hw => w_witness2
  case hc =>
    refine LamX.walk_ofTsE (l := PySem.Challenge.rw_cutstairs_k56_what_houses_are) (n := 63) (k := 13) (x := "_law_script") (CX := fun w => L2.CX (PySem.Challenge.rw_cutstairs_k56_what_houses_are).prog w) rfl (by decide) (by kernel_rfl) ⟨rfl, by decide, by decide⟩ ?F (fun _ _ _ _ _ z => ?z)
    case z =>
      obtain ⟨_, _, _, _, _, _, _, _, _, _, _, _, z⟩ := z
      exact z
    case F =>
      intro w mg fa h Y G hmg0
      obtain ⟨K, KX, c⟩ := Y
      have hmg : mg ("law" : PySem.Str) = some (.ref fa) := by
        have e : (HandSHeadRun.topDef (OpenLaw.row PySem.Challenge.rw_cutstairs_k56_what_houses_are).prog 37).name = ("law" : PySem.Str) := by kernel_rfl
        rw [← e]
        exact hmg0
      exact ⟨K, KX, K56.law_at KX G hmg c⟩
