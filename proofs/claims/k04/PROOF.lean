import PyProof.Rows.All
import Wide.All
import OpenK.AllK
import Wide.FinOn
import PyProof.Rows.TupDisplay
import HandS.Flt
import KE.KDictZip
import KE.GoesMore
import KE.GoesEnum
import KE.GoesZip
import PyProof.EqAt
import PyProof.EqKinds
import PyProof.TupleCall
import KE.KLam
import KE.KStateDown
import HandS.ForMost
import HandS.Exc
import HandS.TryOnly
import HandS.ExcOwn
import HandS.WordsExc
import HandS.Codes
import HandS.Lambda
import HandS.EndTab
import HandS.IsInst
import HandS.ExcIs
import HandS.Wide
import HandS.Flow
import HandS.Style
import HandS.Defaults
import HandS.HeadHook4
import HandS.HeadWalk
import HandS.Base
import HandS.Call
import HandS.Ends
import HandS.More
import HandS.Words
import HandS.Head0
import HandS.Head1
import HandS.Head2
import HandS.HeadEnd
import HandS.HeadHook1
import HandS.HeadHook2
import HandS.HeadHook3
import HandS.TupSets
import HandS.ListItems
import HandS.DictComp
import HandS.ExcValue
import PyProof.DictMoreH
import PyProof.AutoSeq1
import PyProof.Rows.ChunkLeaf
import HandS.AnyAll
import HandS.GenList
import HandS.Zip
import HandS.Star
import HandS.Deep
import HandS.DeepEq
import HandS.DictTup
import HandS.Sort
import HandS.SortRule
import HandS.TupLe
import KE.KSortAsk
import KE.SortLaws
import KE.SortData
import KE.LtData
import KE.LtSeq
import KE.SortCalls
import HandS.Conv
import HandS.TupAny
import HandS.TupLen
import KE.BitLaws
import HandS.HotCalls
import HandS.SetFor
import KE.DataCmp
import HandS.Text
import PyProof.TupleOfStr
import HandS.SortKw
import KE.SortKeyHeap
import KE.KDictSum
import KE.DataMinMax
import KE.DataMinKey
import PySem.Challenge.RW_cutstairs_k04_webs_as_texts
import KE.KSortKey
import PyProof.DictStraight
import PyProof.DictTruth
import HandS.TupMul
import HandS.CallLocal
import HandS.FStr
import KE.GoesEnumKw
set_option Elab.async false
set_option linter.all false
set_option maxRecDepth 100000
set_option maxHeartbeats 4000000
set_option maxHeartbeats 4000000
/-! ### general words of my own -/
namespace LB
open PySem PySem.Spec PyProof.Rows L2
/-- // by any divisor but 0, below 2 ^ 9000 in size -/
def CDivG (_ j : Int) : Prop := j ≠ 0 ∧ j.natAbs.log2 < 9000
theorem op_fdivG {X : Cx} : OpR X (binaryOp .FloorDiv) (rI CDivG fun i j => .int (i.fdiv j)) := opI fun i j _ _ _ _ _ hc q => floordiv_int hc.1 q (.inl (PyProof.noPylong_of_log2 hc.2))
theorem divG {i j : Int} {b : Nat} (h : j ≠ 0) (hb : j.natAbs < 2 ^ b) (h0 : 0 < b) (h9 : b ≤ 9000) : CDivG i j := ⟨h, Nat.lt_of_lt_of_le (PySem.Flt.log2_lt_of h0 hb) h9⟩
/-! ### defs by name -/
/-- the module's name x is a def that keeps sp -/
structure OwnFn (P : Program) (w : World) (K : PySem.W.Frag) (mg : Str → Option Value) (base : Heap) (k : Nat) (x : Str) (ps : List Str) (sp : Sp) : Prop where
  fn : ∃ (f : Addr) (fd : FuncData), FnOk P w K mg base (L2.CX P w) k f fd ps sp ∧ mg x = some (.ref f) ∧ PySem.W.keepIn K (.ref f) = true ∧ Binds K fd ps [] ∧ ∃ oc od osl, K.lookup f = some ⟨oc, od, .func fd, osl⟩
theorem pe_own {X : Cx} {k j : Nat} {x : Str} {ps : List Str} {sp : Sp} {E : XK} {e : Expr} {es : List Expr} {t : TA} {p pos : Pos} (F : OwnFn X.prog X.w X.K X.mg X.base k x ps sp) (hr : Room j X.A) (hx : Passes (L2.CX X.prog X.w) X E) (ha : PA X (e :: es) t)
    (hk : k ≤ j := by decide) (hg : Gl X x := by rfl) (hdb : (x == ("__debug__" : Str)) = false := by decide) (he : starEach (e :: es) X.env = (false, eval e X.env) :: starEach es X.env := by rfl) (hpl : (backTo pos (starEach es X.env)).any (·.1) = false := by rfl) :
    PE X (.Call (.Name x p) (e :: es) [] pos) (tCall sp [] E t) := by
  obtain ⟨f, fd, G, hm, kp, b, _⟩ := F.fn
  exact pe_call G (hr.mono hk) hg hm kp b .nil hx ha hdb he hpl
/-- a def of the text, behind the top -/
def Df (K : PySem.W.Frag) (mg : Str → Option Value) (x : Str) (st : Stmt) : Prop := ∃ fd, FunD K x x (defArgs st) (defBody st) (defScope st) [] [] (He.ga K x) fd ∧ mg x = some (.ref (He.ga K x))
theorem own_ok {P : Program} {w : World} {K : PySem.W.Frag} {mg : Str → Option Value} {base : Heap} {x : Str} {st : Stmt} {N ps : List Str} {k : Nat} {sp : Sp} (F : Df K mg x st) (S : FnScope N ps (defScope st))
    (hb : ∀ (kV doc pm : Value) (an : Option Addr) (cdv ct : Value) (us : List Value), us.length = ps.length → bindArgs (PySem.W.fnOf x x (defArgs st) (defBody st) (defScope st) .none kV doc pm an cdv ct) ⟨us, []⟩ = pure (ps.zip us))
    (len : ∀ vs H Q E, sp vs H Q E → vs.length = ps.length)
    (hbody : ∀ (cdv : Value) (A : Around) (outer : List Env) (s : Shared) (H : Hp) (vs : List V) (Q : VK) (E : XK), Room k (A.deeper (envOfC x (defScope st) s.heap.objs.size (He.ga K x) cdv)) → sp vs H Q E →
      ∃ t, PSs (cxOf (L2.CX P w) P w K mg base N x (defScope st) (He.ga K x) cdv A outer s H E) (defBody st) t ∧ t { nx := fun _ H' => Q .non H', rt := Q } (start N vs) H) : OwnFn P w K mg base (k + 1) x ps sp := by
  obtain ⟨fd, F, hm⟩ := F
  refine ⟨He.ga K x, fd, F.ok S len hbody, hm, F.kp, F.bindsN hb, ?_⟩
  obtain ⟨oc, od, dV, kV, doc, pm, an, cdv, ct, osl, rfl, lk, _⟩ := F.ex
  exact ⟨oc, od, osl, lk⟩
/-- the promise of the function object that stands at x -/
theorem OwnFn.at {P : Program} {w : World} {K : PySem.W.Frag} {mg : Str → Option Value} {base : Heap} {k : Nat} {x : Str} {ps : List Str} {sp : Sp} {f : Addr} {fd : FuncData} {oc : Value} {od : Option Addr} {osl : Array (Option Value)} (F : OwnFn P w K mg base k x ps sp)
    (hm : mg x = some (.ref f)) (lk : K.lookup f = some ⟨oc, od, .func fd, osl⟩) : FnOk P w K mg base (L2.CX P w) k f fd ps sp := by
  obtain ⟨f', fd', G, hm', _, _, oc', od', osl', lk'⟩ := F.fn
  rw [hm] at hm'
  cases hm'
  rw [lk] at lk'
  cases lk'
  exact G
/-! ### data of any kind -/
def keyD : Key → PyData
  | .inl i => .int i
  | .inr x => .str x
mutual
inductive Rp (K : PySem.W.Frag) (H : Hp) : V → PyData → Prop
  | non : Rp K H .non .none
  | bl (b : Bool) : Rp K H (.bl b) (.bool b)
  | int (i : Int) : Rp K H (.int i) (.int i)
  | str (x : Str) : Rp K H (.str x) (.str x)
  | lst {a : Addr} {xs : List V} {ds : List PyData} : SqL K H a xs → RpAll K H xs ds → Rp K H (.ref a) (.list ds)
  | tup {a : Addr} {xs : List V} {ds : List PyData} : H a = some (.tup xs) → RpAll K H xs ds → Rp K H (.ref a) (.tuple ds)
  | dct {a : Addr} {od : Obj} {kvs : List (Key × V)} {ds : List (PyData × PyData)} : H a = some (.frz od (.dK kvs)) → kvs.map (fun e => keyD e.1) = ds.map (·.1) → RpAll K H (kvs.map (·.2)) (ds.map (·.2)) → Rp K H (.ref a) (.dict ds)
  | dcT {a : Addr} {od : Obj} {kvs : List (List Key × V)} {ds : List (PyData × PyData)} : H a = some (.frz od (.dT kvs)) → kvs.map (fun e => PyData.tuple (e.1.map keyD)) = ds.map (·.1) → RpAll K H (kvs.map (·.2)) (ds.map (·.2)) → Rp K H (.ref a) (.dict ds)
inductive RpAll (K : PySem.W.Frag) (H : Hp) : List V → List PyData → Prop
  | nil : RpAll K H [] []
  | cons {v : V} {vs : List V} {d : PyData} {ds : List PyData} : Rp K H v d → RpAll K H vs ds → RpAll K H (v :: vs) (d :: ds)
end
/-- the name of a datum's class -/
def tyN : PyData → String
  | .none => "NoneType"
  | .bool _ => "bool"
  | .int _ => "int"
  | .str _ => "str"
  | .list _ => "list"
  | .tuple _ => "tuple"
  | .dict _ => "dict"
theorem sqL_ty {K : PySem.W.Frag} {H : Hp} {a : Addr} {xs : List V} (h : SqL K H a xs) : TyX K H (.ref a) (.type "list") := by
  rcases h with (h | ⟨o, h⟩) | ⟨o, its, n, hk, hc, _⟩
  · exact .base (.lst h)
  · exact .base (.frz h)
  · exact .kList hk hc
theorem sqT_ty {K : PySem.W.Frag} {H : Hp} {a : Addr} {xs : List V} (h : SqT K H a xs) : TyX K H (.ref a) (.type "tuple") := by
  rcases h with (h | ⟨o, h⟩) | ⟨o, its, n, hk, hc, _⟩
  · exact .base (.tup h)
  · exact .fTuple h
  · exact .kTuple hk hc
inductive TyY (K : PySem.W.Frag) (H : Hp) : V → Value → Prop where
  | x {v : V} {t : Value} (h : TyX K H v t) : TyY K H v t
  | fDT {a : Addr} {o : Obj} {kvs : List (List Key × V)} (e : H a = some (.frz o (.dT kvs))) : TyY K H (.ref a) (.type "dict")
def rIsiY (K : PySem.W.Frag) : List V → Hp → VK → Prop := fun xs H Q => ∃ (x c : V) (t u : Value) (b : Bool), xs = [x, c] ∧ ClsV c u ∧ TyY K H x t ∧ PySem.W.kitOne K t u = some b ∧ Q (.bl b) H
theorem call_isiY {X : Cx} : CallR X (.builtin "isinstance") (rIsiY X.K) := by
  intro pins s σ H xs us Q I r h
  obtain ⟨x, c, t, u, b, hx, k, ty, e, q⟩ := h
  cases ty with
  | x ty => exact call_isi pins s σ H xs us Q I r ⟨x, c, t, u, b, hx, k, ty, e, q⟩
  | @fDT a ob kvs ea =>
    subst hx
    obtain ⟨u1, u2, rfl, r1, r2⟩ := vals2 r
    have e2 := k.eq r2
    subst e2
    cases (show u1 = Value.ref a from r1)
    obtain ⟨_, _, zs, _, o, es, ep, h1, h2, _⟩ := dt_rd I.hok (.inr ⟨ob, ea⟩)
    exact PySem.W.kia_one PySem.W.kitx_dict I.kIn ⟨o, h1, h2.1⟩ e (fun z => nomatch z) fun tk => ⟨.bl b, H, I.tok tk, rfl, q⟩
theorem Rp.ty {K : PySem.W.Frag} {H : Hp} {v : V} {d : PyData} (h : Rp K H v d) : TyY K H v (.type (tyN d)) := by
  cases h with
  | non => exact .x (.base .non)
  | bl b => exact .x (.base (.bl b))
  | int i => exact .x (.base (.int i))
  | str x => exact .x (.base (.str x))
  | lst h _ => exact .x (sqL_ty h)
  | tup h _ => exact .x (sqT_ty (SqT.of h))
  | dct h _ _ => exact .x (.fDict h)
  | dcT h _ _ => exact .fDT h
/-- H' holds what H held, but tables -/
abbrev Ex (H H' : Hp) : Prop := LamX.ExtN H H'
theorem ex_refl (H : Hp) : Ex H H := LamX.ExtN.refl H
theorem ex_new {H : Hp} {p : Addr} {o : HO} (h : H p = none) : Ex H (upd H p o) := fun b u e _ => by
  rw [upd_ne (ne_of_none e h)]
  exact e
theorem ex_rd {H H' : Hp} {a : Addr} {u : HO} (e : Ex H H') (h : Rd H a u) (hu : ∀ ps, u ≠ .tbl ps) : Rd H' a u := by
  rcases h with h | ⟨o, h⟩
  · exact Or.inl (e a _ h hu)
  · exact Or.inr ⟨o, e a _ h fun _ z => nomatch z⟩
theorem ex_l {K : PySem.W.Frag} {H H' : Hp} {a : Addr} {xs : List V} (e : Ex H H') (h : SqL K H a xs) : SqL K H' a xs := by
  rcases h with h | h
  · exact Or.inl (ex_rd e h fun _ z => nomatch z)
  · exact Or.inr h
theorem ex_t {K : PySem.W.Frag} {H H' : Hp} {a : Addr} {xs : List V} (e : Ex H H') (h : SqT K H a xs) : SqT K H' a xs := by
  rcases h with h | h
  · exact Or.inl (ex_rd e h fun _ z => nomatch z)
  · exact Or.inr h
mutual
theorem Rp.ext {K : PySem.W.Frag} {H H' : Hp} (e : Ex H H') : ∀ {v : V} {d : PyData}, Rp K H v d → Rp K H' v d
  | _, _, .non => .non
  | _, _, .bl b => .bl b
  | _, _, .int i => .int i
  | _, _, .str x => .str x
  | _, _, .lst h r => .lst (ex_l e h) (RpAll.ext e r)
  | _, _, .tup h r => .tup (e _ _ h fun _ z => nomatch z) (RpAll.ext e r)
  | _, _, .dct h k r => .dct (e _ _ h fun _ z => nomatch z) k (RpAll.ext e r)
  | _, _, .dcT h k r => .dcT (e _ _ h fun _ z => nomatch z) k (RpAll.ext e r)
theorem RpAll.ext {K : PySem.W.Frag} {H H' : Hp} (e : Ex H H') : ∀ {vs : List V} {ds : List PyData}, RpAll K H vs ds → RpAll K H' vs ds
  | _, _, .nil => .nil
  | _, _, .cons h r => .cons (Rp.ext e h) (RpAll.ext e r)
end
theorem RpAll.length {K : PySem.W.Frag} {H : Hp} : ∀ {vs : List V} {ds : List PyData}, RpAll K H vs ds → vs.length = ds.length
  | _, _, .nil => rfl
  | _, _, .cons _ r => congrArg Nat.succ (RpAll.length r)
theorem RpAll.get {K : PySem.W.Frag} {H : Hp} : ∀ {vs : List V} {ds : List PyData} {i : Nat} {v : V}, RpAll K H vs ds → vs[i]? = some v → ∃ d, ds[i]? = some d ∧ Rp K H v d
  | _, _, _, _, .nil, e => by simp at e
  | _, _, 0, _, .cons h _, e => by
    have e' := Option.some.inj e
    subst e'
    exact ⟨_, rfl, h⟩
  | _, _, i + 1, v, .cons _ r, e => by
    obtain ⟨d, h1, h2⟩ := RpAll.get (i := i) (v := v) r e
    exact ⟨d, h1, h2⟩
/-! ### a caught error of an own class: isinstance with a tuple of classes -/
end LB
namespace LB
open PySem PySem.Spec PyProof.Rows L2
/-! ### heaps that grow: what is no table stays, the tables T stay told -/
def Gw (T : List (Addr × Str)) (H H' : Hp) : Prop := Ex H H' ∧ (LamX.Tabs T H → LamX.Tabs T H')
theorem Gw.refl (T : List (Addr × Str)) (H : Hp) : Gw T H H := ⟨ex_refl H, id⟩
theorem Gw.trans {T : List (Addr × Str)} {H H1 H2 : Hp} (a : Gw T H H1) (b : Gw T H1 H2) : Gw T H H2 := ⟨a.1.trans b.1, fun t => b.2 (a.2 t)⟩
theorem gw_same {T : List (Addr × Str)} {H H' : Hp} (s : Same H H') : Gw T H H' := ⟨fun b o e _ => s b o e, fun t => t.ext s⟩
theorem same_new {H : Hp} {p : Addr} {o : HO} (h : H p = none) : Same H (upd H p o) := fun b u e => by
  rw [upd_ne (ne_of_none e h)]
  exact e
theorem gw_new {T : List (Addr × Str)} {H : Hp} {p : Addr} {o : HO} (h : H p = none) : Gw T H (upd H p o) := gw_same (same_new h)
theorem Gw.lst {T : List (Addr × Str)} {H H' : Hp} (g : Gw T H H') {p : Addr} {xs : List V} (h : H p = some (.lst xs)) : H' p = some (.lst xs) := g.1 _ _ h fun _ z => nomatch z
theorem Gw.tup {T : List (Addr × Str)} {H H' : Hp} (g : Gw T H H') {p : Addr} {xs : List V} (h : H p = some (.tup xs)) : H' p = some (.tup xs) := g.1 _ _ h fun _ z => nomatch z
theorem Gw.l {T : List (Addr × Str)} {K : PySem.W.Frag} {H H' : Hp} {a : Addr} {xs : List V} (g : Gw T H H') (h : SqL K H a xs) : SqL K H' a xs := ex_l g.1 h
theorem Gw.t {T : List (Addr × Str)} {K : PySem.W.Frag} {H H' : Hp} {a : Addr} {xs : List V} (g : Gw T H H') (h : SqT K H a xs) : SqT K H' a xs := ex_t g.1 h
/-! ### readings that give data -/
section
variable (K : PySem.W.Frag) (T : List (Addr × Str))
def Gv (te : TE) (σ : L2.St) (H : Hp) (d : PyData) : Prop := ∀ H1, Gw T H H1 → ∀ Q : VK, (∀ v H2, Gw T H1 H2 → Rp K H2 v d → Q v H2) → te σ H1 Q
def GvA (ta : TA) (σ : L2.St) (H : Hp) (ds : List PyData) : Prop := ∀ H1, Gw T H H1 → ∀ Q : List V → Hp → Prop, (∀ vs H2, Gw T H1 H2 → RpAll K H2 vs ds → Q vs H2) → ta σ H1 Q
/-- a new list of data -/
def GvL (te : TE) (σ : L2.St) (H : Hp) (ds : List PyData) : Prop := ∀ H1, Gw T H H1 → ∀ Q : VK, (∀ p xs H2, Gw T H1 H2 → H2 p = some (.lst xs) → RpAll K H2 xs ds → Q (.ref p) H2) → te σ H1 Q
end
section
variable {K : PySem.W.Frag} {T : List (Addr × Str)} {σ : L2.St} {H : Hp} {te ta tb : TE} {d : PyData} {ds : List PyData}
theorem rpAll_at {xs : List V} (r : RpAll K H xs ds) {i : Int} (h : atI ds i = some d) : ∃ v, atI xs i = some v ∧ Rp K H v d := by
  have hl := r.length
  unfold atI at h ⊢
  rw [hl]
  cases e : ixN ds.length i with
  | none =>
    rw [e] at h
    cases h
  | some j =>
    rw [e] at h
    have h' : ds[j]? = some d := h
    have hj : j < xs.length := by
      have := (List.getElem?_eq_some_iff.mp h').1
      omega
    obtain ⟨d', e1, e2⟩ := r.get (List.getElem?_eq_getElem hj)
    rw [h'] at e1
    cases e1
    exact ⟨_, List.getElem?_eq_getElem hj, e2⟩
theorem RpAll.append {H : Hp} : ∀ {xs ys : List V} {ds es : List PyData}, RpAll K H xs ds → RpAll K H ys es → RpAll K H (xs ++ ys) (ds ++ es)
  | _, _, _, _, .nil, s => s
  | _, _, _, _, .cons h r, s => .cons h (RpAll.append r s)
theorem GvL.gv (h : GvL K T te σ H ds) : Gv K T te σ H (.list ds) := fun H1 g Q q => h H1 g _ fun p xs H2 g2 hp r => q _ H2 g2 (.lst (SqL.of hp) r)
theorem s_seq {t u : TS} {D : Ends} {σ : L2.St} {H : Hp} (h : t { D with nx := u D } σ H) : tSeq t u D σ H := h
theorem s_asg {D : Ends} {i : Nat} (h : Gv K T te σ H d) (k : ∀ v H2, Gw T H H2 → Rp K H2 v d → D.nx (σ.set i (some v)) H2) : tAsg te (gName i) D σ H := h H (Gw.refl T H) _ k
theorem s_ret {D : Ends} (h : Gv K T te σ H d) (k : ∀ v H2, Gw T H H2 → Rp K H2 v d → D.rt v H2) : tRet te D σ H := h H (Gw.refl T H) _ k
end
/-! ### a def whose code object's table is told; a lambda handed to a def -/
theorem own_okC {P : Program} {w : World} {K : PySem.W.Frag} {mg : Str → Option Value} {base : Heap} {x : Str} {st : Stmt} {N ps : List Str} {k : Nat} {sp : Sp} (F : Df K mg x st) (S : FnScope N ps (defScope st))
    (hb : ∀ (kV doc pm : Value) (an : Option Addr) (cdv ct : Value) (us : List Value), us.length = ps.length → bindArgs (PySem.W.fnOf x x (defArgs st) (defBody st) (defScope st) .none kV doc pm an cdv ct) ⟨us, []⟩ = pure (ps.zip us))
    (len : ∀ vs H Q E, sp vs H Q E → vs.length = ps.length)
    (hbody : ∀ (cdv : Value) (A : Around) (outer : List Env) (s : Shared) (H : Hp) (vs : List V) (Q : VK) (E : XK), cdv = .ref (He.codeOf K (x, none)) → Room k (A.deeper (envOfC x (defScope st) s.heap.objs.size (He.ga K x) cdv)) → sp vs H Q E →
      ∃ t, PSs (cxOf (L2.CX P w) P w K mg base N x (defScope st) (He.ga K x) cdv A outer s H E) (defBody st) t ∧ t { nx := fun _ H' => Q .non H', rt := Q } (start N vs) H) : OwnFn P w K mg base (k + 1) x ps sp := by
  obtain ⟨fd, F, hm⟩ := F
  have kp := F.kp
  have bb := F.bindsN hb
  obtain ⟨oc, od, dV, kV, doc, pm, an, cdv, ct, osl, rfl, lk, hcd, _, _⟩ := F.ex
  refine ⟨He.ga K x, _, ?_, hm, kp, bb, oc, od, osl, lk⟩
  refine fn_of lk hcd S len fun A outer s H vs Q E hr hsp => hbody cdv A outer s H vs Q E ?_ hr hsp
  obtain ⟨c, rfl⟩ := He.codeIn_ref hcd
  have e : He.codeOf K (x, none) = c := He.codeOf_eq (p := (x, none)) lk rfl
  rw [e]
end LB
namespace GX
open PySem PySem.Spec PyProof.Rows L2 GenW
/-- the context of a generator expression's block: woken in A, made at s -/
def gCx (X : Cx) (A : Around) (s : Shared) (H : Hp) (cenv : Env) (fp : List Addr) (pn : List (Addr × Obj)) : Cx where
  prog := X.prog
  w := X.w
  K := X.K
  mg := X.mg
  base := X.base
  A := A.deeper cenv
  N := X.N
  s_0 := s
  H_0 := H
  env := cenv
  outer := X.stack
  stack := cenv :: X.stack
  ex := fp
  fn := fun _ => false
  calm := true
  pn := pn
  xe := fun _ _ => False
/-- its names: no cells; «.0» and the clause's own names; captured ones -/
structure GxS (N : List Str) (sc scope : Scope) (own : List (Str × Nat)) : Prop where
  kind : scope.kind = .function
  co : scope.isCoroutine = false
  cell : ∀ y ∈ scope.names, y.2 ≠ .cell
  dot : scope.names.lookup (".0" : Str) = some NameKind.local
  free : ∀ y ∈ scope.names, y.2 = .free → sc.names.lookup y.1 = some .cell ∨ sc.names.lookup y.1 = some .free
  loc : ∀ y ∈ scope.names, y.2 = .local → y.1 ∈ own.map (·.1) ∨ y.1 ∉ N
  ix : ∀ p ∈ own, N[p.2]? = some p.1
def gxB (N : List Str) (sc scope : Scope) (own : List (Str × Nat)) : Bool :=
  decide (scope.kind = .function) && (!scope.isCoroutine && (decide (scope.names.lookup (".0" : Str) = some NameKind.local) && ((scope.names.all fun y => !decide (y.2 = .cell) && ((!decide (y.2 = .free) || (decide (sc.names.lookup y.1 = some .cell) || decide (sc.names.lookup y.1 = some .free))) &&
    (!decide (y.2 = .local) || (decide (y.1 ∈ own.map (·.1)) || decide (y.1 ∉ N))))) && own.all fun p => decide (N[p.2]? = some p.1))))
theorem gx_by {N : List Str} {sc scope : Scope} {own : List (Str × Nat)} (h : gxB N sc scope own = true) : GxS N sc scope own := by
  unfold gxB at h
  simp only [Bool.and_eq_true, Bool.or_eq_true, Bool.not_eq_true', decide_eq_true_eq, decide_eq_false_iff_not, List.all_eq_true] at h
  obtain ⟨h1, h2, h3, h4, h5⟩ := h
  refine ⟨h1, h2, fun y hy => (h4 y hy).1, h3, fun y hy e => ?_, fun y hy e => ?_, h5⟩
  · rcases (h4 y hy).2.1 with z | z
    · exact absurd e z
    · exact z
  · rcases (h4 y hy).2.2 with z | z
    · exact absurd e z
    · exact z
theorem over_gx {A : Around} {elt : Expr} {gs : List Comprehension} {scope : Scope} {pos : Pos} {it acc : Value} {env : Env} : A.over (.compLoop (.GeneratorExp elt gs scope pos) 0 it acc env) [] = A.deeper env := by
  first
    | rfl
    | (obtain ⟨hd, d, fr, gs, u⟩ := A; simp [Around.over, Around.deeper, marksOver, frameCount, unitsOf, envsOf, guardsOf, pushEnvs, pushGuards, Code.envs, Code.env?, Code.isFrame, Code.guards, Code.isGuard, Code.weight, Code.frames, Code.isCreation, Code.cUnits])
section
variable {X : Cx} {pins : List (Addr × Obj)} {σ : L2.St} {H : Hp} {s s2 : Shared}
/-- the block at its start -/
theorem gen_inv {A : Around} {scope : Scope} {own : List (Str × Nat)} {fp : List Addr} {code : Value} {m : Str → Option Value} {pn : List (Addr × Obj)} (I : Inv X pins σ H s) (ok : GxS X.N X.env.scope scope own) (hN : X.N.Nodup) (hA : A.handled = none) (hfr : A.frames = some X.stack)
    (hfp : ∀ b ∈ fp, FpOk X pins H b ∧ b < s.heap.objs.size) (kp : ∀ b o, s.heap.get? b = some o → s2.heap.get? b = some o) (hns : s2.heap.Ns s.heap.objs.size m) (hos : s2.os = s.os) (hb : AllBare s2.gens)
    (hpn : ∀ p ∈ pn, s2.heap.get? p.1 = some p.2 ∧ H p.1 = none ∧ p.1 ≠ s.heap.objs.size ∧ p.1 ∉ frs X.stack ∧ ∀ v, p.2.data ≠ .cell v) :
    Inv (gCx X A s H (genEnv scope (cloFrom X.env.cells scope.names []) s.heap.objs.size code builtinsNs X.env) fp pn) [] (wipe σ (own.map (·.2))) H s2 := by
  have hfree : ∀ y ∈ scope.names, y.2 = .free → ∃ c, X.env.cells.lookup y.1 = some c := fun y hy e => by
    rcases ok.free y hy e with k | k
    · exact I.ok.has _ (.inl k)
    · exact I.ok.has _ (.inr k)
  have cm : ∀ {y c}, (cloFrom X.env.cells scope.names []).lookup y = some c → X.env.cells.lookup y = some c := fun {y c} e => by
    rcases cloFrom_mem (PySem.mem_of_lookup e) with hm | ⟨h1, h2⟩
    · cases hm
    · obtain ⟨c1, hc⟩ := hfree _ h1 rfl
      have hc : X.env.cells.lookup y = some c1 := hc
      have h2 : c = (X.env.cells.lookup y).getD 0 := h2
      rw [hc] at h2
      rw [hc, h2] <;> rfl
  have look : ∀ {y}, scope.names.lookup y = some .free → ∃ c, (cloFrom X.env.cells scope.names []).lookup y = some c := fun {y} hl => mem_lookup (cloFrom_has (cells := X.env.cells) (acc := []) (PySem.mem_of_lookup hl))
  have noPn : ∀ {b}, b ∈ fp → b ≠ s.heap.objs.size := fun {b} hb => Nat.ne_of_lt (hfp b hb).2
  refine ⟨⟨I.ok.mod, ok.kind, I.ok.glob, rfl, Nat.le_refl _, fun y z c e1 e2 => I.ok.inj y z c (cm e1) (cm e2), fun y hy => ?_, fun y c z _ => ?_, fun _ => hA, Around.frames_deeper hfr, .inr ⟨rfl, rfl⟩, fun b hb => ⟨noPn hb, fun y c e z => (hfp b hb).1.2.2.2.2.1 y c (cm e) z⟩, I.bs, Nat.le_trans I.ok.bsz I.sz, fun b o e hb => ?_, fun b hb z => ?_, I.stack, I.stkFree⟩,
    hos, hb, Un.kept kp, ⟨_, hns, fun i y v e1 e2 e3 => ?_⟩, fun y c e => ?_, I.hok.fresh (Nat.le_refl _), fun y c e => I.freeC y c (cm e), fun p hp => (List.mem_append.mp hp).elim (fun z => hpn p z) (fun z => by cases z), I.hok.kept kp, by rw [wipe_length]; exact I.len⟩
  · have hy : scope.names.lookup y = some .cell ∨ scope.names.lookup y = some .free := hy
    rcases hy with hy | hy
    · exact absurd rfl (ok.cell _ (PySem.mem_of_lookup hy))
    · exact look hy
  · have z : false = true := z
    cases z
  · rcases (hfp b hb).1.2.2.2.1 with z | z
    · exact I.ok.noex b o e z
    · exact absurd (Nat.lt_of_lt_of_le (Heap.lt_size e) (Nat.le_trans I.ok.bsz z)) (Nat.lt_irrefl _)
  · rcases List.mem_cons.mp (I.stkSub b z) with z | z
    · exact (hfp b hb).1.2.1 z
    · exact (hfp b hb).1.2.2.1 z
  · obtain ⟨e2, hne⟩ := wipe_some e2
    have e3 : Vis scope y := e3
    rcases e3 with k | k | k
    · rcases ok.loc _ (PySem.mem_of_lookup k) rfl with e' | e'
      · obtain ⟨p, hp, hpy⟩ := List.mem_map.mp e'
        have e4 := ok.ix p hp
        have hpy : p.1 = y := hpy
        rw [hpy] at e4
        exact absurd (List.mem_map.mpr ⟨p, hp, nodup_ix hN e4 e1⟩) hne
      · exact absurd (List.mem_of_getElem? e1) e'
    · exact absurd rfl (ok.cell _ (PySem.mem_of_lookup k))
    · obtain ⟨m, hn, hl⟩ := I.loc
      have hvis : Vis X.env.scope y := (ok.free _ (PySem.mem_of_lookup k) rfl).elim (fun k => .inr (.inl k)) (fun k => .inr (.inr k))
      obtain ⟨w', r, q⟩ := hl i y v e1 e2 hvis
      obtain ⟨c2, h2⟩ := look k
      refine ⟨w', r, .inr ⟨.inr k, c2, h2, ?_⟩⟩
      have c1 := cm h2
      rcases q with ⟨k', _⟩ | ⟨_, c3, e', z⟩
      · have k' : X.env.scope.names.lookup y = some .local := k'
        rcases ok.free _ (PySem.mem_of_lookup k) rfl with k2 | k2 <;> rw [show X.env.scope.names.lookup y = _ from k2] at k' <;> cases k'
      · rw [c1] at e'
        cases e'
        exact z.keeps kp
  · obtain ⟨w', z⟩ := I.cell y c (cm e)
    exact ⟨w', z.keeps kp⟩
end
end GX
namespace GX
open PySem PySem.Spec PyProof.Rows L2 GenW
theorem seg_bx {M : Model} {A : Around} {R : GenEnd} {Y : Protocol} {n : Nat} {s₀ : Shared} {elt : Expr} {gs : List Comprehension} {scope : Scope} {pos : Pos} {it acc : Value} {env : Env} {s : Shared} {α β : Type} {m : Sem α} {K : α → Sem β} {K' : β → Sem PySem.Fin} {H' : Value → Sem PySem.Fin} {gd lv} {Q : α → Shared → Prop}
    (h : wpAny M (A.deeper env) m Q (fun _ _ => False) s) (hQ : ∀ a s', Q a s' → Seg M A R Y n s₀ (.compLoop (.GeneratorExp elt gs scope pos) 0 it acc env) ((K a).wrap K' H' gd lv) [] s') :
    Seg M A R Y n s₀ (.compLoop (.GeneratorExp elt gs scope pos) 0 it acc env) ((m >>= K).wrap K' H' gd lv) [] s := by
  refine seg_bind_wrap ?_
  rw [over_gx]
  exact wpAny_mono h hQ fun _ _ z => z.elim
theorem seg_wx {M : Model} {A : Around} {R : GenEnd} {Y : Protocol} {n : Nat} {s₀ : Shared} {elt : Expr} {gs : List Comprehension} {scope : Scope} {pos : Pos} {it acc : Value} {env : Env} {s : Shared} {α : Type} {m : Sem α} {K' : α → Sem PySem.Fin} {H' : Value → Sem PySem.Fin} {gd lv} {Q : α → Shared → Prop}
    (h : wpAny M (A.deeper env) m Q (fun _ _ => False) s) (hQ : ∀ a s', Q a s' → Seg M A R Y n s₀ (.compLoop (.GeneratorExp elt gs scope pos) 0 it acc env) (K' a) [] s') :
    Seg M A R Y n s₀ (.compLoop (.GeneratorExp elt gs scope pos) 0 it acc env) (m.wrap K' H' gd lv) [] s := by
  refine seg_wrap ?_
  rw [over_gx]
  exact wpAny_mono h hQ fun _ _ z => z.elim
/-- what a consumer wants of the block's walk -/
structure Eats (Z : Cx) (fp : List Addr) (J : It) (σ : L2.St) (vs : List Nat) (g : TG) (tt : TT) (te : TE) (W : Nat → Nat → List V → Hp → Prop) (K : List (Addr × Obj) → List V → Prop) (JN : Nat → Nat → List V → Prop) (QE : List V → Hp → Prop) (YC : Nat → Nat → List V → V → Hp → Prop) (RE : GenEnd) (YP : Protocol) : Prop where
  apart : ∀ ip ys, K ip ys → ∀ p ∈ ip, p.1 ∉ fp
  fin : ∀ n m s₀ ys ip H' s', JN n m ys → K ip ys → Inv Z ip σ H' s' → QE ys H' → RE n s₀ (.ok .next) s'
  pos : ∀ n m i ys y H', JN n m ys → YC i m ys y H' → ∃ n', n = n' + 1
  less : ∀ n m m' ys, m' < m → JN n m ys → JN n m' ys
  give : ∀ n m i s₀ ys ip σ' H' s' y v kap, JN (n + 1) m ys → K ip ys → Inv Z ip σ' H' s' → RelV y v → YC i m ys y H' →
    (∀ ip2 m' s2, m' < m → W (i + 1) m' (ys ++ [y]) H' → JN n m' (ys ++ [y]) → K ip2 (ys ++ [y]) → Inv Z ip2 σ' H' s2 → (∀ b ∈ fp, ∀ o, s'.heap.get? b = some o → s2.heap.get? b = some o) → kap (.send .none) s2) → YP n s₀ v s' kap
  turn : ∀ i m ys H, W i m ys H → (J.stop i H ∧ QE ys H) ∨ (J.go i H ∧ ∀ x H', J.yld i H x H' → g x σ H' fun σ2 H2 => wipe σ2 vs = σ ∧ tt σ2 H2 fun b H3 => if b = true then te σ2 H3 fun y H4 => YC i m ys y H4 else ∃ m', m' < m ∧ W (i + 1) m' ys H3)
section
variable {X : Cx} {A : Around} {s4 : Shared} {H4 : Hp} {cenv : Env} {fp : List Addr} {pn : List (Addr × Obj)} {J : It} {σ : L2.St} {vs : List Nat} {g : TG} {tt : TT} {te : TE} {W : Nat → Nat → List V → Hp → Prop} {K : List (Addr × Obj) → List V → Prop} {JN : Nat → Nat → List V → Prop} {QE : List V → Hp → Prop} {YC : Nat → Nat → List V → V → Hp → Prop} {RE : GenEnd} {YP : Protocol} {it : Addr} {tn : Nat → Heap → Prop}
  {elt tg iter : Expr} {ifs : List Expr} {scope : Scope} {pos : Pos}
theorem seg_gx (C : Eats (gCx X A s4 H4 cenv fp pn) fp J σ vs g tt te W K JN QE YC RE YP) (T : Turn X.prog X.w X.K tg J fp it tn) (hg : PG (gCx X A s4 H4 cenv fp pn) tg g) (ht : PTs (gCx X A s4 H4 cenv fp pn) ifs tt) (he : PE (gCx X A s4 H4 cenv fp pn) elt te)
    (hco : cenv.scope.isCoroutine = false) (hpn : ∀ p ∈ pn, p.1 ∉ fp) :
    ∀ (m n i : Nat) (ys : List V) (s₀ s : Shared) (H : Hp) (ip : List (Addr × Obj)), JN n m ys → W i m ys H → K ip ys → Inv (gCx X A s4 H4 cenv fp pn) ip σ H s → tn i s.heap → (∀ b ∈ fp, H b = none) →
      Seg (model X.prog X.w) A RE YP n s₀ (.compLoop (.GeneratorExp elt [⟨tg, iter, ifs, 0⟩] scope pos) 0 (.ref it) .none cenv) ((model X.prog X.w).den (.compLoop (.GeneratorExp elt [⟨tg, iter, ifs, 0⟩] scope pos) 0 (.ref it) .none cenv)) [] s := by
  intro m
  induction m using Nat.strongRecOn with
  | ind m ih =>
    intro n i ys s₀ s H ip hJ hW hK I hst hn
    have stat : ∀ {σ' : L2.St} {H' : Hp} {s' : Shared}, Inv (gCx X A s4 H4 cenv fp pn) ip σ' H' s' → (∀ b ∈ fp, H' b = none) → ∀ b ∈ fp, FpOk (gCx X A s4 H4 cenv fp pn) ip H' b := fun {σ' H' s'} I' hn b hb =>
      ⟨hn b hb, (I'.ok.exf b hb).1, I'.ok.exfs b hb, .inl hb, fun x c e => (I'.ok.exf b hb).2 x c e, fun p hp e => (List.mem_append.mp hp).elim (fun z => hpn p z (by rw [e]; exact hb)) (fun z => C.apart ip ys hK p z (by rw [e]; exact hb))⟩
    show Seg _ A _ _ _ s₀ _ ((compTurn (.GeneratorExp elt [⟨tg, iter, ifs, 0⟩] scope pos) 0 (.ref it) .none cenv).onRaise (leaving cenv)) [] s
    rw [compTurn_gen, Sem.onRaise_eq_wrap]
    refine seg_bind_wrap (wpAny_standAt ?_)
    rcases C.turn i m ys H hW with ⟨stop, qq⟩ | ⟨go, step⟩
    · refine seg_bx (T.done (gCx X A s4 H4 cenv fp pn) rfl rfl rfl rfl i ip s σ H (fun _ _ => False) I (stat I hn) hst stop) fun r s1 ⟨hr, I1⟩ => ?_
      subst hr
      exact seg_end (.ok .next) (C.fin n m s₀ ys ip H s1 hJ hK I1 qq)
    · refine seg_bx (T.item (gCx X A s4 H4 cenv fp pn) rfl rfl rfl rfl i ip s σ H (fun _ _ => False) I (stat I hn) hst go) fun r s1 ⟨u, hr, h1⟩ => ?_
      subst hr
      refine seg_bx h1 fun _ s2 ⟨x, H2, I2, r2, y2, st2, n2⟩ => ?_
      have I2' := I2.pinned (stat I2 n2) (T.obj _ _ st2)
      refine seg_bx (hg.run _ s2 _ H2 x u _ I2' r2 (step x H2 y2)) fun _ s3 ⟨σ3, H3, I3, hw3, q3⟩ => ?_
      refine seg_bx (ht.run _ s3 σ3 H3 _ I3 q3) fun b s5 ⟨H5, I5, q5⟩ => ?_
      have pin' : ∀ {s' : Shared} {H' : Hp}, Inv (gCx X A s4 H4 cenv fp pn) (ip ++ pinsAt fp s2.heap) σ3 H' s' → tn (i + 1) s'.heap ∧ (∀ b ∈ fp, H' b = none) := fun {s' H'} I' => by
        have q : ∀ b ∈ fp, ∀ o, s2.heap.get? b = some o → s'.heap.get? b = some o ∧ H' b = none := fun b hb o e =>
          let z := I'.pin (b, o) (List.mem_append_right _ (List.mem_append_right _ (mem_pinsAt hb e)))
          ⟨z.1, z.2.1⟩
        refine ⟨T.keep _ _ _ st2 fun b hb o e => (q b hb o e).1, fun b hb => ?_⟩
        obtain ⟨o, e, _⟩ := T.obj _ _ st2 b hb
        exact (q b hb o e).2
      have wk : ∀ {ip' : List (Addr × Obj)} {s' : Shared} {H' : Hp}, Inv (gCx X A s4 H4 cenv fp pn) ip' σ3 H' s' → Inv (gCx X A s4 H4 cenv fp pn) ip' σ H' s' := fun {ip' s' H'} I' => by
        have hl : σ.length = σ3.length := by rw [← hw3, wipe_length]
        refine I'.weak hl fun j v e => ?_
        rw [← hw3] at e
        exact (wipe_some e).1
      cases b with
      | false =>
        simp only [Bool.false_eq_true, if_false] at q5 ⊢
        obtain ⟨m', hm, w'⟩ := q5
        obtain ⟨p1, p2⟩ := pin' I5
        exact seg_again rfl (ih m' hm n (i + 1) ys s₀ s5 H5 ip (C.less n m m' ys hm hJ) w' hK (wk I5.unpinned) p1 p2)
      | true =>
        simp only [if_true] at q5 ⊢
        have hy : ∀ v, yieldOut cenv v = yieldValue v := fun v => by simp only [yieldOut, hco, Bool.false_eq_true, if_false]
        simp only [hy]
        rw [Sem.bind_eq_wrap', Sem.bind_eq_wrap', Sem.wrap_wrap, Sem.wrap_wrap]
        refine seg_wx (he.run _ s5 σ3 H5 _ I5 q5) fun z s6 ⟨yv, H6, I6, r6, y6⟩ => ?_
        obtain ⟨n', rfl⟩ := C.pos n m i ys yv H6 hJ y6
        obtain ⟨p1, p2⟩ := pin' I6
        refine seg_at (seg_yield rfl rfl rfl (C.give n' m i s₀ ys ip σ3 H6 s6 yv z _ hJ hK I6.unpinned r6 y6 fun ip2 m' s7 hm w' hj hk I7 hkeep => ?_))
        exact seg_again rfl (ih m' hm n' (i + 1) (ys ++ [yv]) s7 s7 H6 ip2 hj w' hk (wk I7) (T.keep _ _ _ p1 hkeep) p2)
theorem seg_gx0 (C : Eats (gCx X A s4 H4 cenv fp pn) fp J σ vs g tt te W K JN QE YC RE YP) (T : Turn X.prog X.w X.K tg J fp it tn) (hg : PG (gCx X A s4 H4 cenv fp pn) tg g) (ht : PTs (gCx X A s4 H4 cenv fp pn) ifs tt) (he : PE (gCx X A s4 H4 cenv fp pn) elt te)
    (hco : cenv.scope.isCoroutine = false) (hpn : ∀ p ∈ pn, p.1 ∉ fp)
    (m n : Nat) (s₀ s : Shared) (H : Hp) (ip : List (Addr × Obj)) (hJ : JN n m []) (hW : W 0 m [] H) (hK : K ip []) (I : Inv (gCx X A s4 H4 cenv fp pn) ip σ H s) (hst : tn 0 s.heap) (hn : ∀ b ∈ fp, H b = none) :
      Seg (model X.prog X.w) A RE YP n s₀ (.compStart (.GeneratorExp elt [⟨tg, iter, ifs, 0⟩] scope pos) 0 (.ref it) .none cenv) ((model X.prog X.w).den (.compStart (.GeneratorExp elt [⟨tg, iter, ifs, 0⟩] scope pos) 0 (.ref it) .none cenv)) [] s := by
  have loop := seg_gx (iter := iter) (scope := scope) (pos := pos) C T hg ht he hco hpn m n 0 [] s₀ s H ip hJ hW hK I hst hn
  show Seg _ A _ _ _ s₀ _ ((compStart (.GeneratorExp elt [⟨tg, iter, ifs, 0⟩] scope pos) 0 (.ref it) .none cenv).onRaise (leaving cenv)) [] s
  unfold compStart
  rw [Sem.onRaise_eq_wrap]
  show Seg _ A _ _ _ s₀ _ ((ask >>= _).wrap _ _ _ _) [] s
  refine seg_bind_wrap (wpAny_askSetting ?_)
  split
  · exact seg_again rfl loop
  · first
      | exact seg_bind_wrap (wpAny_rule (seg_bind_wrap (wpAny_standAt (seg_bind_wrap (T.self _ 0 s _ _ hst (seg_again rfl loop))))))
      | (refine seg_bind_wrap (wpAny_rule ?_); show Seg _ A _ _ _ s₀ _ ((standAt iter.pos >>= _).wrap _ _ _ _) [] s; exact seg_bind_wrap (wpAny_standAt (seg_bind_wrap (T.self _ 0 s _ _ hst (seg_again rfl loop)))))
end
end GX
namespace GX
open PySem PySem.Spec PyProof.Rows L2 GenW
section
variable {X : Cx} {pins : List (Addr × Obj)} {σ : L2.St} {H : Hp} {s : Shared}
/-- the block's code object stands in the def's table: found there, or new -/
theorem gen_code {T : List (Addr × Str)} {c P : Addr} {q : Str} {scope : Scope} {pos : Pos} {A : Around} {E : Value → Shared → Prop} {Q : Value → Shared → Prop} (I : Inv X pins σ H s) (TB : LamX.TabB X.base X.mg c P) (hcode : X.env.code = .ref c)
    (hm : (P, q) ∈ T) (hu : ∀ p ∈ T, p.1 = P → p.2 = q) (hT : LamX.Tabs T H)
    (h : ∀ (code : Value) (H1 : Hp) (s' : Shared), Inv X pins σ H1 s' → LamX.ExtN H H1 → LamX.Tabs T H1 → (∀ b o, H b = none → s.heap.get? b = some o → s'.heap.get? b = some o ∧ H1 b = none) → s.heap.objs.size ≤ s'.heap.objs.size → Q code s') :
    wpAny (model X.prog X.w) A (genexprCode X.env pos q scope) Q E s := by
  obtain ⟨ps, hP, ht, ha⟩ := hT _ hm
  have hP' : s.heap.get? P = some { cls := .none, data := .fields ps } := I.hok P _ hP
  have cd : PySem.W.CodeHd s.heap c P := TB.code.keeps I.bk
  cases hf : codeAmong pos ps.toList with
  | none =>
    refine wpAny_genexprCodeX hcode (cd.code hP' ht) (cd.tab hP') hf fun c' h' tk hx hge hlt hco' hrec htab' _ => ?_
    obtain ⟨c2, oc, vs, t, e2, hoc, hd, hv⟩ := hrec
    cases e2
    have nC : H c' = none := I.hok.fresh hge
    have I1 := LamX.inv_table (t' := tk) (q := q) (more := #[rawInt pos.line, rawInt pos.col, .ref c']) (h' := h') I hP (fun b o hb e => hx b o hb e) htab'.2 hge ⟨oc, vs, t, hoc, hd, hv⟩
    have hE : LamX.ExtN H (upd (upd H P (.tbl (ps ++ #[rawInt pos.line, rawInt pos.col, .ref c']))) c' (LamX.CodeO c' q)) := fun b o e n => by
      rw [upd_ne (ne_of_none e nC), upd_ne (fun z => n ps (Option.some.inj (e.symm.trans (by rw [z]; exact hP))))]
      exact e
    have eL : (ps ++ #[rawInt pos.line, rawInt pos.col, .ref c']).toList = ps.toList ++ [rawInt pos.line, rawInt pos.col, .ref c'] := by simp
    refine h (.ref c') _ _ I1 hE (fun p hp => ?_) (fun b o n e => ?_) (Nat.le_trans hge (Nat.le_of_lt hlt))
    · by_cases hb : p.1 = P
      · rw [hu p hp hb, hb]
        refine ⟨_, by rw [upd_ne (ne_of_none hP nC), upd_same], by rw [eL]; exact PySem.TriplesOk_snoc _ _ _ _ ht, fun p' cv hcv => ?_⟩
        rw [eL] at hcv
        rcases LamX.among_app _ ht hcv with z | z
        · obtain ⟨c0, e1, e2⟩ := ha p' cv z
          exact ⟨c0, e1, hE _ _ e2 LamX.codeO_ne⟩
        · exact ⟨c', z, upd_same⟩
      · obtain ⟨ps', a1, a2, a3⟩ := hT p hp
        refine ⟨ps', by rw [upd_ne (ne_of_none a1 nC), upd_ne hb]; exact a1, a2, fun p' cv hcv => ?_⟩
        obtain ⟨c0, e1, e2⟩ := a3 p' cv hcv
        exact ⟨c0, e1, hE _ _ e2 LamX.codeO_ne⟩
    · have n1 : b ≠ P := fun z => by rw [z, hP] at n; cases n
      have n2 : b ≠ c' := Nat.ne_of_lt (Nat.lt_of_lt_of_le (Heap.lt_size e) hge)
      exact ⟨hx b o n1 e, by rw [upd_ne n2, upd_ne n1]; exact n⟩
  | some cv =>
    refine wpAny_genexprCode_hit hcode (cd.code hP' ht) hf ?_
    exact h cv H s I (LamX.ExtN.refl H) hT (fun b o n e => ⟨e, n⟩) (Nat.le_refl _)
/-- the generator object -/
def genObj (g : Nat) (q : Str) (t1 t2 : Tok) : Obj := { cls := .type "generator", data := .fields #[.int g 0, .str "<genexpr>" t1, .str q t2] }
theorem genObj_at {g : Nat} {q : Str} {t1 t2 : Tok} {h : Heap} {a : Addr} (e : h.get? a = some (genObj g q t1 t2)) : h.IsGen a g := ⟨_, _, _, e, rfl, rfl, rfl⟩
/-- a generator has been made: it has not begun -/
structure Made (X : Cx) (pins : List (Addr × Obj)) (σ : L2.St) (elt tg iter : Expr) (ifs : List Expr) (scope : Scope) (pos : Pos) (s4 : Shared) (H4 : Hp) (code : Value) (J : It) (fp : List Addr) (it : Addr) (tn : Nat → Heap → Prop) (a : Addr) (t1 t2 : Tok) (s5 : Shared) : Prop where
  inv : Inv X pins σ H4 s4
  turn : Turn X.prog X.w X.K tg J fp it tn
  st : tn 0 s4.heap
  fp : ∀ b ∈ fp, FpOk X pins H4 b ∧ b < s4.heap.objs.size
  ns : ∃ m, s5.heap.Ns s4.heap.objs.size m
  keep : ∀ b o, s4.heap.get? b = some o → s5.heap.get? b = some o
  lt : s4.heap.objs.size < a
  lt' : a < s5.heap.objs.size
  obj : s5.heap.get? a = some (genObj s4.gens.size (X.env.qual ++ "<genexpr>") t1 t2)
  gens : s5.gens = s4.gens.push (.fresh (.compStart (.GeneratorExp elt [⟨tg, iter, ifs, 0⟩] scope pos) 0 (.ref it) .none (genEnv scope (cloFrom X.env.cells scope.names []) s4.heap.objs.size code builtinsNs X.env)))
  os : s5.os = s4.os
theorem gen_make {T : List (Addr × Str)} {c P : Addr} {elt tg iter : Expr} {ifs : List Expr} {scope : Scope} {pos : Pos} {own : List (Str × Nat)} {wi : TI} {RR : It → Hp → Prop} {Q : Value → Shared → Prop} (hd : X.A.depth < recursionLimit) (TB : LamX.TabB X.base X.mg c P) (hcode : X.env.code = .ref c)
    (hm : (P, X.env.qual ++ "<genexpr>") ∈ T) (hu : ∀ p ∈ T, p.1 = P → p.2 = X.env.qual ++ "<genexpr>") (ok : GxS X.N X.env.scope scope own) (hi : PI X tg iter wi) (hs : ∀ v, genFold iter X.env v = pure v) (I : Inv X pins σ H s)
    (h : wi σ H fun J H1 => LamX.Tabs T H1 ∧ ∀ H2, LamX.ExtN H1 H2 → LamX.Tabs T H2 → RR J H2)
    (hQ : ∀ s4 H4 code J fp it tn a t1 t2 s5, Made X pins σ elt tg iter ifs scope pos s4 H4 code J fp it tn a t1 t2 s5 → RR J H4 → Q (.ref a) s5) :
    wpAny (model X.prog X.w) X.A (eval (.GeneratorExp elt [⟨tg, iter, ifs, 0⟩] scope pos) X.env) Q X.xe s := by
  have hfree : ∀ y ∈ scope.names, y.2 = .free → ∃ c, X.env.cells.lookup y.1 = some c := fun y hy e => by
    rcases ok.free y hy e with k | k
    · exact I.ok.has _ (.inl k)
    · exact I.ok.has _ (.inr k)
  refine wpAny_GeneratorExp_make ok.co (closure_ok hfree) ok.cell ok.dot ok.kind hd (thn (hi.run pins s σ H _ I h) fun xv s1 hx => thn hx fun itv s2 h2 => ?_) hs
  obtain ⟨it, fp, tn, J, H2, e, I2, T2, st2, f2, hT, hR⟩ := h2
  subst e
  refine ⟨I2.nolimit, gen_code I2 TB hcode hm hu hT fun code H3 s3 I3 hE hT3 hk hsz => ?_⟩
  obtain ⟨bm, ob, e1, e2, e3, e4, e5, e6, e7, e8⟩ := TB.bm
  refine wpAny_builtinsFor (m := X.mg) (by rw [I3.ok.glob]; exact I3.mod.glob.keeps I3.bk) e1 e2 (I3.bk _ _ e5) e6 e7 e8 ?_
  intro h' hn' hs'
  have hsz' : h'.objs.size = s3.heap.objs.size + 1 := by rw [hs'.1, Heap.size_push]
  have keep' : ∀ b o, s3.heap.get? b = some o → h'.get? b = some o := fun b o e => hs'.extBut b o (Nat.ne_of_lt (Heap.lt_size e)) (Heap.get?_push_of_some _ e)
  refine hQ s3 H3 code J fp it tn h'.objs.size (s3.toks + 1) (s3.toks + 1 + 1) _ ⟨I3, T2, ?_, fun b hb => ?_, ⟨_, hn'.push _⟩, fun b o e => Heap.get?_push_of_some _ (keep' b o e), by omega, by show _ < (h'.push _).objs.size; rw [Heap.size_push]; omega, Heap.get?_push_size _ rfl, rfl, rfl⟩ (hR H3 hE hT3)
  · exact T2.keep _ _ _ st2 fun b hb o e => (hk b o (f2 b hb).1 e).1
  · obtain ⟨o, e, _⟩ := T2.obj _ _ st2 b hb
    exact ⟨⟨(hk b o (f2 b hb).1 e).2, (f2 b hb).2⟩, Nat.lt_of_lt_of_le (Heap.lt_size e) hsz⟩
/-- woken in A, at a heap that keeps all that stood when it was made -/
theorem Made.inv' {elt tg iter : Expr} {ifs : List Expr} {scope : Scope} {pos : Pos} {own : List (Str × Nat)} {s4 : Shared} {H4 : Hp} {code : Value} {J : It} {fp : List Addr} {it : Addr} {tn : Nat → Heap → Prop} {a : Addr} {t1 t2 : Tok} {s5 s6 : Shared} {A : Around}
    (M : Made X pins σ elt tg iter ifs scope pos s4 H4 code J fp it tn a t1 t2 s5) (ok : GxS X.N X.env.scope scope own) (hN : X.N.Nodup) (hA : A.handled = none) (hfr : A.frames = some X.stack) (kp : ∀ b o, s5.heap.get? b = some o → s6.heap.get? b = some o) (hos : s6.os = s5.os) (hb : AllBare s6.gens) :
    Inv (gCx X A s4 H4 (genEnv scope (cloFrom X.env.cells scope.names []) s4.heap.objs.size code builtinsNs X.env) fp [(a, genObj s4.gens.size (X.env.qual ++ "<genexpr>") t1 t2)]) [] (wipe σ (own.map (·.2))) H4 s6 := by
  obtain ⟨m, hns⟩ := M.ns
  refine gen_inv M.inv ok hN hA hfr M.fp (fun b o e => kp b o (M.keep b o e)) (hns.keeps kp) (hos.trans M.os) hb fun p hp => ?_
  rw [List.mem_singleton.mp hp]
  have hge : s4.heap.objs.size ≤ a := Nat.le_of_lt M.lt
  refine ⟨kp a _ M.obj, M.inv.hok.fresh hge, Nat.ne_of_gt M.lt, fun z => ?_, fun v q => by cases q⟩
  rcases List.mem_cons.mp (M.inv.stkSub _ z) with e | e
  · have h1 := M.inv.lt
    rw [← e] at h1
    exact Nat.lt_irrefl _ (Nat.lt_of_lt_of_le h1 hge)
  · exact M.inv.nofs hge e
end
end GX
namespace GX
open PySem PySem.Spec PyProof.Rows L2 GenW
section
variable {X : Cx} {pins : List (Addr × Obj)} {σ : L2.St} {H : Hp} {s : Shared}
/-- the heap at a place where the block sleeps or has ended -/
def Off (X : Cx) (fp : List Addr) (s4 : Shared) (H4 : Hp) (Q : Hp → Prop) (s' : Shared) : Prop := ∃ H', s'.os = s4.os ∧ AllBare s'.gens ∧ Un (frs X.stack) fp H4 H' s4.heap s'.heap ∧ HOk X.prog X.w H' s'.heap ∧ Q H'
theorem Off.back {elt tg iter : Expr} {ifs : List Expr} {scope : Scope} {pos : Pos} {s4 : Shared} {H4 : Hp} {code : Value} {J : It} {fp : List Addr} {it : Addr} {tn : Nat → Heap → Prop} {a : Addr} {t1 t2 : Tok} {s5 s' : Shared} {Q : Hp → Prop}
    (M : Made X pins σ elt tg iter ifs scope pos s4 H4 code J fp it tn a t1 t2 s5) (o : Off X fp s4 H4 Q s') : ∃ H', Inv X pins σ H' s' ∧ Q H' := by
  obtain ⟨H', h1, h2, h3, h4, h5⟩ := o
  exact ⟨H', M.inv.call' (ch := fp) h1 h3 h4 h2 fun b hb => let f := (M.fp b hb).1; ⟨f.2.2.2.1, f.2.1, f.2.2.2.2.1, f.2.2.2.2.2⟩, h5⟩
theorem Off.keeps {fp : List Addr} {s4 : Shared} {H4 : Hp} {Q : Hp → Prop} {s' s'' : Shared} (o : Off X fp s4 H4 Q s') (ho : s''.os = s'.os) (hb : AllBare s''.gens) (hk : ∀ b o, s'.heap.get? b = some o → s''.heap.get? b = some o) : Off X fp s4 H4 Q s'' := by
  obtain ⟨H', h1, h2, h3, h4, h5⟩ := o
  exact ⟨H', ho.trans h1, hb, h3.trans (Un.kept hk), h4.kept hk, h5⟩
def allE (X : Cx) (fp : List Addr) (s4 : Shared) (H4 : Hp) (QT : Hp → Prop) : GenEnd := fun n s₀ r s1 => ((r = .ok (.ret .none) ∨ r = .ok .next) ∧ Off X fp s4 H4 QT s1) ∨ ∃ e, r = .error e ∧ False
/-- an item is handed out: c says whether the consumer goes on -/
def allY (X : Cx) (fp : List Addr) (s4 : Shared) (H4 : Hp) (st : Bool) (a : Addr) (g : Nat) (QF : Hp → Prop) : Protocol := fun n s₀ v s1 kap =>
  s1.heap.IsGen a g ∧ s1.heap.NoLimit ∧ AllBare s1.gens ∧ ∃ c, v = .bool c ∧ (c = !st → ∀ s', s'.os = s1.os → AllBare s'.gens → (∀ b o, s1.heap.get? b = some o → s'.heap.get? b = some o) → kap (.send .none) s') ∧ (c = st → Off X fp s4 H4 QF s1)
/-- the loop of all -/
theorem all_loop {fp : List Addr} {s4 : Shared} {H4 : Hp} {QT QF : Hp → Prop} {a : Addr} {g : Nat} {A : Around} {R : Result → Shared → Prop} (hh : A.handled = none) (hd : A.depth < recursionLimit)
    (hT : ∀ s', Off X fp s4 H4 QT s' → R (.ok (.ret (.bool true))) s') (hF : ∀ s', Off X fp s4 H4 QF s' → R (.ok (.ret (.bool false))) s') :
    ∀ (n : Nat) (s : Shared), s.heap.IsGen a g → s.heap.NoLimit → AllBare s.gens → (∃ gs, s.gens[g]? = some gs ∧ gs.Goes (model X.prog X.w) A.in1.in1 (allE X fp s4 H4 QT) (allY X fp s4 H4 false a g QF) n (.send .none) (s.setGen g .running)) →
      codeAny (model X.prog X.w) A (.builtin "all.loop" ⟨[.ref a], []⟩) R s := by
  intro n
  induction n with
  | zero =>
    intro s hg hl hb ⟨gs, hgs, hgo⟩
    have hgl : g < s.gens.size := (Array.getElem?_eq_some_iff.mp hgs).1
    refine codeAny_builtin F.entry_all_loop ?_
    rw [Around.under_plainId F.plain_all_loop _]
    show wpAny _ A.in1 (pyNext (.ref a) >>= _) _ _ s
    refine wpAny_bind (wpAny_gsz (n := g + 1) hgl (next_genG (Er := fun _ _ => False) (F := fun _ _ s1 => Off X fp s4 H4 QT s1) (Y := allY X fp s4 H4 false a g QF) (A := A.in1) hh hl hd hg hgs hgo (fun v s₁ gs' hbare hv => ?_) (fun s₁ hp h' hk => ?_) fun e s₁ he => he.elim))
    · intro hsz
      obtain ⟨hg1, hl1, hb1, c, rfl, hc1, hc2⟩ := hv
      cases c with
      | true => exact (hc1 rfl s₁ rfl hb1 fun _ _ e => e).elim
      | false =>
        refine wpAny_bind (wpAny_holding (wpAny_truthy_bool ?_))
        refine wpAny_bind (wpAny_letGo ?_)
        simp only [Bool.false_eq_true, if_false]
        refine wpAny_bind (wpAny_rule (wpAny_pure ?_))
        exact hF _ ((hc2 rfl).keeps rfl (allBare_setGen hb1 hbare) fun _ _ e => e)
    · intro hsz
      refine wpAny_bind (wpAny_rule (wpAny_pure ?_))
      obtain ⟨H', z1, z2, z3⟩ := id hp
      exact hT _ (hp.keeps rfl (allBare_setGen z2 rfl) hk)
  | succ n ih =>
    intro s hg hl hb ⟨gs, hgs, hgo⟩
    have hgl : g < s.gens.size := (Array.getElem?_eq_some_iff.mp hgs).1
    refine codeAny_builtin F.entry_all_loop ?_
    rw [Around.under_plainId F.plain_all_loop _]
    show wpAny _ A.in1 (pyNext (.ref a) >>= _) _ _ s
    refine wpAny_bind (wpAny_gsz (n := g + 1) hgl (next_genG (Er := fun _ _ => False) (F := fun _ _ s1 => Off X fp s4 H4 QT s1) (Y := allY X fp s4 H4 false a g QF) (A := A.in1) hh hl hd hg hgs hgo (fun v s₁ gs' hbare hv => ?_) (fun s₁ hp h' hk => ?_) fun e s₁ he => he.elim))
    · intro hsz
      obtain ⟨hg1, hl1, hb1, c, rfl, hc1, hc2⟩ := hv
      have hsz1 : g < s₁.gens.size := by
        have q : (s₁.setGen g gs').gens.size = s₁.gens.size := setGen_size _ _ _
        have hsz' : g + 1 ≤ (s₁.setGen g gs').gens.size := hsz
        omega
      refine wpAny_bind (wpAny_holding (wpAny_truthy_bool ?_))
      refine wpAny_bind (wpAny_letGo ?_)
      cases c with
      | true =>
        simp only [if_true]
        refine wpAny_pure ⟨plainId_quiet F.plain_all_loop _, ih (s₁.setGen g gs') hg1 hl1 (allBare_setGen hb1 hbare) ⟨gs', setGen_at hsz1, ?_⟩⟩
        exact hc1 rfl _ rfl (allBare_setGen (s := s₁.setGen g gs') (allBare_setGen hb1 hbare) rfl) fun _ _ e => e
      | false =>
        simp only [Bool.false_eq_true, if_false]
        refine wpAny_bind (wpAny_rule (wpAny_pure ?_))
        exact hF _ ((hc2 rfl).keeps rfl (allBare_setGen hb1 hbare) fun _ _ e => e)
    · intro hsz
      refine wpAny_bind (wpAny_rule (wpAny_pure ?_))
      obtain ⟨H', z1, z2, z3⟩ := id hp
      exact hT _ (hp.keeps rfl (allBare_setGen z2 rfl) hk)
/-- all(elt for tg in iter if ..): W by the turn and a measure, Nx what a turn is to reach -/
def tAllG (T : List (Addr × Str)) (wi : TI) (g : TG) (tt : TT) (te : TE) (vs : List Nat) : TE := fun σ H Q => wi σ H fun J H1 => LamX.Tabs T H1 ∧ ∀ H2, LamX.ExtN H1 H2 → LamX.Tabs T H2 → ∃ W : Nat → Nat → Hp → Prop, (∃ m, W 0 m H2) ∧ ∀ i m H, W i m H →
  (J.stop i H ∧ Q (.bl true) H) ∨ (J.go i H ∧ ∀ x H', J.yld i H x H' → g x (wipe σ vs) H' fun σ2 H2 => wipe σ2 vs = wipe σ vs ∧ tt σ2 H2 fun b H3 =>
    if b = true then te σ2 H3 fun y H4 => ∃ c, y = .bl c ∧ (c = true → ∃ m', m' < m ∧ W (i + 1) m' H4) ∧ (c = false → Q (.bl false) H4) else ∃ m', m' < m ∧ W (i + 1) m' H3)
theorem pe_allG {k : Nat} {T : List (Addr × Str)} {c P : Addr} {elt tg iter : Expr} {ifs : List Expr} {scope : Scope} {gpos pos p : Pos} {own : List (Str × Nat)} {wi : TI} {g : TG} {tt : TT} {te : TE} (hr : Room (k + 2) X.A) (hgl : Gl X "all") (hmg : X.mg "all" = none) (TB : LamX.TabB X.base X.mg c P) (hcode : X.env.code = .ref c)
    (hm : (P, X.env.qual ++ "<genexpr>") ∈ T) (hu : ∀ p ∈ T, p.1 = P → p.2 = X.env.qual ++ "<genexpr>") (ok : GxS X.N X.env.scope scope own) (hN : X.N.Nodup) (hi : PI X tg iter wi) (hs : ∀ v, genFold iter X.env v = pure v)
    (hg : ∀ (A : Around) (s : Shared) (H : Hp) (C : Addr) (cl : List (Str × Addr)) (code : Value) (fp : List Addr) (pn : List (Addr × Obj)), PG (gCx X A s H (genEnv scope cl C code builtinsNs X.env) fp pn) tg g)
    (ht : ∀ (A : Around) (s : Shared) (H : Hp) (C : Addr) (cl : List (Str × Addr)) (code : Value) (fp : List Addr) (pn : List (Addr × Obj)), Room k (A.deeper (genEnv scope cl C code builtinsNs X.env)) → PTs (gCx X A s H (genEnv scope cl C code builtinsNs X.env) fp pn) ifs tt)
    (he : ∀ (A : Around) (s : Shared) (H : Hp) (C : Addr) (cl : List (Str × Addr)) (code : Value) (fp : List Addr) (pn : List (Addr × Obj)), Room k (A.deeper (genEnv scope cl C code builtinsNs X.env)) → PE (gCx X A s H (genEnv scope cl C code builtinsNs X.env) fp pn) elt te)
    (hb : bootBuiltins "all" = some (.builtin "all") := by rfl)
    (hst : starEach [.GeneratorExp elt [⟨tg, iter, ifs, 0⟩] scope gpos] X.env = (false, eval (.GeneratorExp elt [⟨tg, iter, ifs, 0⟩] scope gpos) X.env) :: starEach [] X.env := by rfl) :
    PE X (.Call (.Name "all" p) [.GeneratorExp elt [⟨tg, iter, ifs, 0⟩] scope gpos] [] pos) (tAllG T wi g tt te (own.map (·.2))) := by
  refine ⟨fun pins s σ H Q I h => ?_⟩
  refine wpAny_Call_Name_kw (ld_blt I hgl hmg hb ?_)
  refine PyProof.Rows.callWith_builtin1 ?_ hst (by rfl)
  rw [hst]
  show wpAny _ _ (spliced ((false, eval (.GeneratorExp elt [⟨tg, iter, ifs, 0⟩] scope gpos) X.env) :: backTo pos (starEach [] X.env))) _ _ s
  refine Calls.spliced_cons (gen_make (by have := hr.dp; omega) TB hcode hm hu ok hi hs I h fun s4 H4 code J fp it tn a t1 t2 s5 M ⟨W, ⟨m0, w0⟩, turn⟩ => ?_)
  refine Calls.spliced_nil ?_
  refine call_function_tree F.kind_all F.plain_all F.entry_all (F.args_all1 _) ?_
  unfold Builtin.«all»
  refine wpAny_bind (m := oneArg "all" _) (wpAny_pure ?_)
  have hgen : s5.heap.IsGen a s4.gens.size := genObj_at M.obj
  have hb5 : AllBare s5.gens := by rw [M.gens]; exact M.inv.bare.push rfl
  have hl5 : s5.heap.NoLimit := M.inv.nolimit.keeps M.keep
  refine wpAny_bind (wpAny_pyIter_gen hgen ?_)
  have hra : Room (k + 1) X.A.in1.in1 := ⟨hr.hd, by have := hr.dp; show X.A.depth + 3 * (k + 1) + 5 < _; omega, by have := hr.un; show X.A.units + 1 + 1 + 16 * (k + 1) + 200 < _; omega⟩
  generalize hce : genEnv scope (cloFrom X.env.cells scope.names []) s4.heap.objs.size code builtinsNs X.env = ce
  have cs : ce.scope = scope := by rw [← hce]; rfl
  have E : Eats (gCx X X.A.in1.in1 s4 H4 ce fp [(a, genObj s4.gens.size (X.env.qual ++ "<genexpr>") t1 t2)]) fp J (wipe σ (own.map (·.2))) (own.map (·.2)) g tt te (fun i m _ H => W i m H) (fun ip _ => ip = []) (fun n m _ => m < n) (fun _ H => Q (.bl true) H)
      (fun i m _ y H => ∃ c, y = .bl c ∧ (c = true → ∃ m', m' < m ∧ W (i + 1) m' H) ∧ (c = false → Q (.bl false) H)) (allE X fp s4 H4 fun H => Q (.bl true) H) (allY X fp s4 H4 false a s4.gens.size fun H => Q (.bl false) H) := by
    have off : ∀ {ip : List (Addr × Obj)} {σ' : L2.St} {H' : Hp} {s' : Shared} {R : Hp → Prop}, Inv (gCx X X.A.in1.in1 s4 H4 ce fp [(a, genObj s4.gens.size (X.env.qual ++ "<genexpr>") t1 t2)]) ip σ' H' s' → R H' → Off X fp s4 H4 R s' := fun I' r => ⟨_, I'.os, I'.bare, I'.base, I'.hok, r⟩
    refine ⟨fun ip ys h p hp => ?_, fun n m s₀ ys ip H' s' _ _ I' q => .inl ⟨.inr rfl, off I' q⟩, fun n m i ys y H' hj _ => ⟨n - 1, by omega⟩, fun n m m' ys h1 h2 => by omega, fun n m i s₀ ys ip σ' H' s' y v kap hj hk I' rv yc w => ?_, fun i m ys H hw => turn i m H hw⟩
    · rw [h] at hp
      cases hp
    · obtain ⟨c, rfl, c1, c2⟩ := yc
      obtain rfl : v = .bool c := rv
      subst hk
      refine ⟨genObj_at (I'.pin (a, _) (List.mem_append_left _ (List.mem_singleton.mpr rfl))).1, I'.nolimit, I'.bare, c, rfl, fun hc s2 ho hb2 hk2 => ?_, fun hc => off I' (c2 hc)⟩
      obtain ⟨m', hm', w'⟩ := c1 hc
      exact w [] m' s2 hm' w' (by omega) rfl (I'.call' (ch := []) ho (Un.kept hk2) (I'.hok.kept hk2) hb2 fun b z => by simp at z) fun b _ o e => hk2 b o e
  have hgs : s5.gens[s4.gens.size]? = some (.fresh (.compStart (.GeneratorExp elt [⟨tg, iter, ifs, 0⟩] scope gpos) 0 (.ref it) .none ce)) := by rw [M.gens, ← hce]; exact Array.getElem?_push_size ..
  have pg := hg X.A.in1.in1 s4 H4 s4.heap.objs.size (cloFrom X.env.cells scope.names []) code fp [(a, genObj s4.gens.size (X.env.qual ++ "<genexpr>") t1 t2)]
  have pt := ht X.A.in1.in1 s4 H4 s4.heap.objs.size (cloFrom X.env.cells scope.names []) code fp [(a, genObj s4.gens.size (X.env.qual ++ "<genexpr>") t1 t2)] (hra.deeper _)
  have pe := he X.A.in1.in1 s4 H4 s4.heap.objs.size (cloFrom X.env.cells scope.names []) code fp [(a, genObj s4.gens.size (X.env.qual ++ "<genexpr>") t1 t2)] (hra.deeper _)
  have I6 := M.inv' (s6 := s5.setGen s4.gens.size .running) (A := X.A.in1.in1) ok hN hr.hd M.inv.ok.frames (fun _ _ e => e) rfl (allBare_setGen hb5 rfl)
  rw [hce] at pg pt pe I6
  refine wpAny_pure ⟨plainId_quiet F.plain_all_loop _, all_loop (X := X) (QT := fun H => Q (.bl true) H) (QF := fun H => Q (.bl false) H) (fp := fp) (s4 := s4) (H4 := H4) hr.hd (by have := hr.dp; show X.A.depth < _; omega) (fun s' o => ?_) (fun s' o => ?_) (m0 + 1) s5 hgen hl5 hb5 ⟨_, hgs, rfl, ?_⟩⟩
  · obtain ⟨H', I', q⟩ := o.back M
    exact ⟨.bl true, H', I', rfl, q⟩
  · obtain ⟨H', I', q⟩ := o.back M
    exact ⟨.bl false, H', I', rfl, q⟩
  · exact seg_gx0 E M.turn pg pt pe (by rw [cs]; exact ok.co) (fun p hp z => by
      rw [List.mem_singleton.mp hp] at z
      exact absurd (M.fp _ z).2 (Nat.not_lt.mpr (Nat.le_of_lt M.lt))) m0 (m0 + 1) _ _ H4 [] (Nat.lt_succ_self _) w0 rfl I6 (M.turn.keep _ _ _ M.st fun b _ o e => M.keep b o e) fun b hb => (M.fp b hb).1.1
end
end GX
namespace GX
open PySem PySem.Spec PyProof.Rows L2 GenW
section
variable {X : Cx} {pins : List (Addr × Obj)} {σ : L2.St} {H : Hp} {s : Shared}
/-- (elt for tg in iter if ..), all of which will be taken: W by the turn, a measure and what is out -/
def tGx (T : List (Addr × Str)) (wi : TI) (g : TG) (tt : TT) (te : TE) (vs : List Nat) : TGen := fun σ H cont => wi σ H fun J H1 => LamX.Tabs T H1 ∧ ∀ H2, LamX.ExtN H1 H2 → LamX.Tabs T H2 → ∃ W : Nat → Nat → List V → Hp → Prop, (∃ m, W 0 m [] H2) ∧ ∀ i m ys H, W i m ys H →
  (J.stop i H ∧ cont ys H) ∨ (J.go i H ∧ ∀ x H', J.yld i H x H' → g x (wipe σ vs) H' fun σ2 H2 => wipe σ2 vs = wipe σ vs ∧ tt σ2 H2 fun b H3 =>
    if b = true then te σ2 H3 fun y H4 => ys.length < sizeLine ∧ ∃ m', m' < m ∧ W (i + 1) m' (ys ++ [y]) H4 else ∃ m', m' < m ∧ W (i + 1) m' ys H3)
theorem pgen_gx {k : Nat} {T : List (Addr × Str)} {c P : Addr} {elt tg iter : Expr} {ifs : List Expr} {scope : Scope} {gpos : Pos} {own : List (Str × Nat)} {wi : TI} {g : TG} {tt : TT} {te : TE} {E : XK} (hr : Room (k + 1) X.A) (TB : LamX.TabB X.base X.mg c P) (hcode : X.env.code = .ref c)
    (hm : (P, X.env.qual ++ "<genexpr>") ∈ T) (hu : ∀ p ∈ T, p.1 = P → p.2 = X.env.qual ++ "<genexpr>") (ok : GxS X.N X.env.scope scope own) (hN : X.N.Nodup) (hi : PI X tg iter wi) (hs : ∀ v, genFold iter X.env v = pure v)
    (hg : ∀ (A : Around) (s : Shared) (H : Hp) (C : Addr) (cl : List (Str × Addr)) (code : Value) (fp : List Addr) (pn : List (Addr × Obj)), PG (gCx X A s H (genEnv scope cl C code builtinsNs X.env) fp pn) tg g)
    (ht : ∀ (A : Around) (s : Shared) (H : Hp) (C : Addr) (cl : List (Str × Addr)) (code : Value) (fp : List Addr) (pn : List (Addr × Obj)), Room k (A.deeper (genEnv scope cl C code builtinsNs X.env)) → PTs (gCx X A s H (genEnv scope cl C code builtinsNs X.env) fp pn) ifs tt)
    (he : ∀ (A : Around) (s : Shared) (H : Hp) (C : Addr) (cl : List (Str × Addr)) (code : Value) (fp : List Addr) (pn : List (Addr × Obj)), Room k (A.deeper (genEnv scope cl C code builtinsNs X.env)) → PE (gCx X A s H (genEnv scope cl C code builtinsNs X.env) fp pn) elt te) :
    PGen X (k + 1) (.GeneratorExp elt [⟨tg, iter, ifs, 0⟩] scope gpos) (tGx T wi g tt te (own.map (·.2))) E := by
  refine ⟨fun pins s σ H cont I h => ?_⟩
  refine gen_make (by have := hr.dp; omega) TB hcode hm hu ok hi hs I h fun s4 H4 code J fp it tn a t1 t2 s5 M ⟨W, ⟨m0, w0⟩, turn⟩ => ?_
  have hgen : s5.heap.IsGen a s4.gens.size := genObj_at M.obj
  have hb5 : AllBare s5.gens := by rw [M.gens]; exact M.inv.bare.push rfl
  have hl5 : s5.heap.NoLimit := M.inv.nolimit.keeps M.keep
  refine ⟨H4, s4, fp, M.inv, fun b hb => let f := (M.fp b hb).1; ⟨f.2.2.2.1, f.2.1, f.2.2.2.2.1, f.2.2.2.2.2⟩, a, s4.gens.size, .compStart (.GeneratorExp elt [⟨tg, iter, ifs, 0⟩] scope gpos) 0 (.ref it) .none (genEnv scope (cloFrom X.env.cells scope.names []) s4.heap.objs.size code builtinsNs X.env), rfl, Nat.le_of_lt M.lt, M.lt', hgen, by rw [M.gens]; exact Array.getElem?_push_size .., M.os, hb5, hl5, M.keep, fun A S s2 hrA hfr hS hk2 hSo hos hb2 => ?_⟩
  obtain ⟨cS, hSe⟩ := hSo
  have pg := hg A s4 H4 s4.heap.objs.size (cloFrom X.env.cells scope.names []) code fp [(a, genObj s4.gens.size (X.env.qual ++ "<genexpr>") t1 t2)]
  have pt := ht A s4 H4 s4.heap.objs.size (cloFrom X.env.cells scope.names []) code fp [(a, genObj s4.gens.size (X.env.qual ++ "<genexpr>") t1 t2)] (hrA.deeper _)
  have pe := he A s4 H4 s4.heap.objs.size (cloFrom X.env.cells scope.names []) code fp [(a, genObj s4.gens.size (X.env.qual ++ "<genexpr>") t1 t2)] (hrA.deeper _)
  have I6 := M.inv' (s6 := s2) (A := A) ok hN hrA.hd hfr hk2 (hos.trans M.os.symm) hb2
  generalize hce : genEnv scope (cloFrom X.env.cells scope.names []) s4.heap.objs.size code builtinsNs X.env = ce at pg pt pe I6 ⊢
  have cs : ce.scope = scope := by rw [← hce]; rfl
  have cl : ce.locals = s4.heap.objs.size := by rw [← hce]; rfl
  have hSa : a < S := Nat.lt_of_lt_of_le M.lt' hS
  have hS4 : s4.heap.objs.size < S := Nat.lt_trans M.lt hSa
  have hSn : ∀ {ip : List (Addr × Obj)} {σ' : L2.St} {H' : Hp} {s' : Shared}, Inv (gCx X A s4 H4 ce fp [(a, genObj s4.gens.size (X.env.qual ++ "<genexpr>") t1 t2)]) ip σ' H' s' → True := fun _ => trivial
  have hSst : S ∉ frs X.stack := fun z => by
    rcases List.mem_cons.mp (M.inv.stkSub _ z) with e | e
    · have h1 := M.inv.lt
      rw [← e] at h1
      exact Nat.lt_irrefl _ (Nat.lt_trans h1 hS4)
    · exact M.inv.nofs (Nat.le_of_lt hS4) e
  have I7 : Inv (gCx X A s4 H4 ce fp [(a, genObj s4.gens.size (X.env.qual ++ "<genexpr>") t1 t2)]) [(S, lstObj #[] cS)] (wipe σ (own.map (·.2))) H4 s2 := I6.pins_of fun p hp => by
    rw [List.mem_singleton.mp hp]
    exact ⟨hSe, M.inv.hok.fresh (Nat.le_of_lt hS4), by show S ≠ ce.locals; rw [cl]; exact Nat.ne_of_gt hS4, hSst, fun v q => by cases q⟩
  have hcells : ∀ x c, ce.cells.lookup x = some c → c ≠ S := fun x c e z => by
    obtain ⟨v, q⟩ := I6.cell x c e
    have I6b := I6.freeC x c e
    have e2 : (cloFrom X.env.cells scope.names []).lookup x = some c := by rw [← hce] at e; exact e
    rcases cloFrom_mem (PySem.mem_of_lookup e2) with hm | ⟨h1, h2⟩
    · cases hm
    · have h3 : ∃ c1, X.env.cells.lookup x = some c1 := by
        rcases ok.free _ h1 rfl with k | k
        · exact M.inv.ok.has _ (.inl k)
        · exact M.inv.ok.has _ (.inr k)
      obtain ⟨c1, hc1⟩ := h3
      rw [hc1] at h2
      have h4 : c = c1 := h2
      obtain ⟨v1, q1⟩ := M.inv.cell x c1 hc1
      have := q1.lt
      rw [← h4, z] at this
      exact Nat.lt_irrefl _ (Nat.lt_trans this hS4)
  have hAp : Apart (gCx X A s4 H4 ce fp [(a, genObj s4.gens.size (X.env.qual ++ "<genexpr>") t1 t2)]) S := ⟨Nat.le_of_lt hS4, by show S ≠ ce.locals; rw [cl]; exact Nat.ne_of_gt hS4, hcells⟩
  have hSfp : S ∉ fp := fun z => Nat.lt_irrefl _ (Nat.lt_trans (M.fp S z).2 hS4)
  have E : Eats (gCx X A s4 H4 ce fp [(a, genObj s4.gens.size (X.env.qual ++ "<genexpr>") t1 t2)]) fp J (wipe σ (own.map (·.2))) (own.map (·.2)) g tt te W (fun ip ys => ∃ acc c, Vals ys acc.toList ∧ ip = [(S, lstObj acc c)]) (fun n _ ys => n + ys.length = sizeLine) cont
      (fun i m ys y H => ys.length < sizeLine ∧ ∃ m', m' < m ∧ W (i + 1) m' (ys ++ [y]) H) (REnd X.prog X.w X.stack H4 s4 fp S a s4.gens.size cont E) (YItem s4 S a s4.gens.size) := by
    refine ⟨fun ip ys h p hp => ?_, fun n m s₀ ys ip H' s' hj hk I' q => ?_, fun n m i ys y H' hj hy => ⟨n - 1, ?_⟩, fun n m m' ys h1 h2 => h2, fun n m i s₀ ys ip σ' H' s' y v kap hj hk I' rv yc w => ?_, fun i m ys H hw => turn i m ys H hw⟩
    · obtain ⟨acc, c, _, rfl⟩ := h
      rw [List.mem_singleton.mp hp]
      exact hSfp
    · obtain ⟨acc, c, hv, rfl⟩ := hk
      obtain ⟨p1, p2, _⟩ := I'.pin (S, lstObj acc c) (List.mem_append_right _ (List.mem_singleton.mpr rfl))
      exact .inl ⟨.inr rfl, H', ys, acc, c, I'.os, I'.bare, I'.base, I'.hok, p2, p1, hv, by omega, q⟩
    · have := hy.1
      have hj : n + ys.length = sizeLine := hj
      omega
    · obtain ⟨acc, c, hv, rfl⟩ := hk
      obtain ⟨p1, p2, _⟩ := I'.pin (S, lstObj acc c) (List.mem_append_right _ (List.mem_singleton.mpr rfl))
      obtain ⟨_, m', hm', w'⟩ := yc
      have hj : n + 1 + ys.length = sizeLine := hj
      have hsz : acc.size = ys.length := by
        have e1 := hv.length
        have e2 : acc.toList.length = acc.size := by simp
        omega
      refine ⟨I'.os, I'.bare, I'.nolimit, genObj_at (I'.pin (a, _) (List.mem_append_left _ (List.mem_singleton.mpr rfl))).1, ⟨acc, c, p1, by rw [hsz]; exact hj⟩, fun s3 sl => ?_⟩
      obtain ⟨acc', c', hv', I3⟩ := GI.woken (ip := []) (fun p hp => by rw [List.mem_singleton.mp hp]; exact Nat.ne_of_lt hSa) (fun p hp => by cases hp) hAp (⟨acc, c, hv, I'⟩ : GI _ S [] ys σ' H' s') rv sl
      exact w [(S, lstObj acc' c')] m' s3 hm' w' (by show n + (ys ++ [y]).length = sizeLine; rw [List.length_append]; simp; omega) ⟨acc', c', hv', rfl⟩ I3 fun b hb o e => sl.keep b o (fun z => hSfp (by rw [← z]; exact hb)) e
  exact seg_gx0 E M.turn pg pt pe (by rw [cs]; exact ok.co) (fun p hp z => by
      rw [List.mem_singleton.mp hp] at z
      exact absurd (M.fp _ z).2 (Nat.not_lt.mpr (Nat.le_of_lt M.lt))) m0 sizeLine _ _ H4 _ (by show sizeLine + 0 = sizeLine; omega) w0 ⟨#[], cS, .nil, rfl⟩ I7 (M.turn.keep _ _ _ M.st fun b _ o e => hk2 b o (M.keep b o e)) fun b hb => (M.fp b hb).1.1
end
end GX
namespace GX
open PySem PySem.Spec PyProof.Rows L2 GenW
section
variable {P : Program} {w : World} {outer : List Env} {H : Hp} {sc s : Shared} {ex : List Addr} {Q : List V → Hp → Prop} {EX : XK} {A : Around} {k : Nat} {u : Value} {E : Value → Shared → Prop}
theorem noCX (hx : ∀ cls d H, ¬ EX cls d H) {e : Value} {s' : Shared} (c : CX P w outer H sc EX e s') : False := by
  obtain ⟨a, B, H', cls, d, _, _, _, _, _, _, _, hW⟩ := c
  exact hx cls d H' hW
/-- all that the generator gives, in a list of the consumer's own -/
theorem collectG {Q' : List Value → Shared → Prop} (hx : ∀ cls d H, ¬ EX cls d H) (hr : Room (k + 2) A) (hfr : A.frames = some outer) (h : GMade P w k outer H sc ex Q EX u s)
    (hQ : ∀ (s' : Shared) (acc : Array Value) (H' : Hp) (ys : List V), Vals ys acc.toList → ys.length ≤ sizeLine → s'.os = sc.os → AllBare s'.gens → Un (frs outer) ex H H' sc.heap s'.heap → HOk P w H' s'.heap → Q ys H' → Q' acc.toList s') :
    wpAny (model P w) A (collect u) Q' E s := by
  obtain ⟨a, g, c, rfl, ha1, ha2, hg, hgs, hos, hb, hl, hkp, wake⟩ := h
  have hSa : s.heap.objs.size ≠ a := Nat.ne_of_gt ha2
  have hcl : cStatics < s.heap.objs.size := let ⟨_, hn, _⟩ := hl; hn.lt
  have hSc : s.heap.objs.size ≠ cStatics := Nat.ne_of_gt hcl
  unfold collect
  refine wpAny_bind (wpAny_runValue (codeAny_builtin F.entry_proto_collect ?_))
  rw [Around.under_plainId F.plain_proto_collect _]
  show wpAny _ A.in1 (newList [] >>= fun l => again (.builtin "list.__iadd__" ⟨[l, .ref a], []⟩)) _ _ s
  refine wpAny_bind (wpAny_newObj_type ?_)
  refine wpAny_pure ⟨plainId_quiet F.plain_list_iadd _, codeAny_builtin F.entry_list_iadd ?_⟩
  rw [Around.under_plainId F.plain_list_iadd _]
  have up : ∀ (h : Heap) (f : Obj → Obj), (∀ b o, s.heap.get? b = some o → h.get? b = some o) → ∀ b o, s.heap.get? b = some o → (h.update s.heap.objs.size f).get? b = some o := fun h f q b o e =>
    (Heap.get?_update_other _ _ (Ne.symm (Nat.ne_of_lt (Heap.lt_size e)))).trans (q b o e)
  have k1 : ∀ b o, s.heap.get? b = some o → (s.heap.push { cls := .type "list", data := .seq ([] : List Value).toArray }).get? b = some o := fun b o e => Heap.get?_push_of_some _ e
  have gty : ∀ {h : Heap}, (∀ b o, s.heap.get? b = some o → h.get? b = some o) → h.IsGen a g := fun {h} q => hg.keeps q
  show wpAny _ A.in1 (Builtin.List.listExtendWith (.ref s.heap.objs.size) (.ref a) (.ref s.heap.objs.size)) _ _ _
  unfold Builtin.List.listExtendWith
  refine wpAny_bind (wpAny_typeOf (Heap.IsGen.typeIs (s := { s with heap := _ }) (gty k1)) ?_)
  have h1 : Builtin.List.listSameRef (.ref s.heap.objs.size) (.ref a) = false := by simp [Builtin.List.listSameRef, hSa]
  have h2 : (Value.type "generator" == Value.type "list") = false := by decide
  have h3 : (Value.type "generator" == Value.type "tuple") = false := by decide
  simp only [h1, h2, h3, Bool.or_false, Bool.false_eq_true, if_false]
  refine wpAny_bind (wpAny_pyIter_gen (s := { s with heap := _ }) (gty k1) ?_)
  refine wpAny_bind (wpAny_holding ?_)
  unfold Builtin.List.listLengthHint
  refine wpAny_bind (wpAny_specialOf (Heap.IsGen.typeIs (s := { s with heap := _ }) (gty k1)) F.gen_no_len ?_)
  show wpAny _ A.in1 (specialOf (Value.ref a) (Str.ofString "__length_hint__") >>= _) _ _ _
  refine wpAny_bind (wpAny_specialOf (Heap.IsGen.typeIs (s := { s with heap := _ }) (gty k1)) F.gen_no_hint ?_)
  refine wpAny_pure ?_
  show wpAny _ A.in1 (rule "list.extend.makes-room" >>= fun _ => Builtin.List.listTouch (.ref s.heap.objs.size) >>= fun _ =>
    again (.builtin "list.extend.loop" ⟨[.ref s.heap.objs.size, .ref a, .ref s.heap.objs.size], []⟩)) _ _ _
  refine wpAny_bind (wpAny_rule ?_)
  have hS1 : (s.heap.push { cls := .type "list", data := .seq ([] : List Value).toArray }).get? s.heap.objs.size = some { cls := .type "list", data := .seq ([] : List Value).toArray } := Heap.get?_push_size _ rfl
  refine wpAny_bind ?_
  show wpAny _ A.in1 (updateSeq s.heap.objs.size (·.push .none) >>= fun _ => updateSeq s.heap.objs.size (·.pop)) _ _ _
  refine wpAny_bind (wpAny_updateSeq hS1 rfl ?_)
  have hS2 := Heap.get?_update_self (Obj.mapSeq (·.push Value.none)) hS1 rfl
  refine wpAny_updateSeq (hz := by seq_fits) hS2 rfl ?_
  have hS3 := Heap.get?_update_self (Obj.mapSeq (·.pop)) hS2 rfl
  have k4 := up _ (Obj.mapSeq (·.pop)) (up _ (Obj.mapSeq (·.push Value.none)) k1)
  refine wpAny_pure ⟨plainId_quiet F.plain_extend_loop _, ?_⟩
  refine drain (P := P) (w := w) (outer := outer) (H := H) (sc := sc) (ex := ex) (Q := Q) (EX := EX) (A := A) (g := g) hr.hd (by have := hr.dp; show A.depth < _; omega) hSa hSc
    (fun s' acc c H' ys q1 q2 q3 q4 q5 q6 q7 q8 q9 => ?_) (fun e s' hc => (noCX hx hc).elim)
    sizeLine _ (gty k4) (hl.keeps k4) ⟨_, hgs, rfl, ?_⟩
  · show wpAny _ A (load s.heap.objs.size >>= _) _ _ s'
    refine wpAny_bind (wpAny_load q1 ?_)
    exact wpAny_pure (hQ s' acc H' ys q2 q3 q4 q5 q6 q7 q9)
  · refine wake _ _ _ ⟨hr.hd, ?_, ?_⟩ hfr (Nat.le_refl _) k4 ⟨_, hS3⟩ hos (allBare_setGen (s := { s with heap := _ }) hb rfl)
    · have := hr.dp
      show A.depth + 3 * k + 5 < _
      omega
    · have := hr.un
      show A.units + 1 + 1 + 16 * k + 200 < _
      omega
theorem tuple_newG {Q1 : Value → Shared → Prop} (hx : ∀ cls d H, ¬ EX cls d H) (hr : Room (k + 3) A) (hfr : A.frames = some outer) (h : GMade P w k outer H sc ex Q EX u s)
    (hQ : ∀ (s' : Shared) (acc : Array Value) (H' : Hp) (ys : List V), Vals ys acc.toList → ys.length ≤ sizeLine → s'.os = sc.os → AllBare s'.gens → Un (frs outer) ex H H' sc.heap s'.heap → HOk P w H' s'.heap → Q ys H' → Q1 (.ref s'.heap.objs.size) { s' with heap := s'.heap.push { cls := .type "tuple", data := .seq acc } }) :
    codeAny (model P w) A (.call (.builtin "tuple.__new__") ⟨[.type "tuple", u], []⟩) (wants Q1 E) s := by
  have hh := h
  obtain ⟨a, g, c, rfl, ha1, ha2, hg, hgs, hos, hb, hl, hkp, wake⟩ := h
  refine codeAny_of_tree ?_
  show wpAny _ A.in1 (do checkBuiltinCall "tuple.__new__" ⟨[.type "tuple", .ref a], []⟩; again (.builtin "tuple.__new__" ⟨[.type "tuple", .ref a], []⟩)) _ _ s
  refine wpAny_bind (wpAny_of_eq (F.newCall_tuple_1 _) (wpAny_pure ⟨plainId_quiet F.plain_tuple_new _, codeAny_builtin F.entry_tuple_new ?_⟩))
  rw [Around.under_plainId F.plain_tuple_new _]
  have hsub := sub_tuple_self
  have hinit := init_tuple_lookup
  have hmh := madeHere_tuple
  have hTI : s.TypeIs (.ref a) "generator" := Heap.IsGen.typeIs hg
  have hr1 : Room (k + 2) A.in1 := ⟨hr.hd, by have := hr.dp; show A.depth + 3 * (k + 2) + 5 < _; omega, by have := hr.un; show A.units + 1 + 16 * (k + 2) + 200 < _; omega⟩
  wp_walk using wpAny_typeOf hTI, collectG (A := A.in1) hx hr1 hfr hh
  intro s' acc H' ys q1 q2 q3 q4 q5 q6 q7
  show wpAny _ _ (Builtin.Tuple.tupleExact acc.toList.toArray >>= fun v => ret v) _ _ _
  unfold Builtin.Tuple.tupleExact
  have hsz : acc.size ≤ sizeLine := by
    have e1 := q1.length
    have e2 : acc.toList.length = acc.size := by simp
    omega
  refine wpAny_bind (wpAny_newObj_type ?_ (by show acc.toList.toArray.size ≤ sizeLine; simp only [Array.toArray_toList]; exact hsz))
  refine wpAny_pure ?_
  have e : acc.toList.toArray = acc := by simp
  rw [e]
  exact hQ s' acc H' ys q1 q2 q3 q4 q5 q6 q7
theorem call_tupleG {Q' : Value → Shared → Prop} (hx : ∀ cls d H, ¬ EX cls d H) (hr : Room (k + 4) A) (hfr : A.frames = some outer) (h : GMade P w k outer H sc ex Q EX u s)
    (hQ : ∀ (s' : Shared) (acc : Array Value) (H' : Hp) (ys : List V), Vals ys acc.toList → ys.length ≤ sizeLine → s'.os = sc.os → AllBare s'.gens → Un (frs outer) ex H H' sc.heap s'.heap → HOk P w H' s'.heap → Q ys H' → Q' (.ref s'.heap.objs.size) { s' with heap := s'.heap.push { cls := .type "tuple", data := .seq acc } }) :
    wpAny (model P w) A (call (.type "tuple") [u]) Q' E s := by
  have hr1 : Room (k + 3) A.in1 := ⟨hr.hd, by have := hr.dp; show A.depth + 3 * (k + 3) + 5 < _; omega, by have := hr.un; show A.units + 1 + 16 * (k + 3) + 200 < _; omega⟩
  have hu : ∃ a, u = .ref a := by
    obtain ⟨a, g, c, rfl, _⟩ := h
    exact ⟨a, rfl⟩
  obtain ⟨a, rfl⟩ := hu
  refine callType_codes (Q₁ := fun obj s₁ => s₁.TypeIs obj "tuple" ∧ Q' obj s₁) F.called_tuple (F.typeCall_tuple_1 _) F.entry_object_init
    (tuple_newG (A := A.in1) hx hr1 hfr h fun s' acc H' ys q1 q2 q3 q4 q5 q6 q7 => ⟨⟨_, Heap.get?_push_size _ rfl, rfl⟩, hQ s' acc H' ys q1 q2 q3 q4 q5 q6 q7⟩) fun obj s₁ h₁ => ?_
  exact ⟨h₁.1, F.args_object_init_2 obj _, object_init_meets F.called_tuple.init.lookup F.called_tuple.made (by decide) P w A.in1 _ s₁ ⟨h₁.1, rfl, h₁.2⟩⟩
end
section
variable {X : Cx}
def tTupG (tg : TGen) : TE := fun σ H Q => tg σ H fun out H2 => ∀ p, H2 p = none → Q (.ref p) (upd H2 p (.tup out))
/-- tuple(g) -/
theorem pe_tupG {k : Nat} {e : Expr} {tg : TGen} {p pos : Pos} (h : PGen X k e tg (fun _ _ _ => False)) (hr : Room (k + 4) X.A) (hg : Gl X "tuple") (hm : X.mg "tuple" = none) (na : starEach [e] X.env = (false, eval e X.env) :: starEach [] X.env := by rfl) :
    PE X (.Call (.Name "tuple" p) [e] [] pos) (tTupG tg) := by
  refine ⟨fun pins s σ H Q I hq => ?_⟩
  refine Call_ (ld_blt I hg hm boot_tuple (PyProof.Rows.callWith_type1 ?_ na))
  refine args_cons (thn (h.run pins s σ H _ I hq) fun u s1 ⟨H1, sc, ex, I1, hex, hG⟩ => args_nil ?_) na
  refine call_tupleG (fun _ _ _ z => z) hr I1.ok.frames hG fun s' acc H' ys q1 q2 q3 q4 q5 q6 q7 => ?_
  have I2 : Inv X pins σ H' s' := I1.call' (ch := ex) q3 q5 q6 q4 hex
  have I3 : Inv X pins σ (upd H' s'.heap.objs.size (.tup ys)) { s' with heap := s'.heap.push { cls := .type "tuple", data := .seq acc } } :=
    I2.laid (t' := s'.toks) (fun b o e => Heap.get?_push_of_some _ e) (Nat.le_refl _) (show ObjOk X.prog X.w _ _ _ (.tup ys) from ⟨q2, acc.toList, q1, by have := IsTup.new s'.heap acc.toList.toArray; simpa using this⟩)
  exact ⟨.ref s'.heap.objs.size, _, I3, rfl, q7 _ (I2.hok.fresh (Nat.le_refl _))⟩
end
end GX
namespace GX
open PySem PySem.Spec PyProof.Rows L2 GenW
end GX
namespace GX
open PySem PySem.Spec PyProof.Rows L2 GenW
/-- what a consumer wants of the walk of a block with two clauses -/
structure Eats2 (Z : Cx) (fp SA : List Addr) (J : It) (σ : L2.St) (vs vs1 : List Nat) (g : TG) (tt : TT) (wi1 : TI) (g1 : TG) (tt1 : TT) (te : TE) (W : Nat → Nat → List V → Hp → Prop) (K : List (Addr × Obj) → List V → Prop) (JN : Nat → List V → Prop) (QE : List V → Hp → Prop) (YC : List V → V → Hp → Prop → Prop) (RE : GenEnd) (YP : Protocol) : Prop where
  addr : ∀ ip ys, K ip ys → ∀ p ∈ ip, p.1 ∈ SA
  has : ∀ ip ys, K ip ys → ∀ a ∈ SA, ∃ o, (a, o) ∈ ip
  sa : ∀ b ∈ fp, b ∉ SA
  fin : ∀ n s₀ ys ip H' s', JN n ys → K ip ys → Inv Z ip σ H' s' → QE ys H' → RE n s₀ (.ok .next) s'
  pos : ∀ n ys y H' N, JN n ys → YC ys y H' N → ∃ n', n = n' + 1
  give : ∀ n s₀ ys ip σ' H' s' y v kap N, JN (n + 1) ys → K ip ys → Inv Z ip σ' H' s' → RelV y v → YC ys y H' N →
    (N → ∀ ip2 s2, JN n (ys ++ [y]) → K ip2 (ys ++ [y]) → Inv Z ip2 σ' H' s2 → (∀ b, b ∉ SA → ∀ o, s'.heap.get? b = some o → s2.heap.get? b = some o) → kap (.send .none) s2) → YP n s₀ v s' kap
  turn : ∀ i m ys H, W i m ys H → (J.stop i H ∧ QE ys H) ∨ (J.go i H ∧ ∀ x H', J.yld i H x H' → g x σ H' fun σ2 H2 => wipe σ2 vs = σ ∧ tt σ2 H2 fun b H3 =>
    if b = true then wi1 σ2 H3 fun J1 H4 => ∃ W1 : Nat → Nat → List V → Hp → Prop, (∃ k, W1 0 k ys H4) ∧ ∀ j k ys H, W1 j k ys H →
      (J1.stop j H ∧ ∃ m', m' < m ∧ W (i + 1) m' ys H) ∨ (J1.go j H ∧ ∀ x H', J1.yld j H x H' → g1 x (wipe σ2 vs1) H' fun σ3 H5 => wipe σ3 vs1 = wipe σ2 vs1 ∧ tt1 σ3 H5 fun b H6 =>
        if b = true then te σ3 H6 fun y H7 => YC ys y H7 (∃ k', k' < k ∧ W1 (j + 1) k' (ys ++ [y]) H7) else ∃ k', k' < k ∧ W1 (j + 1) k' ys H6)
    else ∃ m', m' < m ∧ W (i + 1) m' ys H3)
section
variable {X : Cx} {A : Around} {s4 : Shared} {H4 : Hp} {cenv : Env} {fp SA : List Addr} {pn : List (Addr × Obj)} {J : It} {σ : L2.St} {vs vs1 : List Nat} {g : TG} {tt : TT} {wi1 : TI} {g1 : TG} {tt1 : TT} {te : TE} {W : Nat → Nat → List V → Hp → Prop} {K : List (Addr × Obj) → List V → Prop} {JN : Nat → List V → Prop} {QE : List V → Hp → Prop} {YC : List V → V → Hp → Prop → Prop} {RE : GenEnd} {YP : Protocol} {it : Addr} {tn : Nat → Heap → Prop}
  {elt tg iter tg1 iter1 : Expr} {ifs ifs1 : List Expr} {scope : Scope} {pos : Pos}
end
end GX
namespace GX
open PySem PySem.Spec PyProof.Rows L2 GenW
section
variable {X : Cx} {pins : List (Addr × Obj)} {σ : L2.St} {H : Hp} {s : Shared}
/-- a generator has been made: it has not begun -/
structure Made2 (X : Cx) (pins : List (Addr × Obj)) (σ : L2.St) (elt tg iter tg1 iter1 : Expr) (ifs ifs1 : List Expr) (scope : Scope) (pos : Pos) (s4 : Shared) (H4 : Hp) (code : Value) (J : It) (fp : List Addr) (it : Addr) (tn : Nat → Heap → Prop) (a : Addr) (t1 t2 : Tok) (s5 : Shared) : Prop where
  inv : Inv X pins σ H4 s4
  turn : Turn X.prog X.w X.K tg J fp it tn
  st : tn 0 s4.heap
  fp : ∀ b ∈ fp, FpOk X pins H4 b ∧ b < s4.heap.objs.size
  ns : ∃ m, s5.heap.Ns s4.heap.objs.size m
  keep : ∀ b o, s4.heap.get? b = some o → s5.heap.get? b = some o
  lt : s4.heap.objs.size < a
  lt' : a < s5.heap.objs.size
  obj : s5.heap.get? a = some (genObj s4.gens.size (X.env.qual ++ "<genexpr>") t1 t2)
  gens : s5.gens = s4.gens.push (.fresh (.compStart (.GeneratorExp elt [⟨tg, iter, ifs, 0⟩, ⟨tg1, iter1, ifs1, 0⟩] scope pos) 0 (.ref it) .none (genEnv scope (cloFrom X.env.cells scope.names []) s4.heap.objs.size code builtinsNs X.env)))
  os : s5.os = s4.os
/-- woken in A, at a heap that keeps all that stood when it was made -/
theorem Made2.inv' {elt tg iter tg1 iter1 : Expr} {ifs ifs1 : List Expr} {scope : Scope} {pos : Pos} {own : List (Str × Nat)} {s4 : Shared} {H4 : Hp} {code : Value} {J : It} {fp : List Addr} {it : Addr} {tn : Nat → Heap → Prop} {a : Addr} {t1 t2 : Tok} {s5 s6 : Shared} {A : Around}
    (M : Made2 X pins σ elt tg iter tg1 iter1 ifs ifs1 scope pos s4 H4 code J fp it tn a t1 t2 s5) (ok : GxS X.N X.env.scope scope own) (hN : X.N.Nodup) (hA : A.handled = none) (hfr : A.frames = some X.stack) (kp : ∀ b o, s5.heap.get? b = some o → s6.heap.get? b = some o) (hos : s6.os = s5.os) (hb : AllBare s6.gens) :
    Inv (gCx X A s4 H4 (genEnv scope (cloFrom X.env.cells scope.names []) s4.heap.objs.size code builtinsNs X.env) fp [(a, genObj s4.gens.size (X.env.qual ++ "<genexpr>") t1 t2)]) [] (wipe σ (own.map (·.2))) H4 s6 := by
  obtain ⟨m, hns⟩ := M.ns
  refine gen_inv M.inv ok hN hA hfr M.fp (fun b o e => kp b o (M.keep b o e)) (hns.keeps kp) (hos.trans M.os) hb fun p hp => ?_
  rw [List.mem_singleton.mp hp]
  have hge : s4.heap.objs.size ≤ a := Nat.le_of_lt M.lt
  refine ⟨kp a _ M.obj, M.inv.hok.fresh hge, Nat.ne_of_gt M.lt, fun z => ?_, fun v q => by cases q⟩
  rcases List.mem_cons.mp (M.inv.stkSub _ z) with e | e
  · have h1 := M.inv.lt
    rw [← e] at h1
    exact Nat.lt_irrefl _ (Nat.lt_of_lt_of_le h1 hge)
  · exact M.inv.nofs hge e
end
end GX
namespace GX
open PySem PySem.Spec PyProof.Rows L2 GenW
section
variable {X : Cx} {A : Around} {s4 : Shared} {H4 : Hp} {cenv : Env} {fp SA : List Addr} {pn : List (Addr × Obj)} {J : It} {σ : L2.St} {vs vs1 : List Nat} {g : TG} {tt : TT} {wi1 : TI} {g1 : TG} {tt1 : TT} {te : TE} {W : Nat → Nat → List V → Hp → Prop} {K : List (Addr × Obj) → List V → Prop} {JN : Nat → List V → Prop} {QE : List V → Hp → Prop} {YC : List V → V → Hp → Prop → Prop} {RE : GenEnd} {YP : Protocol} {it : Addr} {tn : Nat → Heap → Prop}
  {elt tg iter tg1 iter1 : Expr} {ifs ifs1 : List Expr} {scope : Scope} {pos : Pos}
end
section
variable {X : Cx} {pins : List (Addr × Obj)} {σ : L2.St} {H : Hp} {s : Shared}
end
end GX
namespace LB
open PySem PySem.Spec PyProof.Rows L2
/-! ### text * n -/
def repS (x : Str) (n : Nat) : Str := ⟨((List.replicate n x.cps.toList).flatten).toArray⟩
theorem fold_app : ∀ (l : List (Array Nat)) (a : Array Nat), (l.foldl (· ++ ·) a).toList = a.toList ++ (l.map (·.toList)).flatten
  | [], a => by simp
  | b :: l, a => by
    rw [List.foldl_cons, fold_app l (a ++ b)]
    simp
theorem fold_rep (x : Str) (n : Nat) : (⟨(List.replicate n x.cps).foldl (· ++ ·) #[]⟩ : Str) = repS x n := by
  unfold repS
  congr 1
  apply Array.toList_inj.mp
  rw [fold_app]
  simp [List.map_replicate]
def rRepS : R2 := fun x y H Q => ∃ (z : Str) (n : Nat), x = .str z ∧ y = .int (n : Int) ∧ n ≤ 1000 ∧ z.length ≤ 1000 ∧ Q (.str (repS z n)) H
theorem repS_one (x : Str) : repS x 1 = x := by
  cases x
  simp [repS]
theorem repS_nil (x : Str) : repS x 0 = Str.empty := by
  simp [repS]
  rfl
theorem repS_length (x : Str) (n : Nat) : (repS x n).length = n * x.length := by
  show ((List.replicate n x.cps.toList).flatten).toArray.size = n * x.cps.size
  rw [List.size_toArray, List.length_flatten, List.map_replicate, List.sum_replicate_nat, Array.length_toList]
theorem repS_len (x : Str) (n : Nat) (h : x.length * n ≤ 1000000) : (repS x n).length ≤ sizeLine := by
  rw [repS_length, sizeLine_eq, Nat.mul_comm]
  omega
theorem op_repS {X : Cx} : OpR X (binaryOp .Mult) rRepS := by
  intro pins s σ H x y v u Q I rx ry h
  obtain ⟨z, n, rfl, rfl, hn, hz, q⟩ := h
  obtain ⟨t, rfl⟩ := rx
  obtain ⟨t', rfl⟩ := ry
  have hlen : z.length * n ≤ 1000000 := Nat.mul_le_mul hz hn
  refine P.mul_str ?_ (fun h1 h2 h3 => ?_) (fun h1 h2 => ?_) ?_
  · rw [decide_eq_false (by omega), decide_eq_false (by omega)] <;> rfl
  · have h4 : (z.length : Int) ≤ 1000 := by omega
    have h5 : (n : Int) ≤ 1000 := by omega
    have h6 : (1000 : Int) * n ≤ 2 ^ 63 - 1 := by omega
    have h7 : (1000 : Int) ≤ (2 ^ 63 - 1) / (n : Int) := by
      rw [Int.le_ediv_iff_mul_le (by omega)]
      exact h6
    omega
  · have e : ((n : Int)).toNat = n := by omega
    rw [e]
    show decide (z.length * n > sizeLine) = false
    exact decide_eq_false (by rw [sizeLine_eq]; omega)
  · by_cases h1 : (n : Int) < 1
    · rw [if_pos h1]
      have e : n = 0 := by omega
      subst e
      rw [repS_nil] at q
      exact ⟨by decide, ⟨.str Str.empty, H, I.tok _, ⟨_, rfl⟩, q⟩⟩
    · rw [if_neg h1]
      by_cases h2 : ((n : Int) == 1 || z.length == 0) = true
      · rw [if_pos h2]
        have e : repS z n = z := by
          rcases Bool.or_eq_true _ _ ▸ h2 with k | k
          · have e : n = 1 := by
              have := eq_of_beq k
              omega
            rw [e, repS_one]
          · have e : z.length = 0 := eq_of_beq k
            have e2 : z.cps = #[] := Array.eq_empty_of_size_eq_zero e
            cases z
            simp at e2
            subst e2
            simp [repS]
        rw [e] at q
        exact ⟨.str z, H, I, ⟨_, rfl⟩, q⟩
      · rw [if_neg h2]
        have e : ((n : Int)).toNat = n := by omega
        rw [e, fold_rep]
        exact ⟨repS_len z n hlen, ⟨.str (repS z n), H, I.tok _, ⟨_, rfl⟩, q⟩⟩
/-! ### t[::-1] -/
theorem fm_congr {α β : Type} {f g : α → Option β} : ∀ (l : List α), (∀ x ∈ l, f x = g x) → l.filterMap f = l.filterMap g
  | [], _ => rfl
  | x :: l, h => by
    rw [List.filterMap_cons, List.filterMap_cons, h x List.mem_cons_self, fm_congr l fun y hy => h y (List.mem_cons_of_mem _ hy)]
theorem rev_pick (xs : Array Value) : ((List.range xs.size).filterMap fun (m : Nat) => xs[(((xs.size : Int) - 1) + (m : Int) * (-1)).toNat]?).toArray = xs.toList.reverse.toArray := by
  congr 1
  apply List.ext_getElem?
  intro j
  have e : ((List.range xs.size).filterMap fun (m : Nat) => xs[(((xs.size : Int) - 1) + (m : Int) * (-1)).toNat]?) = (List.range xs.size).map fun m => xs.toList.reverse.getD m .none := by
    rw [← List.filterMap_eq_map]
    refine fm_congr _ fun m hm => ?_
    have hm' : m < xs.size := List.mem_range.mp hm
    have e1 : (((xs.size : Int) - 1) + (m : Int) * (-1)).toNat = xs.size - 1 - m := by omega
    rw [e1, ← Array.getElem?_toList]
    show xs.toList[xs.size - 1 - m]? = some (xs.toList.reverse.getD m .none)
    rw [List.getD_eq_getElem?_getD, List.getElem?_reverse (by simpa using hm'), Array.length_toList, List.getElem?_eq_getElem (by simp; omega)] <;> rfl
  rw [e, List.getElem?_map]
  by_cases hj : j < xs.size
  · rw [List.getElem?_range hj, List.getElem?_eq_getElem (by simpa using hj)]
    show some (xs.toList.reverse.getD j .none) = _
    rw [List.getD_eq_getElem?_getD, List.getElem?_eq_getElem (by simpa using hj)] <;> rfl
  · rw [List.getElem?_eq_none (by simpa using hj), List.getElem?_eq_none (by simpa using hj)] <;> rfl
section
variable {prog : Program} {w : World} {A : Around} {E : Value → Shared → Prop} {s : Shared}
theorem sliceApplied_rev {sl : Addr} {vs : Value} {n : Nat} {Q : Int × Int × Nat → Shared → Prop} (hs : s.heap.IsSliceOf sl .none .none vs) (ps : IsPart vs (some (-1)))
    (h : Q ((n : Int) - 1, -1, n) s) : wpAny (model prog w) A (Builtin.Slice.sliceApplied (.ref sl) (pure (n : Int))) Q E s := by
  obtain ⟨os, hos, hcs, hds⟩ := id hs
  unfold Builtin.Slice.sliceApplied Builtin.Slice.sliceFields
  refine wpAny_bind (wpAny_bind (wpAny_field hos hds (x := .none) rfl (wpAny_bind (wpAny_field hos hds (x := .none) rfl (wpAny_bind (wpAny_field hos hds (x := vs) rfl (wpAny_pure ?_)))))))
  refine wpAny_bind (HT.slicePart_ ps ?_)
  show wpAny _ _ (if ((-1 : Int) == 0) = true then _ else _) _ _ s
  rw [if_neg (by decide)]
  refine wpAny_bind (PyProof.Rows.slicePart_none (wpAny_bind (PyProof.Rows.slicePart_none (wpAny_bind (wpAny_pure ?_)))))
  have e1 : Builtin.Slice.sliceAdjust none none (-1) (n : Int) = ((n : Int) - 1, -1) := by
    unfold Builtin.Slice.sliceAdjust
    simp
  have e2 : Builtin.Slice.slicePlaces ((n : Int) - 1) (-1) (-1) = n := by
    unfold Builtin.Slice.slicePlaces
    rw [if_neg (by decide)]
    simp only [Int.neg_neg, Int.ediv_one]
    split <;> omega
  show wpAny _ _ (match Builtin.Slice.sliceAdjust none none (-1) (n : Int) with | (lo, hi) => pure (lo, (-1 : Int), Builtin.Slice.slicePlaces lo hi (-1))) _ _ s
  rw [e1]
  show wpAny _ _ (pure ((n : Int) - 1, (-1 : Int), Builtin.Slice.slicePlaces ((n : Int) - 1) (-1) (-1))) _ _ s
  rw [e2]
  exact wpAny_pure h
theorem getItem_tuple_rev {t sl : Addr} {items : Array Value} {vs : Value} {Q : Value → Shared → Prop} (ht : IsTup s.heap t items) (hs : s.heap.IsSliceOf sl .none .none vs) (ps : IsPart vs (some (-1)))
    (h : Q (.ref s.heap.objs.size) { s with heap := s.heap.push { cls := .type "tuple", data := .seq items.toList.reverse.toArray } })
    (hsz : items.size ≤ sizeLine) : wpAny (model prog w) A (getItem (.ref t) (.ref sl)) Q E s := by
  have htake : sizeOk (.seq items.toList.reverse.toArray) := by
    show items.toList.reverse.toArray.size ≤ sizeLine
    rw [List.size_toArray, List.length_reverse, Array.length_toList]
    exact hsz
  obtain ⟨os, hos, hcs, hds⟩ := id hs
  have hTs : s.TypeIs (.ref sl) "slice" := ⟨os, hos, hcs⟩
  unfold getItem
  try with_reducible refine wpAny_holding ?_
  first | refine wpAny_bind (wpAny_pure ?_) | skip
  refine wpAny_bind (wpAny_sequenceKey ht.typeIs (by decide) ?_)
  refine wpAny_bind (wpAny_callSpecial?_slot (name := Str.ofString "__getitem__") ht.typeIs PyProof.Rows.slot_tuple_getitem
    (wpAny_call_entry PyProof.Rows.slot_tuple_getitem ht.typeIs PyProof.Rows.entry_tuple_getitem ?_ (PyProof.Rows.args_tuple_getitem _ _)))
  show wpAny _ _ (Builtin.Tuple.tupleItemsOf (.ref t) >>= _) _ _ s
  refine wpAny_bind (PyProof.Rows.tupleItemsOf_ ht ?_)
  refine wpAny_bind (wpAny_typeOf hTs ?_)
  rw [if_pos (by decide)]
  refine wpAny_bind (sliceApplied_rev hs ps ?_)
  have hno : ¬ ((((items.size : Int) - 1) == 0 && (-1 : Int) == 1 && items.size == items.size) = true) := by
    intro q
    rw [Bool.and_eq_true, Bool.and_eq_true] at q
    exact absurd q.1.2 (by decide)
  show wpAny _ _ (if (((items.size : Int) - 1) == 0 && (-1 : Int) == 1 && items.size == items.size) = true then _ else _) _ _ s
  rw [if_neg hno, rev_pick]
  first
    | exact wpAny_bind (m := Builtin.Tuple.tupleExact _) (wpAny_newObj_type (wpAny_pure ⟨_, rfl, wpAny_pure h⟩) htake)
    | exact wpAny_bind (m := Builtin.Tuple.tupleExact _) (wpAny_newObj_type (wpAny_bind (wpAny_pure (wpAny_pure ⟨_, rfl, wpAny_pure h⟩))) htake)
    | exact wpAny_bind (wpAny_bind (m := Builtin.Tuple.tupleExact _) (wpAny_newObj_type (wpAny_pure (wpAny_pure ⟨_, rfl, wpAny_pure h⟩)) htake))
    | exact wpAny_bind (wpAny_bind (m := Builtin.Tuple.tupleExact _) (wpAny_newObj_type (wpAny_pure ⟨_, rfl, wpAny_pure h⟩) htake))
end
def tRevT (K : PySem.W.Frag) (te : TE) : TE := fun σ H Q => te σ H fun x H1 => ∃ a xs, x = .ref a ∧ SqT K H1 a xs ∧ ∀ p, H1 p = none → Q (.ref p) (upd H1 p (.tup xs.reverse))
theorem pe_revT {X : Cx} {e : Expr} {te : TE} {k : Nat} {p1 p2 p3 pos : Pos} (he : PE X e te) : PE X (.Subscript e (.Slice none none (some (.UnaryOp .USub (.Constant (.int 1) k p1) p2)) p3) pos) (tRevT X.K te) := by
  refine ⟨fun pins s σ H Q I h => ?_⟩
  refine Subscript_ (thn (he.run pins s σ H _ I h) fun v s1 ⟨x, H1, I1, r1, q1⟩ => ?_)
  obtain ⟨a, xs, ex, hx, q⟩ := q1
  subst ex
  cases r1
  have hst : PO X (some (.UnaryOp .USub (.Constant (.int 1) k p1) p2)) (tPart (tUn (rU fun i => .int (-i)) (tC (.int 1)))) := po_some (pe_un un_neg pe_int)
  refine wpAny_Slice (thn (po_none.run pins s1 σ H1 (fun o H2 => o = none ∧ H2 = H1) I1 ⟨rfl, rfl⟩) fun vl s2 ⟨l, H2, I2, pl, el, e2⟩ => ?_)
  subst el e2
  refine thn (po_none.run pins s2 σ H2 (fun o H3 => o = none ∧ H3 = H2) I2 ⟨rfl, rfl⟩) fun vu s3 ⟨u, H3, I3, pu, eu, e3⟩ => ?_
  subst eu e3
  refine thn (hst.run pins s3 σ H3 (fun o H4 => o = some (-1) ∧ H4 = H3) I3 ⟨1, rfl, -1, rfl, rfl, rfl⟩) fun vs s4 ⟨o, H4, I4, ps, eo, e4⟩ => ?_
  subst eo e4
  have I5 : Inv X pins σ H4 { s4 with heap := s4.heap.push { cls := .type "slice", data := .fields #[vl, vu, vs] } } := I4.kept (t' := s4.toks) fun b ob q => Heap.get?_push_of_some _ q
  obtain ⟨its, r, ht, hz⟩ := I5.tuple hx
  have hlen := r.length
  cases pl
  cases pu
  show wpAny (model X.prog X.w) X.A (subscriptTail e (.Slice none none (some (.UnaryOp .USub (.Constant (.int 1) k p1) p2)) p3) (.ref a) (.ref s4.heap.objs.size)) (EP X pins σ Q) X.xe { s4 with heap := s4.heap.push { cls := .type "slice", data := .fields #[.none, .none, vs] } }
  refine tail_any (ops := [.ref a, .ref s4.heap.objs.size]) ht.typeIs (PyProof.Rows.slot_tuple_getitem.lookup) ?_ (by with_unfolding_all rfl)
  refine getItem_tuple_rev ht (Heap.IsSliceOf.new _ .none .none vs) ps ?_ (by rw [List.size_toArray]; omega)
  refine ⟨.ref _, _, I5.laid (t' := s4.toks) (o := .tup xs.reverse) (fun b ob q => Heap.get?_push_of_some _ q) (Nat.le_refl _) ?_, rfl, q _ (I5.hok.fresh (Nat.le_refl _))⟩
  exact ⟨by rw [List.length_reverse]; exact hz, _, r.reverse, IsTup.new _ _⟩
end LB
namespace LB
open PySem PySem.Spec PyProof.Rows L2
/-! ### small facts -/
theorem fm (a : Int) {b : Int} (h : 0 < b) : 0 ≤ a.fmod b ∧ a.fmod b < b := ⟨Int.fmod_nonneg_of_pos a h, Int.fmod_lt_of_pos a h⟩
theorem sz {n : Nat} (h : n ≤ 100000) : n ≤ sizeLine := Nat.le_trans h (by decide)
theorem szl {n : Nat} (h : n < 100000) : n < sizeLine := Nat.lt_of_lt_of_le h (by decide)
theorem at0 {α : Type} {x : α} {l : List α} : atI (x :: l) 0 = some x := atI_nat (j := 0) rfl
theorem at1 {α : Type} {x y : α} {l : List α} : atI (x :: y :: l) 1 = some y := atI_nat (j := 1) rfl
theorem at2 {α : Type} {x y z : α} {l : List α} : atI (x :: y :: z :: l) 2 = some z := atI_nat (j := 2) rfl
theorem at3 {α : Type} {x y z u : α} {l : List α} : atI (x :: y :: z :: u :: l) 3 = some u := atI_nat (j := 3) rfl
theorem at4 {α : Type} {x y z u v : α} {l : List α} : atI (x :: y :: z :: u :: v :: l) 4 = some v := atI_nat (j := 4) rfl
theorem at5 {α : Type} {a0 a1 a2 a3 a4 a5 : α} {l : List α} : atI (a0 :: a1 :: a2 :: a3 :: a4 :: a5 :: l) 5 = some a5 := atI_nat (j := 5) rfl
theorem at6 {α : Type} {a0 a1 a2 a3 a4 a5 a6 : α} {l : List α} : atI (a0 :: a1 :: a2 :: a3 :: a4 :: a5 :: a6 :: l) 6 = some a6 := atI_nat (j := 6) rfl
theorem at7 {α : Type} {a0 a1 a2 a3 a4 a5 a6 a7 : α} {l : List α} : atI (a0 :: a1 :: a2 :: a3 :: a4 :: a5 :: a6 :: a7 :: l) 7 = some a7 := atI_nat (j := 7) rfl
/-! ### kinds -/
def isU : PyData → Bool
  | .tuple _ => true
  | _ => false
def isS : PyData → Bool
  | .str _ => true
  | _ => false
def isL : PyData → Bool
  | .list _ => true
  | _ => false
theorem kit_tuple : ∀ d : PyData, kitB (tyN d) "tuple" = some (isU d)
  | .none => (by decide +kernel : kitB "NoneType" "tuple" = some false)
  | .bool _ => (by decide +kernel : kitB "bool" "tuple" = some false)
  | .int _ => (by decide +kernel : kitB "int" "tuple" = some false)
  | .str _ => (by decide +kernel : kitB "str" "tuple" = some false)
  | .list _ => (by decide +kernel : kitB "list" "tuple" = some false)
  | .tuple _ => (by decide +kernel : kitB "tuple" "tuple" = some true)
  | .dict _ => (by decide +kernel : kitB "dict" "tuple" = some false)
theorem kit_str : ∀ d : PyData, kitB (tyN d) "str" = some (isS d)
  | .none => (by decide +kernel : kitB "NoneType" "str" = some false)
  | .bool _ => (by decide +kernel : kitB "bool" "str" = some false)
  | .int _ => (by decide +kernel : kitB "int" "str" = some false)
  | .str _ => (by decide +kernel : kitB "str" "str" = some true)
  | .list _ => (by decide +kernel : kitB "list" "str" = some false)
  | .tuple _ => (by decide +kernel : kitB "tuple" "str" = some false)
  | .dict _ => (by decide +kernel : kitB "dict" "str" = some false)
theorem kit_list : ∀ d : PyData, kitB (tyN d) "list" = some (isL d)
  | .none => (by decide +kernel : kitB "NoneType" "list" = some false)
  | .bool _ => (by decide +kernel : kitB "bool" "list" = some false)
  | .int _ => (by decide +kernel : kitB "int" "list" = some false)
  | .str _ => (by decide +kernel : kitB "str" "list" = some false)
  | .list _ => (by decide +kernel : kitB "list" "list" = some true)
  | .tuple _ => (by decide +kernel : kitB "tuple" "list" = some false)
  | .dict _ => (by decide +kernel : kitB "dict" "list" = some false)
/-! ### more readings -/
section
variable {K : PySem.W.Frag} {T : List (Addr × Str)} {σ : L2.St} {H : Hp} {te ta tb : TE} {d : PyData} {ds : List PyData}
theorem rp_ints {H : Hp} : ∀ ns : List Int, RpAll K H (ns.map V.int) (ns.map PyData.int)
  | [] => .nil
  | n :: ns => .cons (.int n) (rp_ints ns)
def rAddS : R2 := fun x y H Q => ∃ i j, x = .str i ∧ y = .str j ∧ i.length + j.length ≤ sizeLine ∧ Q (.str (i ++ j)) H
theorem op_addS {X : Cx} : OpR X (binaryOp .Add) rAddS := op_add_str
theorem Gv.to {d' : PyData} (h : Gv K T te σ H d) (e : d = d') : Gv K T te σ H d' := e ▸ h
end
end LB
namespace LB
open PySem PySem.Spec PyProof.Rows L2
/-! ### data without lists stay when an own list is changed -/
mutual
def tupD : PyData → Bool
  | .none => true
  | .bool _ => true
  | .int _ => true
  | .str _ => true
  | .tuple ds => tupDs ds
  | .list _ => false
  | .dict _ => false
def tupDs : List PyData → Bool
  | [] => true
  | d :: ds => tupD d && tupDs ds
end
/-- no tuple stands at p -/
def NoTup (H : Hp) (p : Addr) : Prop := ∀ xs, ¬ Rd H p (.tup xs)
theorem tp_mut {H : Hp} {p a : Addr} {o : HO} {xs : List V} (hp : NoTup H p) (h : H a = some (.tup xs)) : upd H p o a = some (.tup xs) := by
  rw [upd_ne fun z => hp xs (by rw [← z]; exact .inl h)]
  exact h
mutual
theorem rp_mut {K : PySem.W.Frag} {H : Hp} {p : Addr} {o : HO} (hp : NoTup H p) : ∀ {v : V} {d : PyData}, tupD d = true → Rp K H v d → Rp K (upd H p o) v d
  | _, _, _, .non => .non
  | _, _, _, .bl b => .bl b
  | _, _, _, .int i => .int i
  | _, _, _, .str x => .str x
  | _, _, h, .lst _ _ => absurd h (by simp [tupD])
  | _, _, h, .tup hs ha => .tup (tp_mut hp hs) (rps_mut hp (by simpa [tupD] using h) ha)
  | _, _, h, .dct _ _ _ => absurd h (by simp [tupD])
  | _, _, h, .dcT _ _ _ => absurd h (by simp [tupD])
theorem rps_mut {K : PySem.W.Frag} {H : Hp} {p : Addr} {o : HO} (hp : NoTup H p) : ∀ {vs : List V} {ds : List PyData}, tupDs ds = true → RpAll K H vs ds → RpAll K (upd H p o) vs ds
  | _, _, _, .nil => .nil
  | _, _, h, .cons h1 h2 => by
    unfold tupDs at h
    rw [Bool.and_eq_true] at h
    exact .cons (rp_mut hp h.1 h1) (rps_mut hp h.2 h2)
end
/-! ### readings that give some datum; tests -/
section
variable (K : PySem.W.Frag) (T : List (Addr × Str))
def Gn (te : TE) (σ : L2.St) (H : Hp) (Pd : PyData → Prop) : Prop := ∀ H1, Gw T H H1 → ∀ Q : VK, (∀ v d H2, Pd d → Gw T H1 H2 → Rp K H2 v d → Q v H2) → te σ H1 Q
def Gt (t : TT) (σ : L2.St) (H : Hp) (b : Bool) : Prop := ∀ H1, Gw T H H1 → ∀ Q : Bool → Hp → Prop, (∀ H2, Gw T H1 H2 → Q b H2) → t σ H1 Q
end
section
variable {K : PySem.W.Frag} {T : List (Addr × Str)} {σ : L2.St} {H : Hp} {te ta tb : TE} {d : PyData} {ds : List PyData} {b c : Bool} {tt tu : TT}
theorem Gv.n (h : Gv K T te σ H d) : Gn K T te σ H (· = d) := fun H1 g Q q => h H1 g Q fun v H2 g2 r => q v d H2 rfl g2 r
theorem Gv.up {H' : Hp} (h : Gv K T te σ H d) (g : Gw T H H') : Gv K T te σ H' d := fun H1 g1 Q q => h H1 (g.trans g1) Q q
/-! own calls -/
/-! statements -/
theorem s_if {t u : TS} {D : Ends} (h : Gt T tt σ H b) (h1 : b = true → ∀ H2, Gw T H H2 → t D σ H2) (h2 : b = false → ∀ H2, Gw T H H2 → u D σ H2) : tIfS tt t u D σ H := h H (Gw.refl T H) _ fun H2 g => by
  cases b with
  | false => exact iteF (h2 rfl H2 g)
  | true => exact iteT (h1 rfl H2 g)
end
end LB
namespace LB
open PySem PySem.Spec PyProof.Rows L2 PySem.W PySem.SeqAt
section
variable {A : Around} {s : Shared}
/-- the call of tuple's own __lt__, as sorting makes it -/
theorem call_tuple_lt {prog : Program} {w : World} {E : Value → Shared → Prop} {Q : Value → Shared → Prop} {l b : Addr} {items items2 : Array Value} {e r : Nat → Bool} (hl : s.heap.IsTuple l items) (hb : s.heap.IsTuple b items2)
    (he : ∀ j (h1 : j < items.size) (h2 : j < items2.size), EqAt A.in1 s items[j] items2[j] (e j)) (hr : ∀ j (h1 : j < items.size) (h2 : j < items2.size), e j = false → RcLt A.in1 s items[j] items2[j] (r j))
    (h : Q (.bool (firstLt e r (decide (items.size < items2.size)) (List.range (min items.size items2.size)))) s) : wpAny (model prog w) A (call (.builtin "tuple.__lt__") [.ref l, .ref b]) Q E s := by
  obtain ⟨⟨cls, dd, data, sl⟩, ho, hc, n, hd⟩ := id hl
  obtain ⟨⟨cls2, dd2, data2, sl2⟩, ho2, hc2, n2, hd2⟩ := id hb
  simp only at hc hd hc2 hd2
  subst hc hd hc2 hd2
  exact call_meets F.slot_tuple_lt ⟨_, ho, rfl⟩ F.entry_tuple_lt (F.args_tuple_lt_2 _ _) (tuple_ltAt l b items items2 n n2 dd dd2 sl sl2 e r) ⟨ho, ho2, he, hr, h⟩
theorem oneLt_tuple {prog : Program} {w : World} {E : Value → Shared → Prop} {xs ys : List PyData} {a b : Value} {as bs : List Addr} {Q : Bool → Shared → Prop} (ra : Reads s.heap a (.tuple xs) as) (rb : Reads s.heap b (.tuple ys) bs) (h : alike (.tuple xs) (.tuple ys) = true)
    (hu : A.units + min (PyData.tuple xs).depth (PyData.tuple ys).depth < cLine) (hq : Q (dataLt (.tuple xs) (.tuple ys)) s) : wpAny (model prog w) A (oneLt' true a b) Q E s := by
  have hal : alikeAll xs ys = true := by simpa [alike] using h
  cases ra with
  | @tuple l o vs n _ as₁ h1 h2 h3 h4 =>
    cases rb with
    | @tuple l' o' vs' n' _ bs₁ k1 k2 k3 k4 =>
      have n1 : vs.size = xs.length := by simpa using ReadsAll.length _ _ _ h4
      have n2 : vs'.size = ys.length := by simpa using ReadsAll.length _ _ _ k4
      rw [dataLt_tuple, ← firstLt_toks xs ys hal, ← n1, ← n2] at hq
      rw [oneLt'_eq]
      simp only [if_true]
      refine wpAny_bind (wpAny_cRoomFor (room_here hu) ?_)
      refine wpAny_bind (wpAny_callSpecialIfBound?_slot (T := "tuple") ⟨_, h1, h2⟩ F.slot_tuple_lt (call_tuple_lt (e := pairEq xs ys) (r := fun j => dataLt (xs.getD j .none) (ys.getD j .none)) ⟨_, h1, h2, _, h3⟩ ⟨_, k1, k2, _, k3⟩ (fun j j1 j2 => ?_) (fun j j1 j2 hj => ?_) ?_))
      · have := eqAt_alikeAll xs ys A.in1 s vs.toList vs'.toList _ _ h4 k4 hal (room_in hu) j (by simpa using j1) (by simpa using j2)
        simpa using this
      · have := rcLt_alikeAll xs ys A.in1 s vs.toList vs'.toList _ _ h4 k4 hal (room_in hu) j (by simpa using j1) (by simpa using j2) hj
        simpa using this
      · exact wpAny_truthy_bool hq
/-- tuples, the first of them empty -/
def Led (ds : List PyData) : Prop := ∃ r, ds = .tuple [] :: r ∧ ∀ d ∈ ds, ∃ xs, d = .tuple xs
theorem first_tup {M : Model} {E : Value → Shared → Prop} {v : Value} {xs : List PyData} {as : List Addr} {Q : Option Value → Shared → Prop} (r : Reads s.heap v (.tuple xs) as) (hq : ∀ o : Option Value, (xs = [] → o = none) → Q o s) : wpAny M A (firstOfTuple' v) Q E s := by
  rw [kas_first_eq]
  cases r with
  | @tuple l o vs n _ as₁ h1 h2 h3 h4 =>
    refine wpAny_bind (wpAny_typeOf_ref h1 ?_)
    rw [h2, if_neg (by decide)]
    refine wpAny_bind ?_
    unfold Builtin.List.listItems
    refine wpAny_bind (wpAny_seqItems h1 h3 (wpAny_pure (wpAny_pure (hq _ fun e => ?_))))
    subst e
    have h5 : vs.toList = [] := by
      cases q : vs.toList with
      | nil => rfl
      | cons a l =>
        rw [q] at h4
        cases h4
    have h6 : vs = #[] := by
      cases vs
      simp at h5
      rw [h5]
    rw [h6]
    rfl
theorem mapM_firsts {M : Model} {E : Value → Shared → Prop} : ∀ {vs : List Value} {ds : List PyData} {Q : List (Option Value) → Shared → Prop}, EachIs (fun v d => ∃ as, Reads s.heap v d as) vs ds → (∀ d ∈ ds, ∃ xs, d = .tuple xs) →
    (∀ os : List (Option Value), os.length = vs.length → (∀ r, ds = .tuple [] :: r → ∃ t, os = none :: t) → Q os s) → wpAny M A (vs.mapM firstOfTuple') Q E s
  | _, _, Q, .nil, _, h => by
    rw [List.mapM_nil]
    exact wpAny_pure (h [] rfl fun r e => nomatch e)
  | v :: vs, d :: ds, Q, .cons ⟨as, r⟩ t, ht, h => by
    rw [List.mapM_cons]
    obtain ⟨xs, rfl⟩ := ht d List.mem_cons_self
    refine wpAny_bind (first_tup r fun o ho => wpAny_bind (mapM_firsts t (fun d hd => ht d (List.mem_cons_of_mem _ hd)) fun os hl _ => wpAny_pure (h (o :: os) (by simp [hl]) fun r e => ?_)))
    have e1 : xs = [] := by
      injection e with e1 e2
      injection e1
    exact ⟨os, by rw [ho e1]⟩
theorem kind_led {M : Model} {E : Value → Shared → Prop} {vs : List Value} {ds : List PyData} {Q : SortKind → Shared → Prop} (e : EachIs (fun v d => ∃ as, Reads s.heap v d as) vs ds) (hl : Led ds) (h : Q oneType' s) : wpAny M A (keyKind' vs.toArray) Q E s := by
  obtain ⟨r, e1, ht⟩ := hl
  rw [keyKind'_eq, List.mapM_toArray, map_eq_pure_bind]
  refine wpAny_bind (wpAny_bind (mapM_firsts e ht fun os hlen h0 => wpAny_pure ?_))
  obtain ⟨t, rfl⟩ := h0 r e1
  rw [if_neg (by simp), if_neg (by simp)]
  rw [oneTypeOnly'_eq, List.mapM_toArray, map_eq_pure_bind]
  have hT : ∀ v ∈ vs, Looks M s.heap (typeOf v) (.type "tuple") := fun v hv => by
    obtain ⟨d, hd, as, q⟩ := e.left v hv
    obtain ⟨xs, rfl⟩ := ht d hd
    exact looks_reads q
  refine wpAny_bind (wpAny_bind (wpAny_bind (kas_mapM (r := Value.type "tuple") _ (fun v hv Q' hq => (hT v hv).here hq) (wpAny_pure ?_))))
  subst e1
  cases e with
  | cons q1 q2 =>
    rename_i v1 vs1
    have hall : ((List.map (fun _ => Value.type "tuple") (v1 :: vs1)).toArray.all fun x => x == Value.type "tuple") = true := by
      simp only [List.all_toArray, List.all_map, List.all_eq_true]
      intro _ _
      exact beq_self_eq_true _
    have h0 : (List.map (fun _ => Value.type "tuple") (v1 :: vs1)).toArray[0]? = some (Value.type "tuple") := by simp
    rw [h0]
    simp only [hall, if_true]
    exact wpAny_pure (wpAny_pure h)
theorem sorts_led {prog : Program} {w : World} {vs : List Value} {ds : List PyData} (e : EachIs (fun v d => ∃ as, Reads s.heap v d as) vs ds) (hal : AllAlike ds) (hk : Led ds) (hu : ∀ d, d ∈ ds → A.units + d.depth < cLine) : SortsAt prog w A s (dataKind s.heap ds) vs := by
  have room : ∀ {d d' : PyData}, d ∈ ds → A.units + min d.depth d'.depth < cLine := fun {d d'} hd => Nat.lt_of_le_of_lt (Nat.add_le_add_left (Nat.min_le_left _ _) _) (hu d hd)
  refine ⟨fun v hv => ?_, oneType', ?_, fun h2 E Q hq => kind_led e hk hq⟩
  · obtain ⟨d, hd, as, r⟩ := e.left v hv
    exact ⟨_, dataKind_some hal hd r⟩
  · intro E x y a b Q ha hb hq
    obtain ⟨d, as, hd, ra, rfl⟩ := dataKind_inv ha
    obtain ⟨d', as', hd', rb, rfl⟩ := dataKind_inv hb
    have al := hal d hd d' hd'
    have rm := room (d' := d') hd
    rw [keyLt'_oneType]
    obtain ⟨_, _, ht⟩ := hk
    obtain ⟨xs, rfl⟩ := ht d hd
    obtain ⟨ys, rfl⟩ := ht d' hd'
    exact oneLt_tuple ra rb al rm hq
theorem sorted_led {prog : Program} {w : World} {E : Value → Shared → Prop} {vs : List Value} {bs : List PyData} {R : Value → PyData → Prop} {l : Addr} {Q : Value → Shared → Prop} (hl : s.heap.IsList l vs.toArray) (e : EachIs R vs bs) (er : EachIs (fun v b => ∃ as, Reads s.heap v b as) vs bs) (hal : AllAlike bs) (hk : Led bs) (hL : bs.length ≤ sizeLine)
    (hu : ∀ b, b ∈ bs → A.units + 2 + b.depth < cLine) (h : ∀ out, out.length = bs.length → EachIs R out (bs.mergeSort (dataLe false id)) → Q (.ref (s.heap.objs.size + 1)) { s with heap := sortedAll s.heap vs (List.toArray out) }) :
    wpAny (model prog w) A (call (.builtin "sorted") [.ref l]) Q E s := by
  have er' : EachIs (fun v b => ∃ as, Reads (sortingHeap (copyHeap s.heap vs) (s.heap.objs.size + 1) vs) v b as) vs bs := er.mono fun _ _ ⟨as, r⟩ => ⟨as, PyProof.Rows.Reads.keeps (fun _ _ => sorting_copy_old) r⟩
  have hal' : AllAlike (bs.map id) := by rw [List.map_id]; exact hal
  have hf := sortVals_data (enc := id) (R := R) false e (er' : EachIs (fun v b => ∃ as, Reads (sortingHeap (copyHeap s.heap vs) (s.heap.objs.size + 1) vs) v (id b) as) vs bs) hal'
  rw [List.map_id] at hf
  exact sorted_vals hl (sorts_led (s := { s with heap := sortingHeap (copyHeap s.heap vs) (s.heap.objs.size + 1) vs }) er' hal hk hu) (by rw [e.length]; exact hL) (h _ (by rw [sortVals_length false rfl]; exact e.length) hf)
end
end LB
namespace LB
open PySem PySem.Spec PyProof.Rows L2 PySem.W PySem.SeqAt
/-- the sorted list of data -/
def sortD (ds : List PyData) : List PyData := ds.mergeSort (dataLe false id)
theorem sortD_perm (ds : List PyData) : (sortD ds).Perm ds := List.mergeSort_perm ds _
section
variable {X : Cx} {pins : List (Addr × Obj)} {σ : L2.St} {H : Hp} {s : Shared}
mutual
theorem reads_of (I : Inv X pins σ H s) : ∀ (d : PyData) (v : V) (u : Value), alike d d = true → Rp X.K H v d → RelV v u → ∃ as, Reads s.heap u d as
  | .none, _, _, _, .non, r => by
    cases (show _ = Value.none from r)
    exact ⟨_, .none⟩
  | .bool _, _, _, _, .bl b, r => by
    cases (show _ = Value.bool b from r)
    exact ⟨_, .bool b⟩
  | .int _, _, _, _, .int i, r => by
    obtain ⟨t, rfl⟩ := r
    exact ⟨_, .int i t⟩
  | .str _, _, _, _, .str x, r => by
    obtain ⟨t, rfl⟩ := r
    exact ⟨_, .str x t⟩
  | .list ds, _, _, h, .lst hs ha, r => by
    cases (show _ = Value.ref _ from r)
    obtain ⟨its, rv, pl, hz⟩ := I.list hs
    obtain ⟨as, q⟩ := readsAll_of I ds _ its (by simpa [alike] using h) ha rv
    obtain ⟨o, h1, h2, n, h3⟩ := pl.isList
    exact ⟨_, .list h1 h2 h3 (by simpa using q)⟩
  | .tuple ds, _, _, h, .tup hs0 ha, r => by
    have hs := SqT.of (K := X.K) hs0
    cases (show _ = Value.ref _ from r)
    obtain ⟨its, rv, pl, hz⟩ := I.tuple hs
    obtain ⟨as, q⟩ := readsAll_of I ds _ its (by simpa [alike] using h) ha rv
    obtain ⟨o, h1, h2, n, h3⟩ := pl
    exact ⟨_, .tuple h1 h2 h3 (by simpa using q)⟩
  | .dict _, _, _, h, _, _ => absurd h (by simp [alike])
theorem readsAll_of (I : Inv X pins σ H s) : ∀ (ds : List PyData) (vs : List V) (us : List Value), alikeAll ds ds = true → RpAll X.K H vs ds → Vals vs us → ∃ as, ReadsAll s.heap us ds as
  | [], _, _, _, .nil, .nil => ⟨_, .nil⟩
  | d :: ds, _, _, h, .cons h1 h2, .cons r1 r2 => by
    obtain ⟨a1, a2⟩ := alike_all_cons h
    obtain ⟨as, q1⟩ := reads_of I d _ _ a1 h1 r1
    obtain ⟨bs, q2⟩ := readsAll_of I ds _ _ a2 h2 r2
    exact ⟨_, .cons q1 q2⟩
end
theorem each_of (I : Inv X pins σ H s) : ∀ {ds : List PyData} {vs : List V} {us : List Value}, (∀ d ∈ ds, alike d d = true) → RpAll X.K H vs ds → Vals vs us →
    EachIs (fun u d => ∃ v, Rp X.K H v d ∧ RelV v u) us ds ∧ EachIs (fun u d => ∃ as, Reads s.heap u d as) us ds
  | [], _, _, _, .nil, .nil => ⟨.nil, .nil⟩
  | d :: ds, _, _, h, .cons h1 h2, .cons r1 r2 => by
    obtain ⟨q1, q2⟩ := each_of I (fun d hd => h d (List.mem_cons_of_mem _ hd)) h2 r2
    exact ⟨.cons ⟨_, h1, r1⟩ q1, .cons (reads_of I d _ _ (h d List.mem_cons_self) h1 r1) q2⟩
/-- data that sorted takes -/
structure Srt (ds : List PyData) : Prop where
  al : AllAlike ds
  ok : Sortable ds ∨ Led ds
  dp : ∀ d ∈ ds, d.depth ≤ 40
  len : ds.length ≤ 100000
end
end LB
namespace LB
open PySem PySem.Spec PyProof.Rows L2 PySem.W PySem.SeqAt
def keysD (kvs : List (List Key × V)) : List PyData := kvs.map fun p => .tuple (p.1.map keyD)
/-- b is a tracked tuple of these keys -/
def TupK (H : Hp) (b : Addr) (d : PyData) : Prop := ∃ ks : List Key, d = .tuple (ks.map keyD) ∧ H b = some (.tup (ks.map kV))
theorem reads_keys {h : Heap} : ∀ {ks : List Key} {us : List Value}, Vals (ks.map kV) us → ReadsAll h us (ks.map keyD) []
  | [], _, .nil => .nil
  | .inl i :: ks, _, .cons r t => by
    obtain ⟨tk, rfl⟩ := r
    exact .cons (as := []) (bs := []) (.int i tk) (reads_keys t)
  | .inr x :: ks, _, .cons r t => by
    obtain ⟨tk, rfl⟩ := r
    exact .cons (as := []) (bs := []) (.str x tk) (reads_keys t)
theorem rp_keys {K : PySem.W.Frag} {H : Hp} : ∀ ks : List Key, RpAll K H (ks.map kV) (ks.map keyD)
  | [] => .nil
  | .inl i :: ks => .cons (.int i) (rp_keys ks)
  | .inr x :: ks => .cons (.str x) (rp_keys ks)
section
variable {X : Cx} {pins : List (Addr × Obj)} {σ : L2.St} {H : Hp} {s : Shared}
theorem each_keys (I : Inv X pins σ H s) : ∀ {kvs : List (List Key × V)} {ks : List (List Key × Addr × Value)}, KT H kvs ks → EachIs (fun u d => ∃ b, u = Value.ref b ∧ TupK H b d) (ks.map fun x => Value.ref x.2.1) (keysD kvs) ∧ EachIs (fun u d => Reads s.heap u d []) (ks.map fun x => Value.ref x.2.1) (keysD kvs)
  | _, _, .nil => ⟨.nil, .nil⟩
  | p :: kvs, x :: ks, .cons h t => by
    obtain ⟨q1, q2⟩ := each_keys I t
    obtain ⟨e1, e2, _⟩ := h
    refine ⟨.cons ⟨_, rfl, p.1, rfl, e2⟩ q1, .cons ?_ q2⟩
    obtain ⟨_, its, rv, o, h1, h2, n, h3⟩ := (show ObjOk X.prog X.w H s.heap x.2.1 (.tup (p.1.map kV)) from I.hok _ _ e2)
    exact .tuple h1 h2 h3 (by simpa using reads_keys rv)
theorem of_keys : ∀ {us : List Value} {ds : List PyData}, EachIs (fun u d => ∃ b, u = Value.ref b ∧ TupK H b d) us ds → ∃ bs : List Addr, us = bs.map Value.ref ∧ EachIs (TupK H) bs ds
  | _, _, .nil => ⟨[], rfl, .nil⟩
  | _, _, .cons ⟨b, e, h⟩ t => by
    obtain ⟨bs, q1, q2⟩ := of_keys t
    exact ⟨b :: bs, by rw [e, q1]; rfl, .cons h q2⟩
def rSortDT : List V → Hp → VK → Prop := fun vs H Q => ∃ (d : Addr) (kvs : List (List Key × V)), vs = [.ref d] ∧ Rd H d (.dT kvs) ∧ Srt (keysD kvs) ∧ Sortable (keysD kvs) ∧ ∀ (p : Addr) (bs : List Addr), H p = none → EachIs (TupK H) bs (sortD (keysD kvs)) → Q (.ref p) (upd H p (.lst (bs.map V.ref)))
theorem cr_sortDT (hcalm : X.calm = true) (hu : X.A.units + 64 < cLine) : CallR X (.builtin "sorted") rSortDT := by
  intro pins s σ H xs us Q I r h
  obtain ⟨d, kvs, rfl, hd, S, ok, q⟩ := h
  obtain rfl := Vals.ref1 r
  obtain ⟨z, lo, ks, pr, o, es, ep, ho, hx, hdt, he, hn⟩ := (show ObjOk X.prog X.w H s.heap d (.dT kvs) from hd.ok I.hok)
  have l1 : es.size = ks.length := size_of_entries he
  have l2 : kvs.length = ks.length := Paired.length pr
  have hL : (keysD kvs).length ≤ sizeLine := Nat.le_trans S.len (by decide)
  refine Calls.call_function_entry PyProof.Rows.kind_sorted PyProof.Rows.plain_sorted PyProof.Rows.entry_sorted (PyProof.Rows.args_sorted1 _) ?_
  unfold Builtin.«sorted»
  refine wpAny_bind (m := checkCount "sorted" 1 1 _) (wpAny_pure ?_)
  refine wpAny_bind (PySem.W.kdu_collect (A := X.A.in1) (kdl_raw lo hx hdt) (I.ok.hd hcalm) ho (by omega) fun h' tk acc hk it => ?_)
  have ea : acc.toList = ks.map fun x => Value.ref x.2.1 := by
    have hl : acc.toList.length = ks.length := by rw [Array.length_toList, it.1]; exact l1
    apply List.ext_getElem?
    intro j
    rw [List.getElem?_map]
    cases hj : acc.toList[j]? with
    | none =>
      have h1 := List.getElem?_eq_none_iff.mp hj
      rw [List.getElem?_eq_none (by omega)]
      all_goals rfl
    | some v =>
      obtain ⟨en, hen, hv⟩ := it.2 j v (by rw [← Array.getElem?_toList]; exact hj)
      have qe := entry_at he j
      rw [hen] at qe
      cases hb : ks[j]? with
      | none =>
        rw [hb] at qe
        exact nomatch (show some en = none from qe)
      | some x =>
        rw [hb] at qe
        have e1 : en = entryOfKey (tupleKind (mixKind X.prog X.w)) x := Option.some.inj qe
        rw [hv, e1] <;> rfl
  have I1 : Inv X pins σ H { s with heap := h', toks := tk } := I.kept hk
  have hll : acc.toList.length = (keysD kvs).length := by rw [ea, List.length_map]; unfold keysD; rw [List.length_map]; exact l2.symm
  refine wpAny_bind (wpAny_newList ?_ (by rw [hll]; exact hL))
  have hoL : (h'.push (seqObj "list" acc.toList.toArray 0)).get? h'.objs.size = some (seqObj "list" acc.toList.toArray 0) := Heap.get?_push_size _ rfl
  have I2 : Inv X pins σ H { s with heap := h'.push (seqObj "list" acc.toList.toArray 0), toks := tk } := I1.kept (t' := tk) fun b o e => Heap.get?_push_of_some _ e
  obtain ⟨e1, e2⟩ := each_keys I2 pr
  rw [← ea] at e1 e2
  show wpAny _ _ _ _ _ { s with heap := h'.push (seqObj "list" acc.toList.toArray 0), toks := tk }
  refine wpAny_bind (wpAny_holding (list_sort_data (enc := id) (R := fun u d => ∃ b, u = Value.ref b ∧ TupK H b d) (s := { s with heap := h'.push (seqObj "list" acc.toList.toArray 0), toks := tk }) hoL e1 (e2.mono fun _ _ r => ⟨[], r, by simp⟩) (by rw [List.map_id]; exact S.al) (by rw [List.map_id]; exact ok) hL (fun b hb => ?_) fun out hlo eo => ?_))
  · have := S.dp b hb
    show X.A.units + 1 + 1 + b.depth < cLine
    omega
  · obtain ⟨bs, q1, q2⟩ := of_keys eo
    obtain ⟨e', he'⟩ := PyProof.Rows.sortedHeap_at (vs := acc.toList) (out := out.toArray) hoL
    have hn : H h'.objs.size = none := I1.hok.fresh (Nat.le_refl _)
    refine wpAny_pure ⟨_, rfl, .ref h'.objs.size, upd H h'.objs.size (.lst (bs.map V.ref)), I1.laid (t' := tk) (fun b u e => ?_) (Nat.le_refl _) (show ObjOk X.prog X.w _ _ _ (.lst (bs.map V.ref)) from ⟨?_, out, e', by rw [q1]; exact vals_refs bs, he'⟩), rfl, q _ bs hn q2⟩
    · have hb : b < h'.objs.size := Heap.lt_size e
      rw [PyProof.Rows.sortedHeap_old (Nat.ne_of_lt hb) (by rw [size_push']; exact Nat.lt_succ_of_lt hb)]
      exact Heap.get?_push_of_some _ e
    · rw [List.length_map]
      have e3 : bs.length = out.length := by rw [q1, List.length_map]
      rw [e3, hlo]
      exact hL
end
end LB
namespace LB
open PySem PySem.Spec PyProof.Rows L2
theorem room_u {k : Nat} {A : Around} (r : Room k A) : A.units + 1 < cLine := by have := r.un; omega
theorem room_u64 {k : Nat} {A : Around} (r : Room k A) : A.units + 64 < cLine := by have := r.un; omega
theorem szl' {n m : Nat} (h : n < m) (hm : m ≤ 100000) : n < sizeLine := Nat.lt_of_lt_of_le h (Nat.le_trans hm (by decide))
/-! ### list comprehensions over data, the target one name -/
section
variable {K : PySem.W.Frag} {T : List (Addr × Str)} {σ : L2.St} {H : Hp} {te ta tb tel : TE} {tt : TT} {d : PyData} {ds : List PyData} {wi : TI}
theorem wipe_one (σ : L2.St) (j : Nat) (x : Option V) : wipe ((wipe σ [j]).set j x) [j] = wipe σ [j] := by
  show (((σ.set j none).set j x).set j none) = σ.set j none
  rw [List.set_set, List.set_set]
/-- what a walk gives, whatever grows meanwhile -/
structure WalksR (R : Hp → V → PyData → Prop) (T : List (Addr × Str)) (J : It) (H1 : Hp) (ds : List PyData) : Prop where
  stop : ∀ H', Gw T H1 H' → J.stop ds.length H'
  go : ∀ i H', i < ds.length → Gw T H1 H' → J.go i H'
  yld : ∀ i H' x H'', i < ds.length → Gw T H1 H' → J.yld i H' x H'' → H'' = H' ∧ ∃ d, ds[i]? = some d ∧ R H' x d
abbrev Walks (K : PySem.W.Frag) (T : List (Addr × Str)) (J : It) (H1 : Hp) (ds : List PyData) : Prop := WalksR (fun H v d => Rp K H v d) T J H1 ds
/-- the numbers below m -/
def rngD (m : Nat) : List PyData := (List.range m).map fun i => PyData.int ((i : Nat) : Int)
theorem rngD_length (m : Nat) : (rngD m).length = m := by simp [rngD]
end
end LB
namespace LB
open PySem PySem.Spec PyProof.Rows L2
section
variable {K : PySem.W.Frag} {T : List (Addr × Str)} {σ : L2.St} {H : Hp} {te ta tb : TE} {d : PyData} {ds es : List PyData} {tl th : TO} {lo hi : Option Int}
/-- a cut of data -/
def cutD {α : Type} (xs : List α) (lo hi : Option Int) : List α := (xs.drop (HT.sIx xs.length 0 lo)).take (HT.sIx xs.length xs.length hi - HT.sIx xs.length 0 lo)
theorem RpAll.drop {H : Hp} : ∀ {xs : List V} {ds : List PyData} (n : Nat), RpAll K H xs ds → RpAll K H (xs.drop n) (ds.drop n)
  | _, _, 0, r => r
  | _, _, n + 1, .nil => .nil
  | _, _, n + 1, .cons _ r => RpAll.drop n r
theorem RpAll.take {H : Hp} : ∀ {xs : List V} {ds : List PyData} (n : Nat), RpAll K H xs ds → RpAll K H (xs.take n) (ds.take n)
  | _, _, 0, _ => .nil
  | _, _, n + 1, .nil => .nil
  | _, _, n + 1, .cons h r => .cons h (RpAll.take n r)
theorem RpAll.cut {H : Hp} {xs : List V} {ds : List PyData} (r : RpAll K H xs ds) (lo hi : Option Int) : RpAll K H (cutV xs lo hi) (cutD ds lo hi) := by
  unfold cutV cutD
  rw [r.length]
  exact (r.drop _).take _
theorem RpAll.reverse {H : Hp} : ∀ {xs : List V} {ds : List PyData}, RpAll K H xs ds → RpAll K H xs.reverse ds.reverse
  | _, _, .nil => .nil
  | _, _, .cons h r => by
    rw [List.reverse_cons, List.reverse_cons]
    exact RpAll.append (RpAll.reverse r) (.cons h .nil)
end
end LB
namespace LB
open PySem PySem.Spec PyProof.Rows L2
/-! ### the names of a drawn web -/
def abc : Str := "abcdefghijklmnopqrstuvwxyz"
def ch (c : Nat) : Str := ⟨#[c]⟩
theorem abc_nat : ∀ n : Nat, n < 26 → abc.cps.toList[n]? = some (97 + n) := by decide +kernel
theorem abc_at {i : Int} (h0 : 0 ≤ i) (h1 : i < 26) : atI abc.cps.toList i = some (97 + i.toNat) := by
  have e : ((i.toNat : Nat) : Int) = i := by omega
  have z := atI_nat (abc_nat i.toNat (by omega))
  rw [e] at z
  exact z
theorem abc_len : abc.length ≤ 1000 := by decide +kernel
def abch : Str := "abcdefgh"
theorem abch_nat : ∀ n : Nat, n < 8 → abch.cps.toList[n]? = some (97 + n) := by decide +kernel
theorem abch_at {i : Nat} (h : i < 8) : atI abch.cps.toList (i : Int) = some (97 + i) := atI_nat (abch_nat i h)
theorem abch_len : abch.length ≤ 1000 := by decide +kernel
def lt26 (i : Int) : Nat := 97 + (i.fmod 26).toNat
/-- the k-th drawn name -/
def nmOf (x0 x1 x2 x3 : Int) (k : Nat) : Str :=
  if x1.fmod 4 = 3 then (ch (lt26 x2) ++ ch (lt26 (x3 + 5 * (k : Int)))) ++ ch (lt26 x0)
  else if x1.fmod 4 = 2 then repS (ch (lt26 x2)) (1 + k)
  else if x1.fmod 4 = 1 then ch (97 + k) ++ repS (ch (lt26 x2)) (x3.fmod 8).toNat
  else repS (ch (lt26 (x0 + 7 * (k : Int)))) (1 + ((x2 + 3 * (k : Int)).fmod (if x3.fmod 2 = 1 then 5 else 1)).toNat)
/-- a name: one to eight letters -/
def NameOk (x : Str) : Prop := 1 ≤ x.length ∧ x.length ≤ 8 ∧ ∀ c ∈ x.cps.toList, 97 ≤ c ∧ c ≤ 122
theorem lt26_ok (i : Int) : 97 ≤ lt26 i ∧ lt26 i ≤ 122 := by
  have := fm i (b := 26) (by decide)
  unfold lt26
  omega
theorem app_cps (x y : Str) : (x ++ y).cps.toList = x.cps.toList ++ y.cps.toList := by
  show (x.cps ++ y.cps).toList = _
  simp
theorem app_length (x y : Str) : (x ++ y).length = x.length + y.length := by
  show (x.cps ++ y.cps).size = _
  simp
  rfl
theorem rep_cps (c n : Nat) : (repS (ch c) n).cps.toList = List.replicate n c := by
  show ((List.replicate n [c]).flatten).toArray.toList = _
  rw [List.toList_toArray]
  induction n with
  | zero => rfl
  | succ n ih =>
    rw [List.replicate_succ, List.flatten_cons, ih, List.replicate_succ]
    rfl
theorem rep_length (c n : Nat) : (repS (ch c) n).length = n := by
  rw [repS_length]
  show n * 1 = n
  omega
theorem ch_length (c : Nat) : (ch c).length = 1 := rfl
theorem ch_cps (c : Nat) : (ch c).cps.toList = [c] := rfl
theorem nm_ok (x0 x1 x2 x3 : Int) {k : Nat} (hk : k < 8) : NameOk (nmOf x0 x1 x2 x3 k) := by
  unfold nmOf
  split
  · refine ⟨?_, ?_, fun c hc => ?_⟩
    · rw [app_length, app_length, ch_length, ch_length, ch_length]; omega
    · rw [app_length, app_length, ch_length, ch_length, ch_length]; omega
    · rw [app_cps, app_cps, ch_cps, ch_cps, ch_cps] at hc
      simp at hc
      rcases hc with rfl | rfl | rfl <;> exact lt26_ok _
  · split
    · refine ⟨?_, ?_, fun c hc => ?_⟩
      · rw [rep_length]; omega
      · rw [rep_length]; omega
      · rw [rep_cps] at hc
        rw [List.eq_of_mem_replicate hc]
        exact lt26_ok _
    · split
      · have := fm x3 (b := 8) (by decide)
        refine ⟨?_, ?_, fun c hc => ?_⟩
        · rw [app_length, ch_length, rep_length]; omega
        · rw [app_length, ch_length, rep_length]; omega
        · rw [app_cps, ch_cps, rep_cps] at hc
          rcases List.mem_append.mp hc with h | h
          · rw [List.mem_singleton.mp h]; omega
          · rw [List.eq_of_mem_replicate h]
            exact lt26_ok _
      · have := fm (x2 + 3 * (k : Int)) (b := if x3.fmod 2 = 1 then 5 else 1) (by split <;> decide)
        have h5 : (if x3.fmod 2 = 1 then (5 : Int) else 1) ≤ 5 := by split <;> decide
        refine ⟨?_, ?_, fun c hc => ?_⟩
        · rw [rep_length]; omega
        · rw [rep_length]; omega
        · rw [rep_cps] at hc
          rw [List.eq_of_mem_replicate hc]
          exact lt26_ok _
theorem fm26 {a : Int} {i j c : Nat} (hi : i < 8) (hj : j < 8) (hc : c = 5 ∨ c = 7) (h : lt26 (a + (c : Int) * (i : Int)) = lt26 (a + (c : Int) * (j : Int))) : i = j := by
  unfold lt26 at h
  have h1 := fm (a + (c : Int) * (i : Int)) (b := 26) (by decide)
  have h2 := fm (a + (c : Int) * (j : Int)) (b := 26) (by decide)
  have e1 : (a + (c : Int) * (i : Int)).fmod 26 = (a + (c : Int) * (i : Int)) % 26 := Int.fmod_eq_emod_of_nonneg _ (by decide)
  have e2 : (a + (c : Int) * (j : Int)).fmod 26 = (a + (c : Int) * (j : Int)) % 26 := Int.fmod_eq_emod_of_nonneg _ (by decide)
  rcases hc with rfl | rfl <;> omega
theorem nm_inj (x0 x1 x2 x3 : Int) {i j : Nat} (hi : i < 8) (hj : j < 8) (h : nmOf x0 x1 x2 x3 i = nmOf x0 x1 x2 x3 j) : i = j := by
  unfold nmOf at h
  split at h
  · have e := congrArg (fun x : Str => x.cps.toList) h
    simp only [app_cps, ch_cps] at e
    simp at e
    exact fm26 (c := 5) hi hj (.inl rfl) e
  · split at h
    · have e := congrArg (fun x : Str => x.length) h
      simp only [rep_length] at e
      omega
    · split at h
      · have e := congrArg (fun x : Str => x.cps.toList) h
        simp only [app_cps, ch_cps, rep_cps] at e
        simp at e
        omega
      · have e := congrArg (fun x : Str => x.cps.toList.head?) h
        simp only [rep_cps] at e
        rw [Nat.add_comm 1, Nat.add_comm 1, List.replicate_succ, List.replicate_succ] at e
        simp at e
        exact fm26 (c := 7) hi hj (.inr rfl) e
/-- names that rise -/
def Rise (ns : List Str) : Prop := ns.Pairwise fun a b => a.cps.toList < b.cps.toList
structure NamesOk (m : Nat) (ns : List Str) : Prop where
  len : ns.length = m
  rise : Rise ns
  each : ∀ x ∈ ns, NameOk x
theorem str_ext {x y : Str} (h : x.cps.toList = y.cps.toList) : x = y := by
  cases x
  cases y
  congr 1
  exact Array.toList_inj.mp h
end LB
namespace LB
open PySem PySem.Spec PyProof.Rows L2
/-! ### promises of the defs by which a web is drawn -/
/-- drawn numbers -/
def NumsOk (m : Nat) (xs : List Int) : Prop := xs.length = m ∧ ∀ x ∈ xs, 0 ≤ x ∧ x < 2000000000
section
variable {K : PySem.W.Frag} {T : List (Addr × Str)} {σ : L2.St} {H : Hp} {te ta tb : TE} {d : PyData} {ds : List PyData}
end
end LB
namespace LB
open PySem PySem.Spec PyProof.Rows L2 PySem.W
/-! ### places, ties, webs among data -/
def PlaceOk (top : Int) (x : Str) (d : PyData) : Prop := ∃ a b c e : Int, d = .tuple [.str x, .int a, .int b, .int c, .int e] ∧ (0 ≤ a ∧ a < 100) ∧ (0 ≤ b ∧ b < 100) ∧ (0 ≤ e ∧ e < 100) ∧ e * top ≤ c ∧ c ≤ 999
def TieOk (ns : List Str) (d : PyData) : Prop := ∃ (a b : Str) (s : Int), d = .tuple [.str a, .str b, .int s] ∧ a ∈ ns ∧ b ∈ ns ∧ a ≠ b ∧ 1 ≤ s ∧ s ≤ 999
structure WebOk (top : Int) (ns : List Str) (ps ts : List PyData) : Prop where
  t1 : 1 ≤ top
  t9 : top ≤ 9
  n1 : 1 ≤ ns.length
  n8 : ns.length ≤ 8
  rise : Rise ns
  each : ∀ x ∈ ns, NameOk x
  pl : EachIs (PlaceOk top) ns ps
  tl : ts.length ≤ 16
  ti : ∀ t ∈ ts, TieOk ns t
def webD (top : Int) (ps ts : List PyData) : PyData := .tuple [.int top, .tuple ps, .tuple ts]
def pk4 (p q r s : Int) (w : Nat) : Int := [p, q, r, s].getD w 0
theorem pk4_at {p q r s : Int} {w : Nat} (h : w < 4) : atI [PyData.int p, PyData.int q, PyData.int r, PyData.int s] (w : Int) = some (.int (pk4 p q r s w)) := by
  match w, h with
  | 0, _ => exact at0
  | 1, _ => exact at1
  | 2, _ => exact at2
  | 3, _ => exact at3
theorem pk4_in {p q r s lo hi : Int} {w : Nat} (h : w < 4) (h1 : lo ≤ p ∧ p ≤ hi) (h2 : lo ≤ q ∧ q ≤ hi) (h3 : lo ≤ r ∧ r ≤ hi) (h4 : lo ≤ s ∧ s ≤ hi) : lo ≤ pk4 p q r s w ∧ pk4 p q r s w ≤ hi := by
  match w, h with
  | 0, _ => exact h1
  | 1, _ => exact h2
  | 2, _ => exact h3
  | 3, _ => exact h4
section
variable {K : PySem.W.Frag} {T : List (Addr × Str)} {σ : L2.St} {H : Hp} {te ta tb : TE} {d : PyData} {ds : List PyData}
theorem s_par {D : Ends} {i j : Nat} {ta : TA} {d1 d2 : PyData} (ha : GvA K T ta σ H [d1, d2]) (k : ∀ v1 v2 H2, Gw T H H2 → Rp K H2 v1 d1 → Rp K H2 v2 d2 → D.nx ((σ.set i (some v1)).set j (some v2)) H2) : tPar i j ta D σ H := ha H (Gw.refl T H) _ fun vs H2 g r => by
  cases r with
  | cons r1 r =>
    cases r with
    | cons r2 r =>
      cases r
      exact ⟨_, _, rfl, k _ _ H2 g r1 r2⟩
end
end LB
namespace LB
open PySem PySem.Spec PyProof.Rows L2 PySem.W
/-! ### the dict of ties -/
def TK (ns : List Str) (kvs : List (List Key × V)) : Prop := ∀ e ∈ kvs, ∃ (a b : Str) (s : Int), e = ([.inr a, .inr b], .int s) ∧ a ∈ ns ∧ b ∈ ns ∧ a ≠ b ∧ 1 ≤ s ∧ s ≤ 999
theorem TK.put {ns : List Str} {kvs : List (List Key × V)} (h : TK ns kvs) {a b : Str} {s : Int} (ha : a ∈ ns) (hb : b ∈ ns) (hn : a ≠ b) (h1 : 1 ≤ s) (h9 : s ≤ 999) : TK ns (putK kvs [.inr a, .inr b] (.int s)) := by
  intro e he
  unfold putK at he
  split at he
  · obtain ⟨kv, hk, rfl⟩ := List.mem_map.mp he
    by_cases z : kv.1 = [.inr a, .inr b]
    · rw [if_pos z, z]
      exact ⟨a, b, s, rfl, ha, hb, hn, h1, h9⟩
    · rw [if_neg z]
      exact h kv hk
  · rcases List.mem_append.mp he with h' | h'
    · exact h e h'
    · rw [List.mem_singleton.mp h']
      exact ⟨a, b, s, rfl, ha, hb, hn, h1, h9⟩
theorem TK.key {ns : List Str} {kvs : List (List Key × V)} (h : TK ns kvs) : ∀ d ∈ keysD kvs, ∃ a b : Str, d = .tuple [.str a, .str b] := by
  intro d hd
  obtain ⟨p, hp, rfl⟩ := List.mem_map.mp hd
  obtain ⟨a, b, s, rfl, _⟩ := h p hp
  exact ⟨a, b, rfl⟩
theorem TK.srt {ns : List Str} {kvs : List (List Key × V)} (h : TK ns kvs) (hl : kvs.length ≤ 1000) : Srt (keysD kvs) ∧ Sortable (keysD kvs) := by
  have ok : Sortable (keysD kvs) := .inl fun d hd => by
    obtain ⟨a, b, rfl⟩ := h.key d hd
    exact ⟨_, _, rfl⟩
  refine ⟨⟨fun d hd d' hd' => ?_, .inl ok, fun d hd => ?_, by unfold keysD; rw [List.length_map]; omega⟩, ok⟩
  · obtain ⟨a, b, rfl⟩ := h.key d hd
    obtain ⟨a', b', rfl⟩ := h.key d' hd'
    rfl
  · obtain ⟨a, b, rfl⟩ := h.key d hd
    exact Nat.le_of_ble_eq_true rfl
/-- what a key leads to -/
theorem TK.val {ns : List Str} {kvs : List (List Key × V)} (h : TK ns kvs) {d : PyData} (hd : d ∈ keysD kvs) : ∃ (a b : Str) (s : Int), d = .tuple [.str a, .str b] ∧ valV kvs [.inr a, .inr b] = some (.int s) ∧ a ∈ ns ∧ b ∈ ns ∧ a ≠ b ∧ 1 ≤ s ∧ s ≤ 999 := by
  obtain ⟨p, hp, rfl⟩ := List.mem_map.mp hd
  obtain ⟨a, b, s, rfl, _⟩ := h p hp
  cases hf : kvs.find? (fun kv => decide (kv.1 = [.inr a, .inr b])) with
  | none =>
    have := List.find?_eq_none.mp hf _ hp
    simp at this
  | some q =>
    have hq := List.mem_of_find?_eq_some hf
    have hk : q.1 = [.inr a, .inr b] := by simpa using List.find?_some hf
    obtain ⟨a', b', s', e, h1, h2, h3, h4, h5⟩ := h q hq
    rw [e] at hk
    cases hk
    refine ⟨a, b, s', rfl, ?_, h1, h2, h3, h4, h5⟩
    unfold valV
    rw [hf, e] <;> rfl
section
variable {K : PySem.W.Frag} {T : List (Addr × Str)} {σ : L2.St} {H : Hp} {te ta tb : TE} {d : PyData} {ds : List PyData}
theorem TupK.up {H H' : Hp} {b : Addr} (h : TupK H b d) (g : Gw T H H') : TupK H' b d := by
  obtain ⟨ks, rfl, e⟩ := h
  exact ⟨ks, rfl, g.tup e⟩
theorem each_at {α β : Type} {R : α → β → Prop} : ∀ {as : List α} {bs : List β}, EachIs R as bs → ∀ (i : Nat) (h : i < as.length), ∃ b, bs[i]? = some b ∧ R as[i] b
  | _, _, .nil, i, h => by simp at h
  | _, _, .cons r t, 0, h => ⟨_, rfl, r⟩
  | _, _, .cons r t, i + 1, h => by
    obtain ⟨b, h1, h2⟩ := each_at t i (by simpa using h)
    exact ⟨b, h1, h2⟩
end
end LB
namespace LB
open PySem PySem.Spec PyProof.Rows L2
/-! ### rules that name the written part: for the blocks of comprehensions -/
section
variable (K : PySem.W.Frag) {X : Cx}
theorem op_inK (h : X.K = K := by rfl) : OpR X (compareOp .In) (rIn K false) := by
  subst h
  exact op_in_seq
theorem call_lenK (h : X.K = K := by rfl) : CallR X (.builtin "len") (fun xs H Q => ∃ x n, xs = [x] ∧ LenV K x H n ∧ Q (.int n) H) := by
  subst h
  exact call_len
theorem call_isK (h : X.K = K := by rfl) : CallR X (.builtin "isinstance") (rIsiY K) := by
  subst h
  exact call_isiY
theorem call_tupK (h : X.K = K := by rfl) : CallR X (.type "tuple") (fun xs H Q => ∃ p ys, xs = [.ref p] ∧ ((SqL K H p ys ∧ ∀ l, H l = none → Q (.ref l) (upd H l (.tup ys))) ∨ (SqT K H p ys ∧ Q (.ref p) H))) := by
  subst h
  exact call_tuple_of
theorem pa_starK {e : Expr} {es : List Expr} {te : TE} {t : TA} {p : Pos} (he : PE X e te) (hr : PA X es t) (h : X.K = K := by rfl) (hs : starEach (.Starred e p :: es) X.env = (true, eval e X.env) :: starEach es X.env := by rfl) : PA X (.Starred e p :: es) (StX.tStar K te t) := by
  subst h
  exact StX.pa_star he hr hs
end
end LB
namespace LB
open PySem PySem.Spec PyProof.Rows L2
mutual
def ndD : PyData → Bool
  | .none => true
  | .bool _ => true
  | .int _ => true
  | .str _ => true
  | .tuple ds => ndDs ds
  | .list ds => ndDs ds
  | .dict _ => false
def ndDs : List PyData → Bool
  | [] => true
  | d :: ds => ndD d && ndDs ds
end
def NoSeq (H : Hp) (p : Addr) : Prop := ∀ xs, ¬ Rd H p (.tup xs) ∧ ¬ Rd H p (.lst xs)
theorem sqL_mutD {K : PySem.W.Frag} {H : Hp} {p a : Addr} {o : HO} {xs : List V} (hp : NoSeq H p) (h : SqL K H a xs) : SqL K (upd H p o) a xs := by
  rcases h with h | h
  · have n : a ≠ p := fun z => (hp xs).2 (by rw [← z]; exact h)
    refine .inl ?_
    rcases h with h | ⟨u, h⟩
    · exact .inl (by rw [upd_ne n]; exact h)
    · exact .inr ⟨u, by rw [upd_ne n]; exact h⟩
  · exact .inr h
mutual
theorem rp_mutD {K : PySem.W.Frag} {H : Hp} {p : Addr} {o : HO} (hp : NoSeq H p) : ∀ {v : V} {d : PyData}, ndD d = true → Rp K H v d → Rp K (upd H p o) v d
  | _, _, _, .non => .non
  | _, _, _, .bl b => .bl b
  | _, _, _, .int i => .int i
  | _, _, _, .str x => .str x
  | _, _, h, .lst hs ha => .lst (sqL_mutD hp hs) (rps_mutD hp (by simpa [ndD] using h) ha)
  | _, _, h, .tup hs ha => .tup (tp_mut (fun ys => (hp ys).1) hs) (rps_mutD hp (by simpa [ndD] using h) ha)
  | _, _, h, .dct _ _ _ => absurd h (by simp [ndD])
  | _, _, h, .dcT _ _ _ => absurd h (by simp [ndD])
theorem rps_mutD {K : PySem.W.Frag} {H : Hp} {p : Addr} {o : HO} (hp : NoSeq H p) : ∀ {vs : List V} {ds : List PyData}, ndDs ds = true → RpAll K H vs ds → RpAll K (upd H p o) vs ds
  | _, _, _, .nil => .nil
  | _, _, h, .cons h1 h2 => by
    unfold ndDs at h
    rw [Bool.and_eq_true] at h
    exact .cons (rp_mutD hp h.1 h1) (rps_mutD hp h.2 h2)
end
section
variable {K : PySem.W.Frag} {T : List (Addr × Str)} {σ : L2.St} {H : Hp}
theorem str_at {ns : List Str} {i : Nat} (h : i < ns.length) : atI (ns.map PyData.str) (i : Int) = some (.str ns[i]) := atI_nat (by rw [List.getElem?_map, List.getElem?_eq_getElem h]; rfl)
end
end LB
namespace PM
open PySem PySem.Spec PyProof.Rows L2 LB
/-! ### two heaps: M what data may stand on, H all -/
abbrev Tb := List (Addr × Str)
structure Pr (T : Tb) where
  M : Hp
  H : Hp
  sub : Ex M H
  tab : LamX.Tabs T H
  nt : ∀ a ps, M a ≠ some (.tbl ps)
def Loose (H : Hp) (a : Addr) : Prop := ∀ o, H a = some o → ∃ ps, o = HO.tbl ps
/-- free to be stood on: new, or a tuple -/
def Opn (H : Hp) (a : Addr) : Prop := Loose H a ∨ ∃ vs, H a = some (.tup vs)
structure Le {T : Tb} (P P' : Pr T) : Prop where
  m : Ex P.M P'.M
  h : Ex P.H P'.H
  f : ∀ a, P.M a = none → P'.M a ≠ none → Opn P.H a
variable {T : Tb} {K : PySem.W.Frag}
theorem Le.refl (P : Pr T) : Le P P := ⟨ex_refl _, ex_refl _, fun a h n => absurd h n⟩
theorem loose_back {H H' : Hp} (e : Ex H H') {a : Addr} (h : Loose H' a) : Loose H a := fun o ho => by
  by_cases t : ∃ ps, o = HO.tbl ps
  · exact t
  · exact h o (e a o ho fun ps z => t ⟨ps, z⟩)
theorem opn_back {H H' : Hp} (e : Ex H H') {a : Addr} (h : Opn H' a) : Opn H a := by
  rcases h with h | ⟨vs, h⟩
  · exact .inl (loose_back e h)
  · cases z : H a with
    | none => exact .inl fun o ho => by rw [z] at ho; cases ho
    | some o =>
      by_cases t : ∃ ps, o = HO.tbl ps
      · exact .inl fun o' ho => by
          rw [z] at ho
          cases ho
          exact t
      · have := e a o z fun ps w => t ⟨ps, w⟩
        rw [h] at this
        cases this
        exact .inr ⟨vs, z⟩
theorem Le.trans {P P' P'' : Pr T} (a : Le P P') (b : Le P' P'') : Le P P'' := ⟨a.m.trans b.m, a.h.trans b.h, fun p h n => by
  by_cases z : P'.M p = none
  · exact opn_back a.h (b.f p z n)
  · exact a.f p h z⟩
theorem loose_none {H : Hp} {a : Addr} (h : H a = none) : Loose H a := fun o e => by rw [h] at e; cases e
theorem Loose.lst {H : Hp} {a : Addr} {xs : List V} (h : Loose H a) (e : H a = some (.lst xs)) : False := by
  obtain ⟨ps, z⟩ := h _ e
  cases z
theorem Loose.dT {H : Hp} {a : Addr} {xs : List (List Key × V)} (h : Loose H a) (e : H a = some (.dT xs)) : False := by
  obtain ⟨ps, z⟩ := h _ e
  cases z
theorem Loose.dK {H : Hp} {a : Addr} {xs : List (Key × V)} (h : Loose H a) (e : H a = some (.dK xs)) : False := by
  obtain ⟨ps, z⟩ := h _ e
  cases z
/-- o is no table -/
def Plain (o : HO) : Prop := ∀ ps, o ≠ .tbl ps
theorem Pr.none (P : Pr T) {p : Addr} (h : P.H p = Option.none) : P.M p = Option.none := by
  cases e : P.M p with
  | none => rfl
  | some o =>
    have := P.sub p o e fun ps z => P.nt p ps (by rw [e, z])
    rw [h] at this
    cases this
theorem ex_upd {M H : Hp} (s : Ex M H) {p : Addr} {o : HO} (h : H p = none) : Ex M (upd H p o) := fun b u e n => by
  have := s b u e n
  rw [upd_ne (ne_of_none this h)]
  exact this
theorem ex_upd2 {M H : Hp} (s : Ex M H) {p : Addr} {o : HO} : Ex (upd M p o) (upd H p o) := fun b u e n => by
  by_cases z : b = p
  · subst z
    rw [upd_same] at e ⊢
    exact e
  · rw [upd_ne z] at e ⊢
    exact s b u e n
theorem ex_updM {M H : Hp} (s : Ex M H) {p : Addr} {o : HO} (h : H p = none) : Ex M (upd M p o) := fun b u e n => by
  have := s b u e n
  rw [upd_ne (ne_of_none this h)]
  exact e
theorem nt_upd {M : Hp} {p : Addr} {o : HO} (h : ∀ a ps, M a ≠ some (.tbl ps)) (n : Plain o) : ∀ a ps, upd M p o a ≠ some (.tbl ps) := fun a ps z => by
  by_cases e : a = p
  · subst e
    rw [upd_same] at z
    exact n ps (Option.some.inj z)
  · rw [upd_ne e] at z
    exact h a ps z
/-- a new object that data may stand on -/
def Pr.put (P : Pr T) (p : Addr) (o : HO) (h : P.H p = Option.none) (n : Plain o := by exact fun _ z => nomatch z) : Pr T := ⟨upd P.M p o, upd P.H p o, ex_upd2 P.sub, (gw_new (T := T) h).2 P.tab, nt_upd P.nt n⟩
/-- a new object of its own -/
def Pr.hid (P : Pr T) (p : Addr) (o : HO) (h : P.H p = Option.none) : Pr T := ⟨P.M, upd P.H p o, ex_upd P.sub h, (gw_new (T := T) h).2 P.tab, P.nt⟩
theorem le_put (P : Pr T) {p : Addr} {o : HO} (h : P.H p = none) (n : Plain o := by exact fun _ z => nomatch z) : Le P (P.put p o h n) := ⟨ex_updM P.sub h, ex_new h, fun a z n => by
  by_cases e : a = p
  · subst e
    exact .inl (loose_none h)
  · exact absurd z (by
      have : (upd P.M p o) a ≠ none := n
      rw [upd_ne e] at this
      exact this)⟩
theorem le_hid (P : Pr T) {p : Addr} {o : HO} (h : P.H p = none) : Le P (P.hid p o h) := ⟨ex_refl _, ex_new h, fun a z n => absurd z n⟩
/-! ### what stands in a slot -/
inductive Sl where
  | no | val (d : PyData) | own (d : PyData) | exn (a : Addr) | ods (ds : List (Str × PyData)) | lck (ds : List (PyData × PyData))
abbrev Ev := List Sl
def DT (K : PySem.W.Frag) (M : Hp) (e : List Key × V) (f : PyData × PyData) : Prop := f.1 = .tuple (e.1.map keyD) ∧ Rp K M e.2 f.2
def DS (K : PySem.W.Frag) (M : Hp) (e : Key × V) (f : Str × PyData) : Prop := e.1 = .inr f.1 ∧ Rp K M e.2 f.2
inductive OwnAt (K : PySem.W.Frag) (P : Pr T) (p : Addr) : PyData → Prop
  | lst {xs : List V} {ds : List PyData} : P.M p = none → P.H p = some (.lst xs) → RpAll K P.M xs ds → OwnAt K P p (.list ds)
  | dT {kvs : List (List Key × V)} {ds : List (PyData × PyData)} : P.M p = none → P.H p = some (.dT kvs) → PySem.W.EachIs (DT K P.M) kvs ds → OwnAt K P p (.dict ds)
theorem own_none {P P' : Pr T} (l : Le P P') {p : Addr} {o : HO} (h : P.M p = none) (e : P.H p = some o) (n : Plain o) (n2 : ∀ vs, o ≠ .tup vs) : P'.M p = none := by
  cases z : P'.M p with
  | none => rfl
  | some u =>
    rcases l.f p h (by rw [z]; exact fun q => nomatch q) with w | ⟨vs, w⟩
    · obtain ⟨ps, w⟩ := w o e
      exact absurd w (n ps)
    · rw [e] at w
      exact absurd (Option.some.inj w) (n2 vs)
theorem OwnAt.up {P P' : Pr T} (l : Le P P') {p : Addr} {d : PyData} (h : OwnAt K P p d) : OwnAt K P' p d := by
  cases h with
  | lst h1 h2 h3 => exact .lst (own_none l h1 h2 (fun _ z => nomatch z) fun _ z => nomatch z) (l.h _ _ h2 fun _ z => nomatch z) (h3.ext l.m)
  | dT h1 h2 h3 => exact .dT (own_none l h1 h2 (fun _ z => nomatch z) fun _ z => nomatch z) (l.h _ _ h2 fun _ z => nomatch z) (h3.mono fun _ _ r => ⟨r.1, r.2.ext l.m⟩)
/-- the object of an own thing -/
theorem OwnAt.obj {P : Pr T} {p : Addr} {d : PyData} (h : OwnAt K P p d) : P.M p = none ∧ ∃ o, P.H p = some o ∧ Plain o := by
  cases h with
  | lst h1 h2 h3 => exact ⟨h1, _, h2, fun _ z => nomatch z⟩
  | dT h1 h2 h3 => exact ⟨h1, _, h2, fun _ z => nomatch z⟩
theorem OwnAt.tight {P : Pr T} {p : Addr} {d : PyData} (h : OwnAt K P p d) (l : Loose P.H p) : False := by
  obtain ⟨_, o, h1, h2⟩ := h.obj
  obtain ⟨ps, z⟩ := l o h1
  exact h2 ps z
inductive SlOk (K : PySem.W.Frag) (P : Pr T) : Option V → Sl → Prop
  | no {o : Option V} : SlOk K P o .no
  | val {v : V} {d : PyData} : Rp K P.M v d → SlOk K P (some v) (.val d)
  | own {p : Addr} {d : PyData} : OwnAt K P p d → SlOk K P (some (.ref p)) (.own d)
  | exn {a : Addr} : SlOk K P (some (.ref a)) (.exn a)
  | ods {p : Addr} {kvs : List (Key × V)} {ds : List (Str × PyData)} : P.M p = none → P.H p = some (.dK kvs) → PySem.W.EachIs (DS K P.M) kvs ds → SlOk K P (some (.ref p)) (.ods ds)
  | lck {p : Addr} {od : Obj} {kvs : List (List Key × V)} {ds : List (PyData × PyData)} : P.M p = none → P.H p = some (.frz od (.dT kvs)) → PySem.W.EachIs (DT K P.M) kvs ds → SlOk K P (some (.ref p)) (.lck ds)
theorem SlOk.up {P P' : Pr T} (l : Le P P') {o : Option V} {s : Sl} (h : SlOk K P o s) : SlOk K P' o s := by
  cases h with
  | no => exact .no
  | val h => exact .val (h.ext l.m)
  | own h => exact .own (h.up l)
  | exn => exact .exn
  | ods h1 h2 h3 => exact .ods (own_none l h1 h2 (fun _ z => nomatch z) fun _ z => nomatch z) (l.h _ _ h2 fun _ z => nomatch z) (h3.mono fun _ _ r => ⟨r.1, r.2.ext l.m⟩)
  | lck h1 h2 h3 => exact .lck (own_none l h1 h2 (fun _ z => nomatch z) fun _ z => nomatch z) (l.h _ _ h2 fun _ z => nomatch z) (h3.mono fun _ _ r => ⟨r.1, r.2.ext l.m⟩)
/-- dicts of one's own that are rows of names -/
def Ods (P0 : Pr T) (σ : L2.St) (ρ : Ev) : Prop := (∀ (i j : Nat) p ks ls, i ≠ j → ρ[i]? = some (.ods ks) → ρ[j]? = some (.ods ls) → σ[i]? = some (some (.ref p)) → σ[j]? = some (some (.ref p)) → False) ∧ ∀ (i : Nat) ks p, ρ[i]? = some (.ods ks) → σ[i]? = some (some (.ref p)) → Loose P0.H p
structure St (K : PySem.W.Frag) (P0 P : Pr T) (σ : L2.St) (ρ : Ev) : Prop where
  le : Le P0 P
  len : σ.length = ρ.length
  ok : ∀ (i : Nat) s, ρ[i]? = some s → ∃ o, σ[i]? = some o ∧ SlOk K P o s
  dis : ∀ (i j : Nat) p d e, i ≠ j → ρ[i]? = some (.own d) → ρ[j]? = some (.own e) → σ[i]? = some (some (.ref p)) → σ[j]? = some (some (.ref p)) → False
  fr : ∀ (i : Nat) d p, ρ[i]? = some (.own d) → σ[i]? = some (some (.ref p)) → Loose P0.H p
  od : Ods P0 σ ρ
variable {P0 P P' : Pr T} {σ : L2.St} {ρ : Ev}
theorem St.up (s : St K P0 P σ ρ) (l : Le P P') : St K P0 P' σ ρ := ⟨s.le.trans l, s.len, fun i x h => let ⟨o, h1, h2⟩ := s.ok i x h; ⟨o, h1, h2.up l⟩, s.dis, s.fr, s.od⟩
theorem getset {α : Type} {l : List α} {i j : Nat} {x y : α} (h : (l.set i x)[j]? = some y) : (i = j ∧ y = x ∧ j < l.length) ∨ (i ≠ j ∧ l[j]? = some y) := by
  by_cases e : i = j
  · subst e
    have hl : i < l.length := by
      have := (List.getElem?_eq_some_iff.mp h).1
      simpa using this
    rw [List.getElem?_set_self hl] at h
    exact .inl ⟨rfl, (Option.some.inj h).symm, hl⟩
  · rw [List.getElem?_set_ne e] at h
    exact .inr ⟨e, h⟩
theorem Ods.put {P0 : Pr T} {σ : L2.St} {ρ : Ev} (h : Ods P0 σ ρ) (i : Nat) (o : Option V) (s : Sl) (hs : ∀ ks, s ≠ .ods ks) : Ods P0 (σ.set i o) (ρ.set i s) := by
  refine ⟨fun j k p ks ls ne h1 h2 h3 h4 => ?_, fun j ks p h1 h2 => ?_⟩
  · rcases getset h1 with ⟨_, z, _⟩ | ⟨n1, h1⟩
    · exact hs ks z.symm
    rcases getset h2 with ⟨_, z, _⟩ | ⟨n2, h2⟩
    · exact hs ls z.symm
    rw [List.getElem?_set_ne n1] at h3
    rw [List.getElem?_set_ne n2] at h4
    exact h.1 j k p ks ls ne h1 h2 h3 h4
  · rcases getset h1 with ⟨_, z, _⟩ | ⟨n1, h1⟩
    · exact absurd z.symm (hs ks)
    rw [List.getElem?_set_ne n1] at h2
    exact h.2 j ks p h1 h2
theorem Ods.same {P0 : Pr T} {σ : L2.St} {ρ : Ev} (h : Ods P0 σ ρ) (i : Nat) (s : Sl) (hs : ∀ ks, s ≠ .ods ks) : Ods P0 σ (ρ.set i s) := by
  refine ⟨fun j k p ks ls ne h1 h2 h3 h4 => ?_, fun j ks p h1 h2 => ?_⟩
  · rcases getset h1 with ⟨_, z, _⟩ | ⟨n1, h1⟩
    · exact hs ks z.symm
    rcases getset h2 with ⟨_, z, _⟩ | ⟨n2, h2⟩
    · exact hs ls z.symm
    exact h.1 j k p ks ls ne h1 h2 h3 h4
  · rcases getset h1 with ⟨_, z, _⟩ | ⟨n1, h1⟩
    · exact absurd z.symm (hs ks)
    exact h.2 j ks p h1 h2
theorem St.set (s : St K P0 P σ ρ) {v : V} {d : PyData} (r : Rp K P.M v d) (i : Nat) : St K P0 P (σ.set i (some v)) (ρ.set i (.val d)) := by
  refine ⟨s.le, by rw [List.length_set, List.length_set]; exact s.len, fun j x h => ?_, fun j k p d1 e ne h1 h2 h3 h4 => ?_, fun j e p h1 h2 => ?_, s.od.put i _ _ fun _ z => nomatch z⟩
  · rcases getset h with ⟨rfl, rfl, hl⟩ | ⟨ne, h⟩
    · exact ⟨_, List.getElem?_set_self (by rw [s.len]; exact hl), .val r⟩
    · rw [List.getElem?_set_ne ne]
      exact s.ok j x h
  · rcases getset h1 with ⟨_, z, _⟩ | ⟨ne1, h1⟩
    · cases z
    rcases getset h2 with ⟨_, z, _⟩ | ⟨ne2, h2⟩
    · cases z
    rw [List.getElem?_set_ne ne1] at h3
    rw [List.getElem?_set_ne ne2] at h4
    exact s.dis j k p d1 e ne h1 h2 h3 h4
  · rcases getset h1 with ⟨_, z, _⟩ | ⟨ne1, h1⟩
    · cases z
    rw [List.getElem?_set_ne ne1] at h2
    exact s.fr j e p h1 h2
/-- a slot is forgotten -/
theorem St.wipe (s : St K P0 P σ ρ) (i : Nat) (o : Option V) : St K P0 P (σ.set i o) (ρ.set i .no) := by
  refine ⟨s.le, by rw [List.length_set, List.length_set]; exact s.len, fun j x h => ?_, fun j k p d1 e ne h1 h2 h3 h4 => ?_, fun j e p h1 h2 => ?_, s.od.put i _ _ fun _ z => nomatch z⟩
  · rcases getset h with ⟨rfl, rfl, hl⟩ | ⟨ne, h⟩
    · exact ⟨_, List.getElem?_set_self (by rw [s.len]; exact hl), .no⟩
    · rw [List.getElem?_set_ne ne]
      exact s.ok j x h
  · rcases getset h1 with ⟨_, z, _⟩ | ⟨ne1, h1⟩
    · cases z
    rcases getset h2 with ⟨_, z, _⟩ | ⟨ne2, h2⟩
    · cases z
    rw [List.getElem?_set_ne ne1] at h3
    rw [List.getElem?_set_ne ne2] at h4
    exact s.dis j k p d1 e ne h1 h2 h3 h4
  · rcases getset h1 with ⟨_, z, _⟩ | ⟨ne1, h1⟩
    · cases z
    rw [List.getElem?_set_ne ne1] at h2
    exact s.fr j e p h1 h2
theorem St.setO (s : St K P0 P σ ρ) {p : Addr} {d : PyData} (r : OwnAt K P p d) (l : Loose P0.H p) (i : Nat) (ap : ∀ (j : Nat) e q, ρ[j]? = some (.own e) → σ[j]? = some (some (.ref q)) → q ≠ p) : St K P0 P (σ.set i (some (.ref p))) (ρ.set i (.own d)) := by
  refine ⟨s.le, by rw [List.length_set, List.length_set]; exact s.len, fun j x h => ?_, fun j k q d1 e ne h1 h2 h3 h4 => ?_, fun j e q h1 h2 => ?_, s.od.put i _ _ fun _ z => nomatch z⟩
  · rcases getset h with ⟨rfl, rfl, hl⟩ | ⟨ne, h⟩
    · exact ⟨_, List.getElem?_set_self (by rw [s.len]; exact hl), .own r⟩
    · rw [List.getElem?_set_ne ne]
      exact s.ok j x h
  · rcases getset h1 with ⟨rfl, z, hl⟩ | ⟨ne1, h1⟩
    · rcases getset h2 with ⟨z2, _, _⟩ | ⟨ne2, h2⟩
      · exact ne z2
      · rw [List.getElem?_set_self (by rw [s.len]; exact hl)] at h3
        cases h3
        rw [List.getElem?_set_ne ne2] at h4
        exact ap k e _ h2 h4 rfl
    · rcases getset h2 with ⟨rfl, z, hl⟩ | ⟨ne2, h2⟩
      · rw [List.getElem?_set_self (by rw [s.len]; exact hl)] at h4
        cases h4
        rw [List.getElem?_set_ne ne1] at h3
        exact ap j d1 _ h1 h3 rfl
      · rw [List.getElem?_set_ne ne1] at h3
        rw [List.getElem?_set_ne ne2] at h4
        exact s.dis j k q d1 e ne h1 h2 h3 h4
  · rcases getset h1 with ⟨rfl, z, hl⟩ | ⟨ne1, h1⟩
    · rw [List.getElem?_set_self (by rw [s.len]; exact hl)] at h2
      cases h2
      exact l
    · rw [List.getElem?_set_ne ne1] at h2
      exact s.fr j e q h1 h2
theorem tabs_mut {H : Hp} {p : Addr} {o o' : HO} (t : LamX.Tabs T H) (hp : H p = some o) (n : Plain o) (nc : ∀ c q, o ≠ LamX.CodeO c q) : LamX.Tabs T (upd H p o') := fun q hq => by
  obtain ⟨ps, h1, h2, h3⟩ := t q hq
  have ne1 : q.1 ≠ p := fun z => by
    rw [z, hp] at h1
    exact n ps (Option.some.inj h1)
  refine ⟨ps, by rw [upd_ne ne1]; exact h1, h2, fun pos cv hc => ?_⟩
  obtain ⟨c, e1, e2⟩ := h3 pos cv hc
  have ne2 : c ≠ p := fun z => by
    rw [z, hp] at e2
    exact nc _ _ (Option.some.inj e2)
  exact ⟨c, e1, by rw [upd_ne ne2]; exact e2⟩
/-- an own thing is changed -/
theorem St.mut (s : St K P0 P σ ρ) {i : Nat} {p : Addr} {d d' : PyData} {o o' : HO} (hρ : ρ[i]? = some (.own d)) (hσ : σ[i]? = some (some (.ref p))) (hM : P.M p = none) (hp : P.H p = some o) (n : Plain o) (nc : ∀ c q, o ≠ LamX.CodeO c q)
    (hd : ∀ Q : Pr T, Q.M = P.M → Q.H = upd P.H p o' → OwnAt K Q p d') : ∃ Q : Pr T, Q.M = P.M ∧ Q.H = upd P.H p o' ∧ St K P0 Q σ (ρ.set i (.own d')) := by
  have hl : i < ρ.length := (List.getElem?_eq_some_iff.mp hρ).1
  have lo := s.fr i d p hρ hσ
  refine ⟨⟨P.M, upd P.H p o', fun b u e q => ?_, tabs_mut P.tab hp n nc, P.nt⟩, rfl, rfl, ⟨⟨s.le.m, fun b u e q => ?_, s.le.f⟩, by rw [List.length_set]; exact s.len, fun j x h => ?_, fun j k q d1 e ne h1 h2 h3 h4 => ?_, fun j e q h1 h2 => ?_, s.od.same i _ fun _ z => nomatch z⟩⟩
  · have ne : b ≠ p := fun z => by rw [z, hM] at e; cases e
    rw [upd_ne ne]
    exact P.sub b u e q
  · have ne : b ≠ p := fun z => by
      rw [z] at e
      obtain ⟨ps, w⟩ := lo u e
      exact q ps w
    show upd P.H p o' b = some u
    rw [upd_ne ne]
    exact s.le.h b u e q
  · rcases getset h with ⟨rfl, rfl, _⟩ | ⟨ne, h⟩
    · exact ⟨_, hσ, .own (hd _ rfl rfl)⟩
    · obtain ⟨u, h1, h2⟩ := s.ok j x h
      refine ⟨u, h1, ?_⟩
      cases h2 with
      | no => exact .no
      | val r => exact .val r
      | exn => exact .exn
      | @ods q kvs ks b1 b2 b3 =>
        have nq : q ≠ p := fun z => by
          obtain ⟨u', k1, k2⟩ := s.ok i _ hρ
          rw [hσ] at k1
          cases k1
          rw [z] at b2
          cases k2 with
          | own r =>
            cases r with
            | lst a1 a2 a3 =>
              rw [b2] at a2
              cases a2
            | dT a1 a2 a3 =>
              rw [b2] at a2
              cases a2
        exact .ods b1 (by show upd P.H p o' q = _; rw [upd_ne nq]; exact b2) b3
      | @lck q od kvs ds b1 b2 b3 =>
        have nq : q ≠ p := fun z => by
          obtain ⟨u', k1, k2⟩ := s.ok i _ hρ
          rw [hσ] at k1
          cases k1
          rw [z] at b2
          cases k2 with
          | own r =>
            cases r with
            | lst a1 a2 a3 =>
              rw [b2] at a2
              cases a2
            | dT a1 a2 a3 =>
              rw [b2] at a2
              cases a2
        exact .lck b1 (by show upd P.H p o' q = _; rw [upd_ne nq]; exact b2) b3
      | @own q e r =>
        have nq : q ≠ p := fun z => s.dis i j p d e ne hρ h hσ (by rw [h1, z])
        refine .own ?_
        cases r with
        | lst a1 a2 a3 => exact .lst a1 (by show upd P.H p o' q = _; rw [upd_ne nq]; exact a2) a3
        | dT a1 a2 a3 => exact .dT a1 (by show upd P.H p o' q = _; rw [upd_ne nq]; exact a2) a3
  · have g1 : ∃ d1', ρ[j]? = some (.own d1') := by
      rcases getset h1 with ⟨rfl, _, _⟩ | ⟨_, h⟩
      · exact ⟨d, hρ⟩
      · exact ⟨d1, h⟩
    have g2 : ∃ d1', ρ[k]? = some (.own d1') := by
      rcases getset h2 with ⟨rfl, _, _⟩ | ⟨_, h⟩
      · exact ⟨d, hρ⟩
      · exact ⟨e, h⟩
    obtain ⟨u1, g1⟩ := g1
    obtain ⟨u2, g2⟩ := g2
    exact s.dis j k q u1 u2 ne g1 g2 h3 h4
  · rcases getset h1 with ⟨rfl, _, _⟩ | ⟨_, h⟩
    · exact s.fr i d q hρ h2
    · exact s.fr j e q h h2
/-! ### shallow readings -/
def Rw (K : PySem.W.Frag) (P : Pr T) (v : V) (d : PyData) : Prop := Rp K P.M v d ∨ ∃ p, v = .ref p ∧ OwnAt K P p d
theorem Rw.up {v : V} {d : PyData} (h : Rw K P v d) (l : Le P P') : Rw K P' v d := h.elim (fun r => .inl (r.ext l.m)) fun ⟨p, e, r⟩ => .inr ⟨p, e, r.up l⟩
theorem Rw.int {v : V} {i : Int} (h : Rw K P v (.int i)) : v = .int i := by
  rcases h with h | ⟨p, _, h⟩
  · cases h
    rfl
  · cases h
theorem Rw.str {v : V} {i : Str} (h : Rw K P v (.str i)) : v = .str i := by
  rcases h with h | ⟨p, _, h⟩
  · cases h
    rfl
  · cases h
theorem Rw.bool {v : V} {i : Bool} (h : Rw K P v (.bool i)) : v = .bl i := by
  rcases h with h | ⟨p, _, h⟩
  · cases h
    rfl
  · cases h
theorem Rw.tuple {v : V} {ds : List PyData} (h : Rw K P v (.tuple ds)) : ∃ a xs, v = .ref a ∧ P.M a = some (.tup xs) ∧ SqT K P.H a xs ∧ RpAll K P.M xs ds := by
  rcases h with h | ⟨p, _, h⟩
  · cases h with
    | tup hs ra => exact ⟨_, _, rfl, hs, ex_t P.sub (SqT.of hs), ra⟩
  · cases h
theorem Rw.list {v : V} {ds : List PyData} (h : Rw K P v (.list ds)) : ∃ a xs, v = .ref a ∧ SqL K P.H a xs ∧ RpAll K P.M xs ds := by
  rcases h with h | ⟨p, rfl, h⟩
  · cases h with
    | lst hs ra => exact ⟨_, _, rfl, ex_l P.sub hs, ra⟩
  · cases h with
    | lst h1 h2 h3 => exact ⟨_, _, rfl, SqL.of h2, h3⟩
theorem Rp.up {v : V} {d : PyData} (h : Rp K P.M v d) (l : Le P P') : Rp K P'.M v d := h.ext l.m
end PM
namespace PM
open PySem PySem.Spec PyProof.Rows L2 LB
theorem bind_eq {α β : Type} {o : Option α} {f : α → Option β} {b : β} (h : o.bind f = some b) : ∃ a, o = some a ∧ f a = some b := by
  cases o with
  | none => cases h
  | some a => exact ⟨a, rfl, h⟩
theorem map_eq {α β : Type} {o : Option α} {f : α → β} {b : β} (h : o.map f = some b) : ∃ a, o = some a ∧ f a = b := by
  cases o with
  | none => cases h
  | some a => exact ⟨a, rfl, Option.some.inj h⟩
abbrev ME := Ev → Option PyData
abbrev MT := Ev → Option Bool
abbrev MA := Ev → Option (List PyData)
section
variable (K : PySem.W.Frag) (T : Tb)
def tD (m : ME) : TE := fun σ H Q => ∃ (P0 P : Pr T) (ρ : Ev) (d : PyData), P.H = H ∧ St K P0 P σ ρ ∧ m ρ = some d ∧ ∀ v (P' : Pr T), Le P P' → Rp K P'.M v d → Q v P'.H
def tW (m : ME) : TE := fun σ H Q => ∃ (P0 P : Pr T) (ρ : Ev) (d : PyData), P.H = H ∧ St K P0 P σ ρ ∧ m ρ = some d ∧ ∀ v (P' : Pr T), Le P P' → Rw K P' v d → Q v P'.H
def tF (m : ME) : TE := fun σ H Q => ∃ (P0 P : Pr T) (ρ : Ev) (d : PyData), P.H = H ∧ St K P0 P σ ρ ∧ m ρ = some d ∧ ∀ p (P' : Pr T), Le P P' → OwnAt K P' p d → Loose P.H p → Q (.ref p) P'.H
def tQ (m : MT) : TT := fun σ H Q => ∃ (P0 P : Pr T) (ρ : Ev) (b : Bool), P.H = H ∧ St K P0 P σ ρ ∧ m ρ = some b ∧ ∀ (P' : Pr T), Le P P' → Q b P'.H
def tA (m : MA) : TA := fun σ H Q => ∃ (P0 P : Pr T) (ρ : Ev) (ds : List PyData), P.H = H ∧ St K P0 P σ ρ ∧ m ρ = some ds ∧ ∀ vs (P' : Pr T), Le P P' → RpAll K P'.M vs ds → Q vs P'.H
inductive RwAll (P : Pr T) : List V → List PyData → Prop
  | nil : RwAll P [] []
  | cons {v : V} {vs : List V} {d : PyData} {ds : List PyData} : Rw K P v d → RwAll P vs ds → RwAll P (v :: vs) (d :: ds)
def tAw (m : MA) : TA := fun σ H Q => ∃ (P0 P : Pr T) (ρ : Ev) (ds : List PyData), P.H = H ∧ St K P0 P σ ρ ∧ m ρ = some ds ∧ ∀ vs (P' : Pr T), Le P P' → RwAll K T P' vs ds → Q vs P'.H
def tP (m : Ev → Option (Option Int)) : TO := fun σ H Q => ∃ (P0 P : Pr T) (ρ : Ev) (o : Option Int), P.H = H ∧ St K P0 P σ ρ ∧ m ρ = some o ∧ ∀ (P' : Pr T), Le P P' → Q o P'.H
end
variable {T : Tb} {K : PySem.W.Frag} {X : Cx} {e : Expr}
theorem RwAll.up {P P' : Pr T} (l : Le P P') : ∀ {vs : List V} {ds : List PyData}, RwAll K T P vs ds → RwAll K T P' vs ds
  | _, _, .nil => .nil
  | _, _, .cons h r => .cons (h.up l) (RwAll.up l r)
theorem pe_to {t t' : TE} (h : PE X e t) (i : ∀ σ H Q, t' σ H Q → t σ H Q) : PE X e t' := ⟨fun pins s σ H Q I q => h.run pins s σ H Q I (i σ H Q q)⟩
theorem pt_to {t t' : TT} (h : PT X e t) (i : ∀ σ H Q, t' σ H Q → t σ H Q) : PT X e t' := ⟨fun pins s σ H Q I q => h.run pins s σ H Q I (i σ H Q q)⟩
theorem pw_to {t t' : TT} (h : PW X e t) (i : ∀ σ H Q, t' σ H Q → t σ H Q) : PW X e t' := ⟨fun w pins s σ H Q I q => h.run w pins s σ H Q I (i σ H Q q)⟩
theorem pa_to {es : List Expr} {t t' : TA} (h : PA X es t) (i : ∀ σ H Q, t' σ H Q → t σ H Q) : PA X es t' := ⟨fun p pins s σ H Q I q => h.run p pins s σ H Q I (i σ H Q q)⟩
theorem po_to {o : Option Expr} {t t' : TO} (h : PO X o t) (i : ∀ σ H Q, t' σ H Q → t σ H Q) : PO X o t' := ⟨fun pins s σ H Q I q => h.run pins s σ H Q I (i σ H Q q)⟩
theorem pi_to {tg : Expr} {t t' : TI} (h : PI X tg e t) (i : ∀ σ H Q, t' σ H Q → t σ H Q) : PI X tg e t' := ⟨fun pins s σ H Q I q => h.run pins s σ H Q I (i σ H Q q)⟩
theorem pg_to {t t' : TG} (h : PG X e t) (i : ∀ v σ H Q, t' v σ H Q → t v σ H Q) : PG X e t' := ⟨fun pins s σ H v u Q I r q => h.run pins s σ H v u Q I r (i v σ H Q q)⟩
theorem ps_to {st : Stmt} {t t' : TS} (h : PS X st t) (i : ∀ D σ H, t' D σ H → t D σ H) : PS X st t' := ⟨fun pins s σ H D I q => h.run pins s σ H D I (i D σ H q)⟩
theorem pss_to {st : List Stmt} {t t' : TS} (h : PSs X st t) (i : ∀ D σ H, t' D σ H → t D σ H) : PSs X st t' := ⟨fun pins s σ H D I q => h.run pins s σ H D I (i D σ H q)⟩
theorem pts_to {st : List Expr} {t t' : TT} (h : PTs X st t) (i : ∀ D σ H, t' D σ H → t D σ H) : PTs X st t' := ⟨fun pins s σ H D I q => h.run pins s σ H D I (i σ H D q)⟩
/-- what is deep is shallow -/
theorem c_w {m : ME} (h : PE X e (tD K T m)) : PE X e (tW K T m) := pe_to h fun σ H Q ⟨P0, P, ρ, d, h1, s, h2, q⟩ => ⟨P0, P, ρ, d, h1, s, h2, fun v P' l r => q v P' l (.inl r)⟩
theorem c_fw {m : ME} (h : PE X e (tF K T m)) : PE X e (tW K T m) := pe_to h fun σ H Q ⟨P0, P, ρ, d, h1, s, h2, q⟩ => ⟨P0, P, ρ, d, h1, s, h2, fun p P' l r lo => q _ P' l (.inr ⟨p, rfl, r⟩)⟩
/-- an own new list becomes one that data may stand on -/
theorem own_put {P P' : Pr T} {p : Addr} {ds : List PyData} (l : Le P P') (r : OwnAt K P' p (.list ds)) (lo : Loose P.H p) : ∃ P'' : Pr T, P''.H = P'.H ∧ Le P P'' ∧ Rp K P''.M (.ref p) (.list ds) := by
  cases r with
  | @lst xs _ a1 a2 a3 =>
    have eM : Ex P'.M (upd P'.M p (.lst xs)) := fun b u e q => by
      have ne : b ≠ p := fun z => by rw [z, a1] at e; cases e
      rw [upd_ne ne]
      exact e
    refine ⟨⟨upd P'.M p (.lst xs), P'.H, fun b u e q => ?_, P'.tab, nt_upd P'.nt fun _ z => nomatch z⟩, rfl, ⟨l.m.trans eM, l.h, fun a h1 h2 => ?_⟩, .lst (SqL.of upd_same) (a3.ext eM)⟩
    · by_cases z : b = p
      · subst z
        rw [upd_same] at e
        cases e
        exact a2
      · rw [upd_ne z] at e
        exact P'.sub b u e q
    · by_cases z : a = p
      · subst z
        exact .inl lo
      · refine l.f a h1 ?_
        have h2 : upd P'.M p (.lst xs) a ≠ none := h2
        rw [upd_ne z] at h2
        exact h2
def isLst : PyData → Bool
  | .list _ => true
  | _ => false
theorem fd_in {m : ME} (hl : ∀ ρ d, m ρ = some d → isLst d = true) {σ : L2.St} {H : Hp} {Q : VK} (h : tD K T m σ H Q) : tF K T m σ H Q := by
  obtain ⟨P0, P, ρ, d, h1, s, h2, q⟩ := h
  refine ⟨P0, P, ρ, d, h1, s, h2, fun p P' l r lo => ?_⟩
  have hi := hl ρ d h2
  match d, hi with
  | .list ds, _ =>
    obtain ⟨P'', e, l'', r''⟩ := own_put l r lo
    rw [← e]
    exact q _ P'' l'' r''
theorem c_f {m : ME} (h : PE X e (tF K T m)) (hl : ∀ ρ d, m ρ = some d → isLst d = true) : PE X e (tD K T m) := pe_to h fun σ H Q z => fd_in hl z
/-! ### names, constants -/
def mC (d : PyData) : ME := fun _ => some d
def mV (i : Nat) : ME := fun ρ => match ρ[i]? with
  | some (.val d) => some d
  | _ => none
def mW (i : Nat) : ME := fun ρ => match ρ[i]? with
  | some (.val d) => some d
  | some (.own d) => some d
  | _ => none
theorem c_c {v : V} {d : PyData} (h : PE X e (tC v)) (r : ∀ M, Rp K M v d) : PE X e (tD K T (mC d)) := pe_to h fun σ H Q ⟨P0, P, ρ, d', h1, s, h2, q⟩ => by
  cases h2
  subst h1
  exact q v P (Le.refl P) (r _)
theorem c_v {i : Nat} (h : PE X e (tVar i)) : PE X e (tD K T (mV i)) := pe_to h fun σ H Q ⟨P0, P, ρ, d', h1, s, h2, q⟩ => by
  subst h1
  unfold mV at h2
  split at h2
  · rename_i d hd
    cases h2
    obtain ⟨o, g1, g2⟩ := s.ok i _ hd
    cases g2 with
    | val r => exact ⟨_, g1, q _ P (Le.refl P) r⟩
  · cases h2
theorem c_vw {i : Nat} (h : PE X e (tVar i)) : PE X e (tW K T (mW i)) := pe_to h fun σ H Q ⟨P0, P, ρ, d', h1, s, h2, q⟩ => by
  subst h1
  unfold mW at h2
  split at h2
  · rename_i d hd
    cases h2
    obtain ⟨o, g1, g2⟩ := s.ok i _ hd
    cases g2 with
    | val r => exact ⟨_, g1, q _ P (Le.refl P) (.inl r)⟩
  · rename_i d hd
    cases h2
    obtain ⟨o, g1, g2⟩ := s.ok i _ hd
    cases g2 with
    | own r => exact ⟨_, g1, q _ P (Le.refl P) (.inr ⟨_, rfl, r⟩)⟩
  · cases h2
/-! ### two-place operations -/
def OpD (K : PySem.W.Frag) (T : Tb) (r : R2) (f : PyData → PyData → Option PyData) : Prop := ∀ (P : Pr T) x y a b d, Rw K P x a → Rw K P y b → f a b = some d → ∀ Q : VK, (∀ v (P' : Pr T), Le P P' → Rp K P'.M v d → Q v P'.H) → r x y P.H Q
def mOp (f : PyData → PyData → Option PyData) (a b : ME) : ME := fun ρ => (a ρ).bind fun x => (b ρ).bind fun y => f x y
theorem c_op {r : R2} {f : PyData → PyData → Option PyData} {a b : ME} (hD : OpD K T r f) (h : PE X e (tOp r (tW K T a) (tW K T b))) : PE X e (tD K T (mOp f a b)) := pe_to h fun σ H Q ⟨P0, P, ρ, d, h1, s, h2, q⟩ => by
  subst h1
  obtain ⟨x, ex, h2⟩ := bind_eq h2
  obtain ⟨y, ey, h2⟩ := bind_eq h2
  exact ⟨P0, P, ρ, x, rfl, s, ex, fun v P1 l1 r1 => ⟨P0, P1, ρ, y, rfl, s.up l1, ey, fun u P2 l2 r2 => hD P2 v u x y d (r1.up l2) r2 h2 Q fun w P3 l3 r3 => q w P3 ((l1.trans l2).trans l3) r3⟩⟩
/-- the test of a comparison -/
def asB : PyData → Option Bool
  | .bool b => some b
  | _ => none
def qV (a : ME) : MT := fun ρ => (a ρ).bind asB
theorem asB_eq {d : PyData} {b : Bool} (h : asB d = some b) : d = .bool b := by
  unfold asB at h
  split at h
  · cases h
    rfl
  · cases h
theorem c_opT {r : R2} {f : PyData → PyData → Option PyData} {a b : ME} (hD : OpD K T r f) (h : PT X e (tTest (tOp r (tW K T a) (tW K T b)))) : PT X e (tQ K T (qV (mOp f a b))) := pt_to h fun σ H Q ⟨P0, P, ρ, c, h1, s, h2, q⟩ => by
  subst h1
  obtain ⟨z, h2, ez⟩ := bind_eq h2
  rw [asB_eq ez] at h2
  obtain ⟨x, ex, h2⟩ := bind_eq h2
  obtain ⟨y, ey, h2⟩ := bind_eq h2
  refine ⟨P0, P, ρ, x, rfl, s, ex, fun v P1 l1 r1 => ⟨P0, P1, ρ, y, rfl, s.up l1, ey, fun u P2 l2 r2 => hD P2 v u x y _ (r1.up l2) r2 h2 _ fun w P3 l3 r3 => ?_⟩⟩
  cases r3
  exact ⟨c, rfl, q P3 ((l1.trans l2).trans l3)⟩
theorem c_tv {a : ME} (h : PT X e (tB (tD K T a))) : PT X e (tQ K T (qV a)) := pt_to h fun σ H Q ⟨P0, P, ρ, c, h1, s, h2, q⟩ => by
  subst h1
  obtain ⟨z, h2, ez⟩ := bind_eq h2
  rw [asB_eq ez] at h2
  refine ⟨P0, P, ρ, _, rfl, s, h2, fun v P1 l1 r1 => ?_⟩
  cases r1
  exact ⟨c, rfl, q P1 l1⟩
def qNot (a : MT) : MT := fun ρ => (a ρ).map fun b => !b
def qAnd (a b : MT) : MT := fun ρ => (a ρ).bind fun c => if c = true then b ρ else some false
def qOr (a b : MT) : MT := fun ρ => (a ρ).bind fun c => if c = true then some true else b ρ
theorem c_not {a : MT} (h : PT X e (tNot (tQ K T a))) : PT X e (tQ K T (qNot a)) := pt_to h fun σ H Q ⟨P0, P, ρ, c, h1, s, h2, q⟩ => by
  obtain ⟨b, h3, rfl⟩ := map_eq h2
  exact ⟨P0, P, ρ, b, h1, s, h3, q⟩
theorem c_and {a b : MT} (h : PW X e (tAnd (tQ K T a) (tQ K T b))) : PW X e (tQ K T (qAnd a b)) := pw_to h fun σ H Q ⟨P0, P, ρ, c, h1, s, h2, q⟩ => by
  subst h1
  obtain ⟨x, ex, h2⟩ := bind_eq h2
  refine ⟨P0, P, ρ, x, rfl, s, ex, fun P1 l1 => ?_⟩
  cases x with
  | true => exact iteT ⟨P0, P1, ρ, c, rfl, s.up l1, by simpa using h2, fun P2 l2 => q P2 (l1.trans l2)⟩
  | false =>
    have : c = false := by simpa using h2.symm
    subst this
    exact iteF (q P1 l1)
theorem c_or {a b : MT} (h : PW X e (tOr (tQ K T a) (tQ K T b))) : PW X e (tQ K T (qOr a b)) := pw_to h fun σ H Q ⟨P0, P, ρ, c, h1, s, h2, q⟩ => by
  subst h1
  obtain ⟨x, ex, h2⟩ := bind_eq h2
  refine ⟨P0, P, ρ, x, rfl, s, ex, fun P1 l1 => ?_⟩
  cases x with
  | false => exact iteF ⟨P0, P1, ρ, c, rfl, s.up l1, by simpa using h2, fun P2 l2 => q P2 (l1.trans l2)⟩
  | true =>
    have : c = true := by simpa using h2.symm
    subst this
    exact iteT (q P1 l1)
/-! ### and, or, not as values; chains -/
def mAnd (a b : ME) : ME := fun ρ => (a ρ).bind fun x => (asB x).bind fun c => if c = true then b ρ else some (.bool false)
def mOr (a b : ME) : ME := fun ρ => (a ρ).bind fun x => (asB x).bind fun c => if c = true then some (.bool true) else b ρ
def mNot (a : ME) : ME := fun ρ => (a ρ).bind fun x => (asB x).map fun c => .bool (!c)
theorem c_andV {a b : ME} (h : PE X e (tAndV (tD K T a) (tD K T b))) : PE X e (tD K T (mAnd a b)) := pe_to h fun σ H Q ⟨P0, P, ρ, d, h1, s, h2, q⟩ => by
  subst h1
  obtain ⟨x, ex, h2⟩ := bind_eq h2
  obtain ⟨c, ec, h3⟩ := bind_eq h2
  have := asB_eq ec
  subst this
  refine ⟨P0, P, ρ, _, rfl, s, ex, fun v P1 l1 r1 => ?_⟩
  cases r1
  refine ⟨c, rfl, ?_⟩
  cases c with
  | true => exact iteT ⟨P0, P1, ρ, d, rfl, s.up l1, by simpa using h3, fun v P2 l2 r2 => q v P2 (l1.trans l2) r2⟩
  | false =>
    have : d = .bool false := by simpa using h3.symm
    subst this
    exact iteF (q _ P1 l1 (.bl _))
theorem c_orV {a b : ME} (h : PE X e (tOrV (tD K T a) (tD K T b))) : PE X e (tD K T (mOr a b)) := pe_to h fun σ H Q ⟨P0, P, ρ, d, h1, s, h2, q⟩ => by
  subst h1
  obtain ⟨x, ex, h2⟩ := bind_eq h2
  obtain ⟨c, ec, h3⟩ := bind_eq h2
  have := asB_eq ec
  subst this
  refine ⟨P0, P, ρ, _, rfl, s, ex, fun v P1 l1 r1 => ?_⟩
  cases r1
  refine ⟨c, rfl, ?_⟩
  cases c with
  | false => exact iteF ⟨P0, P1, ρ, d, rfl, s.up l1, by simpa using h3, fun v P2 l2 r2 => q v P2 (l1.trans l2) r2⟩
  | true =>
    have : d = .bool true := by simpa using h3.symm
    subst this
    exact iteT (q _ P1 l1 (.bl _))
theorem c_notV {a : ME} (h : PE X e (tNotV (tD K T a))) : PE X e (tD K T (mNot a)) := pe_to h fun σ H Q ⟨P0, P, ρ, d, h1, s, h2, q⟩ => by
  subst h1
  obtain ⟨x, ex, h2⟩ := bind_eq h2
  obtain ⟨c, ec, rfl⟩ := map_eq h2
  have := asB_eq ec
  subst this
  refine ⟨P0, P, ρ, _, rfl, s, ex, fun v P1 l1 r1 => ?_⟩
  cases r1
  exact ⟨c, rfl, q _ P1 l1 (.bl _)⟩
def mCh (f g : PyData → PyData → Option PyData) (a b c : ME) : ME := fun ρ => (a ρ).bind fun x => (b ρ).bind fun y => (f x y).bind fun z => (asB z).bind fun k => if k = true then (c ρ).bind fun w => g y w else some (.bool false)
theorem ch_in {r r' : R2} {f g : PyData → PyData → Option PyData} {a b c : ME} (hD : OpD K T r f) (hD' : OpD K T r' g) {σ : L2.St} {H : Hp} {Q : VK} (h : tD K T (mCh f g a b c) σ H Q) : tChain r r' (tW K T a) (tW K T b) (tW K T c) σ H Q := by
  obtain ⟨P0, P, ρ, d, h1, s, h2, q⟩ := h
  subst h1
  obtain ⟨x, ex, h2⟩ := bind_eq h2
  obtain ⟨y, ey, h2⟩ := bind_eq h2
  obtain ⟨z, ez, h2⟩ := bind_eq h2
  obtain ⟨k, ek, h3⟩ := bind_eq h2
  have := asB_eq ek
  subst this
  refine ⟨P0, P, ρ, x, rfl, s, ex, fun v P1 l1 r1 => ⟨P0, P1, ρ, y, rfl, s.up l1, ey, fun u P2 l2 r2 => hD P2 v u x y _ (r1.up l2) r2 ez _ fun w P3 l3 r3 => ?_⟩⟩
  cases r3
  refine ⟨k, rfl, ?_⟩
  cases k with
  | false =>
    have : d = .bool false := by simpa using h3.symm
    subst this
    exact iteF (q _ P3 ((l1.trans l2).trans l3) (.bl _))
  | true =>
    obtain ⟨w, ew, h2⟩ := bind_eq (show ((c ρ).bind fun w => g y w) = some d by simpa using h3)
    exact iteT ⟨P0, P3, ρ, w, rfl, s.up ((l1.trans l2).trans l3), ew, fun v' P4 l4 r4 => hD' P4 u v' y w d ((r2.up l3).up l4) r4 h2 Q fun w' P5 l5 r5 => q w' P5 (((l1.trans l2).trans l3).trans (l4.trans l5)) r5⟩
theorem c_ch {r r' : R2} {f g : PyData → PyData → Option PyData} {a b c : ME} (hD : OpD K T r f) (hD' : OpD K T r' g) (h : PE X e (tChain r r' (tW K T a) (tW K T b) (tW K T c))) : PE X e (tD K T (mCh f g a b c)) := pe_to h fun σ H Q z => ch_in hD hD' z
theorem c_chT {r r' : R2} {f g : PyData → PyData → Option PyData} {a b c : ME} (hD : OpD K T r f) (hD' : OpD K T r' g) (h : PT X e (tTest (tChain r r' (tW K T a) (tW K T b) (tW K T c)))) : PT X e (tQ K T (qV (mCh f g a b c))) := pt_to h fun σ H Q ⟨P0, P, ρ, k, h1, s, h2, q⟩ => by
  obtain ⟨z, h2, ez⟩ := bind_eq h2
  rw [asB_eq ez] at h2
  refine ch_in hD hD' ⟨P0, P, ρ, _, h1, s, h2, fun v P' l r => ?_⟩
  cases r
  exact ⟨k, rfl, q P' l⟩
/-! ### one place -/
def mUn (f : PyData → Option PyData) (a : ME) : ME := fun ρ => (a ρ).bind f
/-! ### rows of expressions -/
def aNil : MA := fun _ => some []
def aCons (a : ME) (b : MA) : MA := fun ρ => (a ρ).bind fun x => (b ρ).map fun xs => x :: xs
theorem a_nil {es : List Expr} (h : PA X es tNil) : PA X es (tA K T aNil) := pa_to h fun σ H Q ⟨P0, P, ρ, d, h1, s, h2, q⟩ => by
  cases h2
  subst h1
  exact q [] P (Le.refl P) .nil
theorem a_cons {es : List Expr} {a : ME} {b : MA} (h : PA X es (tCons (tD K T a) (tA K T b))) : PA X es (tA K T (aCons a b)) := pa_to h fun σ H Q ⟨P0, P, ρ, d, h1, s, h2, q⟩ => by
  subst h1
  obtain ⟨x, ex, h2⟩ := bind_eq h2
  obtain ⟨xs, es', rfl⟩ := map_eq h2
  exact ⟨P0, P, ρ, x, rfl, s, ex, fun v P1 l1 r1 => ⟨P0, P1, ρ, xs, rfl, s.up l1, es', fun vs P2 l2 r2 => q _ P2 (l1.trans l2) (.cons (r1.ext l2.m) r2)⟩⟩
theorem a_nilw {es : List Expr} (h : PA X es tNil) : PA X es (tAw K T aNil) := pa_to h fun σ H Q ⟨P0, P, ρ, d, h1, s, h2, q⟩ => by
  cases h2
  subst h1
  exact q [] P (Le.refl P) .nil
theorem a_consw {es : List Expr} {a : ME} {b : MA} (h : PA X es (tCons (tW K T a) (tAw K T b))) : PA X es (tAw K T (aCons a b)) := pa_to h fun σ H Q ⟨P0, P, ρ, d, h1, s, h2, q⟩ => by
  subst h1
  obtain ⟨x, ex, h2⟩ := bind_eq h2
  obtain ⟨xs, es', rfl⟩ := map_eq h2
  exact ⟨P0, P, ρ, x, rfl, s, ex, fun v P1 l1 r1 => ⟨P0, P1, ρ, xs, rfl, s.up l1, es', fun vs P2 l2 r2 => q _ P2 (l1.trans l2) (.cons (r1.up l2) r2)⟩⟩
/-- *x -/
def oStar : PyData → Option (List PyData)
  | .tuple xs => some xs
  | .list xs => some xs
  | _ => none
def aStar (a : ME) (b : MA) : MA := fun ρ => (a ρ).bind fun x => (oStar x).bind fun ys => (b ρ).map fun xs => ys ++ xs
theorem a_star {es : List Expr} {a : ME} {b : MA} (h : PA X es (StX.tStar K (tW K T a) (tA K T b))) : PA X es (tA K T (aStar a b)) := pa_to h fun σ H Q ⟨P0, P, ρ, d, h1, s, h2, q⟩ => by
  subst h1
  obtain ⟨x, ex, h2⟩ := bind_eq h2
  obtain ⟨ys, ey, h2⟩ := bind_eq h2
  obtain ⟨xs, es', rfl⟩ := map_eq h2
  refine ⟨P0, P, ρ, x, rfl, s, ex, fun v P1 l1 r1 => ?_⟩
  unfold oStar at ey
  split at ey
  · cases ey
    obtain ⟨p, zs, rfl, _, hs, ra⟩ := r1.tuple
    exact ⟨p, zs, rfl, .inl hs, P0, P1, ρ, xs, rfl, s.up l1, es', fun vs P2 l2 r2 => q _ P2 (l1.trans l2) (RpAll.append (ra.ext l2.m) r2)⟩
  · cases ey
    obtain ⟨p, zs, rfl, hs, ra⟩ := r1.list
    exact ⟨p, zs, rfl, .inr hs, P0, P1, ρ, xs, rfl, s.up l1, es', fun vs P2 l2 r2 => q _ P2 (l1.trans l2) (RpAll.append (ra.ext l2.m) r2)⟩
  · cases ey
def oFew (ds : List PyData) : Option (List PyData) := if ds.length ≤ 100000 then some ds else none
theorem oFew_eq {ds es : List PyData} (h : oFew ds = some es) : es = ds ∧ ds.length ≤ 100000 := by
  unfold oFew at h
  split at h
  · cases h
    exact ⟨rfl, by assumption⟩
  · cases h
def mTup (a : MA) : ME := fun ρ => (a ρ).bind fun xs => (oFew xs).map fun ys => .tuple ys
def mLst (a : MA) : ME := fun ρ => (a ρ).bind fun xs => (oFew xs).map fun ys => .list ys
theorem c_tup {a : MA} (h : PE X e (tTup (tA K T a))) : PE X e (tD K T (mTup a)) := pe_to h fun σ H Q ⟨P0, P, ρ, d, h1, s, h2, q⟩ => by
  subst h1
  obtain ⟨xs, ex, h2⟩ := bind_eq h2
  obtain ⟨ys, ey, rfl⟩ := map_eq h2
  obtain ⟨rfl, hl⟩ := oFew_eq ey
  exact ⟨P0, P, ρ, _, rfl, s, ex, fun vs P1 l1 r1 => ⟨Nat.le_trans (by rw [r1.length]; exact hl) (by decide), fun p hp => q _ (P1.put p (.tup vs) hp) (l1.trans (le_put P1 hp)) (.tup upd_same (r1.ext (le_put P1 hp).m))⟩⟩
theorem c_lst {a : MA} (h : PE X e (tLst (tA K T a))) : PE X e (tF K T (mLst a)) := pe_to h fun σ H Q ⟨P0, P, ρ, d, h1, s, h2, q⟩ => by
  subst h1
  obtain ⟨xs, ex, h2⟩ := bind_eq h2
  obtain ⟨ys, ey, rfl⟩ := map_eq h2
  obtain ⟨rfl, hl⟩ := oFew_eq ey
  refine ⟨P0, P, ρ, _, rfl, s, ex, fun vs P1 l1 r1 => ⟨Nat.le_trans (by rw [r1.length]; exact hl) (by decide), fun p hp => q _ (P1.hid p (.lst vs) hp) (l1.trans (le_hid P1 hp)) (.lst (P1.none hp) upd_same r1) (loose_back l1.h (loose_none hp))⟩⟩
end PM
namespace PM
open PySem PySem.Spec PyProof.Rows L2 LB
variable {T : Tb} {K : PySem.W.Frag} {X : Cx} {e : Expr}
theorem opR_or {g : Value → Value → Sem Value} {r r' : R2} (h1 : OpR X g r) (h2 : OpR X g r') : OpR X g (fun x y H Q => r x y H Q ∨ r' x y H Q) := fun pins s σ H x y v u Q I rx ry h => h.elim (h1 pins s σ H x y v u Q I rx ry) (h2 pins s σ H x y v u Q I rx ry)
/-! ### ints -/
def oI (c : Int → Int → Bool) (g : Int → Int → PyData) : PyData → PyData → Option PyData
  | .int i, .int j => if c i j = true then some (g i j) else none
  | _, _ => none
theorem od_I {C : Int → Int → Prop} {gv : Int → Int → V} {c : Int → Int → Bool} {g : Int → Int → PyData} (hc : ∀ i j, c i j = true → C i j) (hr : ∀ M i j, Rp K M (gv i j) (g i j)) : OpD K T (rI C gv) (oI c g) := by
  intro P x y a b d ra rb h Q q
  unfold oI at h
  split at h
  · split at h
    · cases h
      rename_i i j hh
      exact ⟨i, j, ra.int, rb.int, hc i j hh, q _ P (Le.refl P) (hr _ _ _)⟩
    · cases h
  · cases h
theorem od_I0 {gv : Int → Int → V} {g : Int → Int → PyData} (hr : ∀ M i j, Rp K M (gv i j) (g i j)) : OpD K T (rI0 gv) (oI (fun _ _ => true) g) := by
  intro P x y a b d ra rb h Q q
  unfold oI at h
  split at h
  · rename_i i j
    rw [if_pos rfl] at h
    cases h
    exact ⟨i, j, ra.int, rb.int, q _ P (Le.refl P) (hr _ _ _)⟩
  · cases h
def oSub := oI (fun _ _ => true) fun i j => .int (i - j)
theorem od_sub : OpD K T (rI0 fun i j => .int (i - j)) oSub := od_I0 fun _ _ _ => .int _
def oMod := oI (fun _ j => decide (j ≠ 0)) fun i j => .int (i.fmod j)
theorem od_mod : OpD K T (rI (fun _ j => j ≠ 0) fun i j => .int (i.fmod j)) oMod := od_I (fun _ _ h => of_decide_eq_true h) fun _ _ _ => .int _
def oFdv := oI (fun _ j => decide (j ≠ 0 ∧ j.natAbs < 2 ^ 250)) fun i j => .int (i.fdiv j)
theorem od_fdv : OpD K T (rI CDivG fun i j => .int (i.fdiv j)) oFdv := od_I (fun _ _ h => let ⟨h1, h2⟩ := of_decide_eq_true h; divG (b := 250) h1 h2 (by decide) (by decide)) fun _ _ _ => .int _
def oPow := oI (fun i j => decide (0 ≤ j ∧ j ≤ 1000 ∧ i.natAbs < 1000)) fun i j => .int (i ^ j.toNat)
theorem od_pow : OpD K T (rI CPow fun i j => .int (i ^ j.toNat)) oPow := od_I (fun i j h => by
  obtain ⟨h1, h2, h3⟩ := of_decide_eq_true h
  exact ⟨h1, by omega, by omega⟩) fun _ _ _ => .int _
def oLe := oI (fun _ _ => true) fun i j => .bool (decide (i ≤ j))
theorem od_le : OpD K T (rI0 fun i j => .bl (decide (i ≤ j))) oLe := od_I0 fun _ _ _ => .bl _
def oGt := oI (fun _ _ => true) fun i j => .bool (decide (j < i))
theorem od_gt : OpD K T (rI0 fun i j => .bl (decide (j < i))) oGt := od_I0 fun _ _ _ => .bl _
def oGe := oI (fun _ _ => true) fun i j => .bool (decide (j ≤ i))
theorem od_ge : OpD K T (rI0 fun i j => .bl (decide (j ≤ i))) oGe := od_I0 fun _ _ _ => .bl _
/-! ### ints or texts -/
def oLt : PyData → PyData → Option PyData
  | .int i, .int j => some (.bool (decide (i < j)))
  | .str i, .str j => some (.bool (decide (i.cps.toList < j.cps.toList)))
  | _, _ => none
def uLt : R2 := fun x y H Q => rI0 (fun i j => .bl (decide (i < j))) x y H Q ∨ (∃ i j, x = .str i ∧ y = .str j ∧ Q (.bl (decide (i.cps.toList < j.cps.toList))) H)
theorem op_uLt : OpR X (compareOp .Lt) uLt := opR_or op_lt op_lt_str
theorem od_lt : OpD K T uLt oLt := by
  intro P x y a b d ra rb h Q q
  unfold oLt at h
  split at h
  · cases h
    exact .inl ⟨_, _, ra.int, rb.int, q _ P (Le.refl P) (.bl _)⟩
  · cases h
    exact .inr ⟨_, _, ra.str, rb.str, q _ P (Le.refl P) (.bl _)⟩
  · cases h
def oMul : PyData → PyData → Option PyData
  | .int i, .int j => if i.natAbs < 2 ^ 200 ∧ j.natAbs < 2 ^ 200 then some (.int (i * j)) else none
  | .str z, .int n => if 0 ≤ n ∧ n ≤ 1000 ∧ z.length ≤ 1000 then some (.str (repS z n.toNat)) else none
  | _, _ => none
def uMul : R2 := fun x y H Q => rI CMulW (fun i j => .int (i * j)) x y H Q ∨ rRepS x y H Q
theorem op_uMul : OpR X (binaryOp .Mult) uMul := opR_or op_mulW op_repS
theorem od_mul : OpD K T uMul oMul := by
  intro P x y a b d ra rb h Q q
  unfold oMul at h
  split at h
  · split at h
    · cases h
      rename_i hh
      exact .inl ⟨_, _, ra.int, rb.int, wide_mul (a := 200) (b := 200) hh.1 hh.2 (by decide) (by decide) (by decide), q _ P (Le.refl P) (.int _)⟩
    · cases h
  · split at h
    · cases h
      rename_i z n hh
      refine .inr ⟨z, n.toNat, ra.str, ?_, by omega, hh.2.2, q _ P (Le.refl P) (.str _)⟩
      rw [rb.int]
      congr 1
      omega
    · cases h
  · cases h
/-! ### + -/
def rCatL (K : PySem.W.Frag) : R2 := fun x y H Q => ∃ l b xs zs, x = .ref l ∧ y = .ref b ∧ SqL K H l xs ∧ SqL K H b zs ∧ xs.length + zs.length ≤ sizeLine ∧ ∀ p, H p = none → Q (.ref p) (upd H p (.lst (xs ++ zs)))
theorem op_catLL (hK : X.K = K := by rfl) : OpR X (binaryOp .Add) (rCatL K) := by
  subst hK
  intro pins s σ H x y v u Q I rx ry h
  obtain ⟨l, b, xs, zs, rfl, rfl, hH, hB, hz, q⟩ := h
  cases rx
  cases ry
  obtain ⟨its, r, pl, _⟩ := I.list hH
  obtain ⟨its2, r2, pl2, _⟩ := I.list hB
  obtain ⟨⟨cls, dd, data, sl⟩, ho, hc, n, hd⟩ := pl.isList
  obtain ⟨⟨cls2, dd2, data2, sl2⟩, ho2, hc2, n2, hd2⟩ := pl2.isList
  simp only at hc hd hc2 hd2
  subst hc hd hc2 hd2
  have l1 := r.length
  have l2 := r2.length
  have ea : its.toArray ++ its2.toArray = (its ++ its2).toArray := by simp
  refine concat_meets ⟨_, ho, rfl⟩ ⟨_, ho2, rfl⟩ noFill_list_add seq_list_add PySem.F.slot_list_add PySem.F.entry_list_add (PySem.F.args_list_add_2 _ _) (list_addW l b its.toArray its2.toArray n n2 dd dd2 sl sl2 (by rw [List.size_toArray, List.size_toArray]; omega)) ⟨ho, ho2, ?_⟩
  rw [ea]
  show EP X pins σ Q (.ref s.heap.objs.size) _
  exact ⟨.ref _, _, I.lnew (t' := s.toks) (r.append r2) (by rw [List.length_append]; omega), rfl, q _ I.fresh⟩
def oAdd : PyData → PyData → Option PyData
  | .int i, .int j => some (.int (i + j))
  | .str x, .str y => if x.length + y.length ≤ 10000 then some (.str (x ++ y)) else none
  | .list x, .list y => if x.length + y.length ≤ 100000 then some (.list (x ++ y)) else none
  | .tuple x, .tuple y => if x.length + y.length ≤ 100000 then some (.tuple (x ++ y)) else none
  | _, _ => none
def uAdd (K : PySem.W.Frag) : R2 := fun x y H Q => rI0 (fun i j => .int (i + j)) x y H Q ∨ (rAddS x y H Q ∨ (rCatL K x y H Q ∨ rCatA K x y H Q))
theorem op_uAdd (hK : X.K = K := by rfl) : OpR X (binaryOp .Add) (uAdd K) := by
  subst hK
  exact opR_or op_add (opR_or op_addS (opR_or op_catLL op_catA))
theorem od_add : OpD K T (uAdd K) oAdd := by
  intro P x y a b d ra rb h Q q
  unfold oAdd at h
  split at h
  · cases h
    exact .inl ⟨_, _, ra.int, rb.int, q _ P (Le.refl P) (.int _)⟩
  · split at h
    · cases h
      rename_i hh
      exact .inr (.inl ⟨_, _, ra.str, rb.str, Nat.le_trans hh (by decide), q _ P (Le.refl P) (.str _)⟩)
    · cases h
  · split at h
    · cases h
      rename_i hh
      obtain ⟨l, xs, rfl, hs, r1⟩ := ra.list
      obtain ⟨l2, ys, rfl, hs2, r2⟩ := rb.list
      refine .inr (.inr (.inl ⟨l, l2, xs, ys, rfl, rfl, hs, hs2, Nat.le_trans (by rw [r1.length, r2.length]; exact hh) (by decide), fun p hp => q _ (P.put p (.lst (xs ++ ys)) hp) (le_put P hp) (.lst (SqL.of upd_same) ((RpAll.append r1 r2).ext (le_put P hp).m))⟩))
    · cases h
  · split at h
    · cases h
      rename_i hh
      obtain ⟨l, xs, rfl, hm, hs, r1⟩ := ra.tuple
      obtain ⟨l2, ys, rfl, hm2, hs2, r2⟩ := rb.tuple
      refine .inr (.inr (.inr ⟨l, l2, xs, ys, rfl, rfl, hs, hs2, Nat.le_trans (by rw [r1.length, r2.length]; exact hh) (by decide), fun z => q _ P (Le.refl P) ?_, fun _ z => q _ P (Le.refl P) ?_, fun _ _ p hp => q _ (P.put p (.tup (xs ++ ys)) hp) (le_put P hp) (.tup upd_same ((RpAll.append r1 r2).ext (le_put P hp).m))⟩))
      · subst z
        cases r1
        exact .tup hm2 r2
      · subst z
        cases r2
        rw [List.append_nil]
        exact .tup hm r1
    · cases h
  · cases h
/-! ### ==, != -/
mutual
theorem rp_dp {M : Hp} : ∀ {v : V} {d : PyData}, d.canLay0 = true → Rp K M v d → Dp K M v d
  | _, _, _, .non => .non
  | _, _, _, .bl b => .bl b
  | _, _, _, .int i => .int i
  | _, _, _, .str x => .str x
  | _, _, h, .lst hs r => .lst hs (rps_dp (by simpa [PyData.canLay0] using h) r)
  | _, _, h, .tup hs r => .tup (SqT.of hs) (rps_dp (by simpa [PyData.canLay0] using h) r)
  | _, _, h, .dct _ _ _ => absurd h (by simp [PyData.canLay0])
  | _, _, h, .dcT _ _ _ => absurd h (by simp [PyData.canLay0])
theorem rps_dp {M : Hp} : ∀ {v : List V} {d : List PyData}, PyData.canLayAll0 d = true → RpAll K M v d → DpAll K M v d
  | _, _, _, .nil => .nil
  | _, _, h, .cons h1 r => by
    unfold PyData.canLayAll0 at h
    rw [Bool.and_eq_true] at h
    exact .cons (rp_dp h.1 h1) (rps_dp h.2 r)
end
theorem Rw.dp {P : Pr T} {v : V} {d : PyData} (h : Rw K P v d) (hc : d.canLay0 = true) : Dp K P.H v d := by
  refine rp_dp hc ?_
  rcases h with h | ⟨p, rfl, h⟩
  · exact h.ext P.sub
  · cases h with
    | lst h1 h2 h3 => exact .lst (SqL.of h2) (h3.ext P.sub)
    | dT h1 h2 h3 => simp [PyData.canLay0] at hc
def oEq (a b : PyData) : Option PyData := if SeqAt.shaped a = true ∧ SeqAt.shaped b = true then some (.bool (PyData.eqv a b)) else none
def oNe (a b : PyData) : Option PyData := if SeqAt.shaped a = true ∧ SeqAt.shaped b = true then some (.bool (!PyData.eqv a b)) else none
theorem op_eqK (hu : X.A.units + 64 < cLine) (hK : X.K = K := by rfl) : OpR X (compareOp .Eq) (rEqD K) := by
  subst hK
  exact op_eqD hu
theorem op_neK (hu : X.A.units + 64 < cLine) (hK : X.K = K := by rfl) : OpR X (compareOp .NotEq) (rNeD K) := by
  subst hK
  exact op_neD hu
theorem od_eq : OpD K T (rEqD K) oEq := by
  intro P x y a b d ra rb h Q q
  unfold oEq at h
  split at h
  · cases h
    rename_i hh
    exact ⟨a, b, ra.dp (SeqAt.canLay_of_shaped hh.1), rb.dp (SeqAt.canLay_of_shaped hh.2), hh.1, hh.2, q _ P (Le.refl P) (.bl _)⟩
  · cases h
theorem od_ne : OpD K T (rNeD K) oNe := by
  intro P x y a b d ra rb h Q q
  unfold oNe at h
  split at h
  · cases h
    rename_i hh
    exact ⟨a, b, ra.dp (SeqAt.canLay_of_shaped hh.1), rb.dp (SeqAt.canLay_of_shaped hh.2), hh.1, hh.2, q _ P (Le.refl P) (.bl _)⟩
  · cases h
/-! ### in, not in -/
def flD : PyData → Bool
  | .none => true
  | .bool _ => true
  | .int _ => true
  | .str _ => true
  | _ => false
theorem fl_v {M : Hp} {v : V} {d : PyData} (r : Rp K M v d) (h : flD d = true) : flatV v = true := by
  cases r <;> first | rfl | (simp [flD] at h)
theorem fl_vs {M : Hp} : ∀ {vs : List V} {ds : List PyData}, RpAll K M vs ds → ds.all flD = true → vs.all flatV = true
  | _, _, .nil, _ => rfl
  | _, _, .cons h r, q => by
    rw [List.all_cons, Bool.and_eq_true] at q
    rw [List.all_cons, Bool.and_eq_true]
    exact ⟨fl_v h q.1, fl_vs r q.2⟩
theorem fl_eq {M : Hp} {v u : V} {d e : PyData} (r : Rp K M v d) (h : flD d = true) (r' : Rp K M u e) (h' : flD e = true) : eqV v u = PyData.eqv d e := by
  cases r <;> cases r' <;> first | rfl | (simp [flD] at h) | (simp [flD] at h')
theorem fl_in {M : Hp} {v : V} {d : PyData} (r : Rp K M v d) (h : flD d = true) : ∀ {vs : List V} {ds : List PyData}, RpAll K M vs ds → ds.all flD = true → inV v vs = ds.any fun z => PyData.eqv z d
  | _, _, .nil, _ => rfl
  | _, _, .cons h1 r1, q => by
    rw [List.all_cons, Bool.and_eq_true] at q
    have ih := fl_in r h r1 q.2
    unfold inV at ih ⊢
    rw [List.any_cons, List.any_cons, ih, fl_eq h1 q.1 r h]
def itemsD : PyData → Option (List PyData)
  | .list xs => some xs
  | .tuple xs => some xs
  | _ => none
def oIn (x y : PyData) : Option PyData := (itemsD y).bind fun ds => if flD x = true ∧ ds.all flD = true then some (.bool (ds.any fun z => PyData.eqv z x)) else none
theorem Rw.fl {P : Pr T} {v : V} {d : PyData} (h : Rw K P v d) (f : flD d = true) : Rp K P.M v d := by
  rcases h with h | ⟨p, rfl, h⟩
  · exact h
  · cases h <;> simp [flD] at f
theorem items_of {P : Pr T} {v : V} {d : PyData} {ds : List PyData} (h : Rw K P v d) (e : itemsD d = some ds) : ∃ p xs, v = .ref p ∧ (SqL K P.H p xs ∨ SqT K P.H p xs) ∧ RpAll K P.M xs ds := by
  unfold itemsD at e
  split at e
  · cases e
    obtain ⟨a, xs, rfl, hs, r⟩ := h.list
    exact ⟨a, xs, rfl, .inl hs, r⟩
  · cases e
    obtain ⟨a, xs, rfl, _, hs, r⟩ := h.tuple
    exact ⟨a, xs, rfl, .inr hs, r⟩
  · cases e
theorem od_in : OpD K T (rIn K false) oIn := by
  intro P x y a b d ra rb h Q q
  obtain ⟨ds, ed, h⟩ := bind_eq h
  split at h
  · cases h
    rename_i hh
    obtain ⟨p, xs, rfl, hs, r⟩ := items_of rb ed
    have r1 := ra.fl hh.1
    refine ⟨p, xs, rfl, hs, fl_v r1 hh.1, fl_vs r hh.2, ?_⟩
    have e1 := fl_in r1 hh.1 r hh.2
    show Q (.bl (inV x xs)) P.H
    rw [e1]
    exact q _ P (Le.refl P) (.bl _)
  · cases h
/-! ### a[i] -/
def oIx : PyData → PyData → Option PyData
  | .list xs, .int i => atI xs i
  | .tuple xs, .int i => atI xs i
  | .str z, .int i => if z.length ≤ 1000 then (atI z.cps.toList i).map fun c => .str ⟨#[c]⟩ else none
  | _, _ => none
def uIx (K : PySem.W.Frag) : R2 := fun x y H Q => rIxL K x y H Q ∨ (rIxT K x y H Q ∨ rIxS x y H Q)
theorem ix_u (hK : X.K = K := by rfl) : IxR X (uIx K) := by
  subst hK
  exact IxR.or ix_list (IxR.or ix_tup ix_str)
theorem od_ix : OpD K T (uIx K) oIx := by
  intro P x y a b d ra rb h Q q
  unfold oIx at h
  split at h
  · obtain ⟨p, xs, rfl, hs, r⟩ := ra.list
    obtain ⟨v, hv, rv⟩ := rpAll_at r h
    exact .inl ⟨p, xs, _, v, rfl, rb.int, hs, hv, q _ P (Le.refl P) rv⟩
  · obtain ⟨p, xs, rfl, _, hs, r⟩ := ra.tuple
    obtain ⟨v, hv, rv⟩ := rpAll_at r h
    exact .inr (.inl ⟨p, xs, _, v, rfl, rb.int, hs, hv, q _ P (Le.refl P) rv⟩)
  · split at h
    · rename_i hh
      obtain ⟨c, hc, rfl⟩ := map_eq h
      exact .inr (.inr ⟨_, _, c, ra.str, rb.int, Nat.le_trans hh (by decide), hc, q _ P (Le.refl P) (.str _)⟩)
    · cases h
  · cases h
/-! ### a[lo:hi] -/
def pNo : Ev → Option (Option Int) := fun _ => some none
def asI : PyData → Option Int
  | .int i => some i
  | _ => none
theorem asI_eq {d : PyData} {b : Int} (h : asI d = some b) : d = .int b := by
  unfold asI at h
  split at h
  · cases h
    rfl
  · cases h
def pSo (a : ME) : Ev → Option (Option Int) := fun ρ => (a ρ).bind fun x => (asI x).map some
theorem c_pno {o : Option Expr} (h : PO X o tNoPart) : PO X o (tP K T pNo) := po_to h fun σ H Q ⟨P0, P, ρ, d, h1, s, h2, q⟩ => by
  cases h2
  subst h1
  exact q P (Le.refl P)
theorem c_pso {o : Option Expr} {a : ME} (h : PO X o (tPart (tD K T a))) : PO X o (tP K T (pSo a)) := po_to h fun σ H Q ⟨P0, P, ρ, d, h1, s, h2, q⟩ => by
  subst h1
  obtain ⟨x, ex, h2⟩ := bind_eq h2
  obtain ⟨i, ei, rfl⟩ := map_eq h2
  rw [asI_eq ei] at ex
  refine ⟨P0, P, ρ, _, rfl, s, ex, fun v P1 l r => ?_⟩
  cases r
  exact ⟨i, rfl, q P1 l⟩
def oSl (x : PyData) (lo hi : Option Int) : Option PyData := match x with
  | .list xs => some (.list (LB.cutD xs lo hi))
  | .tuple xs => some (.tuple (LB.cutD xs lo hi))
  | .str z => if z.length ≤ 10000 then some (.str (cutS z lo hi)) else none
  | _ => none
def uSl (K : PySem.W.Frag) : V → Option Int → Option Int → Hp → VK → Prop := fun x lo hi H Q => rSlL K x lo hi H Q ∨ (rSlA K x lo hi H Q ∨ rSlS x lo hi H Q)
theorem sl_u (hK : X.K = K := by rfl) : SlR X (uSl K) := by
  subst hK
  exact SlR.or sl_list (SlR.or sl_tupA sl_str)
def mSl (a : ME) (lo hi : Ev → Option (Option Int)) : ME := fun ρ => (a ρ).bind fun x => (lo ρ).bind fun l => (hi ρ).bind fun u => oSl x l u
theorem c_sl {a : ME} {lo hi : Ev → Option (Option Int)} (h : PE X e (tSl (uSl K) (tW K T a) (tP K T lo) (tP K T hi))) : PE X e (tD K T (mSl a lo hi)) := pe_to h fun σ H Q ⟨P0, P, ρ, d, h1, s, h2, q⟩ => by
  subst h1
  obtain ⟨x, ex, h3⟩ := bind_eq h2
  obtain ⟨l, el, h4⟩ := bind_eq h3
  obtain ⟨u, eu, h5⟩ := bind_eq h4
  clear h2 h3 h4
  refine ⟨P0, P, ρ, x, rfl, s, ex, fun v P1 l1 r1 => ⟨P0, P1, ρ, l, rfl, s.up l1, el, fun P2 l2 => ⟨P0, P2, ρ, u, rfl, s.up (l1.trans l2), eu, fun P3 l3 => ?_⟩⟩⟩
  have r3 := r1.up (l2.trans l3)
  have q3 : ∀ v (P' : Pr T), Le P3 P' → Rp K P'.M v d → Q v P'.H := fun v P' l' r' => q v P' ((l1.trans (l2.trans l3)).trans l') r'
  unfold oSl at h5
  split at h5
  · cases h5
    obtain ⟨p, xs, rfl, hs, r⟩ := r3.list
    exact .inl ⟨p, xs, rfl, hs, fun p' hp => q3 _ (P3.put p' (.lst (cutV xs l u)) hp) (le_put P3 hp) (.lst (SqL.of upd_same) ((RpAll.cut r l u).ext (le_put P3 hp).m))⟩
  · cases h5
    obtain ⟨p, xs, rfl, hm, hs, r⟩ := r3.tuple
    refine .inr (.inl ⟨p, xs, rfl, hs, fun hw => q3 _ P3 (Le.refl P3) ?_, fun _ p' hp => q3 _ (P3.put p' (.tup (cutV xs l u)) hp) (le_put P3 hp) (.tup upd_same ((RpAll.cut r l u).ext (le_put P3 hp).m))⟩)
    rename_i ds
    have e : LB.cutD ds l u = ds := by
      unfold LB.cutD
      rw [r.length] at hw
      rw [hw.1, hw.2]
      simp
    rw [e]
    exact .tup hm r
  · split at h5
    · cases h5
      rename_i hh
      exact .inr (.inr ⟨_, r3.str, Nat.le_trans hh (by decide), q3 _ P3 (Le.refl P3) (.str _)⟩)
    · cases h5
  · cases h5
def oRev : PyData → Option PyData
  | .tuple xs => some (.tuple xs.reverse)
  | _ => none
theorem pe_revK {e0 : Expr} {te : TE} {k : Nat} {p1 p2 p3 pos : Pos} (he : PE X e0 te) (hK : X.K = K := by rfl) : PE X (.Subscript e0 (.Slice none none (some (.UnaryOp .USub (.Constant (.int 1) k p1) p2)) p3) pos) (tRevT K te) := by
  subst hK
  exact pe_revT he
theorem c_rev {a : ME} (h : PE X e (tRevT K (tW K T a))) : PE X e (tD K T (mUn oRev a)) := pe_to h fun σ H Q ⟨P0, P, ρ, d, h1, s, h2, q⟩ => by
  subst h1
  obtain ⟨x, ex, h2⟩ := bind_eq h2
  refine ⟨P0, P, ρ, x, rfl, s, ex, fun v P1 l1 r1 => ?_⟩
  unfold oRev at h2
  split at h2
  · cases h2
    obtain ⟨p, xs, rfl, hm, hs, r⟩ := r1.tuple
    exact ⟨p, xs, rfl, hs, fun p' hp => q _ (P1.put p' (.tup xs.reverse) hp) (l1.trans (le_put P1 hp)) (.tup upd_same ((RpAll.reverse r).ext (le_put P1 hp).m))⟩
  · cases h2
/-! ### calls of builtins -/
def CbD (K : PySem.W.Frag) (T : Tb) (r : List V → Hp → VK → Prop) (f : List PyData → Option PyData) : Prop := ∀ (P : Pr T) vs ds d, RwAll K T P vs ds → f ds = some d → ∀ Q : VK, (∀ v (P' : Pr T), Le P P' → Rp K P'.M v d → Q v P'.H) → r vs P.H Q
def CbF (K : PySem.W.Frag) (T : Tb) (r : List V → Hp → VK → Prop) (f : List PyData → Option PyData) : Prop := ∀ (P : Pr T) vs ds d, RwAll K T P vs ds → f ds = some d → ∀ Q : VK, (∀ p (P' : Pr T), Le P P' → OwnAt K P' p d → Loose P.H p → Q (.ref p) P'.H) → r vs P.H Q
def mCb (f : List PyData → Option PyData) (a : MA) : ME := fun ρ => (a ρ).bind f
theorem c_cb {r : List V → Hp → VK → Prop} {f : List PyData → Option PyData} {a : MA} (hD : CbD K T r f) (h : PE X e (tCB r (tAw K T a))) : PE X e (tD K T (mCb f a)) := pe_to h fun σ H Q ⟨P0, P, ρ, d, h1, s, h2, q⟩ => by
  subst h1
  obtain ⟨x, ex, h2⟩ := bind_eq h2
  exact ⟨P0, P, ρ, x, rfl, s, ex, fun vs P1 l1 r1 => hD P1 vs x d r1 h2 Q fun v P2 l2 r2 => q v P2 (l1.trans l2) r2⟩
theorem c_cbF {r : List V → Hp → VK → Prop} {f : List PyData → Option PyData} {a : MA} (hD : CbF K T r f) (h : PE X e (tCB r (tAw K T a))) : PE X e (tF K T (mCb f a)) := pe_to h fun σ H Q ⟨P0, P, ρ, d, h1, s, h2, q⟩ => by
  subst h1
  obtain ⟨x, ex, h2⟩ := bind_eq h2
  exact ⟨P0, P, ρ, x, rfl, s, ex, fun vs P1 l1 r1 => hD P1 vs x d r1 h2 Q fun v P2 l2 r2 lo => q v P2 (l1.trans l2) r2 (loose_back l1.h lo)⟩
def oLen : List PyData → Option PyData
  | [.list xs] => some (.int (xs.length : Int))
  | [.tuple xs] => some (.int (xs.length : Int))
  | [.str z] => if z.length ≤ 10000 then some (.int (z.length : Int)) else none
  | _ => none
theorem cb_len : CbD K T (fun xs H Q => ∃ x n, xs = [x] ∧ LenV K x H n ∧ Q (.int n) H) oLen := by
  intro P vs ds d ra h Q q
  unfold oLen at h
  split at h
  · cases h
    cases ra with
    | cons r1 r2 =>
      cases r2
      obtain ⟨p, xs, rfl, hs, r⟩ := r1.list
      exact ⟨_, _, rfl, .inl ⟨xs, hs, r.length.symm⟩, q _ P (Le.refl P) (.int _)⟩
  · cases h
    cases ra with
    | cons r1 r2 =>
      cases r2
      obtain ⟨p, xs, rfl, _, hs, r⟩ := r1.tuple
      exact ⟨_, _, rfl, .inr ⟨xs, hs, r.length.symm⟩, q _ P (Le.refl P) (.int _)⟩
  · split at h
    · cases h
      rename_i hh
      cases ra with
      | cons r1 r2 =>
        cases r2
        rw [r1.str]
        exact ⟨_, _, rfl, ⟨Nat.le_trans hh (by decide), rfl⟩, q _ P (Le.refl P) (.int _)⟩
    · cases h
  · cases h
def oAbs : List PyData → Option PyData
  | [.int i] => some (.int (if i < 0 then -i else i))
  | _ => none
theorem cb_abs : CbD K T (fun xs H Q => ∃ i, xs = [.int i] ∧ Q (.int (if i < 0 then -i else i)) H) oAbs := by
  intro P vs ds d ra h Q q
  unfold oAbs at h
  split at h
  · cases h
    cases ra with
    | cons r1 r2 =>
      cases r2
      rw [r1.int]
      exact ⟨_, rfl, q _ P (Le.refl P) (.int _)⟩
  · cases h
def oInt : List PyData → Option PyData
  | [.int i] => some (.int i)
  | [.bool k] => some (.int (if k = true then 1 else 0))
  | _ => none
theorem cb_int : CbD K T (fun xs H Q => (∃ i, xs = [.int i] ∧ Q (.int i) H) ∨ ∃ k, xs = [.bl k] ∧ Q (.int (if k = true then 1 else 0)) H) oInt := by
  intro P vs ds d ra h Q q
  unfold oInt at h
  split at h
  · cases h
    cases ra with
    | cons r1 r2 =>
      cases r2
      rw [r1.int]
      exact .inl ⟨_, rfl, q _ P (Le.refl P) (.int _)⟩
  · cases h
    cases ra with
    | cons r1 r2 =>
      cases r2
      rw [r1.bool]
      exact .inr ⟨_, rfl, q _ P (Le.refl P) (.int _)⟩
  · cases h
def oMax : List PyData → Option PyData
  | [.int i, .int j] => some (.int (if j > i then j else i))
  | _ => none
theorem cb_max : CbD K T (fun xs H Q => ∃ i j, xs = [.int i, .int j] ∧ Q (.int (if j > i then j else i)) H) oMax := by
  intro P vs ds d ra h Q q
  unfold oMax at h
  split at h
  · cases h
    cases ra with
    | cons r1 r2 =>
      cases r2 with
      | cons r2 r3 =>
        cases r3
        rw [r1.int, r2.int]
        exact ⟨_, _, rfl, q _ P (Le.refl P) (.int _)⟩
  · cases h
def bls : List PyData → Option (List Bool)
  | [] => some []
  | .bool b :: r => (bls r).map fun l => b :: l
  | _ :: _ => none
theorem bls_rp {M : Hp} : ∀ {vs : List V} {ds : List PyData} {bs : List Bool}, RpAll K M vs ds → bls ds = some bs → vs = bs.map V.bl
  | _, _, _, .nil, h => by
    cases h
    rfl
  | _, _, _, .cons h1 r, h => by
    unfold bls at h
    split at h
    · rename_i e
      cases e
    · rename_i e
      cases e
      obtain ⟨l, hl, rfl⟩ := map_eq h
      cases h1
      rw [bls_rp r hl]
      rfl
    · cases h
def oAll : List PyData → Option PyData
  | [.list xs] => (bls xs).map fun l => .bool (l.all id)
  | _ => none
theorem cb_all : CbD K T (rAll K) oAll := by
  intro P vs ds d ra h Q q
  unfold oAll at h
  split at h
  · obtain ⟨l, hl, rfl⟩ := map_eq h
    cases ra with
    | cons r1 r2 =>
      cases r2
      obtain ⟨p, xs, rfl, hs, r⟩ := r1.list
      rw [bls_rp r hl] at hs
      exact ⟨p, l, rfl, hs, q _ P (Le.refl P) (.bl _)⟩
  · cases h
theorem cr_allK (hc : X.calm = true) (hK : X.K = K := by rfl) : CallR X (.builtin "all") (rAll K) := by
  subst hK
  exact cr_all hc
def oTuple : List PyData → Option PyData
  | [x] => (itemsD x).map .tuple
  | _ => none
theorem cb_tuple : CbD K T (fun xs H Q => ∃ p ys, xs = [.ref p] ∧ ((SqL K H p ys ∧ ∀ l, H l = none → Q (.ref l) (upd H l (.tup ys))) ∨ (SqT K H p ys ∧ Q (.ref p) H))) oTuple := by
  intro P vs ds d ra h Q q
  unfold oTuple at h
  split at h
  · obtain ⟨l, hl, rfl⟩ := map_eq h
    cases ra with
    | cons r1 r2 =>
      cases r2
      unfold itemsD at hl
      split at hl
      · cases hl
        obtain ⟨p, xs, rfl, hs, r⟩ := r1.list
        exact ⟨p, xs, rfl, .inl ⟨hs, fun l hl => q _ (P.put l (.tup xs) hl) (le_put P hl) (.tup upd_same (r.ext (le_put P hl).m))⟩⟩
      · cases hl
        obtain ⟨p, xs, rfl, hm, hs, r⟩ := r1.tuple
        exact ⟨p, xs, rfl, .inr ⟨hs, q _ P (Le.refl P) (.tup hm r)⟩⟩
      · cases hl
  · cases h
/-! sorted -/
open PySem.W PySem.SeqAt in
theorem each_m {M : Hp} : ∀ {ds : List PyData} {vs : List V} {us : List Value}, RpAll K M vs ds → Vals vs us → EachIs (fun u d => ∃ v, Rp K M v d ∧ RelV v u) us ds
  | [], _, _, .nil, .nil => .nil
  | d :: ds, _, _, .cons h1 h2, .cons r1 r2 => .cons ⟨_, h1, r1⟩ (each_m h2 r2)
open PySem.W PySem.SeqAt in
theorem m_each {M : Hp} : ∀ {us : List Value} {ds : List PyData}, EachIs (fun u d => ∃ v, Rp K M v d ∧ RelV v u) us ds → ∃ vs, RpAll K M vs ds ∧ Vals vs us
  | _, _, .nil => ⟨[], .nil, .nil⟩
  | _, _, .cons ⟨v, h1, h2⟩ t => by
    obtain ⟨vs, q1, q2⟩ := m_each t
    exact ⟨v :: vs, .cons h1 q1, .cons h2 q2⟩
def rSortM (K : PySem.W.Frag) : List V → Hp → VK → Prop := fun vs H Q => ∃ (M : Hp) (a : Addr) (xs : List V) (ds : List PyData), Ex M H ∧ vs = [.ref a] ∧ SqL K H a xs ∧ RpAll K M xs ds ∧ Srt ds ∧ ∀ (p : Addr) (ys : List V), H p = none → RpAll K M ys (sortD ds) → Q (.ref p) (upd H p (.lst ys))
open PySem.W PySem.SeqAt in
theorem cr_sortM (hu : X.A.units + 64 < cLine) (hK : X.K = K := by rfl) : CallR X (.builtin "sorted") (rSortM K) := by
  subst hK
  intro pins s σ H xs us Q I r h
  obtain ⟨M, a, xs, ds, hM, rfl, hs, ra, S, q⟩ := h
  obtain rfl := Vals.ref1 r
  obtain ⟨its, rv, pl, hz⟩ := I.list hs
  obtain ⟨_, e2⟩ := each_of I (fun d hd => S.al d hd d hd) (ra.ext hM) rv
  have e1 := each_m ra rv
  have hL : ds.length ≤ sizeLine := Nat.le_trans S.len (by decide)
  have hd : ∀ b, b ∈ ds → X.A.units + 2 + (id b : PyData).depth < cLine := fun b hb => by
    have := S.dp b hb
    show X.A.units + 2 + b.depth < cLine
    omega
  have fin : ∀ out : List Value, out.length = ds.length → EachIs (fun u d => ∃ v, Rp X.K M v d ∧ RelV v u) out (ds.mergeSort (dataLe false id)) → EP X pins σ Q (.ref (s.heap.objs.size + 1)) { s with heap := sortedAll s.heap its (List.toArray out) } := fun out hl e => by
    obtain ⟨ys, q1, q2⟩ := m_each e
    obtain ⟨c, hc⟩ := sortedAll_at s.heap its out.toArray
    have hn : H (s.heap.objs.size + 1) = none := I.hok.fresh (Nat.le_succ _)
    refine ⟨.ref (s.heap.objs.size + 1), upd H (s.heap.objs.size + 1) (.lst ys), I.laid (t' := s.toks) (fun b o e => sortedAll_old e) (Nat.le_succ _) (show ObjOk X.prog X.w _ _ _ (.lst ys) from ⟨?_, out, c, q2, hc⟩), rfl, q _ ys hn q1⟩
    rw [q2.length, hl]
    exact hL
  rcases S.ok with ok | ok
  · exact sorted_data (enc := id) (R := fun u d => ∃ v, Rp X.K M v d ∧ RelV v u) pl.isList e1 e2 (by rw [List.map_id]; exact S.al) (by rw [List.map_id]; exact ok) hL hd fin
  · exact sorted_led (R := fun u d => ∃ v, Rp X.K M v d ∧ RelV v u) pl.isList e1 e2 S.al ok hL hd fin
open Classical in
noncomputable def oSorted : List PyData → Option PyData
  | [.list xs] => if LB.Srt xs then some (.list (LB.sortD xs)) else none
  | _ => none
theorem cb_sorted : CbF K T (rSortM K) oSorted := by
  intro P vs ds d ra h Q q
  unfold oSorted at h
  split at h
  · split at h
    · cases h
      rename_i hh
      cases ra with
      | cons r1 r2 =>
        cases r2
        obtain ⟨p, xs, rfl, hs, r⟩ := r1.list
        exact ⟨P.M, p, xs, _, P.sub, rfl, hs, r, hh, fun p' ys hp ry => q _ (P.hid p' (.lst ys) hp) (le_hid P hp) (.lst (P.none hp) upd_same ry) (loose_none hp)⟩
    · cases h
  · cases h
theorem mSorted_is {a : MA} (ρ : Ev) (d : PyData) (h : mCb oSorted a ρ = some d) : isLst d = true := by
  obtain ⟨x, _, h⟩ := bind_eq h
  unfold oSorted at h
  split at h
  · split at h
    · cases h
      rfl
    · cases h
  · cases h
/-! isinstance -/
def mIs (n : String) (a : ME) : ME := fun ρ => (a ρ).bind fun d => (kitB (tyN d) n).map .bool
theorem Rw.ty {P : Pr T} {v : V} {d : PyData} (h : Rw K P v d) : TyY K P.H v (.type (tyN d)) := by
  rcases h with h | ⟨p, rfl, h⟩
  · exact (h.ext P.sub).ty
  · cases h with
    | lst h1 h2 h3 => exact .x (.base (.lst h2))
    | dT h1 h2 h3 => exact .x (.base (.dT h2))
theorem c_is {n : String} {a : ME} (h : PE X e (tCB (rIsiY K) (tCons (tW K T a) (tCons (tC (.ty n)) tNil)))) : PE X e (tD K T (mIs n a)) := pe_to h fun σ H Q ⟨P0, P, ρ, d, h1, s, h2, q⟩ => by
  subst h1
  obtain ⟨x, ex, h2⟩ := bind_eq h2
  obtain ⟨b, hb, rfl⟩ := map_eq h2
  exact ⟨P0, P, ρ, x, rfl, s, ex, fun v P1 l1 r1 => ⟨_, _, _, _, b, rfl, .ty n, r1.ty, kit_ty hb, q _ P1 l1 (.bl b)⟩⟩
end PM
namespace PM
open PySem PySem.Spec PyProof.Rows L2 LB
variable {T : Tb} {K : PySem.W.Frag} {X : Cx} {e : Expr}
/-! ### iterators -/
structure WkM (K : PySem.W.Frag) (P1 : Pr T) (J : It) (ds : List PyData) : Prop where
  stop : ∀ P' : Pr T, Ex P1.M P'.M → J.stop ds.length P'.H
  go : ∀ i (P' : Pr T), i < ds.length → Ex P1.M P'.M → J.go i P'.H
  yld : ∀ i (P' : Pr T) x H'', i < ds.length → Ex P1.M P'.M → J.yld i P'.H x H'' → ∃ P'' : Pr T, P''.H = H'' ∧ Le P' P'' ∧ ∃ d, ds[i]? = some d ∧ Rp K P''.M x d
structure WkH (K : PySem.W.Frag) (P1 : Pr T) (J : It) (ds : List PyData) : Prop where
  stop : ∀ P' : Pr T, Le P1 P' → J.stop ds.length P'.H
  go : ∀ i (P' : Pr T), i < ds.length → Le P1 P' → J.go i P'.H
  yld : ∀ i (P' : Pr T) x H'', i < ds.length → Le P1 P' → J.yld i P'.H x H'' → ∃ P'' : Pr T, P''.H = H'' ∧ Le P' P'' ∧ ∃ d, ds[i]? = some d ∧ Rp K P''.M x d
theorem WkM.h {P1 : Pr T} {J : It} {ds : List PyData} (w : WkM K P1 J ds) : WkH K P1 J ds := ⟨fun P' l => w.stop P' l.m, fun i P' h l => w.go i P' h l.m, fun i P' x H'' h l y => w.yld i P' x H'' h l.m y⟩
def tI (K : PySem.W.Frag) (T : Tb) (m : MA) : TI := fun σ H R => ∃ (P0 P : Pr T) (ρ : Ev) (ds : List PyData), P.H = H ∧ St K P0 P σ ρ ∧ m ρ = some ds ∧ ∀ J (P' : Pr T), Le P P' → WkM K P' J ds → R J P'.H
def tIh (K : PySem.W.Frag) (T : Tb) (m : MA) : TI := fun σ H R => ∃ (P0 P : Pr T) (ρ : Ev) (ds : List PyData), P.H = H ∧ St K P0 P σ ρ ∧ m ρ = some ds ∧ ∀ J (P' : Pr T), Le P P' → WkH K P' J ds → R J P'.H
theorem c_ih {tg : Expr} {m : MA} (h : PI X tg e (tI K T m)) : PI X tg e (tIh K T m) := pi_to h fun σ H Q ⟨P0, P, ρ, d, h1, s, h2, q⟩ => ⟨P0, P, ρ, d, h1, s, h2, fun J P' l w => q J P' l w.h⟩
/-- a list, a tuple or a text -/
def iSeq (K : PySem.W.Frag) (tl : TE) : TI := fun σ H R => tl σ H fun x H1 => (∃ a, x = .ref a ∧ (∃ xs, SqL K H1 a xs) ∧ R (Itl K a) H1) ∨ (∃ a, x = .ref a ∧ (∃ xs, SqT K H1 a xs) ∧ R (Itt K a) H1) ∨ ∃ z, x = .str z ∧ R (Its z) H1
theorem pi_seq {tg l : Expr} {tl : TE} (hl : PE X l tl) (hK : X.K = K := by rfl) : PI X tg l (iSeq K tl) := by
  subst hK
  refine ⟨fun pins s σ H R I h => thn (hl.run pins s σ H _ I h) fun v s1 ⟨x, H1, I1, r1, q1⟩ => ?_⟩
  rcases q1 with ⟨a, rfl, ⟨xs, hq⟩, q⟩ | ⟨a, rfl, ⟨xs, hq⟩, q⟩ | ⟨z, rfl, q⟩
  · cases r1
    obtain ⟨its, _, p, _⟩ := I1.list hq
    exact wpAny_pyIter_list p.isList (pi_one (tk := s1.toks) I1 _ (turn_list a _) ⟨_, Heap.get?_push_size _ rfl, rfl, rfl⟩ q)
  · cases r1
    obtain ⟨its, _, p, _⟩ := I1.tuple hq
    exact wpAny_pyIter_tuple (show s1.heap.IsTuple a its.toArray from p) (pi_one (tk := s1.toks) I1 _ (turn_tuple a _) ⟨_, Heap.get?_push_size _ rfl, rfl, rfl⟩ q)
  · obtain ⟨t, rfl⟩ := r1
    cases ha : z.cps.all (· < 128)
    · exact wpAny_pyIter_wide ha (pi_one (tk := s1.toks) I1 _ (turn_str _ z t "str_iterator" (Or.inr rfl)) ⟨_, Heap.get?_push_size _ rfl, rfl, rfl⟩ q)
    · exact wpAny_pyIter_ascii ha (pi_one (tk := s1.toks) I1 _ (turn_str _ z t "str_ascii_iterator" (Or.inl rfl)) ⟨_, Heap.get?_push_size _ rfl, rfl, rfl⟩ q)
theorem wk_l {P1 : Pr T} {a : Addr} {xs : List V} {ds : List PyData} (hs : SqL K P1.M a xs) (ra : RpAll K P1.M xs ds) : WkM K P1 (Itl K a) ds := by
  have g : ∀ {P' : Pr T}, Ex P1.M P'.M → SqL K P'.H a xs := fun {P'} x => ex_l P'.sub (ex_l x hs)
  refine ⟨fun P' x => ⟨xs, g x, by rw [ra.length]; exact Nat.le_refl _⟩, fun i P' hi x => ?_, fun i P' v H'' hi x y => ⟨P', y.1.symm, Le.refl P', ?_⟩⟩
  · exact ⟨xs, xs[i]'(by rw [ra.length]; exact hi), g x, List.getElem?_eq_getElem _⟩
  · obtain ⟨d, h1, h2⟩ := ra.get (y.2 xs (g x))
    exact ⟨d, h1, h2.ext x⟩
theorem wk_t {P1 : Pr T} {a : Addr} {xs : List V} {ds : List PyData} (hs : SqT K P1.M a xs) (ra : RpAll K P1.M xs ds) : WkM K P1 (Itt K a) ds := by
  have g : ∀ {P' : Pr T}, Ex P1.M P'.M → SqT K P'.H a xs := fun {P'} x => ex_t P'.sub (ex_t x hs)
  refine ⟨fun P' x => ⟨xs, g x, by rw [ra.length]; exact Nat.le_refl _⟩, fun i P' hi x => ?_, fun i P' v H'' hi x y => ⟨P', y.1.symm, Le.refl P', ?_⟩⟩
  · exact ⟨xs, xs[i]'(by rw [ra.length]; exact hi), g x, List.getElem?_eq_getElem _⟩
  · obtain ⟨d, h1, h2⟩ := ra.get (y.2 xs (g x))
    exact ⟨d, h1, h2.ext x⟩
def signsD (z : Str) : List PyData := z.cps.toList.map fun c => .str ⟨#[c]⟩
theorem wk_s {P1 : Pr T} {z : Str} : WkM K P1 (Its z) (signsD z) := by
  have l : (signsD z).length = z.cps.size := by simp [signsD]
  refine ⟨fun P' x => by show z.cps.size ≤ _; omega, fun i P' hi x => by show i < z.cps.size; omega, fun i P' v H'' hi x y => ⟨P', y.1.symm, Le.refl P', ?_⟩⟩
  obtain ⟨c, hc, rfl⟩ := y.2
  refine ⟨.str ⟨#[c]⟩, ?_, .str _⟩
  unfold signsD
  rw [List.getElem?_map, Array.getElem?_toList, hc] <;> rfl
theorem wk_r {P1 : Pr T} {m : Nat} : WkM K P1 (Itr 0 m) (rngD m) := by
  have l := rngD_length m
  refine ⟨fun P' x => by show m ≤ _; omega, fun i P' hi x => by show i < m; omega, fun i P' v H'' hi x y => ⟨P', y.1.symm, Le.refl P', .int (i : Int), ?_, ?_⟩⟩
  · unfold rngD
    rw [List.getElem?_map, List.getElem?_range (by omega)] <;> rfl
  · rw [y.2, show (0 : Int) + (i : Int) = (i : Int) by omega]
    exact .int _
def seqD : PyData → Option (List PyData)
  | .list xs => some xs
  | .tuple xs => some xs
  | .str z => some (signsD z)
  | _ => none
def iS (a : ME) : MA := fun ρ => (a ρ).bind seqD
theorem c_iseq {tg : Expr} {a : ME} (h : PI X tg e (iSeq K (tD K T a))) : PI X tg e (tI K T (iS a)) := pi_to h fun σ H Q ⟨P0, P, ρ, ds, h1, s, h2, q⟩ => by
  subst h1
  obtain ⟨x, ex, h3⟩ := bind_eq h2
  refine ⟨P0, P, ρ, x, rfl, s, ex, fun v P1 l1 r1 => ?_⟩
  unfold seqD at h3
  split at h3
  · cases h3
    cases r1 with
    | lst hs ra => exact .inl ⟨_, rfl, ⟨_, ex_l P1.sub hs⟩, q _ P1 l1 (wk_l hs ra)⟩
  · cases h3
    cases r1 with
    | tup hs ra => have hs := SqT.of (K := K) hs; exact .inr (.inl ⟨_, rfl, ⟨_, ex_t P1.sub hs⟩, q _ P1 l1 (wk_t hs ra)⟩)
  · cases h3
    cases r1
    exact .inr (.inr ⟨_, rfl, q _ P1 l1 wk_s⟩)
  · cases h3
/-- an own list, for a comprehension -/
theorem wh_l {P1 : Pr T} {a : Addr} {xs : List V} {ds : List PyData} (hs : SqL K P1.H a xs) (ra : RpAll K P1.M xs ds) : WkH K P1 (Itl K a) ds := by
  have g : ∀ {P' : Pr T}, Le P1 P' → SqL K P'.H a xs := fun {P'} x => ex_l x.h hs
  refine ⟨fun P' x => ⟨xs, g x, by rw [ra.length]; exact Nat.le_refl _⟩, fun i P' hi x => ?_, fun i P' v H'' hi x y => ⟨P', y.1.symm, Le.refl P', ?_⟩⟩
  · exact ⟨xs, xs[i]'(by rw [ra.length]; exact hi), g x, List.getElem?_eq_getElem _⟩
  · obtain ⟨d, h1, h2⟩ := ra.get (y.2 xs (g x))
    exact ⟨d, h1, h2.ext x.m⟩
theorem c_iseqw {tg : Expr} {a : ME} (h : PI X tg e (iSeq K (tW K T a))) : PI X tg e (tIh K T (iS a)) := pi_to h fun σ H Q ⟨P0, P, ρ, ds, h1, s, h2, q⟩ => by
  subst h1
  obtain ⟨x, ex, h3⟩ := bind_eq h2
  refine ⟨P0, P, ρ, x, rfl, s, ex, fun v P1 l1 r1 => ?_⟩
  unfold seqD at h3
  split at h3
  · cases h3
    obtain ⟨p, xs, rfl, hs, ra⟩ := r1.list
    exact .inl ⟨_, rfl, ⟨_, hs⟩, q _ P1 l1 (wh_l hs ra)⟩
  · cases h3
    obtain ⟨p, xs, rfl, hm, hs, ra⟩ := r1.tuple
    exact .inr (.inl ⟨_, rfl, ⟨_, hs⟩, q _ P1 l1 (wk_t (SqT.of hm) ra).h⟩)
  · cases h3
    have := r1.str
    subst this
    exact .inr (.inr ⟨_, rfl, q _ P1 l1 wk_s.h⟩)
  · cases h3
/-- range(n) -/
def oRng : List PyData → Option (List PyData)
  | [.int j] => if -100000 ≤ j ∧ j < 100000 then some (rngD j.toNat) else none
  | _ => none
def iR (a : MA) : MA := fun ρ => (a ρ).bind oRng
theorem c_irng {tg : Expr} {a : MA} (h : PI X tg e (iRng1 (tA K T a))) : PI X tg e (tI K T (iR a)) := pi_to h fun σ H Q ⟨P0, P, ρ, ds, h1, s, h2, q⟩ => by
  subst h1
  obtain ⟨x, ex, h3⟩ := bind_eq h2
  unfold oRng at h3
  split at h3
  · split at h3
    · cases h3
      rename_i j hh
      refine ⟨P0, P, ρ, _, rfl, s, ex, fun vs P1 l1 r1 => ?_⟩
      cases r1 with
      | cons r1 r2 =>
        cases r2
        cases r1
        exact ⟨j, rfl, by omega, by omega, q _ P1 l1 wk_r⟩
    · cases h3
  · cases h3
end PM
namespace PM
open PySem PySem.Spec PyProof.Rows L2 LB
variable {T : Tb} {K : PySem.W.Frag} {X : Cx} {e : Expr}
/-! ### zip -/
def zipD (xs ys : List PyData) : List PyData := (xs.zip ys).map fun p => .tuple [p.1, p.2]
theorem zipD_at {xs ys : List PyData} {i : Nat} {a b : PyData} (h1 : xs[i]? = some a) (h2 : ys[i]? = some b) : (zipD xs ys)[i]? = some (.tuple [a, b]) := by
  unfold zipD
  rw [List.getElem?_map, List.getElem?_zip_eq_some (z := (a, b)).mpr ⟨h1, h2⟩] <;> rfl
theorem zipD_len (xs ys : List PyData) : (zipD xs ys).length = min xs.length ys.length := by simp [zipD]
def oZip : List PyData → Option (List PyData)
  | [.list xs, .list ys] => some (zipD xs ys)
  | [.tuple xs, .tuple ys] => some (zipD xs ys)
  | _ => none
def iZ (a : MA) : MA := fun ρ => (a ρ).bind oZip
theorem wk_zl {P1 : Pr T} {a b : Addr} {xs ys : List V} {ds es : List PyData} (hs : SqL K P1.M a xs) (ra : RpAll K P1.M xs ds) (hs2 : SqL K P1.M b ys) (rb : RpAll K P1.M ys es) : WkM K P1 (Itz K a b) (zipD ds es) := by
  have g : ∀ {P' : Pr T}, Ex P1.M P'.M → SqL K P'.H a xs := fun {P'} x => ex_l P'.sub (ex_l x hs)
  have g2 : ∀ {P' : Pr T}, Ex P1.M P'.M → SqL K P'.H b ys := fun {P'} x => ex_l P'.sub (ex_l x hs2)
  have l := zipD_len ds es
  have l1 := ra.length
  have l2 := rb.length
  refine ⟨fun P' x => ⟨xs, ys, g x, g2 x, by omega⟩, fun i P' hi x => ?_, fun i P' v H'' hi x y => ?_⟩
  · exact ⟨xs, ys, xs[i]'(by omega), ys[i]'(by omega), g x, g2 x, List.getElem?_eq_getElem _, List.getElem?_eq_getElem _⟩
  · obtain ⟨t, v1, v2, rfl, hn, rfl, h1, h2⟩ := y
    obtain ⟨d1, e1, r1⟩ := ra.get (h1 xs (g x))
    obtain ⟨d2, e2, r2⟩ := rb.get (h2 ys (g2 x))
    have lp := (le_put P' (o := .tup [v1, v2]) hn).m
    exact ⟨P'.put t (.tup [v1, v2]) hn, rfl, le_put P' hn, _, zipD_at e1 e2, .tup upd_same (.cons ((r1.ext x).ext lp) (.cons ((r2.ext x).ext lp) .nil))⟩
theorem wk_zt {P1 : Pr T} {a b : Addr} {xs ys : List V} {ds es : List PyData} (hs : SqT K P1.M a xs) (ra : RpAll K P1.M xs ds) (hs2 : SqT K P1.M b ys) (rb : RpAll K P1.M ys es) : WkM K P1 (RZ.ItzT K a b) (zipD ds es) := by
  have g : ∀ {P' : Pr T}, Ex P1.M P'.M → SqT K P'.H a xs := fun {P'} x => ex_t P'.sub (ex_t x hs)
  have g2 : ∀ {P' : Pr T}, Ex P1.M P'.M → SqT K P'.H b ys := fun {P'} x => ex_t P'.sub (ex_t x hs2)
  have l := zipD_len ds es
  have l1 := ra.length
  have l2 := rb.length
  refine ⟨fun P' x => ⟨xs, ys, g x, g2 x, by omega⟩, fun i P' hi x => ?_, fun i P' v H'' hi x y => ?_⟩
  · exact ⟨xs, ys, xs[i]'(by omega), ys[i]'(by omega), g x, g2 x, List.getElem?_eq_getElem _, List.getElem?_eq_getElem _⟩
  · obtain ⟨t, v1, v2, rfl, hn, rfl, h1, h2⟩ := y
    obtain ⟨d1, e1, r1⟩ := ra.get (h1 xs (g x))
    obtain ⟨d2, e2, r2⟩ := rb.get (h2 ys (g2 x))
    have lp := (le_put P' (o := .tup [v1, v2]) hn).m
    exact ⟨P'.put t (.tup [v1, v2]) hn, rfl, le_put P' hn, _, zipD_at e1 e2, .tup upd_same (.cons ((r1.ext x).ext lp) (.cons ((r2.ext x).ext lp) .nil))⟩
theorem c_izip {tg : Expr} {a : MA} (h : PI X tg e (RZ.iZipA K (tA K T a))) : PI X tg e (tI K T (iZ a)) := pi_to h fun σ H Q ⟨P0, P, ρ, ds, h1, s, h2, q⟩ => by
  subst h1
  obtain ⟨x, ex, h3⟩ := bind_eq h2
  refine ⟨P0, P, ρ, x, rfl, s, ex, fun vs P1 l1 r1 => ?_⟩
  unfold oZip at h3
  split at h3
  · cases h3
    cases r1 with
    | cons r1 r2 =>
      cases r2 with
      | cons r2 r3 =>
        cases r3
        cases r1 with
        | lst hs ra =>
          cases r2 with
          | lst hs2 rb => exact ⟨_, _, _, _, rfl, .inl ⟨ex_l P1.sub hs, ex_l P1.sub hs2, q _ P1 l1 (wk_zl hs ra hs2 rb)⟩⟩
  · cases h3
    cases r1 with
    | cons r1 r2 =>
      cases r2 with
      | cons r2 r3 =>
        cases r3
        cases r1 with
        | tup hs0 ra =>
          have hs := SqT.of (K := K) hs0
          cases r2 with
          | tup hs2 rb => have hs2 := SqT.of (K := K) hs2; exact ⟨_, _, _, _, rfl, .inr ⟨ex_t P1.sub hs, ex_t P1.sub hs2, q _ P1 l1 (wk_zt hs ra hs2 rb)⟩⟩
  · cases h3
theorem pi_zipK {e1 e2 : Expr} {ta : TA} {p pos tpos : Pos} {elts : List Expr} {kk : Nat} (hg : Gl X "zip") (hm : X.mg "zip" = none) (ha : PA X [e1, e2] ta) (hK : X.K = K := by rfl)
    (hs : starEach [e1, e2] X.env = (false, eval e1 X.env) :: starEach [e2] X.env := by rfl) (hpl : (backTo pos (starEach [e2] X.env)).any (·.1) = false := by rfl) : PI X (.Tuple elts kk tpos) (.Call (.Name "zip" p) [e1, e2] [] pos) (RZ.iZipA K ta) := by
  subst hK
  exact RZ.pi_zipA hg hm ha hs hpl
/-! ### targets -/
abbrev MG := PyData → Ev → Option Ev
def tG (K : PySem.W.Frag) (T : Tb) (vs : List Nat) (gm : MG) : TG := fun v σ H Q => ∃ (P0 P : Pr T) (ρ : Ev) (d : PyData) (ρ' : Ev), P.H = H ∧ St K P0 P σ ρ ∧ Rp K P.M v d ∧ gm d ρ = some ρ' ∧ ∀ σ', St K P0 P σ' ρ' → σ'.length = σ.length → (∀ k, k ∉ vs → σ'[k]? = σ[k]?) → Q σ' H
def gN (i : Nat) : MG := fun d ρ => some (ρ.set i (.val d))
theorem c_gn {i : Nat} (h : PG X e (gName i)) : PG X e (tG K T [i] (gN i)) := pg_to h fun v σ H Q ⟨P0, P, ρ, d, ρ', h1, s, r, h2, q⟩ => by
  subst h1
  cases h2
  exact q _ (s.set r i) (by simp) fun k hk => List.getElem?_set_ne fun z => hk (by simp [z])
def gNs : List Nat → TGs
  | [] => gNil
  | i :: is => gCons (gName i) (gNs is)
def setAll : List Nat → List PyData → Ev → Ev
  | i :: is, d :: ds, ρ => setAll is ds (ρ.set i (.val d))
  | _, _, ρ => ρ
def gT (is : List Nat) : MG := fun d ρ => match d with
  | .tuple ds => if ds.length = is.length then some (setAll is ds ρ) else none
  | _ => none
theorem gns_ok {P0 P : Pr T} {H : Hp} {Q : L2.St → Hp → Prop} : ∀ (is : List Nat) (xs : List V) (ds : List PyData) (σ : L2.St) (ρ : Ev), ds.length = is.length → RpAll K P.M xs ds → St K P0 P σ ρ → (∀ σ', St K P0 P σ' (setAll is ds ρ) → σ'.length = σ.length → (∀ k, k ∉ is → σ'[k]? = σ[k]?) → Q σ' H) → gNs is xs σ H Q
  | [], _, _, σ, ρ, hl, .nil, s, q => ⟨rfl, q σ s rfl fun _ _ => rfl⟩
  | [], _, _, σ, ρ, hl, .cons _ _, s, q => by simp at hl
  | i :: is, _, _, σ, ρ, hl, .nil, s, q => by simp at hl
  | i :: is, _, _, σ, ρ, hl, .cons r rr, s, q => ⟨_, _, rfl, gns_ok is _ _ _ _ (by simpa using hl) rr (s.set r i) fun σ' s' l' f' => q σ' s' (by rw [l']; simp) fun k hk => by
      rw [f' k fun z => hk (List.mem_cons_of_mem _ z), List.getElem?_set_ne fun z => hk (by simp [z])]⟩
theorem c_gt {n : Nat} (is : List Nat) (h : PG X e (gTup K n (gNs is))) (hn : is.length = n := by rfl) : PG X e (tG K T is (gT is)) := pg_to h fun v σ H Q ⟨P0, P, ρ, d, ρ', h1, s, r, h2, q⟩ => by
  subst h1
  unfold gT at h2
  split at h2
  · split at h2
    · cases h2
      rename_i hl
      cases r with
      | tup hs ra => have hs := SqT.of (K := K) hs; exact ⟨_, _, rfl, ex_t P.sub hs, by rw [ra.length, hl, hn], gns_ok is _ _ σ ρ hl ra s q⟩
    · cases h2
  · cases h2
theorem pg_tupK {es : List Expr} {k : Nat} {t : TGs} {n : Nat} {pos : Pos} (hc : X.calm = true) (h : PGs X es t) (hK : X.K = K := by rfl)
    (hn : (assignEach es X.env).length = n := by rfl) (hst : (assignEach es X.env).findIdx? (·.1) = none := by rfl) : PG X (.Tuple es k pos) (gTup K n t) := by
  subst hK
  exact pg_tup hc h hn hst
/-! ### blocks -/
def wipeM (ρ : Ev) : List Nat → Ev
  | [] => ρ
  | v :: vs => (wipeM ρ vs).set v .no
theorem st_wipe {P0 P : Pr T} {σ : L2.St} {ρ : Ev} (s : St K P0 P σ ρ) : ∀ vs, St K P0 P (wipe σ vs) (wipeM ρ vs)
  | [] => s
  | v :: vs => by
    unfold wipe wipeM
    exact (st_wipe s vs).wipe v none
theorem wipe_in {σ : L2.St} {i : Nat} : ∀ {vs : List Nat}, i ∈ vs → i < σ.length → (wipe σ vs)[i]? = some none
  | v :: vs, h, hl => by
    unfold wipe
    by_cases z : v = i
    · subst z
      exact List.getElem?_set_self (by rw [wipe_length]; exact hl)
    · rw [List.getElem?_set_ne z]
      rcases List.mem_cons.mp h with h | h
      · exact absurd h.symm z
      · exact wipe_in h hl
theorem wipe_frame {σ σ2 : L2.St} {vs : List Nat} (hl : σ2.length = (wipe σ vs).length) (hf : ∀ k, k ∉ vs → σ2[k]? = (wipe σ vs)[k]?) : wipe σ2 vs = wipe σ vs := by
  rw [wipe_length] at hl
  refine List.ext_getElem? fun k => ?_
  by_cases h : k ∈ vs
  · by_cases hk : k < σ.length
    · rw [wipe_in h hk, wipe_in h (by omega)]
    · rw [List.getElem?_eq_none (by rw [wipe_length]; omega), List.getElem?_eq_none (by rw [wipe_length]; omega)]
  · rw [wipe_out h, hf k h]
def lcGo (gm : MG) (mt : MT) (me : ME) (ρ : Ev) : List PyData → Option (List PyData)
  | [] => some []
  | d :: ds => (gm d ρ).bind fun ρ1 => (mt ρ1).bind fun b => if b = true then (me ρ1).bind fun x => (lcGo gm mt me ρ ds).map fun l => x :: l else lcGo gm mt me ρ ds
def mLc (mi : MA) (vs : List Nat) (gm : MG) (mt : MT) (me : ME) : ME := fun ρ => (mi ρ).bind fun ds0 => (oFew ds0).bind fun ds => (lcGo gm mt me (wipeM ρ vs) ds).map .list
theorem mLc_is {mi : MA} {vs : List Nat} {gm : MG} {mt : MT} {me : ME} (ρ : Ev) (d : PyData) (h : mLc mi vs gm mt me ρ = some d) : isLst d = true := by
  obtain ⟨_, _, h⟩ := bind_eq h
  obtain ⟨_, _, h⟩ := bind_eq h
  obtain ⟨_, _, rfl⟩ := map_eq h
  rfl
theorem drop_some {α : Type} {l : List α} {i : Nat} {x : α} (h : l[i]? = some x) : l.drop i = x :: l.drop (i + 1) := by
  obtain ⟨hi, e⟩ := List.getElem?_eq_some_iff.mp h
  rw [List.drop_eq_getElem_cons hi, e]
/-- an own list grows -/
theorem own_grow {P1 P5 : Pr T} {D : Addr} {acc : List V} {out : List PyData} {y : V} {d : PyData} (l : Le P1 P5) (hD : Loose P1.H D) (hM : P5.M D = none) (hp : P5.H D = some (.lst acc)) (ra : RpAll K P5.M acc out) (r : Rp K P5.M y d) :
    ∃ Pn : Pr T, Pn.H = upd P5.H D (.lst (acc ++ [y])) ∧ Le P1 Pn ∧ OwnAt K Pn D (.list (out ++ [d])) := by
  refine ⟨⟨P5.M, upd P5.H D (.lst (acc ++ [y])), fun b u e q => ?_, tabs_mut P5.tab hp (fun _ z => nomatch z) (fun _ _ z => by unfold LamX.CodeO at z; cases z), P5.nt⟩, rfl, ⟨l.m, fun b u e q => ?_, l.f⟩, .lst hM upd_same (RpAll.append ra (.cons r .nil))⟩
  · have ne : b ≠ D := fun z => by rw [z, hM] at e; cases e
    rw [upd_ne ne]
    exact P5.sub b u e q
  · have ne : b ≠ D := fun z => by
      rw [z] at e
      obtain ⟨ps, w⟩ := hD u e
      exact q ps w
    show upd P5.H D _ b = some u
    rw [upd_ne ne]
    exact l.h b u e q
theorem lc_in {mi : MA} {vs : List Nat} {gm : MG} {mt : MT} {me : ME} {σ : L2.St} {H : Hp} {Q : VK} (h : tF K T (mLc mi vs gm mt me) σ H Q) : tLc (tIh K T mi) (tG K T vs gm) (tQ K T mt) (tD K T me) vs σ H Q := by
  obtain ⟨P0, P, ρ, d, h1, s, h2, q⟩ := h
  subst h1
  obtain ⟨ds0, e0, h3⟩ := bind_eq h2
  obtain ⟨ds, e1, h4⟩ := bind_eq h3
  obtain ⟨tot, et, rfl⟩ := map_eq h4
  obtain ⟨rfl, hl⟩ := oFew_eq e1
  refine ⟨P0, P, ρ, ds, rfl, s, e0, fun J P1 l1 wk D hD => ?_⟩
  have lo : Loose P1.H D := loose_none hD
  refine ⟨fun i m H' => m = ds.length - i ∧ i ≤ ds.length ∧ ∃ (Pc : Pr T) (out rest : List PyData), Pc.H = H' ∧ Le P1 Pc ∧ OwnAt K Pc D (.list out) ∧ lcGo gm mt me (wipeM ρ vs) (ds.drop i) = some rest ∧ out ++ rest = tot ∧ out.length ≤ i, ⟨ds.length, by simp, Nat.zero_le _, P1.hid D (.lst []) hD, [], tot, rfl, le_hid P1 hD, .lst (P1.none hD) upd_same .nil, et, rfl, Nat.le_refl _⟩, ?_⟩
  rintro i m H' ⟨rfl, hi, Pc, out, rest, rfl, lc, ow, eg, eo, el⟩
  by_cases hlt : i < ds.length
  · refine .inr ⟨wk.go i Pc hlt lc, fun H'' => ∃ m', m' < ds.length - i ∧ (m' = ds.length - (i + 1) ∧ i + 1 ≤ ds.length ∧ ∃ (Pc : Pr T) (out rest : List PyData), Pc.H = H'' ∧ Le P1 Pc ∧ OwnAt K Pc D (.list out) ∧ lcGo gm mt me (wipeM ρ vs) (ds.drop (i + 1)) = some rest ∧ out ++ rest = tot ∧ out.length ≤ i + 1), fun H'' hh => hh, fun x H'' y => ?_⟩
    obtain ⟨P3, rfl, l3, dd, hdd, rx⟩ := wk.yld i Pc x H'' hlt lc y
    rw [drop_some hdd] at eg
    obtain ⟨ρ1, eρ, eg⟩ := bind_eq eg
    obtain ⟨b, eb, eg⟩ := bind_eq eg
    refine ⟨P0, P3, wipeM ρ vs, dd, ρ1, rfl, (st_wipe s vs).up (l1.trans (lc.trans l3)), rx, eρ, fun σ2 s2 hl2 hf2 => ⟨wipe_frame hl2 hf2, P0, P3, ρ1, b, rfl, s2, eb, fun P4 l4 => ?_⟩⟩
    cases b with
    | false =>
      refine iteF ⟨_, by omega, rfl, hlt, P4, out, rest, rfl, lc.trans (l3.trans l4), ow.up (l3.trans l4), by simpa using eg, eo, by omega⟩
    | true =>
      rw [if_pos rfl] at eg
      obtain ⟨z, ez, eg⟩ := bind_eq eg
      obtain ⟨rest', er, rfl⟩ := map_eq eg
      refine iteT ⟨P0, P4, ρ1, z, rfl, s2.up l4, ez, fun yv P5 l5 r5 => ?_⟩
      have ow5 := ow.up (l3.trans (l4.trans l5))
      cases ow5 with
      | @lst acc _ a1 a2 a3 =>
        obtain ⟨Pn, en, ln, on⟩ := own_grow (lc.trans (l3.trans (l4.trans l5))) lo a1 a2 a3 r5
        have : acc.length = out.length := a3.length
        exact ⟨acc, a2, szl' (by omega) hl, _, by omega, rfl, hlt, Pn, out ++ [z], rest', en, ln, on, er, by rw [← eo]; simp, by rw [List.length_append]; show _ + 1 ≤ _; omega⟩
  · have ei : i = ds.length := by omega
    subst ei
    rw [List.drop_length] at eg
    cases eg
    rw [List.append_nil] at eo
    subst eo
    exact .inl ⟨wk.stop Pc lc, q _ Pc (l1.trans lc) ow (loose_back l1.h lo)⟩
theorem c_lc {mi : MA} {vs : List Nat} {gm : MG} {mt : MT} {me : ME} (h : PE X e (tLc (tIh K T mi) (tG K T vs gm) (tQ K T mt) (tD K T me) vs)) : PE X e (tF K T (mLc mi vs gm mt me)) := pe_to h fun σ H Q z => lc_in z
theorem s_lc {st : Stmt} {i : Nat} {mi : MA} {vs : List Nat} {gm : MG} {mt : MT} {me : ME} (h : PS X st (tAsg (tLc (tIh K T mi) (tG K T vs gm) (tQ K T mt) (tD K T me) vs) (gName i))) : PS X st (tAsg (tF K T (mLc mi vs gm mt me)) (gName i)) := ps_to h fun D σ H z => lc_in z
theorem s_fd {st : Stmt} {g : TG} {m : ME} (h : PS X st (tAsg (tF K T m) g)) (hl : ∀ ρ d, m ρ = some d → isLst d = true) : PS X st (tAsg (tD K T m) g) := ps_to h fun D σ H z => fd_in hl z
def qT : MT := fun _ => some true
theorem q_nil {ifs : List Expr} (h : PTs X ifs tYes) : PTs X ifs (tQ K T qT) := pts_to h fun σ H Q ⟨P0, P, ρ, b, h1, s, h2, q⟩ => by
  subst h1
  cases h2
  exact q P (Le.refl P)
/-! ### generator expressions -/
def agGo (gm : MG) (mt : MT) (me : ME) (ρ : Ev) : List PyData → Option Bool
  | [] => some true
  | d :: ds => (gm d ρ).bind fun ρ1 => (mt ρ1).bind fun b => if b = true then (me ρ1).bind fun x => (asB x).bind fun c => if c = true then agGo gm mt me ρ ds else some false else agGo gm mt me ρ ds
def mAg (mi : MA) (vs : List Nat) (gm : MG) (mt : MT) (me : ME) : ME := fun ρ => (mi ρ).bind fun ds => (agGo gm mt me (wipeM ρ vs) ds).map .bool
theorem ext_pr (P1 : Pr T) {H2 : Hp} (h : LamX.ExtN P1.H H2) (t : LamX.Tabs T H2) : ∃ P2 : Pr T, P2.H = H2 ∧ Le P1 P2 := ⟨⟨P1.M, H2, P1.sub.trans h, t, P1.nt⟩, rfl, ex_refl _, h, fun _ a b => absurd a b⟩
theorem c_ag {mi : MA} {vs : List Nat} {gm : MG} {mt : MT} {me : ME} (h : PE X e (GX.tAllG T (tIh K T mi) (tG K T vs gm) (tQ K T mt) (tD K T me) vs)) : PE X e (tD K T (mAg mi vs gm mt me)) := pe_to h fun σ H Q ⟨P0, P, ρ, d, h1, s, h2, q⟩ => by
  subst h1
  obtain ⟨ds, e0, h3⟩ := bind_eq h2
  obtain ⟨tot, et, rfl⟩ := map_eq h3
  refine ⟨P0, P, ρ, ds, rfl, s, e0, fun J P1 l1 wk => ⟨P1.tab, fun H2 hx ht => ?_⟩⟩
  obtain ⟨P2, rfl, l2⟩ := ext_pr P1 hx ht
  refine ⟨fun i m H' => m = ds.length - i ∧ i ≤ ds.length ∧ ∃ (Pc : Pr T), Pc.H = H' ∧ Le P2 Pc ∧ agGo gm mt me (wipeM ρ vs) (ds.drop i) = some tot, ⟨ds.length, by simp, Nat.zero_le _, P2, rfl, Le.refl P2, et⟩, ?_⟩
  rintro i m H' ⟨rfl, hi, Pc, rfl, lc, eg⟩
  have l12 := l2.trans lc
  by_cases hlt : i < ds.length
  · refine .inr ⟨wk.go i Pc hlt l12, fun x H'' y => ?_⟩
    obtain ⟨P3, rfl, l3, dd, hdd, rx⟩ := wk.yld i Pc x H'' hlt l12 y
    rw [drop_some hdd] at eg
    obtain ⟨ρ1, eρ, eg⟩ := bind_eq eg
    obtain ⟨b, eb, eg⟩ := bind_eq eg
    refine ⟨P0, P3, wipeM ρ vs, dd, ρ1, rfl, (st_wipe s vs).up (l1.trans (l12.trans l3)), rx, eρ, fun σ2 s2 hl2 hf2 => ⟨wipe_frame hl2 hf2, P0, P3, ρ1, b, rfl, s2, eb, fun P4 l4 => ?_⟩⟩
    cases b with
    | false => exact iteF ⟨_, by omega, rfl, hlt, P4, rfl, lc.trans (l3.trans l4), by simpa using eg⟩
    | true =>
      rw [if_pos rfl] at eg
      obtain ⟨z, ez, eg⟩ := bind_eq eg
      obtain ⟨c, ec, eg2⟩ := bind_eq eg
      rw [asB_eq ec] at ez
      refine iteT ⟨P0, P4, ρ1, _, rfl, s2.up l4, ez, fun yv P5 l5 r5 => ?_⟩
      cases r5
      refine ⟨c, rfl, fun hc => ⟨_, Nat.sub_lt_sub_left hlt (Nat.lt_succ_self i), rfl, hlt, P5, rfl, lc.trans (l3.trans (l4.trans l5)), ?_⟩, fun hc => ?_⟩
      · rw [if_pos hc] at eg2
        exact eg2
      · rw [if_neg (by rw [hc]; decide)] at eg2
        cases eg2
        exact q _ P5 (l1.trans (l12.trans (l3.trans (l4.trans l5)))) (.bl _)
  · have ei : i = ds.length := by omega
    subst ei
    rw [List.drop_length] at eg
    cases eg
    exact .inl ⟨wk.stop Pc l12, q _ Pc (l1.trans l12) (.bl _)⟩
def mTg (mi : MA) (vs : List Nat) (gm : MG) (mt : MT) (me : ME) : ME := fun ρ => (mi ρ).bind fun ds0 => (oFew ds0).bind fun ds => (lcGo gm mt me (wipeM ρ vs) ds).map .tuple
theorem c_tg {mi : MA} {vs : List Nat} {gm : MG} {mt : MT} {me : ME} (h : PE X e (GX.tTupG (GX.tGx T (tIh K T mi) (tG K T vs gm) (tQ K T mt) (tD K T me) vs))) : PE X e (tD K T (mTg mi vs gm mt me)) := pe_to h fun σ H Q ⟨P0, P, ρ, d, h1, s, h2, q⟩ => by
  subst h1
  obtain ⟨ds0, e0, h3⟩ := bind_eq h2
  obtain ⟨ds, e1, h4⟩ := bind_eq h3
  obtain ⟨tot, et, rfl⟩ := map_eq h4
  obtain ⟨rfl, hl⟩ := oFew_eq e1
  refine ⟨P0, P, ρ, ds, rfl, s, e0, fun J P1 l1 wk => ⟨P1.tab, fun H2 hx ht => ?_⟩⟩
  obtain ⟨P2, rfl, l2⟩ := ext_pr P1 hx ht
  refine ⟨fun i m ys H' => m = ds.length - i ∧ i ≤ ds.length ∧ ∃ (Pc : Pr T) (out rest : List PyData), Pc.H = H' ∧ Le P2 Pc ∧ RpAll K Pc.M ys out ∧ lcGo gm mt me (wipeM ρ vs) (ds.drop i) = some rest ∧ out ++ rest = tot ∧ out.length ≤ i, ⟨ds.length, by simp, Nat.zero_le _, P2, [], tot, rfl, Le.refl P2, .nil, et, rfl, Nat.le_refl _⟩, ?_⟩
  rintro i m ys H' ⟨rfl, hi, Pc, out, rest, rfl, lc, ra, eg, eo, el⟩
  have l12 := l2.trans lc
  by_cases hlt : i < ds.length
  · refine .inr ⟨wk.go i Pc hlt l12, fun x H'' y => ?_⟩
    obtain ⟨P3, rfl, l3, dd, hdd, rx⟩ := wk.yld i Pc x H'' hlt l12 y
    rw [drop_some hdd] at eg
    obtain ⟨ρ1, eρ, eg⟩ := bind_eq eg
    obtain ⟨b, eb, eg⟩ := bind_eq eg
    refine ⟨P0, P3, wipeM ρ vs, dd, ρ1, rfl, (st_wipe s vs).up (l1.trans (l12.trans l3)), rx, eρ, fun σ2 s2 hl2 hf2 => ⟨wipe_frame hl2 hf2, P0, P3, ρ1, b, rfl, s2, eb, fun P4 l4 => ?_⟩⟩
    cases b with
    | false => exact iteF ⟨_, by omega, rfl, hlt, P4, out, rest, rfl, lc.trans (l3.trans l4), ra.ext (l3.trans l4).m, by simpa using eg, eo, by omega⟩
    | true =>
      rw [if_pos rfl] at eg
      obtain ⟨z, ez, eg⟩ := bind_eq eg
      obtain ⟨rest', er, rfl⟩ := map_eq eg
      refine iteT ⟨P0, P4, ρ1, z, rfl, s2.up l4, ez, fun yv P5 l5 r5 => ?_⟩
      have := ra.length
      exact ⟨szl' (by omega) hl, _, Nat.sub_lt_sub_left hlt (Nat.lt_succ_self i), rfl, hlt, P5, out ++ [z], rest', rfl, lc.trans (l3.trans (l4.trans l5)), RpAll.append (ra.ext (l3.trans (l4.trans l5)).m) (.cons r5 .nil), er, by rw [← eo]; simp, by rw [List.length_append]; show _ + 1 ≤ _; omega⟩
  · have ei : i = ds.length := by omega
    subst ei
    rw [List.drop_length] at eg
    cases eg
    rw [List.append_nil] at eo
    subst eo
    refine .inl ⟨wk.stop Pc l12, fun p hp => q _ (Pc.put p (.tup ys) hp) ((l1.trans l12).trans (le_put Pc hp)) (.tup upd_same (ra.ext (le_put Pc hp).m))⟩
/-! ### calls of defs -/
def spM (K : PySem.W.Frag) (T : Tb) (f : List PyData → Option PyData) : Sp := fun vs H Q _ => ∃ (P : Pr T) (ds : List PyData) (d : PyData), P.H = H ∧ RpAll K P.M vs ds ∧ f ds = some d ∧ ∀ v (P' : Pr T), Le P P' → Rp K P'.M v d → Q v P'.H
theorem c_call {E : XK} {f : List PyData → Option PyData} {a : MA} (h : PE X e (tCall (spM K T f) [] E (tA K T a))) : PE X e (tD K T (mCb f a)) := pe_to h fun σ H Q ⟨P0, P, ρ, d, h1, s, h2, q⟩ => by
  subst h1
  obtain ⟨x, ex, h3⟩ := bind_eq h2
  refine ⟨P0, P, ρ, x, rfl, s, ex, fun vs P1 l1 r1 => ?_⟩
  show spM K T f (vs ++ []) P1.H Q E
  rw [List.append_nil]
  exact ⟨P1, x, d, rfl, r1, h3, fun v P2 l2 r2 => q v P2 (l1.trans l2) r2⟩
end PM
namespace PM
open PySem PySem.Spec PyProof.Rows L2 LB
variable {T : Tb} {K : PySem.W.Frag} {X : Cx} {e : Expr} {st : Stmt} {sts : List Stmt}
inductive Out where
  | nx (ρ : Ev) | rt (d : PyData) | rf (d : PyData) | bk (ρ : Ev) | ct (ρ : Ev) | er (c : Str) (ρ : Ev)
/-- what is wanted where a class is raised -/
abbrev ER := Str → L2.St → Hp → Prop
abbrev MS := Ev → Option Out
def Endk (K : PySem.W.Frag) (R : ER) (P0 : Pr T) (D : Ends) : Out → Prop
  | .nx ρ => ∀ (P : Pr T) σ, St K P0 P σ ρ → D.nx σ P.H
  | .rt d => ∀ v (P : Pr T), Le P0 P → Rp K P.M v d → D.rt v P.H
  | .rf d => ∀ p (P : Pr T), Le P0 P → OwnAt K P p d → Loose P0.H p → D.rt (.ref p) P.H
  | .bk ρ => ∀ (P : Pr T) σ, St K P0 P σ ρ → D.bk σ P.H
  | .ct ρ => ∀ (P : Pr T) σ, St K P0 P σ ρ → D.ct σ P.H
  | .er c ρ => ∀ (P : Pr T) σ, St K P0 P σ ρ → R c σ P.H
def tSR (K : PySem.W.Frag) (T : Tb) (R : ER) (m : MS) : TS := fun D σ H => ∃ (P0 P : Pr T) (ρ : Ev) (o : Out), P.H = H ∧ St K P0 P σ ρ ∧ m ρ = some o ∧ Endk K R P0 D o
abbrev noR : ER := fun _ _ _ => False
abbrev tS (K : PySem.W.Frag) (T : Tb) (m : MS) : TS := tSR K T noR m
variable {R : ER}
def mNx : MS := fun ρ => some (.nx ρ)
theorem s_nil (h : PSs X sts tNext) : PSs X sts (tSR K T R mNx) := pss_to h fun D σ H ⟨P0, P, ρ, o, h1, s, h2, q⟩ => by
  subst h1
  cases h2
  exact q P σ s
def mSeq (a b : MS) : MS := fun ρ => (a ρ).bind fun o => match o with
  | .nx ρ' => b ρ'
  | o => some o
theorem s_seq {a b : MS} (h : PSs X sts (tSeq (tSR K T R a) (tSR K T R b))) : PSs X sts (tSR K T R (mSeq a b)) := pss_to h fun D σ H ⟨P0, P, ρ, o, h1, s, h2, q⟩ => by
  subst h1
  obtain ⟨o1, e1, h3⟩ := bind_eq h2
  refine ⟨P0, P, ρ, o1, rfl, s, e1, ?_⟩
  cases o1 with
  | nx ρ' => exact fun P' σ' s' => ⟨P0, P', ρ', o, rfl, s', h3, q⟩
  | rt d =>
    cases h3
    exact q
  | rf d =>
    cases h3
    exact q
  | bk d =>
    cases h3
    exact q
  | ct d =>
    cases h3
    exact q
  | er d ρ2 =>
    cases h3
    exact q
def mRet (a : ME) : MS := fun ρ => (a ρ).map .rt
theorem s_ret {a : ME} (h : PS X st (tRet (tD K T a))) : PS X st (tSR K T R (mRet a)) := ps_to h fun D σ H ⟨P0, P, ρ, o, h1, s, h2, q⟩ => by
  obtain ⟨d, e1, rfl⟩ := map_eq h2
  exact ⟨P0, P, ρ, d, h1, s, e1, fun v P' l r => q v P' (s.le.trans l) r⟩
/-- return x, x an own list -/
def mRetO (i : Nat) : MS := fun ρ => match ρ[i]? with
  | some (.own d) => some (.rf d)
  | _ => none
theorem s_retO {i : Nat} (h : PS X st (tRet (tVar i))) : PS X st (tSR K T R (mRetO i)) := ps_to h fun D σ H ⟨P0, P, ρ, o, h1, s, h2, q⟩ => by
  subst h1
  unfold mRetO at h2
  split at h2
  · rename_i d hd
    cases h2
    obtain ⟨u, g1, g2⟩ := s.ok i _ hd
    cases g2 with
    | own r => exact ⟨_, g1, q _ P s.le r (s.fr i _ _ hd g1)⟩
  · cases h2
def mSet (i : Nat) (a : ME) : MS := fun ρ => (a ρ).map fun d => .nx (ρ.set i (.val d))
theorem s_set {i : Nat} {a : ME} (h : PS X st (tAsg (tD K T a) (gName i))) : PS X st (tSR K T R (mSet i a)) := ps_to h fun D σ H ⟨P0, P, ρ, o, h1, s, h2, q⟩ => by
  obtain ⟨d, e1, rfl⟩ := map_eq h2
  exact ⟨P0, P, ρ, d, h1, s, e1, fun v P' l r => q P' _ ((s.up l).set r i)⟩
def mSetO (i : Nat) (a : ME) : MS := fun ρ => (a ρ).map fun d => .nx (ρ.set i (.own d))
theorem s_setO {i : Nat} {a : ME} (h : PS X st (tAsg (tF K T a) (gName i))) : PS X st (tSR K T R (mSetO i a)) := ps_to h fun D σ H ⟨P0, P, ρ, o, h1, s, h2, q⟩ => by
  subst h1
  obtain ⟨d, e1, rfl⟩ := map_eq h2
  refine ⟨P0, P, ρ, d, rfl, s, e1, fun p P' l r lo => q P' _ ((s.up l).setO r (loose_back s.le.h lo) i fun j e' q' h1 h2 z => ?_)⟩
  obtain ⟨u, g1, g2⟩ := s.ok j _ h1
  rw [h2] at g1
  cases g1
  cases g2 with
  | own r' =>
    subst z
    exact r'.tight lo
def mAsg (a : ME) (gm : MG) : MS := fun ρ => (a ρ).bind fun d => (gm d ρ).map .nx
theorem s_asg {vs : List Nat} {a : ME} {gm : MG} (h : PS X st (tAsg (tD K T a) (tG K T vs gm))) : PS X st (tSR K T R (mAsg a gm)) := ps_to h fun D σ H ⟨P0, P, ρ, o, h1, s, h2, q⟩ => by
  subst h1
  obtain ⟨d, e1, h3⟩ := bind_eq h2
  obtain ⟨ρ', e2, rfl⟩ := map_eq h3
  exact ⟨P0, P, ρ, d, rfl, s, e1, fun v P' l r => ⟨P0, P', ρ, d, ρ', rfl, s.up l, r, e2, fun σ' s' _ _ => q P' σ' s'⟩⟩
def mPar (i j : Nat) (a : MA) : MS := fun ρ => (a ρ).bind fun ds => match ds with
  | [x, y] => some (.nx ((ρ.set i (.val x)).set j (.val y)))
  | _ => none
theorem s_par {i j : Nat} {a : MA} (h : PS X st (tPar i j (tA K T a))) : PS X st (tSR K T R (mPar i j a)) := ps_to h fun D σ H ⟨P0, P, ρ, o, h1, s, h2, q⟩ => by
  obtain ⟨ds, e1, h3⟩ := bind_eq h2
  refine ⟨P0, P, ρ, ds, h1, s, e1, fun vs P' l r => ?_⟩
  split at h3
  · cases h3
    cases r with
    | cons r1 r =>
      cases r with
      | cons r2 r =>
        cases r
        exact ⟨_, _, rfl, q P' _ (((s.up l).set r1 i).set r2 j)⟩
  · cases h3
def mIfS (t : MT) (a b : MS) : MS := fun ρ => (t ρ).bind fun c => if c = true then a ρ else b ρ
theorem s_if {t : MT} {a b : MS} (h : PS X st (tIfS (tQ K T t) (tSR K T R a) (tSR K T R b))) : PS X st (tSR K T R (mIfS t a b)) := ps_to h fun D σ H ⟨P0, P, ρ, o, h1, s, h2, q⟩ => by
  subst h1
  obtain ⟨c, e1, h3⟩ := bind_eq h2
  refine ⟨P0, P, ρ, c, rfl, s, e1, fun P' l => ?_⟩
  cases c with
  | true => exact iteT ⟨P0, P', ρ, o, rfl, s.up l, by simpa using h3, q⟩
  | false => exact iteF ⟨P0, P', ρ, o, rfl, s.up l, by simpa using h3, q⟩
/-! own lists change -/
def mApp (i : Nat) (a : ME) : MS := fun ρ => (a ρ).bind fun d => match ρ[i]? with
  | some (.own (.list ds)) => if ds.length < 100000 then some (.nx (ρ.set i (.own (.list (ds ++ [d]))))) else none
  | _ => none
theorem s_app {i : Nat} {a : ME} (h : PS X st (tDrop (tBM K "list" rAppend (tVar i) (tCons (tD K T a) tNil)))) : PS X st (tSR K T R (mApp i a)) := ps_to h fun D σ H ⟨P0, P, ρ, o, h1, s, h2, q⟩ => by
  subst h1
  obtain ⟨d, e1, h3⟩ := bind_eq h2
  split at h3
  · rename_i ds hd
    split at h3
    · rename_i hlt
      cases h3
      obtain ⟨u, g1, g2⟩ := s.ok i _ hd
      cases g2 with
      | @own p _ r =>
        refine ⟨_, g1, .inl ⟨rfl, ?_⟩, P0, P, ρ, d, rfl, s, e1, fun v P' l rv => ?_⟩
        · cases r with
          | lst a1 a2 a3 => exact ⟨_, SqL.of a2⟩
        · have r' := r.up l
          cases r' with
          | @lst xs _ a1 a2 a3 =>
            obtain ⟨Q', hQ, hQ', s'⟩ := (s.up l).mut (o' := .lst (xs ++ [v])) (d' := .list (ds ++ [d])) hd g1 a1 a2 (fun _ z => nomatch z) (fun _ _ z => by unfold LamX.CodeO at z; cases z) fun R hM hH => .lst (by rw [hM]; exact a1) (by rw [hH]; exact upd_same) (by rw [hM]; exact RpAll.append a3 (.cons rv .nil))
            refine ⟨p, xs, v, rfl, rfl, a2, szl (by rw [a3.length]; exact hlt), ?_⟩
            rw [← hQ']
            exact q Q' σ s'
    · cases h3
  · cases h3
/-! loops -/
theorem St.base {P0 Pb P : Pr T} {σ : L2.St} {ρ : Ev} (l : Le P0 Pb) (s : St K Pb P σ ρ) : St K P0 P σ ρ := ⟨l.trans s.le, s.len, s.ok, s.dis, fun i d p h1 h2 => loose_back l.h (s.fr i d p h1 h2), s.od.1, fun i ks p h1 h2 => loose_back l.h (s.od.2 i ks p h1 h2)⟩
open Classical in
/-- the same from a later entry, on which all data stands that stands now -/
theorem St.rebase {P0 P : Pr T} {σ : L2.St} {ρ : Ev} (s : St K P0 P σ ρ) : ∃ Pb : Pr T, Pb.M = P.M ∧ Le P0 Pb ∧ St K Pb P σ ρ := by
  have agree : ∀ {b : Addr} {u o : HO}, P.M b = some u → P0.H b = some o → Plain o → u = o := fun {b u o} h1 h2 n => by
    have e1 := P.sub b u h1 fun ps z => P.nt b ps (by rw [h1, z])
    have e2 := s.le.h b o h2 n
    rw [e1] at e2
    exact Option.some.inj e2
  refine ⟨⟨P.M, fun a => if P.M a = none then P0.H a else P.M a, fun b u h n => ?_, fun q hq => ?_, P.nt⟩, rfl, ⟨s.le.m, fun b o h n => ?_, s.le.f⟩, ⟨⟨ex_refl _, fun b o h n => ?_, fun a h1 h2 => absurd h1 h2⟩, s.len, s.ok, s.dis, fun i d p h1 h2 => ?_, s.od.1, fun i ks p h1 h2 => ?_⟩⟩
  · show (if P.M b = none then P0.H b else P.M b) = some u
    rw [if_neg (by rw [h]; exact fun z => nomatch z)]
    exact h
  · obtain ⟨ps, h1, h2, h3⟩ := P0.tab q hq
    have e : ∀ {a : Addr} {o : HO}, P0.H a = some o → (∀ u, P.M a = some u → u = o) → (if P.M a = none then P0.H a else P.M a) = some o := fun {a o} h hu => by
      cases z : P.M a with
      | none =>
        rw [if_pos rfl]
        exact h
      | some u =>
        rw [if_neg (fun z => nomatch z), hu u z]
    refine ⟨ps, e h1 fun u hu => ?_, h2, fun pos cv hc => ?_⟩
    · obtain ⟨ps', h1', _⟩ := P.tab q hq
      have := P.sub _ u hu fun ps z => P.nt _ ps (by rw [hu, z])
      rw [h1'] at this
      exact absurd hu (by rw [← Option.some.inj this]; exact P.nt _ _)
    · obtain ⟨c, e1, e2⟩ := h3 pos cv hc
      exact ⟨c, e1, e e2 fun u hu => agree hu e2 LamX.codeO_ne⟩
  · show (if P.M b = none then P0.H b else P.M b) = some o
    cases z : P.M b with
    | none =>
      rw [if_pos rfl]
      exact h
    | some u => rw [if_neg (fun z => nomatch z), agree z h n]
  · have h : (if P.M b = none then P0.H b else P.M b) = some o := h
    cases z : P.M b with
    | none =>
      rw [z, if_pos rfl] at h
      exact s.le.h b o h n
    | some u =>
      rw [z, if_neg (fun z => nomatch z)] at h
      cases h
      exact P.sub b o z n
  · intro o h
    have h : (if P.M p = none then P0.H p else P.M p) = some o := h
    obtain ⟨u, g1, g2⟩ := s.ok i _ h1
    rw [h2] at g1
    cases g1
    cases g2 with
    | own r =>
      rw [if_pos r.obj.1] at h
      exact s.fr i d p h1 h2 o h
  · intro o h
    have h : (if P.M p = none then P0.H p else P.M p) = some o := h
    obtain ⟨u, g1, g2⟩ := s.ok i _ h1
    rw [h2] at g1
    cases g1
    cases g2 with
    | ods b1 b2 b3 =>
      rw [if_pos b1] at h
      exact s.od.2 i ks p h1 h2 o h
theorem Endk.base {P0 Pb : Pr T} {D : Ends} {o : Out} (l : Le P0 Pb) (h : Endk K R P0 D o) : Endk K R Pb D o := by
  cases o with
  | nx ρ => exact fun P σ s => h P σ (s.base l)
  | rt d => exact fun v P l' r => h v P (l.trans l') r
  | rf d => exact fun p P l' r lo => h p P (l.trans l') r (loose_back l.h lo)
  | bk ρ => exact fun P σ s => h P σ (s.base l)
  | ct ρ => exact fun P σ s => h P σ (s.base l)
  | er c ρ => exact fun P σ s => h P σ (s.base l)
def forGo (gm : MG) (mb : MS) : List PyData → Ev → Option Out
  | [], ρ => some (.nx ρ)
  | d :: ds, ρ => (gm d ρ).bind fun ρ1 => (mb ρ1).bind fun o => match o with
    | .nx ρ2 => forGo gm mb ds ρ2
    | .ct ρ2 => forGo gm mb ds ρ2
    | .bk ρ2 => some (.nx ρ2)
    | .rt d => some (.rt d)
    | .rf d => some (.rf d)
    | .er c ρ2 => some (.er c ρ2)
def mFor (mi : MA) (gm : MG) (mb : MS) : MS := fun ρ => (mi ρ).bind fun ds => forGo gm mb ds ρ
theorem s_for {vs : List Nat} {mi : MA} {gm : MG} {mb : MS} (h : PS X st (tFor (tI K T mi) (tG K T vs gm) (tSR K T R mb))) : PS X st (tSR K T R (mFor mi gm mb)) := ps_to h fun D σ H ⟨P0, P, ρ, o, h1, s, h2, q⟩ => by
  subst h1
  obtain ⟨ds, e0, h3⟩ := bind_eq h2
  refine ⟨P0, P, ρ, ds, rfl, s, e0, fun J P1 l1 wk => ?_⟩
  refine ⟨fun i m σ' H' => m = ds.length - i ∧ i ≤ ds.length ∧ ∃ (Pc : Pr T) (ρ' : Ev), Pc.H = H' ∧ Ex P1.M Pc.M ∧ St K P0 Pc σ' ρ' ∧ forGo gm mb (ds.drop i) ρ' = some o, ⟨ds.length, by simp, Nat.zero_le _, P1, ρ, rfl, ex_refl _, s.up l1, h3⟩, ?_⟩
  rintro i m σ' H' ⟨rfl, hi, Pc, ρ', rfl, lc, sc, eg⟩
  by_cases hlt : i < ds.length
  · refine .inr ⟨wk.go i Pc hlt lc, fun σ2 H2 => ∃ m', m' < ds.length - i ∧ (m' = ds.length - (i + 1) ∧ i + 1 ≤ ds.length ∧ ∃ (Pc : Pr T) (ρ' : Ev), Pc.H = H2 ∧ Ex P1.M Pc.M ∧ St K P0 Pc σ2 ρ' ∧ forGo gm mb (ds.drop (i + 1)) ρ' = some o), fun σ2 H2 hh => hh, fun x H'' y => ?_⟩
    obtain ⟨P3, rfl, l3, dd, hdd, rx⟩ := wk.yld i Pc x H'' hlt lc y
    rw [drop_some hdd] at eg
    obtain ⟨ρ1, eρ, eg⟩ := bind_eq eg
    obtain ⟨o1, eo, eg⟩ := bind_eq eg
    refine ⟨P0, P3, ρ', dd, ρ1, rfl, sc.up l3, rx, eρ, fun σ2 s2 _ _ => ?_⟩
    have lm : Ex P1.M P3.M := lc.trans l3.m
    obtain ⟨Pb, hb, lb, s2'⟩ := s2.rebase
    have q' := Endk.base lb q
    refine ⟨Pb, P3, ρ1, o1, rfl, s2', eo, ?_⟩
    have nxt : ∀ (P' : Pr T) σ3 ρ2, forGo gm mb (ds.drop (i + 1)) ρ2 = some o → St K Pb P' σ3 ρ2 → ∃ m', m' < ds.length - i ∧ (m' = ds.length - (i + 1) ∧ i + 1 ≤ ds.length ∧ ∃ (Pc : Pr T) (ρ' : Ev), Pc.H = P'.H ∧ Ex P1.M Pc.M ∧ St K P0 Pc σ3 ρ' ∧ forGo gm mb (ds.drop (i + 1)) ρ' = some o) := fun P' σ3 ρ2 hg s3 => ⟨_, Nat.sub_lt_sub_left hlt (Nat.lt_succ_self i), rfl, hlt, P', ρ2, rfl, lm.trans (by rw [← hb]; exact s3.le.m), s3.base lb, hg⟩
    cases o1 with
    | nx ρ2 => exact fun P' σ3 s3 => nxt P' σ3 ρ2 eg s3
    | ct ρ2 => exact fun P' σ3 s3 => nxt P' σ3 ρ2 eg s3
    | bk ρ2 =>
      cases eg
      exact q'
    | rt d =>
      cases eg
      exact q'
    | rf d =>
      cases eg
      exact q'
    | er c ρ2 =>
      cases eg
      exact q'
  · have ei : i = ds.length := by omega
    subst ei
    rw [List.drop_length] at eg
    cases eg
    exact .inl ⟨wk.stop Pc lc, q Pc σ' sc⟩
/-! ### defs -/
def outR : Out → Option PyData
  | .rt d => some d
  | .rf (.list ds) => some (.list ds)
  | .nx _ => some .none
  | _ => none
def evOf (n N : Nat) (ds : List PyData) : Ev := ds.map .val ++ List.replicate (N - n) .no
def fnM (n N : Nat) (m : MS) : List PyData → Option PyData := fun ds => if ds.length = n then (m (evOf n N ds)).bind outR else none
theorem start_st {N : List Str} {P : Pr T} {vs : List V} {ds : List PyData} {n : Nat} (r : RpAll K P.M vs ds) (hn : ds.length = n) : St K P P (L2.start N vs) (evOf n N.length ds) := by
  have hl := r.length
  refine ⟨Le.refl P, ?_, fun i x h => ?_, fun i j p d e ne h1 h2 h3 h4 => ?_, fun i d p h1 h2 => ?_, fun i j p ks ls ne h1 h2 h3 h4 => ?_, fun i ks p h1 h2 => ?_⟩
  · unfold L2.start evOf
    simp [hl, hn]
  · unfold evOf at h
    unfold L2.start
    by_cases hi : i < ds.length
    · rw [List.getElem?_append_left (by simpa using hi), List.getElem?_map, List.getElem?_eq_getElem hi] at h
      cases h
      rw [List.getElem?_append_left (by simp; omega), List.getElem?_map]
      have hv : i < vs.length := by omega
      obtain ⟨d, h1, h2⟩ := r.get (List.getElem?_eq_getElem hv)
      rw [List.getElem?_eq_getElem hi] at h1
      cases h1
      exact ⟨_, by rw [List.getElem?_eq_getElem hv]; rfl, .val h2⟩
    · rw [List.getElem?_append_right (by simpa using hi)] at h
      have : x = .no := by
        have := List.getElem?_eq_some_iff.mp h
        obtain ⟨h1, h2⟩ := this
        rw [← h2, List.getElem_replicate]
      subst this
      have hr := (List.getElem?_eq_some_iff.mp h).1
      simp at hr
      rw [List.getElem?_append_right (by simp; omega)]
      exact ⟨none, by rw [List.getElem?_eq_getElem (by simp; omega), List.getElem_replicate], .no⟩
  · unfold evOf at h1
    have hm := List.mem_of_getElem? h1
    rcases List.mem_append.mp hm with z | z
    · obtain ⟨_, _, z⟩ := List.mem_map.mp z
      cases z
    · cases List.eq_of_mem_replicate z
  · unfold evOf at h1
    have hm := List.mem_of_getElem? h1
    rcases List.mem_append.mp hm with z | z
    · obtain ⟨_, _, z⟩ := List.mem_map.mp z
      cases z
    · cases List.eq_of_mem_replicate z
  · unfold evOf at h1
    have hm := List.mem_of_getElem? h1
    rcases List.mem_append.mp hm with z | z
    · obtain ⟨_, _, z⟩ := List.mem_map.mp z
      cases z
    · cases List.eq_of_mem_replicate z
  · unfold evOf at h1
    have hm := List.mem_of_getElem? h1
    rcases List.mem_append.mp hm with z | z
    · obtain ⟨_, _, z⟩ := List.mem_map.mp z
      cases z
    · cases List.eq_of_mem_replicate z
theorem spM_len {n N : Nat} {m : MS} {vs : List V} {H : Hp} {Q : VK} {E : XK} (h : spM K T (fnM n N m) vs H Q E) : vs.length = n := by
  obtain ⟨P, ds, d, _, r, h, _⟩ := h
  unfold fnM at h
  split at h
  · rw [r.length]
    assumption
  · cases h
theorem spM_in {R : ER} {N : List Str} {n : Nat} {m : MS} {vs : List V} {H : Hp} {Q : VK} {E : XK} (h : spM K T (fnM n N.length m) vs H Q E) : tSR K T R m { nx := fun _ H' => Q .non H', rt := Q } (L2.start N vs) H := by
  obtain ⟨P, ds, d, rfl, r, h, q⟩ := h
  unfold fnM at h
  split at h
  · rename_i hn
    obtain ⟨o, eo, h⟩ := bind_eq h
    refine ⟨P, P, _, o, rfl, start_st r hn, eo, ?_⟩
    unfold outR at h
    split at h
    · cases h
      exact fun v P' l r' => q v P' l r'
    · cases h
      intro p P' l r' lo
      obtain ⟨P'', e, l'', r''⟩ := own_put l r' lo
      show Q (.ref p) P'.H
      rw [← e]
      exact q _ P'' l'' r''
    · cases h
      exact fun P' σ s => q .non P' s.le .non
    · cases h
  · cases h
end PM
namespace PM
open PySem PySem.Spec PyProof.Rows L2 LB
variable {T : Tb} {K : PySem.W.Frag} {X : Cx} {e : Expr} {st : Stmt} {sts : List Stmt} {R : ER}
/-! ### own dicts with tuples of ints and texts as keys -/
def keyK : PyData → Option Key
  | .int i => some (.inl i)
  | .str x => some (.inr x)
  | _ => none
def keysK : List PyData → Option (List Key)
  | [] => some []
  | d :: ds => (keyK d).bind fun k => (keysK ds).map fun l => k :: l
def keyL : PyData → Option (List Key)
  | .tuple ds => keysK ds
  | _ => none
theorem keyK_eq {d : PyData} {k : Key} (h : keyK d = some k) : d = keyD k := by
  unfold keyK at h
  split at h
  · cases h
    rfl
  · cases h
    rfl
  · cases h
theorem keysK_eq : ∀ {ds : List PyData} {ks : List Key}, keysK ds = some ks → ds = ks.map keyD
  | [], _, h => by
    cases h
    rfl
  | d :: ds, _, h => by
    obtain ⟨k, hk, h⟩ := bind_eq h
    obtain ⟨l, hl, rfl⟩ := map_eq h
    rw [keyK_eq hk, keysK_eq hl]
    rfl
theorem keyK_of (k : Key) : keyK (keyD k) = some k := by cases k <;> rfl
theorem keysK_of : ∀ ks : List Key, keysK (ks.map keyD) = some ks
  | [] => rfl
  | k :: ks => by
    show (keyK (keyD k)).bind (fun k' => (keysK (ks.map keyD)).map fun l => k' :: l) = _
    rw [keyK_of, keysK_of ks]
    rfl
def putD (kvs : List (PyData × PyData)) (k : List Key) (v : PyData) : List (PyData × PyData) :=
  if (kvs.any fun e => decide (keyL e.1 = some k)) = true then kvs.map (fun e => if keyL e.1 = some k then (e.1, v) else e) else kvs ++ [(.tuple (k.map keyD), v)]
def getD (kvs : List (PyData × PyData)) (k : List Key) : Option PyData := (kvs.find? fun e => decide (keyL e.1 = some k)).map (·.2)
theorem dt_key {M : Hp} {a : List Key × V} {b : PyData × PyData} (h : DT K M a b) (k : List Key) : (keyL b.1 = some k) ↔ a.1 = k := by
  rw [h.1]
  show keysK (a.1.map keyD) = some k ↔ _
  rw [keysK_of]
  simp
theorem dt_any {M : Hp} {k : List Key} : ∀ {as : List (List Key × V)} {bs : List (PyData × PyData)}, PySem.W.EachIs (DT K M) as bs → (as.any fun kv => decide (kv.1 = k)) = bs.any fun e => decide (keyL e.1 = some k)
  | _, _, .nil => rfl
  | _, _, .cons h t => by
    rw [List.any_cons, List.any_cons, dt_any t]
    congr 1
    exact decide_eq_decide.mpr (dt_key h k).symm
theorem dt_map {M : Hp} {k : List Key} {v : V} {d : PyData} (r : Rp K M v d) : ∀ {as : List (List Key × V)} {bs : List (PyData × PyData)}, PySem.W.EachIs (DT K M) as bs → PySem.W.EachIs (DT K M) (as.map fun kv => if kv.1 = k then (kv.1, v) else kv) (bs.map fun e => if keyL e.1 = some k then (e.1, d) else e)
  | _, _, .nil => .nil
  | a :: _, _, .cons h t => by
    refine .cons ?_ (dt_map r t)
    by_cases z : a.1 = k
    all_goals dsimp only
    · rw [if_pos z, if_pos ((dt_key h k).mpr z)]
      exact ⟨h.1, r⟩
    · rw [if_neg z, if_neg fun w => z ((dt_key h k).mp w)]
      exact h
theorem each_app {α β : Type} {R : α → β → Prop} : ∀ {as cs : List α} {bs ds : List β}, PySem.W.EachIs R as bs → PySem.W.EachIs R cs ds → PySem.W.EachIs R (as ++ cs) (bs ++ ds)
  | _, _, _, _, .nil, t => t
  | _, _, _, _, .cons h r, t => .cons h (each_app r t)
theorem dt_put {M : Hp} {k : List Key} {v : V} {d : PyData} (r : Rp K M v d) {as : List (List Key × V)} {bs : List (PyData × PyData)} (h : PySem.W.EachIs (DT K M) as bs) : PySem.W.EachIs (DT K M) (putK as k v) (putD bs k d) := by
  unfold putK putD
  rw [dt_any h]
  split
  · exact dt_map r h
  · exact each_app h (.cons ⟨rfl, r⟩ .nil)
theorem dt_get {M : Hp} {k : List Key} {d : PyData} : ∀ {as : List (List Key × V)} {bs : List (PyData × PyData)}, PySem.W.EachIs (DT K M) as bs → getD bs k = some d → ∃ v, valV as k = some v ∧ Rp K M v d
  | _, _, .nil, h => by cases h
  | a :: as, b :: bs, .cons h t, hg => by
    unfold getD at hg
    unfold valV
    rw [List.find?_cons] at hg ⊢
    by_cases z : a.1 = k
    · rw [decide_eq_true ((dt_key h k).mpr z)] at hg
      cases hg
      rw [decide_eq_true z]
      exact ⟨_, rfl, h.2⟩
    · rw [decide_eq_false fun w => z ((dt_key h k).mp w)] at hg
      rw [decide_eq_false z]
      exact dt_get t hg
theorem dt_keys {M : Hp} : ∀ {as : List (List Key × V)} {bs : List (PyData × PyData)}, PySem.W.EachIs (DT K M) as bs → keysD as = bs.map (·.1)
  | _, _, .nil => rfl
  | _, _, .cons h t => by
    have := dt_keys t
    unfold keysD at this ⊢
    rw [List.map_cons, List.map_cons, this, h.1]
theorem c_dnew (h : PE X e tDNewT) : PE X e (tF K T (mC (.dict []))) := pe_to h fun σ H Q ⟨P0, P, ρ, d, h1, s, h2, q⟩ => by
  subst h1
  cases h2
  exact fun p hp => q p (P.hid p (.dT []) hp) (le_hid P hp) (.dT (P.none hp) upd_same .nil) (loose_none hp)
def mDput (j : Nat) (a : MA) (v : ME) : MS := fun ρ => (v ρ).bind fun dv => (a ρ).bind fun kd => (keysK kd).bind fun ks => match ρ[j]? with
  | some (.own (.dict kvs)) => if kvs.length < 1000 ∧ kd.length ≤ 1000 then some (.nx (ρ.set j (.own (.dict (putD kvs ks dv))))) else none
  | _ => none
theorem rpk_inv {M : Hp} : ∀ {ks : List Key} {xs : List V}, RpAll K M xs (ks.map keyD) → xs = ks.map kV
  | [], _, .nil => rfl
  | .inl n :: ks, _, .cons (.int _) t => by rw [List.map_cons, ← rpk_inv t]; rfl
  | .inr n :: ks, _, .cons (.str _) t => by rw [List.map_cons, ← rpk_inv t]; rfl
theorem s_dput {j : Nat} {a : MA} {v : ME} (h : PS X st (sDPut (tVar j) (tTup (tA K T a)) (tD K T v))) : PS X st (tSR K T R (mDput j a v)) := ps_to h fun D σ H ⟨P0, P, ρ, o, h1, s, h2, q⟩ => by
  subst h1
  obtain ⟨dv, ev, h3⟩ := bind_eq h2
  obtain ⟨kd, ek, h4⟩ := bind_eq h3
  obtain ⟨ks, es, h5⟩ := bind_eq h4
  split at h5
  · rename_i kvs hd
    split at h5
    · rename_i hlt
      cases h5
      obtain ⟨u, g1, g2⟩ := s.ok j _ hd
      cases g2 with
      | @own p _ r =>
        refine ⟨P0, P, ρ, dv, rfl, s, ev, fun w P1 l1 rv => ⟨_, g1, P0, P1, ρ, kd, rfl, s.up l1, ek, fun vs P2 l2 r2 => ?_⟩⟩
        refine ⟨Nat.le_trans (by rw [r2.length]; exact hlt.2) (by decide), fun t ht => ?_⟩
        have lt := l1.trans (l2.trans (le_put P2 (o := .tup vs) ht))
        have r3 := r.up lt
        rw [keysK_eq es] at r2
        have ew := rpk_inv r2
        cases r3 with
        | @dT as _ a1 a2 a3 =>
          have la : as.length = kvs.length := a3.length
          obtain ⟨Q', hQ, hQ', s'⟩ := (s.up lt).mut (o' := .dT (putK as ks w)) (d' := .dict (putD kvs ks dv)) hd g1 a1 a2 (fun _ z => nomatch z) (fun _ _ z => by unfold LamX.CodeO at z; cases z) fun R hM hH => .dT (by rw [hM]; exact a1) (by rw [hH]; exact upd_same) (by rw [hM]; exact dt_put ((rv.ext l2.m).ext (le_put P2 ht).m) a3)
          refine ⟨p, _, rfl, DPut.t a2 (by rw [ew]; exact upd_same) (Nat.lt_trans (by rw [la]; exact hlt.1) (by decide)), ?_⟩
          rw [show upd (upd P2.H t (.tup vs)) p (.dT (putK as ks w)) = Q'.H from hQ'.symm]
          exact q Q' σ s'
    · cases h5
  · cases h5
def mLenD (j : Nat) : ME := fun ρ => match ρ[j]? with
  | some (.own (.dict kvs)) => some (.int (kvs.length : Int))
  | _ => none
theorem c_lenD {j : Nat} (h : PE X e (tCB rLenT (tCons (tVar j) tNil))) : PE X e (tD K T (mLenD j)) := pe_to h fun σ H Q ⟨P0, P, ρ, d, h1, s, h2, q⟩ => by
  subst h1
  unfold mLenD at h2
  split at h2
  · rename_i kvs hd
    cases h2
    obtain ⟨u, g1, g2⟩ := s.ok j _ hd
    cases g2 with
    | @own p _ r =>
      cases r with
      | @dT as _ a1 a2 a3 =>
        refine ⟨_, g1, p, as, rfl, a2, q _ P (Le.refl P) ?_⟩
        rw [show as.length = kvs.length from a3.length]
        exact .int _
  · cases h2
/-- [k + (d[k],) for k in sorted(d)] -/
def tieGo (kvs : List (PyData × PyData)) : List PyData → Option (List PyData)
  | [] => some []
  | k :: r => (keyL k).bind fun ks => (getD kvs ks).bind fun v => (tieGo kvs r).map fun l => .tuple (ks.map keyD ++ [v]) :: l
open Classical in
noncomputable def mTies (i j : Nat) : ME := fun ρ => match ρ[j]? with
  | some (.own (.dict kvs)) => if i < ρ.length ∧ Srt (kvs.map (·.1)) ∧ PySem.W.Sortable (kvs.map (·.1)) ∧ (∀ e ∈ kvs, ∀ ks, keyL e.1 = some ks → ks ≠ [] ∧ ks.length ≤ 1000) then (tieGo kvs (sortD (kvs.map (·.1)))).map .list else none
  | _ => none
theorem wipe1 (σ : L2.St) (j : Nat) (x : Option V) : wipe ((wipe σ [j]).set j x) [j] = wipe σ [j] := LB.wipe_one σ j x
theorem c_ties {i j : Nat} (hij : j ≠ i) (h : PE X e (tLc (iList K (tCB rSortDT (tCons (tVar j) tNil))) (gName i) tYes (tOp (uAdd K) (tVar i) (tTup (tCons (tDGet (tVar j) (tVar i)) tNil))) [i])) : PE X e (tF K T (mTies i j)) := pe_to h fun σ H Q ⟨P0, P, ρ, d, h1, s, h2, q⟩ => by
  subst h1
  unfold mTies at h2
  split at h2
  · rename_i kvs hd
    split at h2
    · rename_i hh
      obtain ⟨hil, hS, hO, hk⟩ := hh
      rw [← s.len] at hil
      obtain ⟨tot, et, rfl⟩ := map_eq h2
      obtain ⟨u, g1, g2⟩ := s.ok j _ hd
      cases g2 with
      | @own p _ r =>
        cases r with
        | @dT as _ a1 a2 a3 =>
          have ek := dt_keys a3
          refine ⟨_, g1, p, as, rfl, .inl a2, by rw [ek]; exact hS, by rw [ek]; exact hO, fun l bs hl eb => ⟨l, rfl, ⟨_, SqL.of upd_same⟩, ?_⟩⟩
          rw [ek] at eb
          have lenb : bs.length = (sortD (kvs.map (·.1))).length := eb.length
          intro D hD
          let P1 := P.hid l (.lst (bs.map V.ref)) hl
          have l1 : Le P P1 := le_hid P hl
          have hD1 : P1.H D = none := hD
          have lo : Loose P1.H D := loose_none hD1
          have hlen : (sortD (kvs.map (·.1))).length ≤ 100000 := by
            have := hS.len
            rw [(sortD_perm _).length_eq]
            exact this
          refine ⟨fun n m H' => m = (sortD (kvs.map (·.1))).length - n ∧ n ≤ (sortD (kvs.map (·.1))).length ∧ ∃ (Pc : Pr T) (out rest : List PyData), Pc.H = H' ∧ Le P1 Pc ∧ OwnAt K Pc D (.list out) ∧ tieGo kvs ((sortD (kvs.map (·.1))).drop n) = some rest ∧ out ++ rest = tot ∧ out.length ≤ n, ⟨(sortD (kvs.map (·.1))).length, by simp, Nat.zero_le _, P1.hid D (.lst []) hD1, [], tot, rfl, le_hid P1 hD1, .lst (P1.none hD1) upd_same .nil, et, rfl, Nat.le_refl _⟩, ?_⟩
          rintro n m H' ⟨rfl, hn, Pc, out, rest, rfl, lc, ow, eg, eo, el⟩
          have hlst : Pc.H l = some (.lst (bs.map V.ref)) := lc.h _ _ upd_same fun _ z => nomatch z
          by_cases hlt : n < (sortD (kvs.map (·.1))).length
          · have hb : n < (bs.map V.ref).length := by rw [List.length_map]; omega
            refine .inr ⟨⟨_, (bs.map V.ref)[n], SqL.of hlst, List.getElem?_eq_getElem hb⟩, fun H'' => ∃ m', m' < (sortD (kvs.map (·.1))).length - n ∧ (m' = (sortD (kvs.map (·.1))).length - (n + 1) ∧ n + 1 ≤ (sortD (kvs.map (·.1))).length ∧ ∃ (Pc : Pr T) (out rest : List PyData), Pc.H = H'' ∧ Le P1 Pc ∧ OwnAt K Pc D (.list out) ∧ tieGo kvs ((sortD (kvs.map (·.1))).drop (n + 1)) = some rest ∧ out ++ rest = tot ∧ out.length ≤ n + 1), fun H'' hh => hh, fun x H'' y => ?_⟩
            obtain ⟨rfl, y⟩ := y
            have ex := y _ (SqL.of hlst)
            rw [List.getElem?_map] at ex
            have hbn : n < bs.length := by omega
            rw [List.getElem?_eq_getElem hbn] at ex
            have ex : x = .ref bs[n] := (Option.some.inj ex).symm
            subst ex
            obtain ⟨dk, hdk, ks, rfl, hbk⟩ := LB.each_at eb n hbn
            rw [drop_some hdk] at eg
            obtain ⟨ks', e1, eg⟩ := bind_eq eg
            have e1 : keysK (ks.map keyD) = some ks' := e1
            rw [keysK_of] at e1
            cases e1
            obtain ⟨dv, e2, eg⟩ := bind_eq eg
            obtain ⟨rest', er, rfl⟩ := map_eq eg
            obtain ⟨v, hv, rv⟩ := dt_get a3 e2
            have hbk1 : Pc.H bs[n] = some (.tup (ks.map kV)) := lc.h _ _ (l1.h _ _ hbk fun _ z => nomatch z) fun _ z => nomatch z
            have hpd : Pc.H p = some (.dT as) := lc.h _ _ (l1.h _ _ a2 fun _ z => nomatch z) fun _ z => nomatch z
            have hkk : ks ≠ [] ∧ ks.length ≤ 1000 := by
              have hm : PyData.tuple (ks.map keyD) ∈ kvs.map (·.1) := (sortD_perm _).mem_iff.mp (List.mem_of_getElem? hdk)
              obtain ⟨en, hen, e3⟩ := List.mem_map.mp hm
              refine hk en hen ks ?_
              rw [e3]
              exact keysK_of ks
            have vi : ((wipe σ [i]).set i (some (.ref bs[n])))[i]? = some (some (.ref bs[n])) := List.getElem?_set_self (by rw [wipe_length]; exact hil)
            have vj : ((wipe σ [i]).set i (some (.ref bs[n])))[j]? = some (some (.ref p)) := by
              rw [List.getElem?_set_ne (Ne.symm hij), wipe_out (by simpa using hij)]
              exact g1
            refine ⟨wipe1 σ i _, ?_⟩
            unfold tYes
            dsimp only
            rw [if_pos rfl]
            refine ⟨_, vi, _, vj, _, vi, p, v, rfl, by rw [← hv]; exact DGet.t hpd hbk1, by show 1 ≤ sizeLine; decide, fun t ht => ?_⟩
            have nb : bs[n] ≠ t := ne_of_none hbk1 ht
            refine .inr (.inr (.inr ⟨bs[n], t, ks.map kV, [v], rfl, rfl, SqT.of (by rw [upd_ne nb]; exact hbk1), SqT.of upd_same, ?_, fun z => ?_, fun _ z => absurd z (by simp), fun _ _ p2 hp2 => ?_⟩))
            · have := hkk.2
              rw [List.length_map]
              exact Nat.le_trans (show ks.length + 1 ≤ 1001 by omega) (by decide)
            · exact absurd (List.map_eq_nil_iff.mp z) hkk.1
            · let P4 := Pc.put t (.tup [v]) ht
              have l4 : Le Pc P4 := le_put Pc ht
              let P5 := P4.put p2 (.tup (ks.map kV ++ [v])) hp2
              have l5 : Le P4 P5 := le_put P4 hp2
              have ow5 := ow.up (l4.trans l5)
              have r5 : Rp K P5.M (.ref p2) (.tuple (ks.map keyD ++ [dv])) := .tup upd_same (RpAll.append (LB.rp_keys ks) (.cons ((((rv.ext l1.m).ext lc.m).ext l4.m).ext l5.m) .nil))
              cases ow5 with
              | @lst acc _ b1 b2 b3 =>
                obtain ⟨Pn, en, ln, on⟩ := own_grow (lc.trans (l4.trans l5)) lo b1 b2 b3 r5
                have : acc.length = out.length := b3.length
                exact ⟨acc, b2, szl' (by omega) hlen, _, Nat.sub_lt_sub_left hlt (Nat.lt_succ_self n), rfl, hlt, Pn, _, rest', en, ln, on, er, by rw [← eo]; simp, by rw [List.length_append]; show _ + 1 ≤ _; omega⟩
          · have ei : n = (sortD (kvs.map (·.1))).length := by omega
            subst ei
            rw [List.drop_length] at eg
            cases eg
            rw [List.append_nil] at eo
            subst eo
            refine .inl ⟨⟨_, SqL.of hlst, by rw [List.length_map, lenb]; exact Nat.le_refl _⟩, q _ Pc (l1.trans lc) ow (loose_back l1.h lo)⟩
    · cases h2
  · cases h2
/-! ### l.index(x) -/
end PM
namespace PM
open PySem PySem.Spec PyProof.Rows L2 LB
/-! ### tables of the defs that make generators -/
def qOf (x : Str) : Str := x ++ ".<locals>." ++ "<genexpr>"
def tabsOf (K : PySem.W.Frag) (fs : List Str) : Tb := fs.map fun x => ((He.cT K (x, none)).2, qOf x)
theorem tab_mem {K : PySem.W.Frag} {fs : List Str} {x : Str} (h : x ∈ fs) : ((He.cT K (x, none)).2, qOf x) ∈ tabsOf K fs := List.mem_map.mpr ⟨x, h, rfl⟩
theorem nodup_map {α β : Type} {f : α → β} : ∀ {l : List α}, (l.map f).Nodup → ∀ {x y : α}, x ∈ l → y ∈ l → f x = f y → x = y
  | [], _, _, _, h, _, _ => (List.not_mem_nil h).elim
  | a :: l, nd, x, y, hx, hy, e => by
    rw [List.map_cons, List.nodup_cons] at nd
    rcases List.mem_cons.mp hx with h1 | h1
    · rcases List.mem_cons.mp hy with h2 | h2
      · rw [h1, h2]
      · exact absurd (List.mem_map.mpr ⟨y, h2, by rw [← e, h1]⟩) nd.1
    · rcases List.mem_cons.mp hy with h2 | h2
      · exact absurd (List.mem_map.mpr ⟨x, h1, by rw [e, h2]⟩) nd.1
      · exact nodup_map nd.2 h1 h2 e
theorem tab_uniq {K : PySem.W.Frag} {fs : List Str} {x : Str} (nd : (fs.map fun x => (He.cT K (x, none)).2).Nodup) (h : x ∈ fs) : ∀ p ∈ tabsOf K fs, p.1 = (He.cT K (x, none)).2 → p.2 = qOf x := fun p hp e => by
  obtain ⟨y, hy, rfl⟩ := List.mem_map.mp hp
  have := nodup_map nd hy h e
  subst this
  rfl
end PM
namespace PM
open PySem PySem.Spec PyProof.Rows L2 LB
end PM
namespace PM
open PySem PySem.Spec PyProof.Rows L2 LB
/-! ### reckoning with models -/
section
variable {a b : MS} {ρ ρ' : Ev} {o : Option Out} {d x y : PyData} {i : Nat} {e f : ME} {t : MT}
theorem x_seq (h : a ρ = some (.nx ρ')) (h2 : b ρ' = o) : mSeq a b ρ = o := by
  unfold mSeq
  rw [h]
  exact h2
theorem x_ret (h : a ρ = some (.rt d)) : mSeq a b ρ = some (.rt d) := by
  unfold mSeq
  rw [h]
  rfl
theorem x_set (h : e ρ = some d) : mSet i e ρ = some (.nx (ρ.set i (.val d))) := by
  unfold mSet
  rw [h]
  rfl
theorem x_setO (h : e ρ = some d) : mSetO i e ρ = some (.nx (ρ.set i (.own d))) := by
  unfold mSetO
  rw [h]
  rfl
theorem x_rt (h : e ρ = some d) : mRet e ρ = some (.rt d) := by
  unfold mRet
  rw [h]
  rfl
theorem x_ifT (h : t ρ = some true) (h2 : a ρ = o) : mIfS t a b ρ = o := by
  unfold mIfS
  rw [h]
  exact h2
theorem x_ifF (h : t ρ = some false) (h2 : b ρ = o) : mIfS t a b ρ = o := by
  unfold mIfS
  rw [h]
  exact h2
theorem x_op {g : PyData → PyData → Option PyData} (h1 : e ρ = some x) (h2 : f ρ = some y) (h : g x y = some d) : mOp g e f ρ = some d := by
  unfold mOp
  rw [h1, h2]
  exact h
theorem x_app {ds : List PyData} (h : e ρ = some d) (ho : ρ[i]? = some (.own (.list ds))) (hl : ds.length < 100000) : mApp i e ρ = some (.nx (ρ.set i (.own (.list (ds ++ [d]))))) := by
  unfold mApp
  rw [h, ho]
  show (if ds.length < 100000 then _ else none) = _
  rw [if_pos hl]
theorem x_cb {g : List PyData → Option PyData} {as : MA} {ds : List PyData} (h : as ρ = some ds) (h2 : g ds = some d) : mCb g as ρ = some d := by
  unfold mCb
  rw [h]
  exact h2
theorem x_cons {as : MA} {ds : List PyData} (h : e ρ = some d) (h2 : as ρ = some ds) : aCons e as ρ = some (d :: ds) := by
  unfold aCons
  rw [h, h2]
  rfl
theorem x_tup {as : MA} {ds : List PyData} (h : as ρ = some ds) (hl : ds.length ≤ 100000) : mTup as ρ = some (.tuple ds) := by
  unfold mTup oFew
  rw [h]
  show (if ds.length ≤ 100000 then some ds else none).map _ = _
  rw [if_pos hl]
  rfl
theorem x_lst {as : MA} {ds : List PyData} (h : as ρ = some ds) (hl : ds.length ≤ 100000) : mLst as ρ = some (.list ds) := by
  unfold mLst oFew
  rw [h]
  show (if ds.length ≤ 100000 then some ds else none).map _ = _
  rw [if_pos hl]
  rfl
theorem x_qv {c : Bool} (h : e ρ = some (.bool c)) : qV e ρ = some c := by
  unfold qV
  rw [h]
  rfl
theorem x_not {c : Bool} (h : t ρ = some c) : qNot t ρ = some (!c) := by
  unfold qNot
  rw [h]
  rfl
theorem x_andT {u : MT} {c : Bool} (h : t ρ = some true) (h2 : u ρ = some c) : qAnd t u ρ = some c := by
  unfold qAnd
  rw [h]
  exact h2
theorem x_andF {u : MT} (h : t ρ = some false) : qAnd t u ρ = some false := by
  unfold qAnd
  rw [h]
  rfl
theorem x_orT {u : MT} (h : t ρ = some true) : qOr t u ρ = some true := by
  unfold qOr
  rw [h]
  rfl
theorem x_orF {u : MT} {c : Bool} (h : t ρ = some false) (h2 : u ρ = some c) : qOr t u ρ = some c := by
  unfold qOr
  rw [h]
  exact h2
theorem x_mandT (h : e ρ = some (.bool true)) (h2 : f ρ = some d) : mAnd e f ρ = some d := by
  unfold mAnd
  rw [h]
  exact h2
theorem x_mandF (h : e ρ = some (.bool false)) : mAnd e f ρ = some (.bool false) := by
  unfold mAnd
  rw [h]
  rfl
theorem x_fn {n N : Nat} {m : MS} {ds : List PyData} {q : Out} (hl : ds.length = n) (h : m (evOf n N ds) = some q) (h2 : outR q = some d) : fnM n N m ds = some d := by
  unfold fnM
  rw [if_pos hl, h]
  exact h2
end
theorem mul_ii {i j : Int} (h1 : i.natAbs < 2 ^ 200) (h2 : j.natAbs < 2 ^ 200) : oMul (.int i) (.int j) = some (.int (i * j)) := by
  show (if i.natAbs < 2 ^ 200 ∧ j.natAbs < 2 ^ 200 then some (PyData.int (i * j)) else none) = _
  rw [if_pos ⟨h1, h2⟩]
theorem mul_si {z : Str} {n : Nat} (h1 : n ≤ 1000) (h2 : z.length ≤ 1000) : oMul (.str z) (.int (n : Int)) = some (.str (repS z n)) := by
  show (if 0 ≤ (n : Int) ∧ (n : Int) ≤ 1000 ∧ z.length ≤ 1000 then some (PyData.str (repS z (n : Int).toNat)) else none) = _
  rw [if_pos ⟨by omega, by omega, h2⟩, Int.toNat_natCast]
theorem mul_sk {z : Str} {k : Int} {n : Nat} (hk : k = (n : Int)) (h1 : n ≤ 1000) (h2 : z.length ≤ 1000) : oMul (.str z) (.int k) = some (.str (repS z n)) := by
  rw [hk]
  exact mul_si h1 h2
theorem add_ss {x y : Str} (h : x.length + y.length ≤ 10000) : oAdd (.str x) (.str y) = some (.str (x ++ y)) := by
  show (if x.length + y.length ≤ 10000 then some (PyData.str (x ++ y)) else none) = _
  rw [if_pos h]
theorem add_ll {x y : List PyData} (h : x.length + y.length ≤ 100000) : oAdd (.list x) (.list y) = some (.list (x ++ y)) := by
  show (if x.length + y.length ≤ 100000 then some (PyData.list (x ++ y)) else none) = _
  rw [if_pos h]
theorem mod_ii {i j : Int} (h : j ≠ 0) : oMod (.int i) (.int j) = some (.int (i.fmod j)) := by
  show (if decide (j ≠ 0) = true then some (PyData.int (i.fmod j)) else none) = _
  rw [if_pos (decide_eq_true h)]
theorem ix_l {l : List PyData} {i : Int} {d : PyData} (h : atI l i = some d) : oIx (.list l) (.int i) = some d := h
theorem ix_t {l : List PyData} {i : Int} {d : PyData} (h : atI l i = some d) : oIx (.tuple l) (.int i) = some d := h
theorem ix_s {z : Str} {i : Int} {c : Nat} (hz : z.length ≤ 1000) (h : atI z.cps.toList i = some c) : oIx (.str z) (.int i) = some (.str ⟨#[c]⟩) := by
  show (if z.length ≤ 1000 then (atI z.cps.toList i).map fun c => PyData.str ⟨#[c]⟩ else none) = _
  rw [if_pos hz, h] <;> rfl
theorem rng_n {n : Nat} (h : n < 100000) : oRng [.int (n : Int)] = some (rngD n) := by
  show (if -100000 ≤ (n : Int) ∧ (n : Int) < 100000 then some (rngD (n : Int).toNat) else none) = _
  rw [if_pos ⟨by omega, by omega⟩, Int.toNat_natCast]
theorem x_rng {as : MA} {ρ : Ev} {n : Nat} (h : as ρ = some [.int (n : Int)]) (hn : n < 100000) : iR as ρ = some (rngD n) := by
  unfold iR
  rw [h, Option.bind_some]
  exact rng_n hn
theorem eq_ii (i j : Int) : oEq (.int i) (.int j) = some (.bool (decide (i = j))) := by
  show (if SeqAt.shaped (.int i) = true ∧ SeqAt.shaped (.int j) = true then some (PyData.bool (i == j)) else none) = _
  rw [if_pos ⟨rfl, rfl⟩]
  congr 2
theorem ne_ii (i j : Int) : oNe (.int i) (.int j) = some (.bool (!decide (i = j))) := by
  show (if SeqAt.shaped (.int i) = true ∧ SeqAt.shaped (.int j) = true then some (PyData.bool (!(i == j))) else none) = _
  rw [if_pos ⟨rfl, rfl⟩]
  congr 2
theorem x_ties {i j : Nat} {ρ : Ev} {kvs : List (PyData × PyData)} {ts : List PyData} (hρ : ρ[j]? = some (.own (.dict kvs))) (hi : i < ρ.length) (S : Srt (kvs.map (·.1))) (ok : PySem.W.Sortable (kvs.map (·.1))) (hk : ∀ e ∈ kvs, ∀ ks, keyL e.1 = some ks → ks ≠ [] ∧ ks.length ≤ 1000) (h : tieGo kvs (sortD (kvs.map (·.1))) = some ts) : mTies i j ρ = some (.list ts) := by
  unfold mTies
  rw [hρ]
  dsimp only
  rw [if_pos ⟨hi, S, ok, hk⟩, h]
  rfl
theorem x_par {i j : Nat} {as : MA} {ρ : Ev} {x y : PyData} (h : as ρ = some [x, y]) : mPar i j as ρ = some (.nx ((ρ.set i (.val x)).set j (.val y))) := by
  unfold mPar
  rw [h]
  rfl
/-- a loop by its invariant -/
theorem x_go {gm : MG} {mb : MS} (I : Nat → Ev → Prop) : ∀ (ds : List PyData) (k : Nat) (ρ : Ev), I k ρ → (∀ i d ρ, ds[i]? = some d → I (k + i) ρ → ∃ ρ1 ρ2, gm d ρ = some ρ1 ∧ mb ρ1 = some (.nx ρ2) ∧ I (k + i + 1) ρ2) → ∃ ρ', forGo gm mb ds ρ = some (.nx ρ') ∧ I (k + ds.length) ρ'
  | [], k, ρ, h, _ => ⟨ρ, rfl, h⟩
  | d :: ds, k, ρ, h, hs => by
    obtain ⟨ρ1, ρ2, h1, h2, h3⟩ := hs 0 d ρ rfl h
    obtain ⟨ρ', h4, h5⟩ := x_go I ds (k + 1) ρ2 h3 fun i d' ρ hd hi => by
      have e : k + 1 + i = k + (i + 1) := by omega
      rw [e] at hi ⊢
      exact hs (i + 1) d' ρ hd hi
    refine ⟨ρ', ?_, ?_⟩
    · show (gm d ρ).bind _ = _
      rw [h1]
      show (mb ρ1).bind _ = _
      rw [h2]
      exact h4
    · have e : k + 1 + ds.length = k + (ds.length + 1) := by omega
      rw [e] at h5
      exact h5
theorem x_for {mi : MA} {gm : MG} {mb : MS} {ds : List PyData} {ρ : Ev} (I : Nat → Ev → Prop) (hi : mi ρ = some ds) (h0 : I 0 ρ) (hs : ∀ i d ρ, ds[i]? = some d → I i ρ → ∃ ρ1 ρ2, gm d ρ = some ρ1 ∧ mb ρ1 = some (.nx ρ2) ∧ I (i + 1) ρ2) : ∃ ρ', mFor mi gm mb ρ = some (.nx ρ') ∧ I ds.length ρ' := by
  obtain ⟨ρ', h1, h2⟩ := x_go I ds 0 ρ h0 fun i d ρ hd h => by
    rw [Nat.zero_add] at h ⊢
    exact hs i d ρ hd h
  refine ⟨ρ', ?_, by rw [Nat.zero_add] at h2; exact h2⟩
  unfold mFor
  rw [hi]
  exact h1
/-- m runs, and what comes of it keeps to Post -/
def Run (m : MS) (ρ : Ev) (Post : Out → Prop) : Prop := ∃ q, m ρ = some q ∧ Post q
section
variable {a b rest : MS} {ρ ρ' : Ev} {Post : Out → Prop} {e : ME} {t : MT} {d : PyData} {c : Bool}
theorem r_seq (h : a ρ = some (.nx ρ')) (h2 : Run b ρ' Post) : Run (mSeq a b) ρ Post := by
  obtain ⟨q, h3, h4⟩ := h2
  exact ⟨q, x_seq h h3, h4⟩
theorem r_end (h : a ρ = some (.nx ρ')) (h2 : Post (.nx ρ')) : Run a ρ Post := ⟨_, h, h2⟩
theorem r_ret (h : e ρ = some d) (h2 : Post (.rt d)) : Run (mRet e) ρ Post := ⟨_, x_rt h, h2⟩
theorem r_if (h : t ρ = some c) (h1 : c = true → Run a ρ Post) (h2 : c = false → Run b ρ Post) : Run (mIfS t a b) ρ Post := by
  cases c with
  | true =>
    obtain ⟨q, h3, h4⟩ := h1 rfl
    exact ⟨q, x_ifT h h3, h4⟩
  | false =>
    obtain ⟨q, h3, h4⟩ := h2 rfl
    exact ⟨q, x_ifF h h3, h4⟩
/-- goes on with some environment -/
def Nx (Mid : Ev → Prop) : Out → Prop
  | .nx ρ => Mid ρ
  | _ => False
theorem r_mid (Mid : Ev → Prop) (h : Run a ρ (Nx Mid)) (h2 : ∀ ρ', Mid ρ' → Run b ρ' Post) : Run (mSeq a b) ρ Post := by
  obtain ⟨q, h3, h4⟩ := h
  cases q with
  | nx ρ' => exact r_seq h3 (h2 ρ' h4)
  | rt d => exact h4.elim
  | rf d => exact h4.elim
  | bk d => exact h4.elim
  | ct d => exact h4.elim
  | er d ρ2 => exact h4.elim
theorem r_for {mi : MA} {gm : MG} {mb : MS} {ds : List PyData} (I : Nat → Ev → Prop) (hi : mi ρ = some ds) (h0 : I 0 ρ) (hs : ∀ i d ρ, ds[i]? = some d → I i ρ → ∃ ρ1, gm d ρ = some ρ1 ∧ Run mb ρ1 (Nx (I (i + 1)))) (he : ∀ ρ', I ds.length ρ' → Run rest ρ' Post) : Run (mSeq (mFor mi gm mb) rest) ρ Post := by
  obtain ⟨ρ', h1, h2⟩ := x_for I hi h0 fun i d ρ hd h => by
    obtain ⟨ρ1, h1, q, h2, h3⟩ := hs i d ρ hd h
    cases q with
    | nx ρ2 => exact ⟨ρ1, ρ2, h1, h2, h3⟩
    | rt d => exact h3.elim
    | rf d => exact h3.elim
    | bk d => exact h3.elim
    | ct d => exact h3.elim
    | er d ρ2 => exact h3.elim
  exact r_seq h1 (he ρ' h2)
theorem r_fn {n N : Nat} {m : MS} {ds : List PyData} {Pd : PyData → Prop} (hl : ds.length = n) (h : Run m (evOf n N ds) fun q => ∃ d, outR q = some d ∧ Pd d) : ∃ d, fnM n N m ds = some d ∧ Pd d := by
  obtain ⟨q, h1, d, h2, h3⟩ := h
  exact ⟨d, x_fn hl h1 h2, h3⟩
theorem r_eq {n N : Nat} {m : MS} {ds : List PyData} (hl : ds.length = n) (h : Run m (evOf n N ds) fun q => outR q = some d) : fnM n N m ds = some d := by
  obtain ⟨q, h1, h2⟩ := h
  exact x_fn hl h1 h2
theorem rng_at {n i : Nat} (h : (rngD n)[i]? = some d) : i < n ∧ d = .int (i : Int) := by
  have hi := (List.getElem?_eq_some_iff.mp h).1
  rw [rngD_length] at hi
  unfold rngD at h
  rw [List.getElem?_map, List.getElem?_range hi] at h
  exact ⟨hi, (Option.some.inj h).symm⟩
end
/-- a comprehension whose every turn is told -/
theorem x_lcGo {gm : MG} {mt : MT} {me : ME} {ρ : Ev} (p : PyData → Bool) (F : PyData → PyData) : ∀ (ds : List PyData), (∀ d ∈ ds, ∃ ρ1, gm d ρ = some ρ1 ∧ mt ρ1 = some (p d) ∧ (p d = true → me ρ1 = some (F d))) → lcGo gm mt me ρ ds = some ((ds.filter p).map F)
  | [], _ => rfl
  | d :: ds, h => by
    obtain ⟨ρ1, h1, h2, h3⟩ := h d List.mem_cons_self
    have ih := x_lcGo p F ds fun x hx => h x (List.mem_cons_of_mem _ hx)
    show (gm d ρ).bind _ = _
    rw [h1]
    show (mt ρ1).bind _ = _
    rw [h2]
    cases hp : p d with
    | true =>
      show (me ρ1).bind _ = _
      rw [h3 hp]
      show (lcGo gm mt me ρ ds).map _ = _
      rw [ih, List.filter_cons_of_pos hp]
      rfl
    | false =>
      show lcGo gm mt me ρ ds = _
      rw [ih, List.filter_cons_of_neg (by rw [hp]; decide)]
theorem x_few {ds : List PyData} (h : ds.length ≤ 100000) : oFew ds = some ds := if_pos h
theorem x_lc {mi : MA} {vs : List Nat} {gm : MG} {mt : MT} {me : ME} {ρ : Ev} {ds es : List PyData} (hi : mi ρ = some ds) (hl : ds.length ≤ 100000) (h : lcGo gm mt me (wipeM ρ vs) ds = some es) : mLc mi vs gm mt me ρ = some (.list es) := by
  unfold mLc
  rw [hi]
  show (oFew ds).bind _ = _
  rw [x_few hl]
  show (lcGo gm mt me (wipeM ρ vs) ds).map _ = _
  rw [h]
  rfl
theorem x_tg {mi : MA} {vs : List Nat} {gm : MG} {mt : MT} {me : ME} {ρ : Ev} {ds es : List PyData} (hi : mi ρ = some ds) (hl : ds.length ≤ 100000) (h : lcGo gm mt me (wipeM ρ vs) ds = some es) : mTg mi vs gm mt me ρ = some (.tuple es) := by
  unfold mTg
  rw [hi]
  show (oFew ds).bind _ = _
  rw [x_few hl]
  show (lcGo gm mt me (wipeM ρ vs) ds).map _ = _
  rw [h]
  rfl
theorem x_agGo {gm : MG} {mt : MT} {me : ME} {ρ : Ev} (p : PyData → Bool) : ∀ (ds : List PyData), (∀ d ∈ ds, ∃ ρ1, gm d ρ = some ρ1 ∧ mt ρ1 = some true ∧ me ρ1 = some (.bool (p d))) → agGo gm mt me ρ ds = some (ds.all p)
  | [], _ => rfl
  | d :: ds, h => by
    obtain ⟨ρ1, h1, h2, h3⟩ := h d List.mem_cons_self
    have ih := x_agGo p ds fun x hx => h x (List.mem_cons_of_mem _ hx)
    show (gm d ρ).bind _ = _
    rw [h1]
    show (mt ρ1).bind _ = _
    rw [h2]
    show (me ρ1).bind _ = _
    rw [h3, List.all_cons]
    cases hp : p d with
    | true =>
      show agGo gm mt me ρ ds = _
      rw [ih, Bool.true_and]
    | false => rfl
theorem x_ag {mi : MA} {vs : List Nat} {gm : MG} {mt : MT} {me : ME} {ρ : Ev} {ds : List PyData} {c : Bool} (hi : mi ρ = some ds) (h : agGo gm mt me (wipeM ρ vs) ds = some c) : mAg mi vs gm mt me ρ = some (.bool c) := by
  unfold mAg
  rw [hi]
  show (agGo gm mt me (wipeM ρ vs) ds).map _ = _
  rw [h]
  rfl
theorem x_sorted {ds : List PyData} (h : Srt ds) : oSorted [.list ds] = some (.list (sortD ds)) := by
  show (open Classical in if Srt ds then some (PyData.list (sortD ds)) else none) = _
  rw [if_pos h]
theorem cut_mem {α : Type} {l : List α} {lo hi : Option Int} {x : α} (h : x ∈ LB.cutD l lo hi) : x ∈ l := List.mem_of_mem_drop (List.mem_of_mem_take h)
theorem cut_len {α : Type} (l : List α) (lo hi : Option Int) : (LB.cutD l lo hi).length ≤ l.length := by
  unfold LB.cutD
  rw [List.length_take, List.length_drop]
  omega
/-! sorted lists of names -/
def leS (a b : Str) : Bool := !decide (b.cps.toList < a.cps.toList)
theorem sort_strs (ns : List Str) : sortD (ns.map PyData.str) = (ns.mergeSort leS).map PyData.str := by
  unfold sortD
  refine (List.map_mergeSort fun a _ b _ => ?_).symm
  show leS a b = !PySem.W.dataLt (.str b) (.str a)
  rw [PySem.W.dataLt_str]
  rfl
theorem srt_strs {ns : List Str} (h : ns.length ≤ 1000) : Srt (ns.map PyData.str) := by
  refine ⟨fun d hd d' hd' => ?_, .inl (.inr fun d hd => ?_), fun d hd => ?_, by rw [List.length_map]; omega⟩
  · obtain ⟨x, _, rfl⟩ := List.mem_map.mp hd
    obtain ⟨y, _, rfl⟩ := List.mem_map.mp hd'
    rfl
  · obtain ⟨x, _, rfl⟩ := List.mem_map.mp hd
    exact ⟨(fun z => nomatch z), (fun _ z => nomatch z)⟩
  · obtain ⟨x, _, rfl⟩ := List.mem_map.mp hd
    exact Nat.zero_le _
theorem leS_sorted (ns : List Str) : (ns.mergeSort leS).Pairwise fun a b => leS a b = true := by
  refine List.pairwise_mergeSort (fun a b c h1 h2 => ?_) (fun a b => ?_) ns
  · unfold leS at *
    simp only [Bool.not_eq_true', decide_eq_false_iff_not] at *
    exact List.not_lt.mpr (List.le_trans (List.not_lt.mp h1) (List.not_lt.mp h2))
  · unfold leS
    simp only [Bool.or_eq_true, Bool.not_eq_true', decide_eq_false_iff_not]
    rcases List.le_total a.cps.toList b.cps.toList with h | h
    · exact .inl (List.not_lt.mpr h)
    · exact .inr (List.not_lt.mpr h)
theorem rise_sort {ns : List Str} (hn : ns.Nodup) : Rise (ns.mergeSort leS) := by
  have nd : (ns.mergeSort leS).Nodup := (List.mergeSort_perm ns leS).nodup_iff.mpr hn
  refine ((leS_sorted ns).and nd).imp fun {a b} ⟨p, q⟩ => ?_
  unfold leS at p
  simp only [Bool.not_eq_true', decide_eq_false_iff_not] at p
  by_cases h : a.cps.toList < b.cps.toList
  · exact h
  · exact absurd (str_ext (List.le_antisymm (List.not_lt.mp p) (List.not_lt.mp h))) q
end PM
namespace PM
open PySem PySem.Spec PyProof.Rows L2 LB
/-! ### cuts, among data -/
def nmD : PyData → PyData
  | .tuple (x :: _) => x
  | _ => .none
theorem nmD_all {top : Int} : ∀ {ns : List Str} {ps : List PyData}, PySem.W.EachIs (PlaceOk top) ns ps → ps.map nmD = ns.map .str
  | _, _, .nil => rfl
  | _, _, .cons ⟨a, b, c, e, h, _⟩ t => by
    subst h
    rw [List.map_cons, List.map_cons, nmD_all t]
    rfl
theorem nmD_at {top : Int} : ∀ {ns : List Str} {ps : List PyData}, PySem.W.EachIs (PlaceOk top) ns ps → ∀ d ∈ ps, ∃ (x : Str) (a b c e : Int), x ∈ ns ∧ d = .tuple [.str x, .int a, .int b, .int c, .int e] ∧ (0 ≤ a ∧ a < 100) ∧ (0 ≤ b ∧ b < 100) ∧ (0 ≤ e ∧ e < 100) ∧ e * top ≤ c ∧ c ≤ 999
  | _, _, .nil, d, h => (List.not_mem_nil h).elim
  | _, _, .cons ⟨a, b, c, e, h, h1⟩ t, d, hd => by
    rcases List.mem_cons.mp hd with z | hd
    · exact ⟨_, a, b, c, e, List.mem_cons_self, z.trans h, h1⟩
    · obtain ⟨x, a, b, c, e, hx, h⟩ := nmD_at t d hd
      exact ⟨x, a, b, c, e, List.mem_cons_of_mem _ hx, h⟩
theorem cut_tail (l : List PyData) : LB.cutD l (some 1) none = l.drop 1 := by
  unfold LB.cutD
  have e : HT.sIx l.length 0 (some 1) = min 1 l.length := HT.sIx_nat l.length 0 1
  rw [e, show HT.sIx l.length l.length none = l.length from rfl]
  cases l with
  | nil => rfl
  | cons a l =>
    rw [show min 1 (a :: l).length = 1 by simp]
    simp
def txs : List PyData → List Str
  | .str x :: r => x :: txs r
  | _ :: r => txs r
  | [] => []
theorem eqv_str (a b : Str) : PyData.eqv (.str a) (.str b) = (a == b) := by
  first
    | rfl
    | (unfold PyData.eqv; rfl)
theorem any_str {ns : List Str} {x : Str} : ((ns.map PyData.str).any fun z => PyData.eqv z (.str x)) = decide (x ∈ ns) := by
  induction ns with
  | nil => simp
  | cons a ns ih =>
    rw [List.map_cons, List.any_cons, ih, eqv_str]
    by_cases z : a = x
    · subst z
      rw [beq_self_eq_true, Bool.true_or, decide_eq_true List.mem_cons_self]
    · rw [beq_eq_false_iff_ne.mpr z, Bool.false_or]
      exact decide_eq_decide.mpr ⟨List.mem_cons_of_mem _, fun h => (List.mem_cons.mp h).resolve_left fun w => z w.symm⟩
theorem fl_strs (ns : List Str) : (ns.map PyData.str).all flD = true := by
  rw [List.all_eq_true]
  intro d hd
  obtain ⟨x, _, rfl⟩ := List.mem_map.mp hd
  rfl
theorem in_strs {ns : List Str} {x : Str} {c : PyData} (hc : itemsD c = some (ns.map .str)) : oIn (.str x) c = some (.bool (decide (x ∈ ns))) := by
  unfold oIn
  rw [hc]
  show (if flD (.str x) = true ∧ (ns.map PyData.str).all flD = true then _ else none) = _
  rw [if_pos ⟨rfl, fl_strs ns⟩, any_str]
/-! all cuts -/
def pick (ns : List Str) (m : Nat) : List Str := ((List.range ns.length).filter fun k => decide (m / 2 ^ k % 2 = 1)).map fun k => ns.getD k Str.empty
end PM
namespace PM
open PySem PySem.Spec PyProof.Rows L2 LB
/-- where a law begins -/
theorem start_pr {T : Tb} {K : PySem.W.Frag} {H : Hp} {a : Addr} {xs : List V} (t : LamX.Tabs T H) (h : SqL K H a xs) : ∃ P : Pr T, P.H = H ∧ SqL K P.M a xs := by
  rcases h with h | h
  · have hn : ∀ ps, H a ≠ some (.tbl ps) := fun ps z => by
      rcases h with h | ⟨o, h⟩
      · rw [z] at h
        cases h
      · rw [z] at h
        cases h
    refine ⟨⟨fun b => if b = a then H a else none, H, fun b u e _ => ?_, t, fun b ps z => ?_⟩, rfl, .inl ?_⟩
    · have e : (if b = a then H a else none) = some u := e
      by_cases q : b = a
      · rw [if_pos q] at e
        rw [q]
        exact e
      · rw [if_neg q] at e
        cases e
    · have z : (if b = a then H a else none) = some (.tbl ps) := z
      by_cases q : b = a
      · rw [if_pos q] at z
        exact hn ps z
      · rw [if_neg q] at z
        cases z
    · rcases h with h | ⟨o, h⟩
      · exact .inl (by show (if a = a then H a else none) = _; rw [if_pos rfl]; exact h)
      · exact .inr ⟨o, by show (if a = a then H a else none) = _; rw [if_pos rfl]; exact h⟩
  · exact ⟨⟨fun _ => none, H, fun b u e _ => (nomatch e), t, fun b ps z => (nomatch z)⟩, rfl, .inr h⟩
end PM
namespace PM
open PySem PySem.Spec PyProof.Rows L2 LB
variable {T : Tb} {K : PySem.W.Frag} {X : Cx} {e : Expr} {st : Stmt} {sts : List Stmt} {R : ER}
/-! ### what is never reached -/
def mNo : MS := fun _ => none
theorem s_no : PS X st (tSR K T R mNo) := ⟨fun _ _ _ _ _ _ ⟨_, _, _, _, _, _, h, _⟩ => nomatch h⟩
/-! ### x op= y, of ints -/
/-! ### while -/
end PM
namespace PM
open PySem PySem.Spec PyProof.Rows L2 LB
section
variable {T : Tb} {K : PySem.W.Frag} {X : Cx} {e : Expr}
/-! ### list(range(n)), l[::-1] -/
def oLrg : PyData → Option PyData
  | .int n => if 0 ≤ n ∧ n ≤ 100000 then some (.list (rngD n.toNat)) else none
  | _ => none
theorem rp_rng {M : Hp} (n : Nat) : RpAll K M ((List.range n).map fun i => V.int (0 + (i : Nat))) (rngD n) := by
  unfold rngD
  induction List.range n with
  | nil => exact .nil
  | cons i l ih =>
    rw [List.map_cons, List.map_cons, Int.zero_add]
    exact .cons (.int _) ih
theorem c_lrg {a : ME} (h : PE X e (tLstRg (tRg1 (tD K T a)))) : PE X e (tF K T (mUn oLrg a)) := pe_to h fun σ H Q ⟨P0, P, ρ, d, h1, s, h2, q⟩ => by
  subst h1
  obtain ⟨x, ex, h3⟩ := bind_eq h2
  unfold oLrg at h3
  split at h3
  · split at h3
    · cases h3
      rename_i n hh
      refine ⟨P0, P, ρ, _, rfl, s, ex, fun v P1 l1 r1 => ?_⟩
      cases r1
      refine ⟨n, rfl, RgOk.of_le (by decide) (by omega) (by decide) hh.1, fun p hp => ?_⟩
      refine q p (P1.hid p (.lst (rgV 0 n)) hp) (l1.trans (le_hid P1 hp)) (.lst (P1.none hp) upd_same ?_) (loose_back l1.h (loose_none hp))
      unfold rgV
      rw [Int.sub_zero]
      exact rp_rng _
    · cases h3
  · cases h3
theorem mLrg_is {a : ME} (ρ : Ev) (d : PyData) (h : mUn oLrg a ρ = some d) : isLst d = true := by
  obtain ⟨x, _, h⟩ := bind_eq h
  unfold oLrg at h
  split at h
  · split at h
    · cases h
      rfl
    · cases h
  · cases h
def oRevL : PyData → Option PyData
  | .list xs => some (.list xs.reverse)
  | _ => none
theorem c_revL {a : ME} (h : PE X e (tRevL K (tW K T a))) : PE X e (tD K T (mUn oRevL a)) := pe_to h fun σ H Q ⟨P0, P, ρ, d, h1, s, h2, q⟩ => by
  subst h1
  obtain ⟨x, ex, h3⟩ := bind_eq h2
  refine ⟨P0, P, ρ, x, rfl, s, ex, fun v P1 l1 r1 => ?_⟩
  unfold oRevL at h3
  split at h3
  · cases h3
    obtain ⟨p, xs, rfl, hs, r⟩ := r1.list
    exact ⟨p, xs, rfl, hs, fun p' hp => q _ (P1.put p' (.lst xs.reverse) hp) (l1.trans (le_put P1 hp)) (.lst (SqL.of upd_same) ((RpAll.reverse r).ext (le_put P1 hp).m))⟩
  · cases h3
end
end PM
namespace PM
open PySem PySem.Spec PyProof.Rows L2 LB
section
variable {T : Tb} {K : PySem.W.Frag} {X : Cx} {e : Expr} {st : Stmt} {sts : List Stmt} {R : ER}
/-! ### what may be refused -/
abbrev Rs := Except Str PyData
def ResK (K : PySem.W.Frag) (R : ER) (P : Pr T) (σ : L2.St) (Q : VK) : Rs → Prop
  | .ok d => ∀ v (P' : Pr T), Le P P' → Rp K P'.M v d → Q v P'.H
  | .error c => ∀ (P' : Pr T), Le P P' → R c σ P'.H
theorem ResK.up {P P1 : Pr T} {σ : L2.St} {Q : VK} {r : Rs} (l : Le P P1) (h : ResK K R P σ Q r) : ResK K R P1 σ Q r := by
  cases r with
  | ok d => exact fun v P' l' r' => h v P' (l.trans l') r'
  | error c => exact fun P' l' => h P' (l.trans l')
end
end PM
namespace PM
open PySem PySem.Spec PyProof.Rows L2 LB
section
variable {T : Tb} {K : PySem.W.Frag} {X : Cx}
/-! ### try: body, except C as e: a suite that gives one thing for each class -/
end
end PM
namespace PM
open PySem PySem.Spec PyProof.Rows L2 LB
def g1 (c0 : Str) (d0 : PyData) : Str → Option PyData := fun c => if c = c0 then some d0 else none
end PM
namespace PM
open PySem PySem.Spec PyProof.Rows L2 LB
section
variable {T : Tb} {K : PySem.W.Frag} {X : Cx} {st : Stmt} {R : ER}
theorem St.nw {P0 P : Pr T} {σ : L2.St} {ρ : Ev} (s : St K P0 P σ ρ) {p : Addr} (hp : P.H p = none) (i : Nat) : St K P0 (P.hid p (.lst []) hp) (σ.set i (some (.ref p))) (ρ.set i (.own (.list []))) := by
  refine (s.up (le_hid P hp)).setO (.lst (P.none hp) upd_same .nil) (loose_back s.le.h (loose_none hp)) i fun j e' q' h1 h2 z => ?_
  obtain ⟨u, g1, g2⟩ := s.ok j _ h1
  rw [h2] at g1
  cases g1
  cases g2 with
  | own r' =>
    subst z
    exact r'.tight (loose_none hp)
end
end PM
namespace PM
open PySem PySem.Spec PyProof.Rows L2 LB
section
variable {T : Tb} {K : PySem.W.Frag} {X : Cx} {e : Expr} {st : Stmt} {sts : List Stmt} {R : ER}
/-! ### calls within a try: what is raised is told with the slots -/
/-! ### try: body, except C as e: suite, the suite a model too -/
/-! ### the caught error: isinstance, and a def that is handed it -/
def mE (i : Nat) (a : Addr) (d : PyData) : ME := fun ρ => match ρ[i]? with
  | some (.exn a') => if a' = a then some d else none
  | _ => none
theorem mE_at {P0 P : Pr T} {σ : L2.St} {ρ : Ev} {i : Nat} {a : Addr} {d d' : PyData} (s : St K P0 P σ ρ) (h : mE i a d ρ = some d') : σ[i]? = some (some (.ref a)) ∧ d' = d := by
  unfold mE at h
  split at h
  · rename_i a' ha
    split at h
    · rename_i hh
      subst hh
      cases h
      obtain ⟨o, g1, g2⟩ := s.ok i _ ha
      cases g2
      exact ⟨g1, rfl⟩
    · cases h
  · cases h
/-- isinstance(e, C), C a class of the program or of Python's own -/
theorem c_isE {i : Nat} {a D : Addr} {b : Bool} {c : V} {cv : Value} (hcv : ∀ u, RelV c u → u = cv) (hk : PySem.W.kitOne K (.ref D) cv = some b) (h : PE X e (tCB (rIsE K D a) (tCons (tVar i) (tCons (tC c) tNil)))) : PE X e (tD K T (mE i a (.bool b))) := pe_to h fun σ H Q ⟨P0, P, ρ, d, h1, s, h2, q⟩ => by
  subst h1
  obtain ⟨g1, rfl⟩ := mE_at s h2
  exact ⟨_, g1, c, cv, b, rfl, hcv, hk, q _ P (Le.refl P) (.bl b)⟩
end
end PM
namespace PM
open PySem PySem.Spec PyProof.Rows L2 LB
/-! ### a def that is handed the caught error -/
section
variable {T : Tb} {K : PySem.W.Frag} {X : Cx} {e : Expr}
end
end PM
namespace PM
open PySem PySem.Spec PyProof.Rows L2 LB
section
variable {T : Tb} {K : PySem.W.Frag} {X : Cx} {e : Expr}
/-! ### l.count(x), flat items -/
end
end PM
namespace PM
open PySem PySem.Spec PyProof.Rows L2 LB
section
variable {T : Tb} {K : PySem.W.Frag}
/-! ### a is b, a is not b, of truths -/
end
end PM
namespace PM
open PySem PySem.Spec PyProof.Rows L2 LB
section
variable {T : Tb} {K : PySem.W.Frag} {X : Cx} {e : Expr}
/-! ### x[::-1], a tuple or a list -/
def oRevU (x : PyData) : Option PyData := match x with
  | .tuple xs => oRev (.tuple xs)
  | x => oRevL x
theorem c_revU {a : ME} (h1 : PE X e (tD K T (mUn oRev a))) (h2 : PE X e (tD K T (mUn oRevL a))) : PE X e (tD K T (mUn oRevU a)) := ⟨fun pins s σ H Q I ⟨P0, P, ρ, d, e1, st, e2, q⟩ => by
  obtain ⟨x, ex, e3⟩ := bind_eq e2
  unfold oRevU at e3
  split at e3
  · refine h1.run pins s σ H Q I ⟨P0, P, ρ, d, e1, st, ?_, q⟩
    show (a ρ).bind oRev = some d
    rw [ex]
    exact e3
  · refine h2.run pins s σ H Q I ⟨P0, P, ρ, d, e1, st, ?_, q⟩
    show (a ρ).bind oRevL = some d
    rw [ex]
    exact e3⟩
end
/-! ### what ends a row of statements by a refusal -/
end PM
namespace PM
open PySem PySem.Spec PyProof.Rows L2 LB
section
variable {T : Tb} {K : PySem.W.Frag} {X : Cx} {e : Expr}
/-! ### tuples that are there may be stood on -/
/-! ### sorted(d), d a dict of one's own, its keys tuples -/
/-! ### a < b of tuples -/
def rLtX (K : PySem.W.Frag) : R2 := fun x y H Q => ∃ d e, Rp K H x d ∧ Rp K H y e ∧ PySem.W.alike d d = true ∧ PySem.W.alike e e = true ∧ PySem.W.alike d e = true ∧ d ≠ .none ∧ d.depth ≤ 40 ∧ Q (.bl (PySem.W.dataLt d e)) H
theorem op_ltX (hu : X.A.units + 64 < cLine) (hK : X.K = K := by rfl) : OpR X (compareOp .Lt) (rLtX K) := by
  subst hK
  intro pins s σ H x y v u Q I rx ry h
  obtain ⟨d, e, hd, he, ad, ae, al, nn, dp, q⟩ := h
  obtain ⟨as, r1⟩ := reads_of I d x v ad hd rx
  obtain ⟨bs, r2⟩ := reads_of I e y u ae he ry
  exact PySem.W.lt_data r1 r2 al nn (by have := Nat.min_le_left d.depth e.depth; omega) ⟨.bl _, H, I, rfl, q⟩
def oLtX (a b : PyData) : Option PyData := match a with
  | .tuple xs => if PySem.W.alike (.tuple xs) (.tuple xs) = true ∧ PySem.W.alike b b = true ∧ PySem.W.alike (.tuple xs) b = true ∧ (PyData.tuple xs).depth ≤ 40 then some (.bool (PySem.W.dataLt (.tuple xs) b)) else none
  | a => oLt a b
def uLtX (K : PySem.W.Frag) : R2 := fun x y H Q => uLt x y H Q ∨ rLtX K x y H Q
theorem op_uLtX (hu : X.A.units + 64 < cLine) (hK : X.K = K := by rfl) : OpR X (compareOp .Lt) (uLtX K) := opR_or op_uLt (op_ltX hu hK)
theorem rw_tup {P : Pr T} {v : V} {xs : List PyData} (h : Rw K P v (.tuple xs)) : Rp K P.M v (.tuple xs) := by
  rcases h with h | ⟨p, _, h⟩
  · exact h
  · cases h
theorem od_ltX : OpD K T (uLtX K) oLtX := by
  intro P x y a b d ra rb h Q q
  unfold oLtX at h
  split at h
  · split at h
    · rename_i xs hh
      cases h
      have eb : ∃ ys, b = .tuple ys := by
        have := hh.2.2.1
        cases b <;> first | exact ⟨_, rfl⟩ | (simp [PySem.W.alike] at this)
      obtain ⟨ys, rfl⟩ := eb
      exact .inr ⟨_, _, (rw_tup ra).ext P.sub, (rw_tup rb).ext P.sub, hh.1, hh.2.1, hh.2.2.1, (fun z => nomatch z), hh.2.2.2, q _ P (Le.refl P) (.bl _)⟩
    · cases h
  · exact .inl (od_lt P x y a b d ra rb h Q q)
/-! ### a sign in a text -/
def rInSg : R2 := fun x y H Q => ∃ (c : Nat) (z : Str), x = .str ⟨#[c]⟩ ∧ y = .str z ∧ Q (.bl (decide (c ∈ z.cps.toList))) H
def sg1 : Str → Option Nat
  | ⟨⟨[c]⟩⟩ => some c
  | _ => none
def oInX (a b : PyData) : Option PyData := match b with
  | .str z => match a with
    | .str x => (sg1 x).map fun c => .bool (decide (c ∈ z.cps.toList))
    | _ => none
  | b => oIn a b
theorem sg1_is {x : Str} {c : Nat} (h : sg1 x = some c) : x = ⟨#[c]⟩ := by
  unfold sg1 at h
  split at h
  · cases h
    rfl
  · cases h
theorem op_uInX (hK : X.K = K := by rfl) : OpR X (compareOp .In) (fun x y H Q => rIn K false x y H Q ∨ rInSg x y H Q) := opR_or (op_inK K hK) op_in_sign
theorem od_inX : OpD K T (fun x y H Q => rIn K false x y H Q ∨ rInSg x y H Q) oInX := by
  intro P x y a b d ra rb h Q q
  unfold oInX at h
  split at h
  · split at h
    · obtain ⟨c, hc, rfl⟩ := map_eq h
      have e := sg1_is hc
      subst e
      exact .inr ⟨c, _, ra.str, rb.str, q _ P (Le.refl P) (.bl _)⟩
    · cases h
  · exact .inl (od_in P x y a b d ra rb h Q q)
/-! ### range(i, j) -/
/-! ### l + m, a new list of one's own -/
/-! ### tuple(text) -/
end
end PM
namespace PM
open PySem PySem.Spec PyProof.Rows L2 LB
section
variable {T : Tb} {K : PySem.W.Frag} {X : Cx} {e : Expr} {st : Stmt} {R : ER}
/-! ### a dict of one's own, its keys names, its values True -/
def getS (ds : List (Str × PyData)) (k : Str) : Option PyData := (ds.find? fun e => decide (e.1 = k)).map (·.2)
theorem ds_vals {M : Hp} : ∀ {as : List (Key × V)} {bs : List (Str × PyData)}, PySem.W.EachIs (DS K M) as bs → RpAll K M (as.map (·.2)) (bs.map (·.2))
  | _, _, .nil => .nil
  | _, _, .cons h t => .cons h.2 (ds_vals t)
/-! ### a is None -/
def isNn : PyData → Bool
  | .none => true
  | _ => false
def oIsNo (a b : PyData) : Option PyData := match b with
  | .none => some (.bool (isNn a))
  | _ => none
def oNotNo (a b : PyData) : Option PyData := match b with
  | .none => some (.bool (!isNn a))
  | _ => none
theorem rw_none {P : Pr T} {v : V} {d : PyData} (h : Rw K P v d) : decide (v = .non) = isNn d := by
  rcases h with h | ⟨p, rfl, h⟩
  · cases h <;> rfl
  · cases h <;> rfl
theorem od_isNo : OpD K T (fun x y H Q => y = .non ∧ Q (.bl (decide (x = .non))) H) oIsNo := fun P x y a b d ra rb h Q q => by
  unfold oIsNo at h
  split at h
  · cases h
    have e : y = .non := of_decide_eq_true (by rw [rw_none rb]; rfl)
    refine ⟨e, ?_⟩
    rw [rw_none ra]
    exact q _ P (Le.refl P) (.bl _)
  · cases h
theorem od_notNo : OpD K T (fun x y H Q => y = .non ∧ Q (.bl (!decide (x = .non))) H) oNotNo := fun P x y a b d ra rb h Q q => by
  unfold oNotNo at h
  split at h
  · cases h
    have e : y = .non := of_decide_eq_true (by rw [rw_none rb]; rfl)
    refine ⟨e, ?_⟩
    rw [rw_none ra]
    exact q _ P (Le.refl P) (.bl _)
  · cases h
end
end PM
namespace PM
open PySem PySem.Spec PyProof.Rows L2 LB
section
variable {T : Tb} {K : PySem.W.Frag} {X : Cx} {e : Expr}
/-! ### sorted(xs, key=len, reverse=True), xs a list of tuples -/
def tlen : PyData → Nat
  | .tuple xs => xs.length
  | _ => 0
end
end PM
namespace PM
open PySem PySem.Spec PyProof.Rows L2 LB
section
variable {T : Tb} {K : PySem.W.Frag} {X : Cx} {e : Expr} {st : Stmt} {R : ER}
/-! ### an own dict is locked while an expression reads it -/
theorem each_at {α β : Type} {R : α → β → Prop} : ∀ {as : List α} {bs : List β} {i : Nat} {a : α}, PySem.W.EachIs R as bs → as[i]? = some a → ∃ b, bs[i]? = some b ∧ R a b
  | _, _, _, _, .nil, e => by simp at e
  | _, _, 0, _, .cons h _, e => by
    cases e
    exact ⟨_, rfl, h⟩
  | _, _, i + 1, a, .cons _ r, e => by
    obtain ⟨d, h1, h2⟩ := each_at (i := i) (a := a) r e
    exact ⟨d, h1, h2⟩
/-! ### [f, g][i](x), what is raised told with the slots -/
/-! ### isinstance(e, (C1, C2, ..)) of a caught error -/
/-! ### a call that may raise, and does not -/
end
end PM
namespace PM
open PySem PySem.Spec PyProof.Rows L2 LB
section
variable {T : Tb} {K : PySem.W.Frag} {X : Cx} {e : Expr} {st : Stmt} {R : ER}
/-! ### an own dict with text keys is one's own no more: data may stand on it -/
def dcD (ds : List (Str × PyData)) : PyData := .dict (ds.map fun e => (.str e.1, e.2))
theorem dc_keys {M : Hp} : ∀ {as : List (Key × V)} {bs : List (Str × PyData)}, PySem.W.EachIs (DS K M) as bs → as.map (fun e => keyD e.1) = (bs.map fun e => (PyData.str e.1, e.2)).map (·.1)
  | _, _, .nil => rfl
  | _, _, .cons h t => by rw [List.map_cons, List.map_cons, List.map_cons, dc_keys t, h.1]; rfl
theorem dc_vals {M : Hp} {as : List (Key × V)} {bs : List (Str × PyData)} (h : PySem.W.EachIs (DS K M) as bs) : RpAll K M (as.map (·.2)) ((bs.map fun e => (PyData.str e.1, e.2)).map (·.2)) := by
  rw [List.map_map]
  exact ds_vals h
/-! ### d[k] of a datum -/
end
end PM
namespace PM
open PySem PySem.Spec PyProof.Rows L2 LB
section
variable {T : Tb} {K : PySem.W.Frag} {X : Cx} {e : Expr} {st : Stmt} {R : ER}
/-! ### sorted(d.values()), the values texts -/
/-! ### f() -/
end
end PM
namespace LB
open PySem PySem.Spec PyProof.Rows L2 PySem.W PySem.SeqAt PySem.Calls
section
variable {prog : Program} {w : World} {A : Around} {E : Value → Shared → Prop} {s : Shared} {κ : PyProof.Rows.KeyKind} {t : Addr} {vs : List Value}
/-! ### sorted(tuple) -/
end
end LB
namespace PM
open PySem PySem.Spec PyProof.Rows L2 LB
section
variable {T : Tb} {K : PySem.W.Frag} {X : Cx} {e : Expr} {st : Stmt} {R : ER}
/-! ### x not in a tuple of data -/
end
end PM
namespace PM
open PySem PySem.Spec PyProof.Rows L2 LB
section
variable {T : Tb} {K : PySem.W.Frag} {X : Cx} {e : Expr} {st : Stmt} {R : ER}
/-! ### a dict of lists, gathered by keys -/
def addG (G : List (List Key × List PyData)) (ks : List Key) (d : PyData) : List (List Key × List PyData) :=
  if (G.any fun e => decide (e.1 = ks)) = true then G.map (fun e => if e.1 = ks then (e.1, e.2 ++ [d]) else e) else G ++ [(ks, [d])]
def dG (G : List (List Key × List PyData)) : PyData := .dict (G.map fun e => (.tuple (e.1.map keyD), .list e.2))
def plS : Sl → Bool
  | .no => true
  | .val _ => true
  | .exn _ => true
  | _ => false
def DL (K : PySem.W.Frag) (P : Pr T) (e : List Key × V) (g : List Key × List PyData) : Prop := e.1 = g.1 ∧ ∃ q xs, e.2 = .ref q ∧ P.M q = none ∧ P.H q = some (.lst xs) ∧ RpAll K P.M xs g.2
structure GAt (K : PySem.W.Frag) (P0 P : Pr T) (p : Addr) (kvs : List (List Key × V)) (G : List (List Key × List PyData)) : Prop where
  m : P.M p = none
  h : P.H p = some (.dT kvs)
  each : PySem.W.EachIs (DL K P) kvs G
  nk : (kvs.map (·.1)).Nodup
  nv : (kvs.map (·.2)).Nodup
  lo : Loose P0.H p
  los : ∀ e ∈ kvs, ∀ q, e.2 = V.ref q → Loose P0.H q
theorem DL.up {P P' : Pr T} (l : Le P P') {e : List Key × V} {g : List Key × List PyData} (h : DL K P e g) : DL K P' e g := by
  obtain ⟨h1, q, xs, h2, h3, h4, h5⟩ := h
  exact ⟨h1, q, xs, h2, own_none l h3 h4 (fun _ z => nomatch z) (fun _ z => nomatch z), l.h _ _ h4 (fun _ z => nomatch z), h5.ext l.m⟩
theorem GAt.up {P0 P P' : Pr T} {p : Addr} {kvs : List (List Key × V)} {G : List (List Key × List PyData)} (g : GAt K P0 P p kvs G) (l : Le P P') : GAt K P0 P' p kvs G :=
  ⟨own_none l g.m g.h (fun _ z => nomatch z) (fun _ z => nomatch z), l.h _ _ g.h (fun _ z => nomatch z), g.each.mono (fun _ _ h => h.up l), g.nk, g.nv, g.lo, g.los⟩
theorem each_imp {α β : Type} {R R' : α → β → Prop} : ∀ {as : List α} {bs : List β}, PySem.W.EachIs R as bs → (∀ a ∈ as, ∀ b, R a b → R' a b) → PySem.W.EachIs R' as bs
  | _, _, .nil, _ => .nil
  | _, _, .cons h t, q => .cons (q _ List.mem_cons_self _ h) (each_imp t fun a ha => q a (List.mem_cons_of_mem _ ha))
theorem dl_keys {P : Pr T} : ∀ {kvs : List (List Key × V)} {G : List (List Key × List PyData)}, PySem.W.EachIs (DL K P) kvs G → kvs.map (·.1) = G.map (·.1)
  | _, _, .nil => rfl
  | _, _, .cons h t => by rw [List.map_cons, List.map_cons, dl_keys t, h.1]
theorem dl_hit {P : Pr T} {ks : List Key} {v : V} : ∀ {kvs : List (List Key × V)} {G : List (List Key × List PyData)}, PySem.W.EachIs (DL K P) kvs G → valV kvs ks = some v →
    ∃ q xs as bs As Bs ds, v = V.ref q ∧ kvs = as ++ (ks, V.ref q) :: bs ∧ G = As ++ (ks, ds) :: Bs ∧ PySem.W.EachIs (DL K P) as As ∧ PySem.W.EachIs (DL K P) bs Bs ∧ P.M q = none ∧ P.H q = some (.lst xs) ∧ RpAll K P.M xs ds
  | _, _, .nil, h => by cases h
  | (k, u) :: kvs, (k', ds) :: G, .cons h t, hv => by
    obtain ⟨h1, q, xs, h2, h3, h4, h5⟩ := h
    have h1 : k = k' := h1
    have h2 : u = V.ref q := h2
    subst h1 h2
    unfold valV at hv
    rw [List.find?_cons] at hv
    by_cases z : k = ks
    · subst z
      rw [decide_eq_true rfl] at hv
      cases hv
      exact ⟨q, xs, [], kvs, [], G, ds, rfl, rfl, rfl, .nil, t, h3, h4, h5⟩
    · rw [decide_eq_false z] at hv
      obtain ⟨q', xs', as, bs, As, Bs, ds', e1, e2, e3, e4, e5, e6, e7, e8⟩ := dl_hit t hv
      exact ⟨q', xs', (k, V.ref q) :: as, bs, (k, ds) :: As, Bs, ds', e1, by rw [e2]; rfl, by rw [e3]; rfl, .cons ⟨rfl, q, xs, rfl, h3, h4, h5⟩ e4, e5, e6, e7, e8⟩
theorem add_hit {ks : List Key} {d : PyData} {As Bs : List (List Key × List PyData)} {ds : List PyData} (n1 : ks ∉ As.map (·.1)) (n2 : ks ∉ Bs.map (·.1)) : addG (As ++ (ks, ds) :: Bs) ks d = As ++ (ks, ds ++ [d]) :: Bs := by
  unfold addG
  rw [if_pos (List.any_eq_true.mpr ⟨(ks, ds), List.mem_append_right _ List.mem_cons_self, decide_eq_true rfl⟩), List.map_append, List.map_cons, if_pos rfl]
  have e : ∀ l : List (List Key × List PyData), ks ∉ l.map (·.1) → l.map (fun e => if e.1 = ks then (e.1, e.2 ++ [d]) else e) = l := fun l hn => by
    conv => rhs; rw [← List.map_id l]
    refine List.map_congr_left fun x hx => ?_
    exact if_neg fun z => hn (List.mem_map.mpr ⟨x, hx, z⟩)
  rw [e As n1, e Bs n2]
theorem val_none {ks : List Key} {kvs : List (List Key × V)} (h : valV kvs ks = none) : ks ∉ kvs.map (·.1) := fun z => by
  obtain ⟨e, he, rfl⟩ := List.mem_map.mp z
  unfold valV at h
  rw [Option.map_eq_none_iff, List.find?_eq_none] at h
  exact h e he (decide_eq_true rfl)
theorem add_new {ks : List Key} {d : PyData} {G : List (List Key × List PyData)} (h : ks ∉ G.map (·.1)) : addG G ks d = G ++ [(ks, [d])] := by
  unfold addG
  rw [if_neg]
  intro z
  obtain ⟨e, he, h2⟩ := List.any_eq_true.mp z
  exact h (List.mem_map.mpr ⟨e, he, of_decide_eq_true h2⟩)
/-- an object changed that no data stands on -/
theorem Pr.mut1 (P : Pr T) {p : Addr} {o o' : HO} (hM : P.M p = Option.none) (hp : P.H p = some o) (n : Plain o) (nc : ∀ c q, o ≠ LamX.CodeO c q) : ∃ Q : Pr T, Q.M = P.M ∧ Q.H = upd P.H p o' :=
  ⟨⟨P.M, upd P.H p o', fun b u e q => by
    have ne : b ≠ p := fun z => by rw [z, hM] at e; cases e
    rw [upd_ne ne]
    exact P.sub b u e q, tabs_mut P.tab hp n nc, P.nt⟩, rfl, rfl⟩
theorem le_mut1 {P0 P Q : Pr T} {p : Addr} {o' : HO} (l : Le P0 P) (lo : Loose P0.H p) (hM : Q.M = P.M) (hH : Q.H = upd P.H p o') : Le P0 Q := by
  refine ⟨by rw [hM]; exact l.m, fun b u e q => ?_, fun a h1 h2 => l.f a h1 (by rw [← hM]; exact h2)⟩
  have ne : b ≠ p := fun z => by
    rw [z] at e
    obtain ⟨ps, w⟩ := lo u e
    exact q ps w
  rw [hH, upd_ne ne]
  exact l.h b u e q
/-- slots that hold data alone -/
theorem St.plain {P0 P Q : Pr T} {σ : L2.St} {ρ : Ev} (s : St K P0 P σ ρ) (hp : ρ.all plS = true) (l : Le P0 Q) (m : Ex P.M Q.M) : St K P0 Q σ ρ := by
  have pl : ∀ (i : Nat) x, ρ[i]? = some x → plS x = true := fun i x h => List.all_eq_true.mp hp x (List.mem_of_getElem? h)
  refine ⟨l, s.len, fun i x h => ?_, fun i j p d e ne h1 h2 h3 h4 => ?_, fun i d p h1 h2 => ?_, fun i j p ks ls ne h1 h2 h3 h4 => ?_, fun i ks p h1 h2 => ?_⟩
  · obtain ⟨u, g1, g2⟩ := s.ok i x h
    refine ⟨u, g1, ?_⟩
    have := pl i x h
    cases g2 with
    | no => exact .no
    | val r => exact .val (r.ext m)
    | exn => exact .exn
    | own r => cases this
    | ods a b c => cases this
    | lck a b c => cases this
  · have := pl i _ h1
    cases this
  · have := pl i _ h1
    cases this
  · have := pl i _ h1
    cases this
  · have := pl i _ h1
    cases this
/-- one more is gathered where its key stands -/
theorem GAt.hit {P0 P : Pr T} {p : Addr} {kvs : List (List Key × V)} {G : List (List Key × List PyData)} (g : GAt K P0 P p kvs G) (l : Le P0 P) {ks : List Key} {v w : V} {d : PyData} (hv : valV kvs ks = some v) (r : Rp K P.M w d) :
    ∃ q xs Q, v = V.ref q ∧ P.H q = some (.lst xs) ∧ (∃ ds, (ks, ds) ∈ G ∧ xs.length = ds.length) ∧ Q.M = P.M ∧ Q.H = upd P.H q (.lst (xs ++ [w])) ∧ Le P0 Q ∧ GAt K P0 (T := T) Q p kvs (addG G ks d) := by
  obtain ⟨q, xs, as, bs, As, Bs, ds, rfl, rfl, rfl, e4, e5, e6, e7, e8⟩ := dl_hit g.each hv
  obtain ⟨Q, hM, hH⟩ := P.mut1 (o' := .lst (xs ++ [w])) e6 e7 (fun _ z => nomatch z) (fun _ _ z => by unfold LamX.CodeO at z; cases z)
  have lq : Loose P0.H q := g.los (ks, V.ref q) (List.mem_append_right _ List.mem_cons_self) q rfl
  have npq : p ≠ q := fun z => by
    have := g.h
    rw [z, e7] at this
    cases this
  have nk := g.nk
  have nv := g.nv
  rw [List.map_append, List.map_cons, List.nodup_append] at nk nv
  have ka : ks ∉ as.map (·.1) := fun z => nk.2.2 ks z ks List.mem_cons_self rfl
  have kb : ks ∉ bs.map (·.1) := (List.nodup_cons.mp nk.2.1).1
  have va : V.ref q ∉ as.map (·.2) := fun z => nv.2.2 _ z _ List.mem_cons_self rfl
  have vb : V.ref q ∉ bs.map (·.2) := (List.nodup_cons.mp nv.2.1).1
  have keep : ∀ {l : List (List Key × V)} {L : List (List Key × List PyData)}, V.ref q ∉ l.map (·.2) → PySem.W.EachIs (DL K P) l L → PySem.W.EachIs (DL K Q) l L := fun {l L} hn h => each_imp h fun a ha b hb => by
    obtain ⟨h1, q', xs', h2, h3, h4, h5⟩ := hb
    have ne : q' ≠ q := fun z => hn (List.mem_map.mpr ⟨a, ha, by rw [h2, z]⟩)
    exact ⟨h1, q', xs', h2, by rw [hM]; exact h3, by rw [hH, upd_ne ne]; exact h4, by rw [hM]; exact h5⟩
  refine ⟨q, xs, Q, rfl, e7, ⟨ds, List.mem_append_right _ List.mem_cons_self, e8.length⟩, hM, hH, le_mut1 l lq hM hH, ⟨by rw [hM]; exact g.m, by rw [hH, upd_ne npq]; exact g.h, ?_, g.nk, g.nv, g.lo, g.los⟩⟩
  rw [add_hit (by rw [← dl_keys e4]; exact ka) (by rw [← dl_keys e5]; exact kb)]
  exact each_app (keep va e4) (.cons ⟨rfl, q, _, rfl, by rw [hM]; exact e6, by rw [hH]; exact upd_same, by rw [hM]; exact RpAll.append e8 (.cons r .nil)⟩ (keep vb e5))
theorem GAt.fresh {P0 P : Pr T} {p : Addr} {kvs : List (List Key × V)} {G : List (List Key × List PyData)} (g : GAt K P0 P p kvs G) (l : Le P0 P) {ks : List Key} (hv : valV kvs ks = none) {q : Addr} (hq : P.H q = none) :
    ∃ Q : Pr T, Q.M = P.M ∧ Q.H = upd (upd P.H q (.lst [])) p (.dT (kvs ++ [(ks, V.ref q)])) ∧ Le P0 Q ∧ (upd P.H q (.lst [])) p = some (.dT kvs) ∧ Q.H q = some (.lst []) ∧ Q.M q = none ∧ GAt K P0 Q p kvs G = GAt K P0 Q p kvs G ∧
      (∀ e ∈ kvs, e.2 ≠ V.ref q) ∧ PySem.W.EachIs (DL K Q) kvs G ∧ Loose P0.H q ∧ p ≠ q := by
  have npq : p ≠ q := fun z => by
    have := g.h
    rw [z, hq] at this
    cases this
  have mq := P.none hq
  have lq : Loose P0.H q := fun o ho => by
    by_cases t : ∃ ps, o = HO.tbl ps
    · exact t
    · have := l.h q o ho fun ps z => t ⟨ps, z⟩
      rw [hq] at this
      cases this
  have hp1 : (P.hid q (.lst []) hq).H p = some (.dT kvs) := by
    show upd P.H q _ p = _
    rw [upd_ne npq]
    exact g.h
  obtain ⟨Q, hM, hH⟩ := (P.hid q (.lst []) hq).mut1 (o' := .dT (kvs ++ [(ks, V.ref q)])) g.m hp1 (fun _ z => nomatch z) (fun _ _ z => by unfold LamX.CodeO at z; cases z)
  have nv : ∀ e ∈ kvs, e.2 ≠ V.ref q := fun e he z => by
    obtain ⟨b, _, _, q', xs, h2, _, h4, _⟩ := g.each.left e he
    rw [h2] at z
    cases z
    rw [hq] at h4
    cases h4
  refine ⟨Q, hM, hH, le_mut1 (l.trans (le_hid P hq)) g.lo hM hH, hp1, ?_, by rw [hM]; exact mq, rfl, nv, each_imp g.each fun a ha b hb => ?_, lq, npq⟩
  · rw [hH, upd_ne (Ne.symm npq)]
    exact upd_same
  · obtain ⟨h1, q', xs', h2, h3, h4, h5⟩ := hb
    have n1 : q' ≠ q := fun z => nv a ha (by rw [h2, z])
    have n2 : q' ≠ p := fun z => by
      rw [z, g.h] at h4
      cases h4
    refine ⟨h1, q', xs', h2, by rw [hM]; exact h3, ?_, by rw [hM]; exact h5⟩
    rw [hH, upd_ne n2]
    show upd P.H q _ q' = _
    rw [upd_ne n1]
    exact h4
/-- one more is gathered under a new key -/
theorem GAt.more {P0 P : Pr T} {p : Addr} {kvs : List (List Key × V)} {G : List (List Key × List PyData)} (g : GAt K P0 P p kvs G) (l : Le P0 P) {ks : List Key} (hv : valV kvs ks = none) {q : Addr} (hq : P.H q = none) {w : V} {d : PyData} (r : Rp K P.M w d) :
    ∃ Q : Pr T, Q.M = P.M ∧ Q.H = upd (upd (upd P.H q (.lst [])) p (.dT (kvs ++ [(ks, V.ref q)]))) q (.lst ([] ++ [w])) ∧ (upd P.H q (.lst [])) p = some (.dT kvs) ∧ (upd (upd P.H q (.lst [])) p (.dT (kvs ++ [(ks, V.ref q)]))) q = some (.lst []) ∧ Le P0 Q ∧ GAt K P0 Q p (kvs ++ [(ks, V.ref q)]) (addG G ks d) := by
  obtain ⟨Q1, hM, hH, l1, hp1, hq1, mq1, _, nv, ea, lq, npq⟩ := g.fresh l (ks := ks) hv hq
  obtain ⟨Q, hM2, hH2⟩ := Q1.mut1 (o' := .lst ([] ++ [w])) mq1 hq1 (fun _ z => nomatch z) (fun _ _ z => by unfold LamX.CodeO at z; cases z)
  have kn := val_none hv
  refine ⟨Q, hM2.trans hM, by rw [hH2, hH], hp1, by rw [← hH]; exact hq1, le_mut1 l1 lq hM2 hH2, ⟨by rw [hM2, hM]; exact g.m, ?_, ?_, ?_, ?_, g.lo, fun e he q' hq' => ?_⟩⟩
  · rw [hH2, upd_ne npq, hH]
    exact upd_same
  · rw [add_new (by rw [← dl_keys g.each]; exact kn)]
    refine each_app (each_imp ea fun a ha b hb => ?_) (.cons ⟨rfl, q, _, rfl, by rw [hM2]; exact mq1, by rw [hH2]; exact upd_same, .cons (by rw [hM2, hM]; exact r) .nil⟩ .nil)
    obtain ⟨h1, q', xs', h2, h3, h4, h5⟩ := hb
    have n1 : q' ≠ q := fun z => nv a ha (by rw [h2, z])
    exact ⟨h1, q', xs', h2, by rw [hM2]; exact h3, by rw [hH2, upd_ne n1]; exact h4, by rw [hM2]; exact h5⟩
  · rw [List.map_append, List.nodup_append]
    exact ⟨g.nk, by simp, fun a ha b hb e => kn (by
      have e : a = ks := e.trans (List.mem_singleton.mp hb)
      rw [e] at ha
      exact ha)⟩
  · rw [List.map_append, List.nodup_append]
    refine ⟨g.nv, by simp, fun a ha b hb e => ?_⟩
    obtain ⟨x, hx, rfl⟩ := List.mem_map.mp ha
    rw [List.mem_singleton.mp hb] at e
    exact nv x hx e
  · rcases List.mem_append.mp he with h | h
    · exact g.los e h q' hq'
    · rw [List.mem_singleton.mp h] at hq'
      cases hq'
      exact lq
open Classical in
/-- what was gathered is data, the dict known from now on -/
theorem GAt.done {P0 P : Pr T} {p : Addr} {kvs : List (List Key × V)} {G : List (List Key × List PyData)} (g : GAt K P0 P p kvs G) (l : Le P0 P) (od : Obj) : ∃ Q : Pr T, Q.H = upd P.H p (.frz od (.dT kvs)) ∧ Le P0 Q ∧ Ex P.M Q.M ∧ Rp K Q.M (V.ref p) (dG G) := by
  let inn : Addr → Prop := fun a => ∃ e ∈ kvs, e.2 = V.ref a
  have plain : ∀ a, inn a → P.M a = none ∧ (∃ o, P.H a = some o ∧ Plain o) ∧ Loose P0.H a ∧ a ≠ p := fun a ha => by
    obtain ⟨e, he, h2⟩ := ha
    obtain ⟨b, _, _, q, xs, e2, e3, e4, _⟩ := g.each.left e he
    rw [e2] at h2
    cases h2
    refine ⟨e3, ⟨_, e4, fun _ z => nomatch z⟩, g.los e he a e2, fun z => ?_⟩
    rw [z, g.h] at e4
    cases e4
  let M' : Hp := fun a => if a = p then some (.frz od (.dT kvs)) else if inn a then P.H a else P.M a
  have em : Ex P.M M' := fun b u e q => by
    have n1 : b ≠ p := fun z => by rw [z, g.m] at e; cases e
    have n2 : ¬ inn b := fun z => by rw [(plain b z).1] at e; cases e
    show (if b = p then _ else if inn b then P.H b else P.M b) = some u
    rw [if_neg n1, if_neg n2]
    exact e
  have at' : ∀ a o, inn a → P.H a = some o → M' a = some o := fun a o ha ho => by
    show (if a = p then _ else if inn a then P.H a else P.M a) = some o
    rw [if_neg (plain a ha).2.2.2, if_pos ha]
    exact ho
  have atp : M' p = some (.frz od (.dT kvs)) := if_pos rfl
  refine ⟨⟨M', upd P.H p (.frz od (.dT kvs)), fun b u e q => ?_, tabs_mut P.tab g.h (fun _ z => nomatch z) (fun _ _ z => by unfold LamX.CodeO at z; cases z), fun a ps z => ?_⟩, rfl, ⟨l.m.trans em, fun b u e q => ?_, fun a h1 h2 => ?_⟩, em, ?_⟩
  · by_cases hb : b = p
    · subst hb
      rw [atp] at e
      cases e
      exact upd_same
    · have e : (if b = p then some (HO.frz od (.dT kvs)) else if inn b then P.H b else P.M b) = some u := e
      rw [if_neg hb] at e
      rw [upd_ne hb]
      split at e
      · exact e
      · exact P.sub b u e q
  · by_cases hb : a = p
    · subst hb
      rw [atp] at z
      cases z
    · have z : (if a = p then some (HO.frz od (.dT kvs)) else if inn a then P.H a else P.M a) = some (.tbl ps) := z
      rw [if_neg hb] at z
      split at z
      · rename_i ha
        obtain ⟨_, ⟨o, ho, n⟩, _⟩ := plain a ha
        rw [ho] at z
        cases z
        exact n ps rfl
      · exact P.nt a ps z
  · have ne : b ≠ p := fun z => by
      rw [z] at e
      obtain ⟨ps, w⟩ := g.lo u e
      exact q ps w
    show upd P.H p _ b = some u
    rw [upd_ne ne]
    exact l.h b u e q
  · by_cases hb : a = p
    · rw [hb]
      exact .inl g.lo
    · have h2 : (if a = p then some (HO.frz od (.dT kvs)) else if inn a then P.H a else P.M a) ≠ none := h2
      rw [if_neg hb] at h2
      split at h2
      · rename_i ha
        exact .inl (plain a ha).2.2.1
      · exact l.f a h1 h2
  · have hv : ∀ {l : List (List Key × V)} {L : List (List Key × List PyData)}, (∀ e ∈ l, e ∈ kvs) → PySem.W.EachIs (DL K P) l L → l.map (fun e => PyData.tuple (e.1.map keyD)) = (L.map fun e => ((PyData.tuple (e.1.map keyD), PyData.list e.2) : PyData × PyData)).map (·.1) ∧ RpAll K M' (l.map (·.2)) ((L.map fun e => ((PyData.tuple (e.1.map keyD), PyData.list e.2) : PyData × PyData)).map (·.2)) := by
      intro l L sub h
      induction h with
      | nil => exact ⟨rfl, .nil⟩
      | @cons a b as bs h t ih =>
        obtain ⟨i1, i2⟩ := ih fun e he => sub e (List.mem_cons_of_mem _ he)
        obtain ⟨h1, q, xs, h2, h3, h4, h5⟩ := h
        refine ⟨?_, ?_⟩
        · rw [List.map_cons, List.map_cons, List.map_cons, i1, h1]
        · rw [List.map_cons, List.map_cons, List.map_cons]
          refine .cons ?_ i2
          show Rp K M' a.2 (.list b.2)
          rw [h2]
          exact .lst (SqL.of (at' q _ ⟨a, sub a List.mem_cons_self, h2⟩ h4)) (h5.ext em)
    obtain ⟨k1, k2⟩ := hv (fun e he => he) g.each
    exact .dcT atp k1 k2
end
end PM
namespace PM
open PySem PySem.Spec PyProof.Rows L2 LB
section
variable {T : Tb} {K : PySem.W.Frag} {X : Cx} {e : Expr} {st : Stmt} {R : ER}
end
end PM
namespace PM
open PySem PySem.Spec PyProof.Rows L2 LB
section
variable {T : Tb} {K : PySem.W.Frag} {X : Cx} {e : Expr} {st : Stmt} {R : ER}
/-! ### d[k], list(d) of a datum whose keys are tuples -/
/-! ### min(list), max(list) of data -/
/-! ### x in a list of data -/
/-! ### the truth of a list -/
end
end PM
namespace PM
open PySem PySem.Spec PyProof.Rows L2 LB
section
variable {T : Tb} {K : PySem.W.Frag} {X : Cx} {e : Expr} {st : Stmt} {R : ER}
/-! ### min(xs, key=len), max(xs, key=len) -/
def longer (y a : PyData) : Bool := decide (tlen a < tlen y)
end
end PM
namespace PM
open PySem PySem.Spec PyProof.Rows L2 LB
section
variable {X : Cx} {pins : List (Addr × Obj)} {σ : L2.St} {H : Hp} {s : Shared} {a b : Addr} {r : Value} {d : V} {k : List Key} {A : Around} {E : Value → Shared → Prop}
end
section
variable {X : Cx} {o e f : Expr} {td ty tx : TE} {apos cpos : Pos}
end
end PM
namespace PM
open PySem PySem.Spec PyProof.Rows L2 LB
section
variable {T : Tb} {K : PySem.W.Frag} {X : Cx} {e : Expr} {st : Stmt} {R : ER}
/-! ### a dict of lists, gathered by d.setdefault(k, []).append(c) -/
/-! ### iteration over a datum dict whose keys are tuples -/
/-! ### max(list) of data -/
end
end PM
namespace PM
open PySem PySem.Spec PyProof.Rows L2 LB
section
variable {X : Cx}
/-! ### xs.insert(i, x), the place within the list -/
end
end PM
namespace PM
open PySem PySem.Spec PyProof.Rows L2 LB
section
variable {T : Tb} {K : PySem.W.Frag} {X : Cx} {e : Expr} {st : Stmt} {R : ER}
end
end PM
namespace PM
open PySem PySem.Spec PyProof.Rows L2 LB
section
variable {T : Tb} {K : PySem.W.Frag} {X : Cx} {e : Expr}
/-! ### range(i, j, c) -/
end
end PM
namespace PM
open PySem PySem.Spec PyProof.Rows L2 LB
section
variable {T : Tb} {K : PySem.W.Frag} {X : Cx} {e : Expr} {st : Stmt} {sts : List Stmt} {R : ER}
/-! ### a def that may refuse, and gives a new list -/
end
end PM
namespace PM
open PySem PySem.Spec PyProof.Rows L2 LB
section
variable {T : Tb} {K : PySem.W.Frag} {X : Cx} {e : Expr} {st : Stmt} {sts : List Stmt} {R : ER}
/-! ### a tuple of two new lists -/
structure Two (K : PySem.W.Frag) (P : Pr T) (p q1 q2 : Addr) (a b : List PyData) : Prop where
  tp : P.H p = some (.tup [.ref q1, .ref q2])
  ne : q1 ≠ q2
  m1 : P.M q1 = none
  m2 : P.M q2 = none
  l1 : ∃ xs, P.H q1 = some (.lst xs) ∧ RpAll K P.M xs a
  l2 : ∃ ys, P.H q2 = some (.lst ys) ∧ RpAll K P.M ys b
variable {P0 P P' : Pr T} {p q1 q2 : Addr} {a b : List PyData} {σ : L2.St} {ρ : Ev}
/-! ### a def that gives such a tuple -/
abbrev M2 := Ev → Option (List PyData × List PyData)
/-! ### such a tuple is held: read as a datum, then changed -/
def plE (ρ : Ev) : Bool := ρ.all fun s => match s with
  | .no => true
  | .val _ => true
  | _ => false
structure Hold (K : PySem.W.Frag) (P0 P : Pr T) (σ : L2.St) (ρ : Ev) (i : Nat) (p q1 q2 : Addr) (a b : List PyData) : Prop where
  s : St K P0 P σ ρ
  pl : plE ρ = true
  si : σ[i]? = some (some (.ref p))
  ri : ρ[i]? = some .no
  two : Two K P p q1 q2 a b
  l1 : Loose P0.H q1
  l2 : Loose P0.H q2
end
end PM
namespace PM
open PySem PySem.Spec PyProof.Rows L2 LB
section
variable {X : Cx} {pins : List (Addr × Obj)} {σ : L2.St} {H : Hp} {s : Shared} {a : Addr} {o : HO}
/-! ### an error that is stored: its object is tracked from the suite on -/
end
section
variable {X : Cx} {x n : Str} {c : Value} {i : Nat} {body suite : List Stmt} {b₀ : Stmt} {np pos pos' : Pos} {tb : WX → TS} {ts : Addr → TS}
end
end PM
namespace PM
open PySem PySem.Spec PyProof.Rows L2 LB
section
variable {T : Tb} {K : PySem.W.Frag} {X : Cx} {e : Expr} {st : Stmt} {sts : List Stmt} {R : ER}
/-! ### a def that is handed a stored error, and a number -/
/-! ### r = None; try: .. except C as e: r = e; return r is not None and f(r, k) -/
end
end PM
namespace PM
open PySem PySem.Spec PyProof.Rows L2 LB
section
variable {T : Tb} {K : PySem.W.Frag} {X : Cx} {e : Expr}
/-! ### xs[::k], k not 0 -/
/-! ### x.upper() -/
end
end PM
namespace PM
open PySem PySem.Spec PyProof.Rows L2 LB
section
variable {T : Tb} {K : PySem.W.Frag} {X : Cx} {e : Expr} {st : Stmt} {R : ER}
/-! ### xs[k] = v on an own list, k of any sign -/
/-! ### a, b = a list -/
end
end PM
namespace PM
open PySem PySem.Spec PyProof.Rows L2 LB
section
variable {T : Tb} {K : PySem.W.Frag} {X : Cx} {e : Expr} {st : Stmt} {R : ER}
/-! ### {k: v for .. in .. if ..}, the keys texts -/
end
end PM
/-! ### list(d.items()), the keys of d tuples -/
namespace LiT
open PySem PySem.Spec PyProof.Rows L2
section
variable {prog : Program} {w : World} {A : Around} {E : Value → Shared → Prop} {s : Shared} {es : Array DictEntry} {ep : Nat} {r d : Addr}
end
section
variable {X : Cx} {e : Expr} {te : TE} {p apos cpos pos : Pos}
end
end LiT
namespace PM
open PySem PySem.Spec PyProof.Rows L2 LB
section
variable {T : Tb} {K : PySem.W.Frag} {X : Cx} {e : Expr} {st : Stmt} {R : ER}
/-! ### list(d.items()) of an own dict with tuple keys: a new list of one's own -/
end
end PM
namespace PM
open PySem PySem.Spec PyProof.Rows L2 LB
section
variable {T : Tb} {K : PySem.W.Frag} {X : Cx} {e : Expr} {st : Stmt} {R : ER}
/-! ### a call within an expression that raises: the reading that asks for the error alone -/
/-! ### a loop that may end the def -/
end
end PM
namespace DZ
open PySem PySem.Spec PyProof.Rows L2 LB
open Sem (wp)
/-! ### dict(zip(a, b)), a and b lists or tuples in any mix -/
section
variable {prog : Program} {w : World} {A : Around} {E : Value → Shared → Prop} {s : Shared} {z TI TO i1 i2 T : Addr} {fp1 fp2 : List Addr} {n1 n2 i : Nat} {P1 P2 : Nat → Value → Prop} {St1 St2 : Nat → Heap → Prop}
end
section
variable {prog : Program} {w : World} {z TI TO i1 i2 : Addr} {fp1 fp2 : List Addr} {n1 n2 : Nat} {P1 P2 : Nat → Value → Prop} {St1 St2 : Nat → Heap → Prop}
end
end DZ
namespace DZ
open PySem PySem.Spec PyProof.Rows L2 LB
section
variable {prog : Program} {w : World}
/-- what zip reads of a list or a tuple -/
structure Src (h : Heap) (a : Addr) (us : List Value) where
  o : Obj
  Hs : Heap → Prop
  St : Addr → Nat → Heap → Prop
  beg : Begins (.ref a) o Hs
  now : Hs h
  lt : a < h.objs.size
  dr : ∀ (it : Addr) (A : Around), A.handled = none → a ≠ it → Draws prog w A it [it, a] us.length (fun i v => us[i]? = some v) (St it)
  st : ∀ it h', h'.get? it = some o → Hs h' → St it 0 h'
  kp : ∀ h', (∀ b o', h.get? b = some o' → h'.get? b = some o') → Hs h'
  fr : ∀ it i h h', St it i h → (∀ b ∈ [it, a], ∀ o', h.get? b = some o' → h'.get? b = some o') → St it i h'
  th : ∀ it h, St it 0 h → ∀ b ∈ [it, a], ∃ o', h.get? b = some o'
end
end DZ
namespace PM
open PySem PySem.Spec PyProof.Rows L2 LB
section
variable {T : Tb} {K : PySem.W.Frag} {X : Cx} {e : Expr} {st : Stmt} {R : ER}
def lsO : PyData → Option (List PyData)
  | .list ds => some ds
  | .tuple ds => some ds
  | _ => none
/-! ### iteration over a datum dict whose keys are texts -/
end
end PM
namespace PM
open PySem PySem.Spec PyProof.Rows L2 LB
section
variable {T : Tb} {K : PySem.W.Frag} {X : Cx} {e : Expr} {st : Stmt} {R : ER}
/-! ### k in d, k not in d: d an own dict of texts, or a datum -/
/-! ### a test that reads an own list as a datum; it stays one's own -/
end
end PM
namespace PM
open PySem PySem.Spec PyProof.Rows L2 LB
/-! ### dicts of dicts of one's own: rows of names, each with a row of names and whole numbers -/
abbrev DDt := List (Str × List (Str × Int))
def iK (l : List (Str × Int)) : List (Key × V) := l.map fun e => (.inr e.1, .int e.2)
def oK (dd : DDt) (qs : List Addr) : List (Key × V) := (dd.zip qs).map fun e => (.inr e.1.1, .ref e.2)
def iD (l : List (Str × Int)) : PyData := .dict (l.map fun e => (.str e.1, .int e.2))
def ddD (dd : DDt) : PyData := .dict (dd.map fun f => (.str f.1, iD f.2))
/-! locking several things at once, as long as an expression or a test is read -/
open Classical in
noncomputable def lkF (H : Hp) (L : List Addr) (od : Addr → Obj) : Hp := fun a => if a ∈ L then (H a).map (HO.frz (od a)) else H a
theorem lkF_in {H : Hp} {L : List Addr} {od : Addr → Obj} {a : Addr} (h : a ∈ L) {u : HO} (e : H a = some u) : lkF H L od a = some (.frz (od a) u) := by
  unfold lkF
  rw [if_pos h, e]
  rfl
theorem lkF_out {H : Hp} {L : List Addr} {od : Addr → Obj} {a : Addr} (h : a ∉ L) : lkF H L od a = H a := by
  unfold lkF
  rw [if_neg h]
section
variable {X : Cx} {pins : List (Addr × Obj)} {σ : L2.St} {H : Hp} {s : Shared}
end
section
variable {X : Cx} {e : Expr} {st : Stmt}
end
section
variable {T : Tb} {K : PySem.W.Frag} {X : Cx} {e : Expr} {st : Stmt} {R : ER}
structure Odd (P0 P : Pr T) (p : Addr) (dd : DDt) (qs : List Addr) : Prop where
  len : qs.length = dd.length
  nd : (p :: qs).Nodup
  m : ∀ c ∈ p :: qs, P.M c = none
  lo : ∀ c ∈ p :: qs, Loose P0.H c
  h : P.H p = some (.dK (oK dd qs))
  hi : ∀ (j : Nat) f q, dd[j]? = some f → qs[j]? = some q → P.H q = some (.dK (iK f.2))
theorem Odd.cell {P0 P : Pr T} {p : Addr} {dd : DDt} {qs : List Addr} (o : Odd P0 P p dd qs) : ∀ c ∈ p :: qs, ∃ kvs, P.H c = some (.dK kvs) := fun c hc => by
  rcases List.mem_cons.mp hc with rfl | hc
  · exact ⟨_, o.h⟩
  · obtain ⟨j, hj, ej⟩ := List.mem_iff_getElem.mp hc
    have hl : j < dd.length := by rw [← o.len]; exact hj
    exact ⟨_, o.hi j dd[j] c (List.getElem?_eq_getElem hl) (by rw [List.getElem?_eq_getElem hj, ej])⟩
theorem Odd.up {P0 P P' : Pr T} {p : Addr} {dd : DDt} {qs : List Addr} (l : Le P P') (o : Odd P0 P p dd qs) : Odd P0 P' p dd qs := by
  refine ⟨o.len, o.nd, fun c hc => ?_, o.lo, l.h _ _ o.h (fun _ z => nomatch z), fun j f q hj hq => l.h _ _ (o.hi j f q hj hq) fun _ z => nomatch z⟩
  obtain ⟨kvs, e⟩ := o.cell c hc
  exact own_none l (o.m c hc) e (fun _ z => nomatch z) fun _ z => nomatch z
structure StD (K : PySem.W.Frag) (P0 P : Pr T) (σ : L2.St) (ρ : Ev) (i : Nat) (p : Addr) (dd : DDt) : Prop where
  st : St K P0 P σ ρ
  flat : ∀ (j : Nat) s, ρ[j]? = some s → s = .no ∨ ∃ d, s = .val d
  no : ρ[i]? = some .no
  ref : σ[i]? = some (some (.ref p))
  ob : ∃ qs, Odd P0 P p dd qs
theorem StD.up {P0 P P' : Pr T} {σ : L2.St} {ρ : Ev} {i : Nat} {p : Addr} {dd : DDt} (s : StD K P0 P σ ρ i p dd) (l : Le P P') : StD K P0 P' σ ρ i p dd := ⟨s.st.up l, s.flat, s.no, s.ref, let ⟨qs, h2⟩ := s.ob; ⟨qs, h2.up l⟩⟩
theorem flat_set {ρ : Ev} (h : ∀ (j : Nat) s, ρ[j]? = some s → s = .no ∨ ∃ d, s = .val d) (i : Nat) (d : PyData) : ∀ (j : Nat) s, (ρ.set i (.val d))[j]? = some s → s = .no ∨ ∃ d, s = .val d := fun j s hs => by
  rcases getset hs with ⟨_, rfl, _⟩ | ⟨_, h2⟩
  · exact .inr ⟨_, rfl⟩
  · exact h j s h2
theorem StD.set {P0 P : Pr T} {σ : L2.St} {ρ : Ev} {i : Nat} {p : Addr} {dd : DDt} (s : StD K P0 P σ ρ i p dd) {v : V} {d : PyData} (r : Rp K P.M v d) {j : Nat} (ne : j ≠ i) : StD K P0 P (σ.set j (some v)) (ρ.set j (.val d)) i p dd :=
  ⟨s.st.set r j, flat_set s.flat j d, by rw [List.getElem?_set_ne ne]; exact s.no, by rw [List.getElem?_set_ne ne]; exact s.ref, s.ob⟩
theorem tabs_agree {H H' : Hp} {L : List Addr} (t : LamX.Tabs T H) (hL : ∀ a ∈ L, ∃ o, H a = some o ∧ Plain o ∧ ∀ c q, o ≠ LamX.CodeO c q) (h : ∀ a, a ∉ L → H' a = H a) : LamX.Tabs T H' := fun q hq => by
  obtain ⟨ps, h1, h2, h3⟩ := t q hq
  have n1 : q.1 ∉ L := fun z => by
    obtain ⟨o, e, pl, _⟩ := hL _ z
    rw [h1] at e
    exact pl ps (Option.some.inj e).symm
  refine ⟨ps, by rw [h _ n1]; exact h1, h2, fun pos cv hc => ?_⟩
  obtain ⟨c, e1, e2⟩ := h3 pos cv hc
  have n2 : c ∉ L := fun z => by
    obtain ⟨o, e, _, nc⟩ := hL _ z
    rw [e2] at e
    exact nc _ _ (Option.some.inj e).symm
  exact ⟨c, e1, by rw [h _ n2]; exact e2⟩
theorem dK_plain {kvs : List (Key × V)} : Plain (.dK kvs) ∧ ∀ c q, HO.dK kvs ≠ LamX.CodeO c q := ⟨(fun _ z => nomatch z), fun _ _ z => by unfold LamX.CodeO at z; cases z⟩
open Classical in
/-- the dicts seen as data, while they are locked -/
noncomputable def Pr.lk (P : Pr T) (L : List Addr) (od : Addr → Obj) (hm : ∀ c ∈ L, P.M c = Option.none) (hk : ∀ c ∈ L, ∃ kvs, P.H c = some (.dK kvs)) : Pr T where
  M := fun a => if a ∈ L then lkF P.H L od a else P.M a
  H := lkF P.H L od
  sub := fun b u e n => by
    by_cases z : b ∈ L
    · have e : (if b ∈ L then lkF P.H L od b else P.M b) = some u := e
      rw [if_pos z] at e
      exact e
    · have e : (if b ∈ L then lkF P.H L od b else P.M b) = some u := e
      rw [if_neg z] at e
      rw [lkF_out z]
      exact P.sub b u e n
  tab := tabs_agree P.tab (fun a ha => let ⟨_, e⟩ := hk a ha; ⟨_, e, dK_plain⟩) fun a ha => lkF_out ha
  nt := fun a ps e => by
    by_cases z : a ∈ L
    · have e : (if a ∈ L then lkF P.H L od a else P.M a) = some (.tbl ps) := e
      rw [if_pos z] at e
      obtain ⟨kvs, ek⟩ := hk a z
      rw [lkF_in z ek] at e
      cases e
    · have e : (if a ∈ L then lkF P.H L od a else P.M a) = some (.tbl ps) := e
      rw [if_neg z] at e
      exact P.nt a ps e
theorem lk_M_in {P : Pr T} {L : List Addr} {od : Addr → Obj} {hm : ∀ c ∈ L, P.M c = none} {hk : ∀ c ∈ L, ∃ kvs, P.H c = some (.dK kvs)} {a : Addr} (h : a ∈ L) {kvs : List (Key × V)} (e : P.H a = some (.dK kvs)) : (P.lk L od hm hk).M a = some (.frz (od a) (.dK kvs)) := by
  show (if a ∈ L then lkF P.H L od a else P.M a) = _
  rw [if_pos h, lkF_in h e]
theorem lk_M_out {P : Pr T} {L : List Addr} {od : Addr → Obj} {hm : ∀ c ∈ L, P.M c = none} {hk : ∀ c ∈ L, ∃ kvs, P.H c = some (.dK kvs)} {a : Addr} (h : a ∉ L) : (P.lk L od hm hk).M a = P.M a := by
  show (if a ∈ L then lkF P.H L od a else P.M a) = _
  rw [if_neg h]
theorem lk_ext {P : Pr T} {L : List Addr} {od : Addr → Obj} {hm : ∀ c ∈ L, P.M c = none} {hk : ∀ c ∈ L, ∃ kvs, P.H c = some (.dK kvs)} : Ex P.M (P.lk L od hm hk).M := fun b u e n => by
  rw [lk_M_out fun z => by rw [hm b z] at e; cases e]
  exact e
theorem rp_iD {M : Hp} {q : Addr} {o : Obj} {l : List (Str × Int)} (h : M q = some (.frz o (.dK (iK l)))) : Rp K M (.ref q) (iD l) := by
  refine .dct h ?_ ?_
  · unfold iK
    rw [List.map_map, List.map_map]
    rfl
  · unfold iK
    rw [List.map_map, List.map_map]
    have : ∀ l : List (Str × Int), RpAll K M (l.map ((fun x => x.2) ∘ fun e => ((.inr e.1, .int e.2) : Key × V))) (l.map ((fun x => x.2) ∘ fun e => ((.str e.1, .int e.2) : PyData × PyData))) := by
      intro l
      induction l with
      | nil => exact .nil
      | cons e l ih => exact .cons (.int _) ih
    exact this l
theorem rp_ddD {M : Hp} {p : Addr} {o : Obj} {dd : DDt} {qs : List Addr} (len : qs.length = dd.length) (h : M p = some (.frz o (.dK (oK dd qs)))) (hi : ∀ (j : Nat) f q, dd[j]? = some f → qs[j]? = some q → ∃ o, M q = some (.frz o (.dK (iK f.2)))) : Rp K M (.ref p) (ddD dd) := by
  refine .dct h ?_ ?_
  · unfold oK
    rw [List.map_map, List.map_map]
    have : ∀ (dd : DDt) (qs : List Addr), qs.length = dd.length → (dd.zip qs).map ((fun e => keyD e.1) ∘ fun e => ((.inr e.1.1, .ref e.2) : Key × V)) = dd.map ((fun x => x.1) ∘ fun f => ((.str f.1, iD f.2) : PyData × PyData)) := by
      intro dd
      induction dd with
      | nil => intro qs _; rfl
      | cons f dd ih =>
        intro qs hl
        cases qs with
        | nil => cases hl
        | cons q qs =>
          have := ih qs (Nat.succ.inj hl)
          rw [List.zip_cons_cons, List.map_cons, List.map_cons, this]
          rfl
    exact this dd qs len
  · unfold oK
    rw [List.map_map, List.map_map]
    have : ∀ (dd : DDt) (qs : List Addr), qs.length = dd.length → (∀ (j : Nat) f q, dd[j]? = some f → qs[j]? = some q → ∃ o, M q = some (.frz o (.dK (iK f.2)))) → RpAll K M ((dd.zip qs).map ((fun x => x.2) ∘ fun e => ((.inr e.1.1, .ref e.2) : Key × V))) (dd.map ((fun x => x.2) ∘ fun f => ((.str f.1, iD f.2) : PyData × PyData))) := by
      intro dd
      induction dd with
      | nil => intro qs _ _; exact .nil
      | cons f dd ih =>
        intro qs hl hi
        cases qs with
        | nil => cases hl
        | cons q qs =>
          obtain ⟨o, ho⟩ := hi 0 f q rfl rfl
          exact .cons (rp_iD ho) (ih qs (Nat.succ.inj hl) fun j f q h1 h2 => hi (j + 1) f q h1 h2)
    exact this dd qs len hi
/-- the state with the dicts seen as data -/
theorem StD.view {P0 P : Pr T} {σ : L2.St} {ρ : Ev} {i : Nat} {p : Addr} {dd : DDt} (s : StD K P0 P σ ρ i p dd) : ∃ (L : List Addr) (hm : ∀ c ∈ L, P.M c = none) (hk : ∀ c ∈ L, ∃ kvs, P.H c = some (.dK kvs)), L.Nodup ∧ (∀ c ∈ L, Loose P0.H c) ∧ ∀ od, St K P0 (P.lk L od hm hk) σ (ρ.set i (.val (ddD dd))) := by
  obtain ⟨qs, o⟩ := s.ob
  have hp := s.ref
  refine ⟨p :: qs, o.m, o.cell, o.nd, o.lo, fun od => ?_⟩
  have il : i < ρ.length := (List.getElem?_eq_some_iff.mp s.no).1
  have rr : Rp K (P.lk (p :: qs) od o.m o.cell).M (.ref p) (ddD dd) := by
    refine rp_ddD o.len (lk_M_in List.mem_cons_self o.h) fun j f q h1 h2 => ⟨od q, lk_M_in (List.mem_cons_of_mem _ (List.mem_of_getElem? h2)) (o.hi j f q h1 h2)⟩
  have fl := flat_set s.flat i (ddD dd)
  refine ⟨⟨s.st.le.m.trans lk_ext, fun b u e n => ?_, fun a h1 h2 => ?_⟩, by rw [List.length_set]; exact s.st.len, fun j x hx => ?_, fun j k q d e ne h1 h2 h3 h4 => ?_, fun j d q h1 h2 => ?_, fun j k q d e ne h1 h2 h3 h4 => ?_, fun j d q h1 h2 => ?_⟩
  · have nb : b ∉ p :: qs := fun z => by
      obtain ⟨ps, w⟩ := o.lo b z u e
      exact n ps w
    show lkF P.H (p :: qs) od b = some u
    rw [lkF_out nb]
    exact s.st.le.h b u e n
  · by_cases z : a ∈ p :: qs
    · exact .inl (o.lo a z)
    · rw [lk_M_out z] at h2
      exact s.st.le.f a h1 h2
  · rcases getset hx with ⟨rfl, rfl, _⟩ | ⟨ne, hx⟩
    · exact ⟨_, hp, .val rr⟩
    · obtain ⟨w, g1, g2⟩ := s.st.ok j x hx
      refine ⟨w, g1, ?_⟩
      cases g2 with
      | no => exact .no
      | val r => exact .val (r.ext lk_ext)
      | exn => exact .exn
      | own => rcases s.flat j _ hx with z | ⟨_, z⟩ <;> cases z
      | ods => rcases s.flat j _ hx with z | ⟨_, z⟩ <;> cases z
      | lck => rcases s.flat j _ hx with z | ⟨_, z⟩ <;> cases z
  · rcases fl j _ h1 with z | ⟨_, z⟩ <;> cases z
  · rcases fl j _ h1 with z | ⟨_, z⟩ <;> cases z
  · rcases fl j _ h1 with z | ⟨_, z⟩ <;> cases z
  · rcases fl j _ h1 with z | ⟨_, z⟩ <;> cases z
/-- what is no dict is there without them -/
theorem sq_keep {M M2 : Hp} (h : ∀ a u, M a = some u → (∀ o kvs, u ≠ .frz o (.dK kvs)) → M2 a = some u) {a : Addr} {xs : List V} (q : SqL K M a xs) : SqL K M2 a xs := by
  rcases q with (q | ⟨o, q⟩) | q
  · exact .inl (.inl (h _ _ q fun _ _ z => nomatch z))
  · exact .inl (.inr ⟨o, h _ _ q fun _ _ z => by cases z⟩)
  · exact .inr q
mutual
theorem rp_keep {M M2 : Hp} (h : ∀ a u, M a = some u → (∀ o kvs, u ≠ .frz o (.dK kvs)) → M2 a = some u) : ∀ {v : V} {d : PyData}, ndD d = true → Rp K M v d → Rp K M2 v d
  | _, _, _, .non => .non
  | _, _, _, .bl b => .bl b
  | _, _, _, .int i => .int i
  | _, _, _, .str x => .str x
  | _, _, n, .lst q r => .lst (sq_keep h q) (rps_keep h (by simpa [ndD] using n) r)
  | _, _, n, .tup q r => .tup (h _ _ q fun _ _ z => nomatch z) (rps_keep h (by simpa [ndD] using n) r)
  | _, _, n, .dct _ _ _ => absurd n (by simp [ndD])
  | _, _, n, .dcT _ _ _ => absurd n (by simp [ndD])
theorem rps_keep {M M2 : Hp} (h : ∀ a u, M a = some u → (∀ o kvs, u ≠ .frz o (.dK kvs)) → M2 a = some u) : ∀ {v : List V} {d : List PyData}, ndDs d = true → RpAll K M v d → RpAll K M2 v d
  | _, _, _, .nil => .nil
  | _, _, n, .cons r t => by
    have n : (ndD _ && ndDs _) = true := n
    rw [Bool.and_eq_true] at n
    exact .cons (rp_keep h n.1 r) (rps_keep h n.2 t)
end
/-! readings -/
end
end PM
namespace PM
open PySem PySem.Spec PyProof.Rows L2 LB
section
variable {T : Tb} {K : PySem.W.Frag} {X : Cx} {e : Expr} {st : Stmt} {sts : List Stmt} {R : ER}
/-! ### statements over a dict of dicts of one's own -/
abbrev Flat (ρ : Ev) : Prop := ∀ (j : Nat) s, ρ[j]? = some s → s = .no ∨ ∃ d, s = .val d
theorem st_flat {P0 P : Pr T} {σ : L2.St} {ρ : Ev} (fl : Flat ρ) (le : Le P0 P) (len : σ.length = ρ.length) (ok : ∀ (i : Nat) d, ρ[i]? = some (.val d) → ∃ v, σ[i]? = some (some v) ∧ Rp K P.M v d) : St K P0 P σ ρ := by
  have no : ∀ {j : Nat} {s : Sl}, ρ[j]? = some s → (∀ d, s ≠ .val d) → s ≠ .no → False := fun h1 h2 h3 => by
    rcases fl _ _ h1 with z | ⟨_, z⟩
    · exact h3 z
    · exact h2 _ z
  refine ⟨le, len, fun i s h => ?_, fun i j p d e ne h1 h2 h3 h4 => ?_, fun i d p h1 h2 => ?_, fun i j p ks ls ne h1 h2 h3 h4 => ?_, fun i ks p h1 h2 => ?_⟩
  · rcases fl i s h with rfl | ⟨d, rfl⟩
    · have hi : i < σ.length := by rw [len]; exact (List.getElem?_eq_some_iff.mp h).1
      exact ⟨_, List.getElem?_eq_getElem hi, .no⟩
    · obtain ⟨v, g1, g2⟩ := ok i d h
      exact ⟨_, g1, .val g2⟩
  · exact (no h1 (fun _ z => nomatch z) fun z => nomatch z).elim
  · exact (no h1 (fun _ z => nomatch z) fun z => nomatch z).elim
  · exact (no h1 (fun _ z => nomatch z) fun z => nomatch z).elim
  · exact (no h1 (fun _ z => nomatch z) fun z => nomatch z).elim
theorem St.valsF {P0 P : Pr T} {σ : L2.St} {ρ : Ev} (s : St K P0 P σ ρ) : ∀ (i : Nat) d, ρ[i]? = some (.val d) → ∃ v, σ[i]? = some (some v) ∧ Rp K P.M v d := fun i d h => by
  obtain ⟨o, g1, g2⟩ := s.ok i _ h
  cases g2 with
  | val r => exact ⟨_, g1, r⟩
/-- a cell of the dicts is changed -/
theorem StD.mut {P0 P : Pr T} {σ : L2.St} {ρ : Ev} {i : Nat} {p : Addr} {dd : DDt} (s : StD K P0 P σ ρ i p dd) {qs : List Addr} (o : Odd P0 P p dd qs) {c : Addr} (hc : c ∈ p :: qs) (kvs' : List (Key × V)) : ∃ Q : Pr T, Q.M = P.M ∧ Q.H = upd P.H c (.dK kvs') ∧ St K P0 Q σ ρ := by
  obtain ⟨kvs, hk⟩ := o.cell c hc
  have hM := o.m c hc
  have lo := o.lo c hc
  refine ⟨⟨P.M, upd P.H c (.dK kvs'), fun b u e q => ?_, tabs_mut P.tab hk (fun _ z => nomatch z) (fun _ _ z => by unfold LamX.CodeO at z; cases z), P.nt⟩, rfl, rfl, st_flat s.flat ⟨s.st.le.m, fun b u e q => ?_, s.st.le.f⟩ s.st.len s.st.valsF⟩
  · have ne : b ≠ c := fun z => by rw [z, hM] at e; cases e
    rw [upd_ne ne]
    exact P.sub b u e q
  · have ne : b ≠ c := fun z => by
      rw [z] at e
      obtain ⟨ps, w⟩ := lo u e
      exact q ps w
    show upd P.H c _ b = some u
    rw [upd_ne ne]
    exact s.st.le.h b u e q
open Classical in
theorem StD.rebase {P0 P : Pr T} {σ : L2.St} {ρ : Ev} {i : Nat} {p : Addr} {dd : DDt} (s : StD K P0 P σ ρ i p dd) : ∃ Pb : Pr T, Pb.M = P.M ∧ Le P0 Pb ∧ StD K Pb P σ ρ i p dd := by
  have agree : ∀ {b : Addr} {u o : HO}, P.M b = some u → P0.H b = some o → Plain o → u = o := fun {b u o} h1 h2 n => by
    have e1 := P.sub b u h1 fun ps z => P.nt b ps (by rw [h1, z])
    have e2 := s.st.le.h b o h2 n
    rw [e1] at e2
    exact Option.some.inj e2
  let Pb : Pr T := ⟨P.M, fun a => if P.M a = none then P0.H a else P.M a, fun b u h n => by
    show (if P.M b = none then P0.H b else P.M b) = some u
    rw [if_neg (by rw [h]; exact fun z => nomatch z)]
    exact h, fun q hq => by
    obtain ⟨ps, h1, h2, h3⟩ := P0.tab q hq
    have e : ∀ {a : Addr} {o : HO}, P0.H a = some o → (∀ u, P.M a = some u → u = o) → (if P.M a = none then P0.H a else P.M a) = some o := fun {a o} h hu => by
      cases z : P.M a with
      | none =>
        rw [if_pos rfl]
        exact h
      | some u =>
        rw [if_neg (fun z => nomatch z), hu u z]
    refine ⟨ps, e h1 fun u hu => ?_, h2, fun pos cv hc => ?_⟩
    · obtain ⟨ps', h1', _⟩ := P.tab q hq
      have := P.sub _ u hu fun ps z => P.nt _ ps (by rw [hu, z])
      rw [h1'] at this
      exact absurd hu (by rw [← Option.some.inj this]; exact P.nt _ _)
    · obtain ⟨c, e1, e2⟩ := h3 pos cv hc
      exact ⟨c, e1, e e2 fun u hu => agree hu e2 LamX.codeO_ne⟩, P.nt⟩
  have l1 : Le P0 Pb := ⟨s.st.le.m, fun b o h n => by
    show (if P.M b = none then P0.H b else P.M b) = some o
    cases z : P.M b with
    | none =>
      rw [if_pos rfl]
      exact h
    | some u => rw [if_neg (fun z => nomatch z), agree z h n], s.st.le.f⟩
  have l2 : Le Pb P := ⟨ex_refl _, fun b o h n => by
    have h : (if P.M b = none then P0.H b else P.M b) = some o := h
    cases z : P.M b with
    | none =>
      rw [z, if_pos rfl] at h
      exact s.st.le.h b o h n
    | some u =>
      rw [z, if_neg (fun z => nomatch z)] at h
      cases h
      exact P.sub b o z n, fun a h1 h2 => absurd h1 h2⟩
  refine ⟨Pb, rfl, l1, st_flat s.flat l2 s.st.len s.st.valsF, s.flat, s.no, s.ref, ?_⟩
  obtain ⟨qs, o⟩ := s.ob
  refine ⟨qs, o.len, o.nd, o.m, fun c hc u hu => ?_, o.h, o.hi⟩
  have hu : (if P.M c = none then P0.H c else P.M c) = some u := hu
  rw [if_pos (o.m c hc)] at hu
  exact o.lo c hc u hu
theorem Odd.base {P0 Pb P : Pr T} {p : Addr} {dd : DDt} {qs : List Addr} (l : Le P0 Pb) (o : Odd Pb P p dd qs) : Odd P0 P p dd qs := ⟨o.len, o.nd, o.m, fun c hc => loose_back l.h (o.lo c hc), o.h, o.hi⟩
theorem StD.base {P0 Pb P : Pr T} {σ : L2.St} {ρ : Ev} {i : Nat} {p : Addr} {dd : DDt} (l : Le P0 Pb) (s : StD K Pb P σ ρ i p dd) : StD K P0 P σ ρ i p dd := ⟨s.st.base l, s.flat, s.no, s.ref, let ⟨qs, o⟩ := s.ob; ⟨qs, o.base l⟩⟩
inductive OutD where
  | nx (ρ : Ev) (dd : DDt) | rd (dd : DDt)
def EndD (K : PySem.W.Frag) (P0 : Pr T) (D : Ends) (i : Nat) (p : Addr) : OutD → Prop
  | .nx ρ dd => ∀ (P : Pr T) σ, StD K P0 P σ ρ i p dd → D.nx σ P.H
  | .rd dd => ∀ (P : Pr T) qs, Le P0 P → Odd P0 P p dd qs → D.rt (.ref p) P.H
theorem EndD.base {P0 Pb : Pr T} {D : Ends} {i : Nat} {p : Addr} {o : OutD} (l : Le P0 Pb) (h : EndD K P0 D i p o) : EndD K Pb D i p o := by
  cases o with
  | nx ρ dd => exact fun P σ s => h P σ (s.base l)
  | rd dd => exact fun P qs l' o => h P qs (l.trans l') (o.base l)
/-! ### the dicts are changed -/
theorem oK_set {dd : DDt} {qs : List Addr} {j : Nat} {x : Str} {l l' : List (Str × Int)} (h : dd[j]? = some (x, l)) : oK (dd.set j (x, l')) qs = oK dd qs := by
  refine List.ext_getElem? fun n => ?_
  unfold oK
  rw [List.getElem?_map, List.getElem?_map]
  show Option.map _ (List.zipWith Prod.mk (dd.set j (x, l')) qs)[n]? = Option.map _ (List.zipWith Prod.mk dd qs)[n]?
  rw [List.getElem?_zipWith, List.getElem?_zipWith]
  by_cases e : j = n
  · subst e
    rw [List.getElem?_set_self (List.getElem?_eq_some_iff.mp h).1, h]
    cases qs[j]? <;> rfl
  · rw [List.getElem?_set_ne e]
/-- behind a change of a row -/
theorem StD.row {P0 P : Pr T} {σ : L2.St} {ρ : Ev} {i : Nat} {p : Addr} {dd : DDt} (s : StD K P0 P σ ρ i p dd) {qs : List Addr} (o : Odd P0 P p dd qs) {j : Nat} {x : Str} {l l' : List (Str × Int)} {b : Addr} (h1 : dd[j]? = some (x, l)) (h2 : qs[j]? = some b) : ∃ Q : Pr T, Q.H = upd P.H b (.dK (iK l')) ∧ StD K P0 Q σ ρ i p (dd.set j (x, l')) := by
  have hb : b ∈ p :: qs := List.mem_cons_of_mem _ (List.mem_of_getElem? h2)
  obtain ⟨Q', hQ, hQ', s'⟩ := s.mut o hb (iK l')
  refine ⟨Q', hQ', s', s.flat, s.no, s.ref, qs, by rw [List.length_set]; exact o.len, o.nd, fun c hc => by rw [hQ]; exact o.m c hc, o.lo, ?_, fun n f c g1 g2 => ?_⟩
  · have ne : p ≠ b := fun z => (List.nodup_cons.mp o.nd).1 (by rw [z]; exact List.mem_of_getElem? h2)
    rw [hQ', upd_ne ne, oK_set h1]
    exact o.h
  · rw [hQ']
    rcases getset g1 with ⟨rfl, rfl, _⟩ | ⟨ne, g1⟩
    · rw [h2] at g2
      cases g2
      exact upd_same
    · have nb : c ≠ b := fun z => by
        subst z
        obtain ⟨k1, e1⟩ := List.getElem?_eq_some_iff.mp h2
        obtain ⟨k2, e2⟩ := List.getElem?_eq_some_iff.mp g2
        exact ne ((List.getElem_inj (List.nodup_cons.mp o.nd).2).mp (e1.trans e2.symm))
      rw [upd_ne nb]
      exact o.hi n f c g1 g2
end
end PM
namespace PM
open PySem PySem.Spec PyProof.Rows L2 LB
section
variable {T : Tb} {K : PySem.W.Frag} {X : Cx} {e : Expr} {st : Stmt} {sts : List Stmt} {R : ER}
/-! ### defs that make, or change, a dict of dicts -/
/-! ### for k in d, d a datum of texts, maybe without any -/
end
end PM
namespace PM
open PySem PySem.Spec PyProof.Rows L2 LB
section
variable {T : Tb} {K : PySem.W.Frag} {X : Cx} {e : Expr} {st : Stmt} {sts : List Stmt} {R : ER}
/-! ### d[a].get(b, c), d a dict of dicts of one's own -/
/-! ### x = {k: v}, an own dict of texts -/
end
end PM
namespace PM
open PySem PySem.Spec PyProof.Rows L2 LB
section
variable {T : Tb} {K : PySem.W.Frag} {X : Cx} {e : Expr} {st : Stmt} {R : ER}
/-! ### x = {k: v for ..} on one line, x a local -/
end
end PM
namespace ZM
open PySem PySem.Spec PyProof.Rows L2 LB
/-! ### zip of two rows, each a list or a tuple -/
def SqK (K : PySem.W.Frag) (t : Bool) (H : Hp) (a : Addr) (xs : List V) : Prop := match t with
  | true => SqT K H a xs
  | false => SqL K H a xs
def ItK (t : Bool) (h : Heap) (it l : Addr) (i : Nat) : Prop := match t with
  | true => h.IsTupleIter it l i
  | false => h.IsListIter it l i
def IsK (t : Bool) (h : Heap) (l : Addr) (xs : Array Value) : Prop := match t with
  | true => h.IsTuple l xs
  | false => h.IsList l xs
def objK (t : Bool) (a : Addr) : Obj := match t with
  | true => { cls := .type "tuple_iterator", data := .fields #[.ref a, .int 0 0] }
  | false => { cls := .type "list_iterator", data := .fields #[.ref a, .int 0 0] }
theorem draws {prog : Program} {w : World} {A : Around} (t : Bool) (hh : A.handled = none) {it l : Addr} (ne : l ≠ it) (items : Array Value) : Draws prog w A it [it, l] items.size (fun i v => items[i]? = some v) (fun i h => ItK t h it l i ∧ IsK t h l items) := by
  cases t
  · exact Draws.list hh it l ne items
  · exact Draws.tuple hh it l ne items
theorem begins (t : Bool) (l : Addr) (items : Array Value) : Begins (.ref l) (objK t l) fun h => IsK t h l items := by
  cases t
  · exact begins_list l items
  · exact begins_tuple l items
theorem it0 {t : Bool} {h : Heap} {it l : Addr} (e : h.get? it = some (objK t l)) : ItK t h it l 0 := by
  cases t
  · exact ⟨_, e, rfl, rfl⟩
  · exact ⟨_, e, rfl, rfl⟩
theorem it_obj {t : Bool} {h : Heap} {it l : Addr} {i : Nat} (st : ItK t h it l i) : ∃ o, h.get? it = some o ∧ ∀ v, o.data ≠ .cell v := by
  cases t
  · obtain ⟨o, e, _, d⟩ := st
    exact ⟨o, e, fun v q => by rw [d] at q; cases q⟩
  · obtain ⟨o, e, _, d⟩ := st
    exact ⟨o, e, fun v q => by rw [d] at q; cases q⟩
theorem it_at {t : Bool} {h h' : Heap} {it l : Addr} {i : Nat} (st : ItK t h it l i) (k : ∀ o, h.get? it = some o → h'.get? it = some o) : ItK t h' it l i := by
  cases t
  · exact Heap.IsListIter.at st k
  · exact Heap.IsTupleIter.at st k
section
variable {X : Cx} {pins : List (Addr × Obj)} {σ : L2.St} {H : Hp} {s : Shared}
theorem row (I : Inv X pins σ H s) {t : Bool} {a : Addr} {xs : List V} (q : SqK X.K t H a xs) : ∃ us : List Value, Vals xs us ∧ IsK t s.heap a us.toArray ∧ a < s.heap.objs.size := by
  cases t
  · obtain ⟨us, r, p, _⟩ := I.list q
    have p' := p.isList
    obtain ⟨o, e, _⟩ := id p'
    exact ⟨us, r, p', Heap.lt_size e⟩
  · obtain ⟨us, r, p, _⟩ := I.tuple q
    obtain ⟨o, e, _⟩ := id p
    exact ⟨us, r, p, Heap.lt_size e⟩
theorem inj (I : Inv X pins σ H s) {t : Bool} {a : Addr} {xs ys : List V} (h : SqK X.K t H a xs) (h' : SqK X.K t H a ys) : xs = ys := by
  cases t
  · exact I.list_inj h h'
  · exact I.tuple_inj h h'
end
def ItzK (K : PySem.W.Frag) (t u : Bool) (a b : Addr) : It :=
  ⟨fun i H => ∃ (xs ys : List V) (x y : V), SqK K t H a xs ∧ SqK K u H b ys ∧ xs[i]? = some x ∧ ys[i]? = some y,
    fun i H v H' => ∃ T x y, v = .ref T ∧ H T = none ∧ H' = upd H T (.tup [x, y]) ∧ (∀ xs, SqK K t H a xs → xs[i]? = some x) ∧ ∀ ys, SqK K u H b ys → ys[i]? = some y,
    fun i H => ∃ xs ys : List V, SqK K t H a xs ∧ SqK K u H b ys ∧ i ≤ xs.length ∧ i ≤ ys.length ∧ (i = xs.length ∨ i = ys.length)⟩
theorem turn {P : Program} {w : World} {K : PySem.W.Frag} {elts : List Expr} {kk : Nat} {tpos : Pos} {t u : Bool} {a b z TI TO i1 i2 : Addr} (S : ZipSep2 z TI TO i1 i2 [i1, a] [i2, b]) :
    Turn P w K (.Tuple elts kk tpos) (ItzK K t u a b) [z, TI, TO, i1, i2] z (fun i h => IsZip h z TI TO .none ∧ IsTupOf2 h TI (.ref i1) (.ref i2) ∧ (∃ x y, IsTupOf2 h TO x y) ∧ ItK t h i1 a i ∧ ItK u h i2 b i) where
  mem := by simp
  obj := fun i h st c hc => by
    obtain ⟨hz, hTI, ⟨x, y, hTO⟩, h1, h2⟩ := st
    simp only [List.mem_cons, List.not_mem_nil, or_false] at hc
    rcases hc with rfl | rfl | rfl | rfl | rfl
    · exact ⟨_, hz, fun v q => nomatch q⟩
    · exact ⟨_, hTI, fun v q => nomatch q⟩
    · exact ⟨_, hTO, fun v q => nomatch q⟩
    · exact it_obj h1
    · exact it_obj h2
  keep := fun i h h' st k => by
    obtain ⟨hz, hTI, ⟨x, y, hTO⟩, h1, h2⟩ := st
    exact ⟨k z (by simp) _ hz, k TI (by simp) _ hTI, ⟨x, y, k TO (by simp) _ hTO⟩, it_at h1 fun o q => k i1 (by simp) o q, it_at h2 fun o q => k i2 (by simp) o q⟩
  item := by
    intro X hP hw hK hc i pins s σ H E I hf st hg
    subst hP hw hK
    obtain ⟨hz, hTI, ⟨x0, y0, hTO⟩, h1, h2⟩ := st
    obtain ⟨xs, ys, x, y, qx, qy, hx, hy⟩ := hg
    obtain ⟨us, ru, p1, la⟩ := row I qx
    obtain ⟨vs, rv, p2, lb⟩ := row I qy
    obtain ⟨x1, ex, rx⟩ := ru.get hx
    obtain ⟨y1, ey, ry⟩ := rv.get hy
    have hh := I.ok.hd hc
    have ne1 : a ≠ i1 := fun e => absurd (S.sep1_2) (fun _ => by
      obtain ⟨o1, e1, _⟩ := it_obj h1
      subst e
      cases t
      · obtain ⟨o, eo, c1, _⟩ := p1
        obtain ⟨o', eo', c2, _⟩ := h1
        rw [eo] at eo'
        cases eo'
        rw [c1] at c2
        exact absurd c2 (by decide)
      · obtain ⟨o, eo, c1, _⟩ := p1
        obtain ⟨o', eo', c2, _⟩ := h1
        rw [eo] at eo'
        cases eo'
        rw [c1] at c2
        exact absurd c2 (by decide))
    have ne2 : b ≠ i2 := fun e => by
      subst e
      cases u
      · obtain ⟨o, eo, c1, _⟩ := p2
        obtain ⟨o', eo', c2, _⟩ := h2
        rw [eo] at eo'
        cases eo'
        rw [c1] at c2
        exact absurd c2 (by decide)
      · obtain ⟨o, eo, c1, _⟩ := p2
        obtain ⟨o', eo', c2, _⟩ := h2
        rw [eo] at eo'
        cases eo'
        rw [c1] at c2
        exact absurd c2 (by decide)
    have gu : us.toArray[i]? = some x1 := by simpa using ex
    have gv : vs.toArray[i]? = some y1 := by simpa using ey
    have hzl : z < s.heap.objs.size := Heap.lt_size hz
    refine wpAny_pyNext_zipD2_item S (draws t (A := X.A.in1) hh ne1 us.toArray) (draws u (A := X.A.in1) hh ne2 vs.toArray) hz hTI hTO ⟨h1, p1⟩ ⟨h2, p2⟩ (Array.getElem?_eq_some_iff.mp gu).1 (Array.getElem?_eq_some_iff.mp gv).1 fun x2 y2 h' tk z1 z2 hz' hTO' h1' h2' hT hsz hk => ?_
    rw [gu] at z1
    cases z1
    rw [gv] at z2
    cases z2
    refine ⟨_, rfl, wpAny_letOwnedTupleGo_zip (s := { s with heap := h', toks := tk }) hz' fun h'' hz'' sb => ?_⟩
    have hT2 : h''.get? s.heap.objs.size = some { cls := .type "tuple", data := .seq #[x1, y1] } := (sb.2 _ (Nat.ne_of_gt hzl)).trans hT
    have new : ObjOk X.prog X.w (upd H s.heap.objs.size (.tup [x, y])) h'' s.heap.objs.size (.tup [x, y]) := ⟨by show 2 ≤ sizeLine; decide, [x1, y1], .cons rx (.cons ry .nil), ⟨_, hT2, rfl, _, rfl⟩⟩
    have kp : ∀ c o, c ∉ [z, TI, TO, i1, i2] → s.heap.get? c = some o → h''.get? c = some o := fun c o hc q => by
      simp only [List.mem_cons, List.not_mem_nil, or_false, not_or] at hc
      exact (sb.2 c hc.1).trans (hk c o hc.1 hc.2.2.1 hc.2.2.2.1 hc.2.2.2.2 q)
    have I1 : Inv X pins σ (upd H s.heap.objs.size (.tup [x, y])) { s with heap := h'', toks := tk } := I.turnedNew (t' := tk) (ch := [z, TI, TO, i1, i2]) kp hf (Nat.le_refl _) new
    have lt1 : i1 < s.heap.objs.size := by
      obtain ⟨_, e, _⟩ := it_obj h1
      exact Heap.lt_size e
    have lt2 : i2 < s.heap.objs.size := by
      obtain ⟨_, e, _⟩ := it_obj h2
      exact Heap.lt_size e
    refine ⟨.ref s.heap.objs.size, _, I1, rfl, ⟨_, x, y, rfl, I.hok.fresh (Nat.le_refl _), rfl, fun l hl => by rw [inj I hl qx]; exact hx, fun l hl => by rw [inj I hl qy]; exact hy⟩, ⟨hz'', ?_, ⟨x1, y1, ?_⟩, ?_, ?_⟩, fun c hcm => ?_⟩
    · exact (sb.2 _ S.TIz).trans (hk _ _ S.TIz S.TITO S.TIi1 S.TIi2 hTI)
    · exact (sb.2 _ S.TOz).trans hTO'
    · exact it_at h1'.1 fun o q => (sb.2 _ (Ne.symm S.zi1)).trans q
    · exact it_at h2'.1 fun o q => (sb.2 _ (Ne.symm S.zi2)).trans q
    · have hlt : c < s.heap.objs.size := by
        simp only [List.mem_cons, List.not_mem_nil, or_false] at hcm
        rcases hcm with rfl | rfl | rfl | rfl | rfl
        · exact hzl
        · exact Heap.lt_size hTI
        · exact Heap.lt_size hTO
        · exact lt1
        · exact lt2
      rw [upd_ne (Nat.ne_of_lt hlt)]
      exact (hf c hcm).1
  done := by
    intro X hP hw hK hc i pins s σ H E I hf st hg
    subst hP hw hK
    obtain ⟨hz, hTI, ⟨x0, y0, hTO⟩, h1, h2⟩ := st
    obtain ⟨xs, ys, qx, qy, l1, l2, hend⟩ := hg
    obtain ⟨us, ru, p1, la⟩ := row I qx
    obtain ⟨vs, rv, p2, lb⟩ := row I qy
    have e1 := ru.length
    have e2 := rv.length
    have hh := I.ok.hd hc
    have ne1 : a ≠ i1 := fun e => by
      subst e
      cases t
      · obtain ⟨o, eo, c1, _⟩ := p1
        obtain ⟨o', eo', c2, _⟩ := h1
        rw [eo] at eo'
        cases eo'
        rw [c1] at c2
        exact absurd c2 (by decide)
      · obtain ⟨o, eo, c1, _⟩ := p1
        obtain ⟨o', eo', c2, _⟩ := h1
        rw [eo] at eo'
        cases eo'
        rw [c1] at c2
        exact absurd c2 (by decide)
    have ne2 : b ≠ i2 := fun e => by
      subst e
      cases u
      · obtain ⟨o, eo, c1, _⟩ := p2
        obtain ⟨o', eo', c2, _⟩ := h2
        rw [eo] at eo'
        cases eo'
        rw [c1] at c2
        exact absurd c2 (by decide)
      · obtain ⟨o, eo, c1, _⟩ := p2
        obtain ⟨o', eo', c2, _⟩ := h2
        rw [eo] at eo'
        cases eo'
        rw [c1] at c2
        exact absurd c2 (by decide)
    refine wpAny_pyNext_zipD2_end S (draws t (A := X.A.in1) hh ne1 us.toArray) (draws u (A := X.A.in1) hh ne2 vs.toArray) hz hTI hTO ⟨h1, p1⟩ ⟨h2, p2⟩ (by simp; omega) (by simp; omega) (by simp; omega) fun h' tk hk => ⟨rfl, I.turnedL (t' := tk) (ch := [z, TI, TO, i1, i2]) (fun c o hc q => ?_) hf⟩
    simp only [List.mem_cons, List.not_mem_nil, or_false, not_or] at hc
    exact hk c o hc.1 hc.2.2.1 hc.2.2.2.1 hc.2.2.2.2 q
  self := fun A i s Q E st h => wpAny_pyIter_zip st.1 h
end ZM
namespace PM
open PySem PySem.Spec PyProof.Rows L2 LB
section
variable {T : Tb} {K : PySem.W.Frag} {X : Cx} {e : Expr}
theorem ex_K {M H : Hp} (e : Ex M H) {t : Bool} {a : Addr} {xs : List V} (h : ZM.SqK K t M a xs) : ZM.SqK K t H a xs := by
  cases t
  · exact ex_l e h
  · exact ex_t e h
theorem rp_K {H : Hp} {v : V} {d : PyData} {ds : List PyData} (r : Rp K H v d) (h : lsO d = some ds) : ∃ t a xs, v = .ref a ∧ ZM.SqK K t H a xs ∧ RpAll K H xs ds := by
  cases r with
  | lst q ra =>
    cases h
    exact ⟨false, _, _, rfl, q, ra⟩
  | tup q ra =>
    cases h
    exact ⟨true, _, _, rfl, SqT.of q, ra⟩
  | non => cases h
  | bl => cases h
  | int => cases h
  | str => cases h
  | dct => cases h
  | dcT => cases h
end
end PM
namespace PM
open PySem PySem.Spec PyProof.Rows L2 LB
section
variable {T : Tb} {K : PySem.W.Frag} {X : Cx} {e : Expr} {st : Stmt} {sts : List Stmt} {R : ER}
/-! ### x = {k: v for ..}, the dict one's own -/
/-! ### a dict of lists, its keys texts, all there from the start -/
def addS (G : List (Str × List PyData)) (k : Str) (d : PyData) : List (Str × List PyData) := G.map fun e => if e.1 = k then (e.1, e.2 ++ [d]) else e
def lsD (G : List (Str × List PyData)) : PyData := dcD (G.map fun e => (e.1, .list e.2))
def DLs (K : PySem.W.Frag) (P : Pr T) (e : Key × V) (g : Str × List PyData) : Prop := e.1 = .inr g.1 ∧ ∃ q xs, e.2 = .ref q ∧ P.M q = none ∧ P.H q = some (.lst xs) ∧ RpAll K P.M xs g.2
structure GS (K : PySem.W.Frag) (P0 P : Pr T) (p : Addr) (kvs : List (Key × V)) (G : List (Str × List PyData)) : Prop where
  m : P.M p = none
  h : P.H p = some (.dK kvs)
  each : PySem.W.EachIs (DLs K P) kvs G
  nk : (G.map (·.1)).Nodup
  nv : (kvs.map (·.2)).Nodup
  lo : Loose P0.H p
  los : ∀ e ∈ kvs, ∀ q, e.2 = V.ref q → Loose P0.H q
theorem DLs.up {P P' : Pr T} (l : Le P P') {e : Key × V} {g : Str × List PyData} (h : DLs K P e g) : DLs K P' e g := by
  obtain ⟨h1, q, xs, h2, h3, h4, h5⟩ := h
  exact ⟨h1, q, xs, h2, own_none l h3 h4 (fun _ z => nomatch z) (fun _ z => nomatch z), l.h _ _ h4 (fun _ z => nomatch z), h5.ext l.m⟩
theorem GS.up {P0 P P' : Pr T} {p : Addr} {kvs : List (Key × V)} {G : List (Str × List PyData)} (g : GS K P0 P p kvs G) (l : Le P P') : GS K P0 P' p kvs G :=
  ⟨own_none l g.m g.h (fun _ z => nomatch z) (fun _ z => nomatch z), l.h _ _ g.h (fun _ z => nomatch z), g.each.mono (fun _ _ h => h.up l), g.nk, g.nv, g.lo, g.los⟩
theorem dls_hit {P : Pr T} {k : Str} : ∀ {kvs : List (Key × V)} {G : List (Str × List PyData)}, PySem.W.EachIs (DLs K P) kvs G → k ∈ G.map (·.1) →
    ∃ q xs as bs As Bs ds, valV kvs (.inr k) = some (V.ref q) ∧ kvs = as ++ (.inr k, V.ref q) :: bs ∧ G = As ++ (k, ds) :: Bs ∧ PySem.W.EachIs (DLs K P) as As ∧ PySem.W.EachIs (DLs K P) bs Bs ∧ P.M q = none ∧ P.H q = some (.lst xs) ∧ RpAll K P.M xs ds
  | _, _, .nil, h => absurd h List.not_mem_nil
  | (k0, u) :: kvs, (k', ds) :: G, .cons h t, hk => by
    obtain ⟨h1, q, xs, h2, h3, h4, h5⟩ := h
    have h1 : k0 = .inr k' := h1
    have h2 : u = V.ref q := h2
    subst h1 h2
    by_cases z : k' = k
    · subst z
      refine ⟨q, xs, [], kvs, [], G, ds, ?_, rfl, rfl, .nil, t, h3, h4, h5⟩
      unfold valV
      rw [List.find?_cons, decide_eq_true rfl]
      rfl
    · have hk' : k ∈ G.map (·.1) := (List.mem_cons.mp hk).elim (fun w => absurd w.symm z) id
      obtain ⟨q', xs', as, bs, As, Bs, ds', e1, e2, e3, e4, e5, e6, e7, e8⟩ := dls_hit t hk'
      refine ⟨q', xs', (.inr k', V.ref q) :: as, bs, (k', ds) :: As, Bs, ds', ?_, by rw [e2]; rfl, by rw [e3]; rfl, .cons ⟨rfl, q, xs, rfl, h3, h4, h5⟩ e4, e5, e6, e7, e8⟩
      unfold valV at e1 ⊢
      rw [List.find?_cons, decide_eq_false (fun w => z (by injection w))]
      exact e1
theorem addS_hit {k : Str} {d : PyData} {As Bs : List (Str × List PyData)} {ds : List PyData} (n1 : k ∉ As.map (·.1)) (n2 : k ∉ Bs.map (·.1)) : addS (As ++ (k, ds) :: Bs) k d = As ++ (k, ds ++ [d]) :: Bs := by
  unfold addS
  rw [List.map_append, List.map_cons, if_pos rfl]
  have e : ∀ l : List (Str × List PyData), k ∉ l.map (·.1) → l.map (fun e => if e.1 = k then (e.1, e.2 ++ [d]) else e) = l := fun l hn => by
    conv => rhs; rw [← List.map_id l]
    refine List.map_congr_left fun x hx => ?_
    exact if_neg fun z => hn (List.mem_map.mpr ⟨x, hx, z⟩)
  rw [e As n1, e Bs n2]
theorem addS_keys (G : List (Str × List PyData)) (k : Str) (d : PyData) : (addS G k d).map (·.1) = G.map (·.1) := by
  unfold addS
  rw [List.map_map]
  refine List.map_congr_left fun e _ => ?_
  show (if e.1 = k then (e.1, e.2 ++ [d]) else e).1 = e.1
  split <;> rfl
theorem GS.hit {P0 P : Pr T} {p : Addr} {kvs : List (Key × V)} {G : List (Str × List PyData)} (g : GS K P0 P p kvs G) (l : Le P0 P) {k : Str} {w : V} {d : PyData} (hk : k ∈ G.map (·.1)) (r : Rp K P.M w d) :
    ∃ q xs Q, valV kvs (.inr k) = some (V.ref q) ∧ P.H q = some (.lst xs) ∧ (∃ ds, (k, ds) ∈ G ∧ xs.length = ds.length) ∧ Q.M = P.M ∧ Q.H = upd P.H q (.lst (xs ++ [w])) ∧ Le P0 Q ∧ GS K P0 (T := T) Q p kvs (addS G k d) := by
  obtain ⟨q, xs, as, bs, As, Bs, ds, e0, rfl, rfl, e4, e5, e6, e7, e8⟩ := dls_hit g.each hk
  obtain ⟨Q, hM, hH⟩ := P.mut1 (o' := .lst (xs ++ [w])) e6 e7 (fun _ z => nomatch z) (fun _ _ z => by unfold LamX.CodeO at z; cases z)
  have lq : Loose P0.H q := g.los (.inr k, V.ref q) (List.mem_append_right _ List.mem_cons_self) q rfl
  have npq : p ≠ q := fun z => by
    have := g.h
    rw [z, e7] at this
    cases this
  have nk := g.nk
  have nv := g.nv
  rw [List.map_append, List.map_cons, List.nodup_append] at nk nv
  have ka : k ∉ As.map (·.1) := fun z => nk.2.2 k z k List.mem_cons_self rfl
  have kb : k ∉ Bs.map (·.1) := (List.nodup_cons.mp nk.2.1).1
  have va : V.ref q ∉ as.map (·.2) := fun z => nv.2.2 _ z _ List.mem_cons_self rfl
  have vb : V.ref q ∉ bs.map (·.2) := (List.nodup_cons.mp nv.2.1).1
  have keep : ∀ {l : List (Key × V)} {L : List (Str × List PyData)}, V.ref q ∉ l.map (·.2) → PySem.W.EachIs (DLs K P) l L → PySem.W.EachIs (DLs K Q) l L := fun {l L} hn h => each_imp h fun a ha b hb => by
    obtain ⟨h1, q', xs', h2, h3, h4, h5⟩ := hb
    have ne : q' ≠ q := fun z => hn (List.mem_map.mpr ⟨a, ha, by rw [h2, z]⟩)
    exact ⟨h1, q', xs', h2, by rw [hM]; exact h3, by rw [hH, upd_ne ne]; exact h4, by rw [hM]; exact h5⟩
  refine ⟨q, xs, Q, e0, e7, ⟨ds, List.mem_append_right _ List.mem_cons_self, e8.length⟩, hM, hH, le_mut1 l lq hM hH, ⟨by rw [hM]; exact g.m, by rw [hH, upd_ne npq]; exact g.h, ?_, by rw [addS_keys]; exact g.nk, g.nv, g.lo, g.los⟩⟩
  rw [addS_hit ka kb]
  exact each_app (keep va e4) (.cons ⟨rfl, q, _, rfl, by rw [hM]; exact e6, by rw [hH]; exact upd_same, by rw [hM]; exact RpAll.append e8 (.cons r .nil)⟩ (keep vb e5))
/-- a new key with a new list -/
theorem GS.new {P0 P : Pr T} {p : Addr} {kvs : List (Key × V)} {G : List (Str × List PyData)} (g : GS K P0 P p kvs G) (l : Le P0 P) {k : Str} (hk : k ∉ G.map (·.1)) {q : Addr} (hq : P.H q = none) :
    ∃ Q : Pr T, Q.M = P.M ∧ Q.H = upd (upd P.H q (.lst [])) p (.dK (kvs ++ [(.inr k, V.ref q)])) ∧ (upd P.H q (.lst [])) p = some (.dK kvs) ∧ Le P0 Q ∧ (∀ P1 : Pr T, Le P1 P → Loose P1.H p → Le P1 Q) ∧ GS K P0 Q p (kvs ++ [(.inr k, V.ref q)]) (G ++ [(k, [])]) := by
  have npq : p ≠ q := fun z => by
    have := g.h
    rw [z, hq] at this
    cases this
  have mq := P.none hq
  have lq : Loose P0.H q := fun o ho => by
    by_cases t : ∃ ps, o = HO.tbl ps
    · exact t
    · have := l.h q o ho fun ps z => t ⟨ps, z⟩
      rw [hq] at this
      cases this
  have hp1 : (P.hid q (.lst []) hq).H p = some (.dK kvs) := by
    show upd P.H q _ p = _
    rw [upd_ne npq]
    exact g.h
  obtain ⟨Q, hM, hH⟩ := (P.hid q (.lst []) hq).mut1 (o' := .dK (kvs ++ [(.inr k, V.ref q)])) g.m hp1 (fun _ z => nomatch z) (fun _ _ z => by unfold LamX.CodeO at z; cases z)
  have hM : Q.M = P.M := hM
  have hH : Q.H = upd (upd P.H q (.lst [])) p (.dK (kvs ++ [(.inr k, V.ref q)])) := hH
  have nv : ∀ e ∈ kvs, e.2 ≠ V.ref q := fun e he z => by
    obtain ⟨b, _, _, q', xs, h2, _, h4, _⟩ := g.each.left e he
    rw [h2] at z
    cases z
    rw [hq] at h4
    cases h4
  refine ⟨Q, hM, hH, hp1, le_mut1 (l.trans (le_hid P hq)) g.lo hM hH, fun P1 l1 lo1 => le_mut1 (l1.trans (le_hid P hq)) lo1 hM hH, ⟨by rw [hM]; exact g.m, by rw [hH]; exact upd_same, ?_, ?_, ?_, g.lo, fun e he q' hq' => ?_⟩⟩
  · refine each_app (each_imp g.each fun a ha b hb => ?_) (.cons ⟨rfl, q, [], rfl, by rw [hM]; exact mq, by rw [hH, upd_ne (Ne.symm npq)]; exact upd_same, .nil⟩ .nil)
    obtain ⟨h1, q', xs', h2, h3, h4, h5⟩ := hb
    have n1 : q' ≠ q := fun z => nv a ha (by rw [h2, z])
    have n2 : q' ≠ p := fun z => by
      rw [z, g.h] at h4
      cases h4
    refine ⟨h1, q', xs', h2, by rw [hM]; exact h3, ?_, by rw [hM]; exact h5⟩
    rw [hH, upd_ne n2, upd_ne n1]
    exact h4
  · rw [List.map_append, List.nodup_append]
    exact ⟨g.nk, by simp, fun a ha b hb e => hk (by
      have e : a = k := e.trans (List.mem_singleton.mp hb)
      rw [e] at ha
      exact ha)⟩
  · rw [List.map_append, List.nodup_append]
    refine ⟨g.nv, by simp, fun a ha b hb e => ?_⟩
    obtain ⟨x, hx, rfl⟩ := List.mem_map.mp ha
    rw [List.mem_singleton.mp hb] at e
    exact nv x hx e
  · rcases List.mem_append.mp he with h | h
    · exact g.los e h q' hq'
    · rw [List.mem_singleton.mp h] at hq'
      cases hq'
      exact lq
open Classical in
/-- what was gathered is data, the dict known from now on -/
theorem GS.done {P0 P : Pr T} {p : Addr} {kvs : List (Key × V)} {G : List (Str × List PyData)} (g : GS K P0 P p kvs G) (l : Le P0 P) (od : Obj) : ∃ Q : Pr T, Q.H = upd P.H p (.frz od (.dK kvs)) ∧ Le P0 Q ∧ Ex P.M Q.M ∧ Rp K Q.M (V.ref p) (lsD G) := by
  let inn : Addr → Prop := fun a => ∃ e ∈ kvs, e.2 = V.ref a
  have plain : ∀ a, inn a → P.M a = none ∧ (∃ o, P.H a = some o ∧ Plain o) ∧ Loose P0.H a ∧ a ≠ p := fun a ha => by
    obtain ⟨e, he, h2⟩ := ha
    obtain ⟨b, _, _, q, xs, e2, e3, e4, _⟩ := g.each.left e he
    rw [e2] at h2
    cases h2
    refine ⟨e3, ⟨_, e4, fun _ z => nomatch z⟩, g.los e he a e2, fun z => ?_⟩
    rw [z, g.h] at e4
    cases e4
  let M' : Hp := fun a => if a = p then some (.frz od (.dK kvs)) else if inn a then P.H a else P.M a
  have em : Ex P.M M' := fun b u e q => by
    have n1 : b ≠ p := fun z => by rw [z, g.m] at e; cases e
    have n2 : ¬ inn b := fun z => by rw [(plain b z).1] at e; cases e
    show (if b = p then _ else if inn b then P.H b else P.M b) = some u
    rw [if_neg n1, if_neg n2]
    exact e
  have at' : ∀ a o, inn a → P.H a = some o → M' a = some o := fun a o ha ho => by
    show (if a = p then _ else if inn a then P.H a else P.M a) = some o
    rw [if_neg (plain a ha).2.2.2, if_pos ha]
    exact ho
  have atp : M' p = some (.frz od (.dK kvs)) := if_pos rfl
  refine ⟨⟨M', upd P.H p (.frz od (.dK kvs)), fun b u e q => ?_, tabs_mut P.tab g.h (fun _ z => nomatch z) (fun _ _ z => by unfold LamX.CodeO at z; cases z), fun a ps z => ?_⟩, rfl, ⟨l.m.trans em, fun b u e q => ?_, fun a h1 h2 => ?_⟩, em, ?_⟩
  · by_cases hb : b = p
    · subst hb
      rw [atp] at e
      cases e
      exact upd_same
    · have e : (if b = p then some (HO.frz od (.dK kvs)) else if inn b then P.H b else P.M b) = some u := e
      rw [if_neg hb] at e
      rw [upd_ne hb]
      split at e
      · exact e
      · exact P.sub b u e q
  · by_cases hb : a = p
    · subst hb
      rw [atp] at z
      cases z
    · have z : (if a = p then some (HO.frz od (.dK kvs)) else if inn a then P.H a else P.M a) = some (.tbl ps) := z
      rw [if_neg hb] at z
      split at z
      · rename_i ha
        obtain ⟨_, ⟨o, ho, n⟩, _⟩ := plain a ha
        rw [ho] at z
        cases z
        exact n ps rfl
      · exact P.nt a ps z
  · have ne : b ≠ p := fun z => by
      rw [z] at e
      obtain ⟨ps, w⟩ := g.lo u e
      exact q ps w
    show upd P.H p _ b = some u
    rw [upd_ne ne]
    exact l.h b u e q
  · by_cases hb : a = p
    · rw [hb]
      exact .inl g.lo
    · have h2 : (if a = p then some (HO.frz od (.dK kvs)) else if inn a then P.H a else P.M a) ≠ none := h2
      rw [if_neg hb] at h2
      split at h2
      · rename_i ha
        exact .inl (plain a ha).2.2.1
      · exact l.f a h1 h2
  · have hv : ∀ {l : List (Key × V)} {L : List (Str × List PyData)}, (∀ e ∈ l, e ∈ kvs) → PySem.W.EachIs (DLs K P) l L → PySem.W.EachIs (DS K M') l (L.map fun e => (e.1, PyData.list e.2)) := by
      intro l L sub h
      induction h with
      | nil => exact .nil
      | @cons a b as bs h t ih =>
        obtain ⟨h1, q, xs, h2, h3, h4, h5⟩ := h
        refine .cons ⟨h1, ?_⟩ (ih fun e he => sub e (List.mem_cons_of_mem _ he))
        show Rp K M' a.2 (.list b.2)
        rw [h2]
        exact .lst (SqL.of (at' q _ ⟨a, sub a List.mem_cons_self, h2⟩ h4)) (h5.ext em)
    have k := hv (fun e he => he) g.each
    exact .dct atp (dc_keys k) (dc_vals k)
end
end PM
namespace PM
open PySem PySem.Spec PyProof.Rows L2 LB
/-! ### two dicts of one's own compared, the values data -/
section
variable {X : Cx} {pins : List (Addr × Obj)} {σ : L2.St} {H : Hp} {s : Shared}
structure RowsR (K : PySem.W.Frag) (H : Hp) (ls : List (Key × V)) (es : List (Str × PyData)) (p : Key × V) (d : Str × PyData) : Prop where
  k : p.1 = .inr d.1
  r : Dp K H p.2 d.2
  sh : SeqAt.shaped d.2 = true
  o : ∃ v e, getS es d.1 = some e ∧ valV ls p.1 = some v ∧ Dp K H v e ∧ SeqAt.shaped e = true
end
section
variable {T : Tb} {K : PySem.W.Frag} {X : Cx} {e : Expr} {st : Stmt} {sts : List Stmt} {R : ER}
/-! ### x = dict(zip(a, b)), x a dict of one's own -/
/-! ### a call that may raise, handed what may raise -/
end
end PM
namespace Z3
open PySem PySem.Spec PyProof.Rows L2 LB ZM
/-! ### zip of three rows, each a list or a tuple -/
theorem apart {t : Bool} {h : Heap} {i a : Addr} {k : Nat} {us : Array Value} (st : ItK t h i a k) (p : IsK t h a us) : a ≠ i := fun e => by
  subst e
  cases t
  · obtain ⟨o, eo, c1, _⟩ := p
    obtain ⟨o', eo', c2, _⟩ := st
    rw [eo] at eo'
    cases eo'
    rw [c1] at c2
    exact absurd c2 (by decide)
  · obtain ⟨o, eo, c1, _⟩ := p
    obtain ⟨o', eo', c2, _⟩ := st
    rw [eo] at eo'
    cases eo'
    rw [c1] at c2
    exact absurd c2 (by decide)
def Itz3 (K : PySem.W.Frag) (t u v : Bool) (a b c : Addr) : It :=
  ⟨fun i H => ∃ (xs ys zs : List V) (x y z : V), SqK K t H a xs ∧ SqK K u H b ys ∧ SqK K v H c zs ∧ xs[i]? = some x ∧ ys[i]? = some y ∧ zs[i]? = some z,
    fun i H w H' => ∃ T x y z, w = .ref T ∧ H T = none ∧ H' = upd H T (.tup [x, y, z]) ∧ (∀ xs, SqK K t H a xs → xs[i]? = some x) ∧ (∀ ys, SqK K u H b ys → ys[i]? = some y) ∧ ∀ zs, SqK K v H c zs → zs[i]? = some z,
    fun i H => ∃ xs ys zs : List V, SqK K t H a xs ∧ SqK K u H b ys ∧ SqK K v H c zs ∧ i ≤ xs.length ∧ i ≤ ys.length ∧ i ≤ zs.length ∧ (i = xs.length ∨ i = ys.length ∨ i = zs.length)⟩
theorem turn {P : Program} {w : World} {K : PySem.W.Frag} {elts : List Expr} {kk : Nat} {tpos : Pos} {t u v : Bool} {a b c z TI TO i1 i2 i3 : Addr} (S : ZipSep3 z TI TO i1 i2 i3 [i1, a] [i2, b] [i3, c]) :
    Turn P w K (.Tuple elts kk tpos) (Itz3 K t u v a b c) [z, TI, TO, i1, i2, i3] z (fun i h => IsZip h z TI TO .none ∧ IsTupOf3 h TI (.ref i1) (.ref i2) (.ref i3) ∧ (∃ x y w, IsTupOf3 h TO x y w) ∧ ItK t h i1 a i ∧ ItK u h i2 b i ∧ ItK v h i3 c i) where
  mem := by simp
  obj := fun i h st d hd => by
    obtain ⟨hz, hTI, ⟨x, y, w, hTO⟩, h1, h2, h3⟩ := st
    simp only [List.mem_cons, List.not_mem_nil, or_false] at hd
    rcases hd with rfl | rfl | rfl | rfl | rfl | rfl
    · exact ⟨_, hz, fun v q => nomatch q⟩
    · exact ⟨_, hTI, fun v q => nomatch q⟩
    · exact ⟨_, hTO, fun v q => nomatch q⟩
    · exact it_obj h1
    · exact it_obj h2
    · exact it_obj h3
  keep := fun i h h' st k => by
    obtain ⟨hz, hTI, ⟨x, y, w, hTO⟩, h1, h2, h3⟩ := st
    exact ⟨k z (by simp) _ hz, k TI (by simp) _ hTI, ⟨x, y, w, k TO (by simp) _ hTO⟩, it_at h1 fun o q => k i1 (by simp) o q, it_at h2 fun o q => k i2 (by simp) o q, it_at h3 fun o q => k i3 (by simp) o q⟩
  item := by
    intro X hP hw hK hc i pins s σ H E I hf st hg
    subst hP hw hK
    obtain ⟨hz, hTI, ⟨x0, y0, w0, hTO⟩, h1, h2, h3⟩ := st
    obtain ⟨xs, ys, zs, x, y, zz, qx, qy, qz, hx, hy, hzz⟩ := hg
    obtain ⟨us, ru, p1, la⟩ := row I qx
    obtain ⟨vs, rv, p2, lb⟩ := row I qy
    obtain ⟨ws, rw', p3, lc⟩ := row I qz
    obtain ⟨x1, ex, rx⟩ := ru.get hx
    obtain ⟨y1, ey, ry⟩ := rv.get hy
    obtain ⟨w1, ew, rwz⟩ := rw'.get hzz
    have hh := I.ok.hd hc
    have gu : us.toArray[i]? = some x1 := by simpa using ex
    have gv : vs.toArray[i]? = some y1 := by simpa using ey
    have gw : ws.toArray[i]? = some w1 := by simpa using ew
    have hzl : z < s.heap.objs.size := Heap.lt_size hz
    refine wpAny_pyNext_zipD3_item S (draws t (A := X.A.in1) hh (apart h1 p1) us.toArray) (draws u (A := X.A.in1) hh (apart h2 p2) vs.toArray) (draws v (A := X.A.in1) hh (apart h3 p3) ws.toArray) hz hTI hTO ⟨h1, p1⟩ ⟨h2, p2⟩ ⟨h3, p3⟩ (Array.getElem?_eq_some_iff.mp gu).1 (Array.getElem?_eq_some_iff.mp gv).1 (Array.getElem?_eq_some_iff.mp gw).1 fun x2 y2 w2 h' tk z1 z2 z3 hz' hTO' h1' h2' h3' hT hsz hk => ?_
    rw [gu] at z1
    cases z1
    rw [gv] at z2
    cases z2
    rw [gw] at z3
    cases z3
    refine ⟨_, rfl, wpAny_letOwnedTupleGo_zip (s := { s with heap := h', toks := tk }) hz' fun h'' hz'' sb => ?_⟩
    have hT2 : h''.get? s.heap.objs.size = some { cls := .type "tuple", data := .seq #[x1, y1, w1] } := (sb.2 _ (Nat.ne_of_gt hzl)).trans hT
    have new : ObjOk X.prog X.w (upd H s.heap.objs.size (.tup [x, y, zz])) h'' s.heap.objs.size (.tup [x, y, zz]) := ⟨by show 3 ≤ sizeLine; decide, [x1, y1, w1], .cons rx (.cons ry (.cons rwz .nil)), ⟨_, hT2, rfl, _, rfl⟩⟩
    have kp : ∀ d o, d ∉ [z, TI, TO, i1, i2, i3] → s.heap.get? d = some o → h''.get? d = some o := fun d o hd q => by
      simp only [List.mem_cons, List.not_mem_nil, or_false, not_or] at hd
      exact (sb.2 d hd.1).trans (hk d o hd.1 hd.2.2.1 hd.2.2.2.1 hd.2.2.2.2.1 hd.2.2.2.2.2 q)
    have I1 : Inv X pins σ (upd H s.heap.objs.size (.tup [x, y, zz])) { s with heap := h'', toks := tk } := I.turnedNew (t' := tk) (ch := [z, TI, TO, i1, i2, i3]) kp hf (Nat.le_refl _) new
    have lt1 : i1 < s.heap.objs.size := by
      obtain ⟨_, e, _⟩ := it_obj h1
      exact Heap.lt_size e
    have lt2 : i2 < s.heap.objs.size := by
      obtain ⟨_, e, _⟩ := it_obj h2
      exact Heap.lt_size e
    have lt3 : i3 < s.heap.objs.size := by
      obtain ⟨_, e, _⟩ := it_obj h3
      exact Heap.lt_size e
    refine ⟨.ref s.heap.objs.size, _, I1, rfl, ⟨_, x, y, zz, rfl, I.hok.fresh (Nat.le_refl _), rfl, fun l hl => by rw [inj I hl qx]; exact hx, fun l hl => by rw [inj I hl qy]; exact hy, fun l hl => by rw [inj I hl qz]; exact hzz⟩, ⟨hz'', ?_, ⟨x1, y1, w1, ?_⟩, ?_, ?_, ?_⟩, fun d hdm => ?_⟩
    · exact (sb.2 _ S.TIz).trans (hk _ _ S.TIz S.TITO S.TIi1 S.TIi2 S.TIi3 hTI)
    · exact (sb.2 _ S.TOz).trans hTO'
    · exact it_at h1'.1 fun o q => (sb.2 _ fun e => S.zf1 (by rw [← e]; exact S.mem1)).trans q
    · exact it_at h2'.1 fun o q => (sb.2 _ fun e => S.zf2 (by rw [← e]; exact S.mem2)).trans q
    · exact it_at h3'.1 fun o q => (sb.2 _ fun e => S.zf3 (by rw [← e]; exact S.mem3)).trans q
    · have hlt : d < s.heap.objs.size := by
        simp only [List.mem_cons, List.not_mem_nil, or_false] at hdm
        rcases hdm with rfl | rfl | rfl | rfl | rfl | rfl
        · exact hzl
        · exact Heap.lt_size hTI
        · exact Heap.lt_size hTO
        · exact lt1
        · exact lt2
        · exact lt3
      rw [upd_ne (Nat.ne_of_lt hlt)]
      exact (hf d hdm).1
  done := by
    intro X hP hw hK hc i pins s σ H E I hf st hg
    subst hP hw hK
    obtain ⟨hz, hTI, ⟨x0, y0, w0, hTO⟩, h1, h2, h3⟩ := st
    obtain ⟨xs, ys, zs, qx, qy, qz, l1, l2, l3, hend⟩ := hg
    obtain ⟨us, ru, p1, la⟩ := row I qx
    obtain ⟨vs, rv, p2, lb⟩ := row I qy
    obtain ⟨ws, rw', p3, lc⟩ := row I qz
    have e1 := ru.length
    have e2 := rv.length
    have e3 := rw'.length
    have hh := I.ok.hd hc
    refine wpAny_pyNext_zipD3_end S (draws t (A := X.A.in1) hh (apart h1 p1) us.toArray) (draws u (A := X.A.in1) hh (apart h2 p2) vs.toArray) (draws v (A := X.A.in1) hh (apart h3 p3) ws.toArray) hz hTI hTO ⟨h1, p1⟩ ⟨h2, p2⟩ ⟨h3, p3⟩ (by simp; omega) (by simp; omega) (by simp; omega) (by simp; omega) fun h' tk hk => ⟨rfl, I.turnedL (t' := tk) (ch := [z, TI, TO, i1, i2, i3]) (fun d o hd q => ?_) hf⟩
    simp only [List.mem_cons, List.not_mem_nil, or_false, not_or] at hd
    exact hk d o hd.1 hd.2.2.1 hd.2.2.2.1 hd.2.2.2.2.1 hd.2.2.2.2.2 q
  self := fun A i s Q E st h => wpAny_pyIter_zip st.1 h
end Z3
namespace PM
open PySem PySem.Spec PyProof.Rows L2 LB
section
variable {T : Tb} {K : PySem.W.Frag} {X : Cx} {e : Expr}
end
end PM
namespace PM
open PySem PySem.Spec PyProof.Rows L2 LB
section
variable {T : Tb} {K : PySem.W.Frag} {X : Cx} {st : Stmt} {R : ER}
/-! ### d.setdefault(k, v) as a statement, d one's own dict with tuple keys -/
end
end PM
namespace PM
open PySem PySem.Spec PyProof.Rows L2 LB
section
variable {T : Tb} {K : PySem.W.Frag} {X : Cx}
/-! ### max of three whole numbers -/
end
end PM
namespace PM
open PySem PySem.Spec PyProof.Rows L2 LB
section
variable {T : Tb} {K : PySem.W.Frag} {X : Cx} {e : Expr}
/-! ### l.index(x), the items of any kind -/
end
end PM
namespace PM
open PySem PySem.Spec PyProof.Rows L2 LB
section
variable {T : Tb} {K : PySem.W.Frag} {X : Cx}
/-! ### the sum of a list of whole numbers -/
end
end PM
namespace PM
open PySem PySem.Spec PyProof.Rows L2 LB
section
variable {T : Tb} {K : PySem.W.Frag} {X : Cx} {e : Expr}
/-! ### enumerate of a list -/
end
end PM
namespace EN
open PySem PySem.Spec PyProof.Rows L2 LB ZM
/-! ### enumerate of a row, a list or a tuple -/
section
variable {prog : Program} {w : World} {A : Around} {E : Value → Shared → Prop} {s : Shared}
end
def ItE (K : PySem.W.Frag) (t : Bool) (a : Addr) : It :=
  ⟨fun i H => ∃ (xs : List V) (x : V), SqK K t H a xs ∧ xs[i]? = some x, fun i H v H' => ∃ T x, v = .ref T ∧ H T = none ∧ H' = upd H T (.tup [.int (i : Nat), x]) ∧ ∀ xs, SqK K t H a xs → xs[i]? = some x, fun i H => ∃ xs : List V, SqK K t H a xs ∧ xs.length = i⟩
theorem turn {P : Program} {w : World} {K : PySem.W.Frag} {elts : List Expr} {kk : Nat} {tpos : Pos} {t : Bool} (a e it : Addr) (hne : e ≠ it) (hea : e ≠ a) :
    Turn P w K (.Tuple elts kk tpos) (ItE K t a) [e, it] e (fun i h => (∃ old, IsEnum h e it ((i : Nat) : Int) old) ∧ ItK t h it a i) where
  mem := by simp
  obj := fun i h st b hb => by
    obtain ⟨⟨old, he⟩, hit⟩ := st
    simp only [List.mem_cons, List.not_mem_nil, or_false] at hb
    rcases hb with rfl | rfl
    · exact ⟨_, he, fun v q => nomatch q⟩
    · exact it_obj hit
  keep := fun i h h' st k => let ⟨⟨old, he⟩, hi⟩ := st; ⟨⟨old, k e (by simp) _ he⟩, it_at hi fun o q => k it (by simp) o q⟩
  item := by
    intro X hP hw hK hc i pins s σ H E I hf st hg
    subst hP hw hK
    obtain ⟨⟨old, he⟩, hit⟩ := st
    obtain ⟨xs, x, hq, hx⟩ := hg
    obtain ⟨us, rv, p, la⟩ := row I hq
    obtain ⟨u, hu, ru⟩ := rv.get hx
    have hh := I.ok.hd hc
    have gu : us.toArray[i]? = some u := by simpa using hu
    have hel : e < s.heap.objs.size := Heap.lt_size he
    have hil : it < s.heap.objs.size := by
      obtain ⟨_, q, _⟩ := it_obj hit
      exact Heap.lt_size q
    have hef : e ∉ [it, a] := by
      simp only [List.mem_cons, List.not_mem_nil, or_false, not_or]
      exact ⟨hne, hea⟩
    refine wpAny_pyNext_enum_itemD (draws t (A := X.A.in1) hh (Z3.apart hit p) us.toArray) he ⟨hit, p⟩ (Array.getElem?_eq_some_iff.mp gu).1 hne hef fun x2 h' tk hP ho hst' hT hsz hk => ?_
    rw [gu] at hP
    cases hP
    refine ⟨_, rfl, wpAny_letOwnedTupleGo_enum (s := { s with heap := h', toks := tk + 1 }) ho fun h'' he' sb => ?_⟩
    have hT2 : h''.get? s.heap.objs.size = some { cls := .type "tuple", data := .seq #[.int i tk, u] } := (sb.2 _ (Nat.ne_of_gt hel)).trans hT
    have new : ObjOk X.prog X.w (upd H s.heap.objs.size (.tup [.int (i : Nat), x])) h'' s.heap.objs.size (.tup [.int (i : Nat), x]) :=
      ⟨by show 2 ≤ sizeLine; decide, [.int i tk, u], .cons ⟨_, rfl⟩ (.cons ru .nil), ⟨_, hT2, rfl, _, rfl⟩⟩
    have I1 : Inv X pins σ (upd H s.heap.objs.size (.tup [.int (i : Nat), x])) { s with heap := h'', toks := tk + 1 } :=
      I.turnedNew (ch := [e, it]) (fun b ob hb q => (sb.2 b (fun z => hb (by simp [z]))).trans (hk b ob (fun z => hb (by simp [z])) (fun z => hb (by simp [z])) q)) hf (Nat.le_refl _) new
    refine ⟨.ref s.heap.objs.size, _, I1, rfl, ⟨_, x, rfl, I.hok.fresh (Nat.le_refl _), rfl, fun ys hy => by rw [inj I hy hq]; exact hx⟩, ⟨⟨u, ?_⟩, it_at hst'.1 fun o q => (sb.2 it (Ne.symm hne)).trans q⟩, fun b hb => ?_⟩
    · have e1 : ((i + 1 : Nat) : Int) = (i : Int) + 1 := by omega
      rw [e1]; exact he'
    · have hb' : b < s.heap.objs.size := by
        simp only [List.mem_cons, List.not_mem_nil, or_false] at hb
        rcases hb with z | z
        · rw [z]; exact hel
        · rw [z]; exact hil
      rw [upd_ne (Nat.ne_of_lt hb')]
      exact (hf b hb).1
  done := by
    intro X hP hw hK hc i pins s σ H E I hf st hg
    subst hP hw hK
    obtain ⟨⟨old, he⟩, hit⟩ := st
    obtain ⟨xs, hq, hx⟩ := hg
    obtain ⟨us, rv, p, la⟩ := row I hq
    obtain ⟨f0, f1, f2, f3, f4, f5⟩ := hf it (by simp)
    have hl := rv.length
    have hn : us.toArray.size = i := by simp; omega
    have hst : ItK t s.heap it a us.toArray.size ∧ IsK t s.heap a us.toArray := ⟨by rw [hn]; exact hit, p⟩
    exact wpAny_pyNext_enum_endD (draws t (A := X.A.in1) (I.ok.hd hc) (Z3.apart hit p) us.toArray) he hst fun h' eb => ⟨rfl, I.turned (t' := s.toks) (fun b o hb q => eb b o hb q) f0 f1 f3 f4 f5⟩
  self := fun A i s Q E st h => let ⟨⟨_, he⟩, _⟩ := st; wpAny_pyIter_enum he h
end EN
namespace PM
open PySem PySem.Spec PyProof.Rows L2 LB
section
variable {T : Tb} {K : PySem.W.Frag} {X : Cx} {e : Expr}
/-! ### a, (b, c): a name, then a tuple of names -/
end
end PM
namespace PM
open PySem PySem.Spec PyProof.Rows L2 LB
section
variable {T : Tb} {K : PySem.W.Frag} {X : Cx} {st : Stmt} {R : Bool}
/-! ### str(n), bool(n) -/
def oStrI : List PyData → Option PyData
  | [.int i] => if i.natAbs.log2 < 1920 then some (.str (toString i)) else none
  | _ => none
theorem cb_strI : CbD K T (fun xs H Q => ∃ i, xs = [.int i] ∧ i.natAbs.log2 < 1920 ∧ Q (.str (toString i)) H) oStrI := by
  intro P vs ds d ra h Q q
  unfold oStrI at h
  split at h
  · split at h
    · rename_i hl
      cases h
      cases ra with
      | cons r1 r2 =>
        cases r2
        rw [r1.int]
        exact ⟨_, rfl, hl, q _ P (Le.refl P) (.str _)⟩
    · cases h
  · cases h
/-! ### xs[a], ys[b] = v -/
end
end PM
namespace PM
open PySem PySem.Spec PyProof.Rows L2 LB
section
variable {T : Tb} {K : PySem.W.Frag} {X : Cx} {st : Stmt} {R : ER}
end
end PM
namespace PM
open PySem PySem.Spec PyProof.Rows L2 LB
section
variable {T : Tb} {K : PySem.W.Frag} {X : Cx} {st : Stmt} {R : ER}
end
end PM
namespace PM
open PySem PySem.Spec PyProof.Rows L2 LB
section
variable {T : Tb} {K : PySem.W.Frag} {X : Cx} {e : Expr}
/-! ### dict([(k, v), ..]), the keys texts, as a datum -/
/-! ### {k: v, ..}, the keys texts, as a datum -/
end
end PM
namespace PM
open PySem PySem.Spec PyProof.Rows L2 LB
section
variable {T : Tb} {K : PySem.W.Frag} {X : Cx} {e : Expr}
/-! ### sorted(d), d a datum dict with texts for keys -/
end
end PM
namespace PM
open PySem PySem.Spec PyProof.Rows L2 LB
section
variable {T : Tb} {K : PySem.W.Frag} {X : Cx} {st : Stmt} {R : ER}
end
end PM
namespace PM
open PySem PySem.Spec PyProof.Rows L2 LB
section
variable {X : Cx} {pins : List (Addr × Obj)} {σ : L2.St} {H : Hp} {s : Shared} {a b : Addr} {v : V} {r : Value} {A : Around} {E : Value → Shared → Prop}
/-! ### {k: v, ..}, the keys tuples, as one's own dict -/
end
section
variable {T : Tb} {K : PySem.W.Frag} {X : Cx} {e : Expr}
/-! ### from here on an own dict with tuple keys is a datum -/
end
section
variable {T : Tb} {K : PySem.W.Frag} {X : Cx} {st : Stmt} {R : ER}
end
end PM
namespace PM
open PySem PySem.Spec PyProof.Rows L2 LB
section
variable {T : Tb} {K : PySem.W.Frag} {X : Cx} {e : Expr}
/-! ### d[k], d one's own dict with tuple keys -/
end
end PM
namespace PM
open PySem PySem.Spec PyProof.Rows L2 LB
section
variable {T : Tb} {K : PySem.W.Frag} {X : Cx} {e : Expr}
/-! ### [..] * n -/
end
end PM
namespace PM
open PySem PySem.Spec PyProof.Rows L2 LB
section
variable {X : Cx} {pins : List (Addr × Obj)} {σ : L2.St} {H : Hp} {s : Shared}
/-! ### dict([(k, v), ..]), the keys tuples, as a datum -/
end
section
variable {T : Tb} {K : PySem.W.Frag} {X : Cx} {e : Expr}
end
end PM
namespace PM
open PySem PySem.Spec PyProof.Rows L2 LB
section
variable {T : Tb} {K : PySem.W.Frag} {X : Cx} {e : Expr}
/-! ### len(dict([(k, v), ..])), the keys tuples -/
end
end PM
namespace PM
open PySem PySem.Spec PyProof.Rows L2 LB
section
variable {T : Tb} {K : PySem.W.Frag} {X : Cx} {e : Expr}
/-! ### sorted(set(xs)), xs a list of pairs of whole numbers -/
end
end PM
namespace PM
open PySem PySem.Spec PyProof.Rows L2 LB
variable {T : Tb} {K : PySem.W.Frag} {X : Cx} {e : Expr}
/-! ### generator expressions with two fors -/
end PM
namespace PM
open PySem PySem.Spec PyProof.Rows L2 LB
variable {T : Tb} {K : PySem.W.Frag} {X : Cx}
end PM
namespace PM
open PySem PySem.Spec PyProof.Rows L2 LB
section
variable {T : Tb} {K : PySem.W.Frag} {X : Cx} {e : Expr} {sts : List Stmt} {R : ER}
/-! ### d = {k: [] for k in ..} where a key may come twice, then d[a].append(b) -/
theorem each_keys {P : Pr T} {kvs : List (Key × V)} {G : List (Str × List PyData)} (h : PySem.W.EachIs (DLs K P) kvs G) {k : Str} (hn : k ∉ G.map (·.1)) (v : V) : kvs.map (fun kv => if kv.1 = (.inr k : Key) then (kv.1, v) else kv) = kvs := by
  conv => rhs; rw [← List.map_id kvs]
  refine List.map_congr_left fun x hx => ?_
  refine if_neg fun z => ?_
  obtain ⟨b, hb, h1, _⟩ := h.left x hx
  rw [h1] at z
  exact hn (List.mem_map.mpr ⟨b, hb, by injection z⟩)
end
end PM
namespace GX
open PySem PySem.Spec PyProof.Rows L2 GenW
section
variable {X : Cx} {pins : List (Addr × Obj)} {σ : L2.St} {H : Hp} {s : Shared}
end
end GX
/-! ### sets of texts -/
namespace TX
open PySem PySem.Spec PyProof.Rows L2
def kS (e : Int × Value) : Str := match e.2 with
  | .str x _ => x
  | _ => Str.empty
def Ent (w : World) (e : Int × Value) : Prop := ∃ x u, e = (hashStr w x, Value.str x u)
/-- the set of texts at a, L the texts of its entries -/
def TxR (w : World) (h : Heap) (a : Addr) (L : List Str) : Prop :=
  ∃ o es ep t, h.get? a = some o ∧ o.ExactSet ∧ o.data = .set es ep t ∧ (∀ e ∈ es.toList, Ent w e) ∧ es.toList.map kS = L ∧ L.Nodup ∧ es.size < scanBound ∧ t.fits es.size = true ∧
    Ris t.place.toList ∧ (w.params.followText "set-order" = true ∨ t.led = true)
section
variable {P : Program} {w : World} {h h' : Heap} {a : Addr} {L : List Str}
theorem TxR.at (R : TxR w h a L) (k : ∀ o, h.get? a = some o → h'.get? a = some o) : TxR w h' a L := by
  obtain ⟨o, es, ep, t, ho, r⟩ := R
  exact ⟨o, es, ep, t, k o ho, r⟩
theorem ent_elems {l : List (Int × Value)} (g : ∀ e ∈ l, Ent w e) : ElemsOf (strKind P w) l := fun e he => by
  obtain ⟨x, u, rfl⟩ := g e he
  exact ⟨⟨x, strKind_is P w x u, rfl⟩, rfl⟩
theorem ent_is {e : Int × Value} (g : Ent w e) (k : Str) : (strKind P w).is k e.2 = decide (k = kS e) := by
  obtain ⟨x, u, rfl⟩ := g
  exact KeyKind.is_eq_decide (knd := strKind P w) (strKind_is P w x u) k
theorem laid {o : Obj} {es : Array (Int × Value)} {ep : Nat} {t : SetTable} (ho : h.get? a = some o) (hx : o.ExactSet) (hd : o.data = .set es ep t) {es1 : Array (Int × Value)} {t1 : SetTable}
    (g : ∀ e ∈ es1.toList, Ent w e) (nd : (es1.toList.map kS).Nodup) (hb : es1.size < scanBound) (hf : t1.fits es1.size = true) (hr : Ris t1.place.toList) (hl : w.params.followText "set-order" = true ∨ t1.led = true) :
    (h.update a (Obj.putSet es1 t1)).get? a = some { o with data := .set es1 (ep + 1) t1 } ∧ TxR w (h.update a (Obj.putSet es1 t1)) a (es1.toList.map kS) := by
  have ho1 := Heap.get?_update_self (Obj.putSet es1 t1) ho (by rw [putSet_of es1 t1 hd] <;> rfl)
  rw [putSet_of es1 t1 hd] at ho1
  exact ⟨ho1, _, es1, ep + 1, t1, ho1, hx, rfl, g, rfl, nd, hb, hf, hr, hl⟩
end
section
variable {P : Program} {w : World} {A : Around} {E : Value → Shared → Prop} {s : Shared} {a : Addr} {L : List Str}
theorem stored {ga : Bool → Sem Unit} (hg : ∀ (b : Bool) (u : Shared) (q : Unit → Shared → Prop), q () u → wpAny (model P w) A (ga b) q E u)
    {o : Obj} {es : Array (Int × Value)} {ep : Nat} {t : SetTable} (ho : s.heap.get? a = some o) (hx : o.ExactSet) (hd : o.data = .set es ep t) {es1 : Array (Int × Value)} {t1 : SetTable}
    (g : ∀ e ∈ es1.toList, Ent w e) (nd : (es1.toList.map kS).Nodup) (hb : es1.size < scanBound) (hf : t1.fits es1.size = true) (hr : Ris t1.place.toList) (hl : w.params.followText "set-order" = true ∨ t1.led = true)
    {wd : Bool} {R : Option Bool → Shared → Prop} (hR : ∀ h1 L1, Heap.SameBut a s.heap h1 → TxR w h1 a L1 → L1.Perm (es1.toList.map kS) → R (some true) { s with heap := h1 }) :
    wpAny (model P w) A (do
        storeSet a es1 t1
        if (!wd && t1.tooFull) = true then do
            ga (relayAll t1 es1 (SetTable.grown es1.size)).2.2
            storeSet a (relayAll t1 es1 (SetTable.grown es1.size)).1 (relayAll t1 es1 (SetTable.grown es1.size)).2.1
            pure (some true)
          else pure (some true)) R E s := by
  obtain ⟨ho1, R1⟩ := laid ho hx hd g nd hb hf hr hl
  refine wpAny_bind (wpAny_storeSet_of ho hd ?_ (fits_of_scanBound hb))
  have b1 := Heap.SameBut.update s.heap a (Obj.putSet es1 t1)
  by_cases c : (!wd && t1.tooFull) = true
  · rw [if_pos c]
    have p2 := relayAll_perm t1 es1 (SetTable.grown es1.size)
    have f2 := relayAll_fits t1 es1 (SetTable.grown es1.size)
    have r2 := relayAll_ris t1 es1 (SetTable.grown es1.size)
    have l2 := relayAll_led t1 es1 (SetTable.grown es1.size)
    generalize relayAll t1 es1 (SetTable.grown es1.size) = Z at p2 f2 r2 l2 ⊢
    obtain ⟨es2, t2, gv⟩ := Z
    dsimp only at p2 f2 r2 l2 ⊢
    have z2 : es2.size = es1.size := by rw [← Array.length_toList, p2.length_eq, Array.length_toList]
    have hb2 : es2.size < scanBound := by rw [z2]; exact hb
    obtain ⟨_, R2⟩ := laid (w := w) (a := a) ho1 hx rfl (es1 := es2) (t1 := t2) (fun e he => g e (p2.mem_iff.mp he)) ((p2.map kS).nodup_iff.mpr nd) hb2 f2 r2 (hl.imp id fun z => by rw [l2]; exact z)
    refine wpAny_bind (hg _ _ _ (wpAny_bind (wpAny_storeSet_of ho1 rfl ?_ (fits_of_scanBound hb2))))
    exact wpAny_pure (hR _ _ (b1.trans (Heap.SameBut.update _ a _)) R2 (p2.map kS))
  · rw [if_neg c]
    exact wpAny_pure (hR _ _ b1 R1 (List.Perm.refl _))
theorem ent_find {es : List (Int × Value)} (g : ∀ e ∈ es, Ent w e) (k : Str) : (∃ j, es.findIdx? (fun e => (strKind P w).is k e.2) = some j ∧ k ∈ es.map kS) ∨ (es.findIdx? (fun e => (strKind P w).is k e.2) = none ∧ k ∉ es.map kS) := by
  cases e : es.findIdx? (fun e => (strKind P w).is k e.2) with
  | some j =>
    obtain ⟨hj, pj, _⟩ := List.findIdx?_eq_some_iff_getElem.mp e
    have hm := List.getElem_mem hj
    rw [ent_is (g _ hm), decide_eq_true_iff] at pj
    exact .inl ⟨j, rfl, List.mem_map.mpr ⟨_, hm, pj.symm⟩⟩
  | none =>
    refine .inr ⟨rfl, fun z => ?_⟩
    obtain ⟨x, hx, ex⟩ := List.mem_map.mp z
    have := List.findIdx?_eq_none_iff.mp e x hx
    rw [ent_is (g _ hx), decide_eq_false_iff_not] at this
    exact this ex.symm
theorem put_in {k : Str} {u : Tok} {Q : Bool → Shared → Prop} (R : TxR w s.heap a L) (room : L.length + 1 < scanBound)
    (hQ : ∀ b h1 L1, Heap.SameBut a s.heap h1 → TxR w h1 a L1 → (k ∈ L → L1 = L) → (k ∉ L → L1.Perm (k :: L)) → Q b { s with heap := h1 }) :
    wpAny (model P w) A (setAddHashed a (.str k u) ((strKind P w).hash k)) Q E s := by
  obtain ⟨o, es, ep, t, ho, hx, hd, g, rfl, nd, hb, hf, hr, hl⟩ := id R
  have z0 : (es.toList.map kS).length = es.size := by rw [List.length_map, Array.length_toList]
  have hel : ElemsOf (strKind P w) es.toList := ent_elems g
  have sc : (Value.str k u).scannable = true := rfl
  have isk : (strKind P w).is k (.str k u) = true := strKind_is P w k u
  unfold setAddHashed setAddHashedIn
  refine wpAny_holding (wpAny_bind (wpAny_setState_of ho hd hf ?_))
  dsimp only
  rw [byScan_of sc hb hel]
  simp only [↓reduceIte]
  unfold setAddByScan
  refine wpAny_bind (wpAny_bind (wpAny_rule (wpAny_bind (wpAny_setScan_of isk ho hd hf hel ?_))))
  rcases ent_find (P := P) g k with ⟨j, ej, hm⟩ | ⟨ej, hm⟩
  · rw [ej]
    dsimp only
    refine wpAny_pure (wpAny_pure ?_)
    exact hQ _ s.heap _ (Heap.SameBut.refl a s.heap) R (fun _ => rfl) fun n => absurd hm n
  · rw [ej]
    dsimp only
    have giv : ∀ (b : Bool) {v : Shared} {q : Unit → Shared → Prop}, q () v → wpAny (model P w) A (match b with | true => rule "set.scan.the-table-gave-way" | false => pure ()) q E v := fun b v q z => by
      cases b
      · exact wpAny_pure z
      · exact wpAny_rule z
    have p1 := layNew_perm t es ((strKind P w).hash k) (.str k u)
    have f1 := layNew_fits t es ((strKind P w).hash k) (.str k u)
    have r1 := layNew_ris t es ((strKind P w).hash k) (.str k u) hr
    have l1 := layNew_led t es ((strKind P w).hash k) (.str k u)
    generalize layNew t es ((strKind P w).hash k) (.str k u) = Z at p1 f1 r1 l1 ⊢
    obtain ⟨es1, t1, wd, gv⟩ := Z
    dsimp only at p1 f1 r1 l1 ⊢
    rw [Array.toList_push] at p1
    have pc : es1.toList.Perm ((hashStr w k, Value.str k u) :: es.toList) := p1.trans (List.perm_append_singleton _ _)
    have pk : (es1.toList.map kS).Perm (k :: es.toList.map kS) := pc.map kS
    have g1 : ∀ e ∈ es1.toList, Ent w e := fun e he => (List.mem_cons.mp (pc.mem_iff.mp he)).elim (fun z => ⟨k, u, z⟩) (g e)
    have nd1 : (es1.toList.map kS).Nodup := pk.nodup_iff.mpr (List.nodup_cons.mpr ⟨hm, nd⟩)
    have hb1 : es1.size < scanBound := by
      have := pk.length_eq
      rw [List.length_map, List.length_cons, Array.length_toList] at this
      omega
    have led1 : w.params.followText "set-order" = true ∨ t1.led = true := hl.imp id fun z => by rw [l1]; exact z
    have fin : ∀ h1 L1, Heap.SameBut a s.heap h1 → TxR w h1 a L1 → L1.Perm (es1.toList.map kS) → Q true { s with heap := h1 } := fun h1 L1 sb r pm => hQ _ h1 L1 sb r (fun z => absurd z hm) fun _ => pm.trans pk
    refine wpAny_bind (giv _ ?_)
    split
    · refine wpAny_bind ?_
      rw [hashByValue_scannable 8 sc]
      refine wpAny_pure (stored ?_ ho hx hd g1 nd1 hb1 ?_ ?_ ?_ ?_)
      · exact fun b v q z => by cases b <;> first | exact wpAny_pure z | exact wpAny_rule z
      · split
        · exact f1
        · exact SetTable.fits_plain_off f1
      · split <;> exact r1
      · split <;> exact led1
      · intro h1 L1 sb r pm
        dsimp only
        exact wpAny_pure (fin h1 L1 sb r pm)
    · refine wpAny_bind (wpAny_pure ?_)
      simp only [↓reduceIte]
      refine stored ?_ ho hx hd g1 nd1 hb1 f1 r1 led1 ?_
      · exact fun b v q z => by cases b <;> first | exact wpAny_pure z | exact wpAny_rule z
      · intro h1 L1 sb r pm
        dsimp only
        exact wpAny_pure (fin h1 L1 sb r pm)
theorem fresh {h : Heap} {p : Addr} (ho : h.get? p = some { cls := .type "set", dict := none, data := .set #[] 0 (.fresh 0 0 (!w.params.followText "set-order")) }) : TxR w h p [] :=
  ⟨_, #[], 0, _, ho, ⟨rfl, rfl, rfl⟩, rfl, fun _ z => absurd z List.not_mem_nil, rfl, List.nodup_nil, by decide, rfl, List.Pairwise.nil, by
    show _ ∨ (!w.params.followText "set-order") = true
    cases w.params.followText "set-order"
    · exact .inr rfl
    · exact .inl rfl⟩
end
end TX
namespace TX
open PySem PySem.Spec PyProof.Rows L2
/-- what a set has when the first i of xs are in -/
def Has (xs : List Str) (i : Nat) (L : List Str) : Prop := (∀ x, x ∈ L ↔ x ∈ xs.take i) ∧ L.length ≤ i
theorem has_next {xs : List Str} {i : Nat} {x : Str} (e : xs[i]? = some x) {L L1 : List Str} (g : Has xs i L) (h1 : x ∈ L → L1 = L) (h2 : x ∉ L → L1.Perm (x :: L)) : Has xs (i + 1) L1 := by
  have et : xs.take (i + 1) = xs.take i ++ [x] := by
    rw [List.take_succ, e] <;> rfl
  obtain ⟨g1, g2⟩ := g
  by_cases c : x ∈ L
  · rw [h1 c]
    refine ⟨fun y => ?_, Nat.le_succ_of_le g2⟩
    rw [et, List.mem_append, List.mem_singleton, g1 y]
    exact ⟨.inl, fun z => z.elim id fun z => z ▸ (g1 x).mp c⟩
  · have pm := h2 c
    refine ⟨fun y => ?_, ?_⟩
    · rw [et, List.mem_append, List.mem_singleton, pm.mem_iff, List.mem_cons, g1 y]
      exact Or.comm
    · rw [pm.length_eq, List.length_cons]
      omega
theorem strs_nth : ∀ {us : List Value} {xs : List Str}, StrsAre us xs → ∀ {i : Nat} {v : Value}, us[i]? = some v → ∃ x u, xs[i]? = some x ∧ v = .str x u
  | _, _, .nil, i, v, h => by
    rw [List.getElem?_nil] at h
    cases h
  | _, _, .cons x u r, 0, v, h => ⟨x, u, rfl, (Option.some.inj h).symm⟩
  | _, _, .cons x u r, i + 1, v, h => strs_nth r (i := i) (by rw [List.getElem?_cons_succ] at h; exact h)
section
variable {P : Program} {w : World} {A : Around} {R : Result → Shared → Prop} {I : Addr} {fp wr : List Addr} {G : Array GenState → Array GenState → Prop} {n : Nat} {V : Nat → Value → Prop} {St : Nat → Shared → Prop}
theorem rounds (W : WalksS P w A.in1 I fp wr G n V St) {S : Addr} (hS : S ∉ fp) {xs : List Str} (few : n + 1 < scanBound) (hv : ∀ i v, V i v → ∃ x u, xs[i]? = some x ∧ v = .str x u) :
    ∀ (k i : Nat) (s : Shared), n - i = k → i ≤ n → St i s → (∃ L, TxR w s.heap S L ∧ Has xs i L) →
      (∀ s1 L, Moved (S :: wr) G s s1 → TxR w s1.heap S L → Has xs n L → R (.ok (.ret .none)) s1) → codeAny (model P w) A (.builtin "set.update.loop" ⟨[.ref S, .ref I], []⟩) R s := by
  have sw : S ∉ wr := fun z => hS (W.sub _ z)
  have up : ∀ b ∈ wr, b ∈ S :: wr := fun _ z => List.mem_cons_of_mem _ z
  intro k
  induction k with
  | zero =>
    intro i s ek hi st ⟨L, r, g⟩ q
    obtain rfl : i = n := by omega
    refine codeAny_builtin F.entry_set_update_loop ?_
    rw [Around.under_plainId F.plain_set_update_loop _]
    refine wpAny_bind (m := pyNext (.ref I)) (W.done s _ _ st fun s1 mv => ?_)
    exact wpAny_pure (q s1 L (mv.mono up) (r.at fun o e => mv.heap S o sw e) g)
  | succ k ih =>
    intro i s ek hi st ⟨L, r, g⟩ q
    have lt : i < n := by omega
    refine codeAny_builtin F.entry_set_update_loop ?_
    rw [Around.under_plainId F.plain_set_update_loop _]
    refine wpAny_bind (m := pyNext (.ref I)) (W.item i s _ _ lt st fun v s1 pv st1 mv => ?_)
    obtain ⟨x, u, ex, rfl⟩ := hv i v pv
    have r1 : TxR w s1.heap S L := r.at fun o e => mv.heap S o sw e
    show wpAny _ A.in1 (holding [Value.str x u] (setAdd S (.str x u)) >>= _) _ _ s1
    refine wpAny_bind (wpAny_holding ?_)
    unfold setAdd
    refine wpAny_holding (wpAny_bind ((strKind P w).pyHash (k := x) (strKind_is P w x u) ?_))
    have gl := g.2
    refine put_in (s := { s1 with toks := s1.toks + 1 }) r1 (by omega) fun b h1 L1 sb r2 c1 c2 => ?_
    refine wpAny_pure ⟨plainId_quiet F.plain_set_update_loop _, ih (i + 1) _ (by omega) lt (W.frame _ s1 _ _ st1 (Nat.le_succ _) fun b hb o e => ?_) ⟨L1, r2, has_next ex g c1 c2⟩ fun s2 L2 mv2 r3 g3 => ?_⟩
    · rw [sb.2 b fun z : b = S => hS (z ▸ hb)]
      exact e
    · refine q s2 L2 (Moved.trans W.gtrans ((mv.mono up).then_heap (Nat.le_succ _) fun b o hb e => ?_) mv2) r3 g3
      rw [sb.2 b fun z : b = S => hb (z ▸ List.mem_cons_self)]
      exact e
end
section
variable {P : Program} {w : World} {A : Around} {E : Value → Shared → Prop} {s : Shared}
def setObj (w : World) : Obj := { cls := .type "set", dict := none, data := .set #[] 0 (.fresh 0 0 (!w.params.followText "set-order")) }
def Told (P : Program) (w : World) (s : Shared) (xs : List Str) (E : Value → Shared → Prop) : Result → Shared → Prop := wants (fun v u => v = .none ∧ ∃ h1 tk L, u = { s with heap := h1, toks := tk } ∧ TxR w h1 s.heap.objs.size L ∧ Has xs xs.length L ∧ ∀ b o, s.heap.get? b = some o → h1.get? b = some o) E
theorem begun {l : Addr} {items : Array Value} {xs : List Str} (hi : StrsAre items.toList xs) (few : xs.length + 1 < scanBound) {it : Obj} {St : Nat → Heap → Prop} (hlt : l < s.heap.objs.size)
    (W : Walks P w A.in1 (s.heap.objs.size + 1) [s.heap.objs.size + 1, l] [s.heap.objs.size + 1] items.size (fun i v => items[i]? = some v) St) (h0 : St 0 ((s.heap.push (setObj w)).push it)) :
    codeAny (model P w) A (.builtin "set.update.loop" ⟨[.ref s.heap.objs.size, .ref (s.heap.objs.size + 1)], []⟩) (Told P w s xs E) { s with heap := (s.heap.push (setObj w)).push it } := by
  have iz : items.size = xs.length := by rw [← StrsAre.len_eq hi, Array.length_toList]
  have hS : ((s.heap.push (setObj w)).push it).get? s.heap.objs.size = some (setObj w) := Heap.get?_push_of_some _ (Heap.get?_push_size _ rfl)
  have out : s.heap.objs.size ∉ [s.heap.objs.size + 1, l] := fun z => by
    rcases List.mem_cons.mp z with z | z
    · exact Nat.ne_of_lt (Nat.lt_succ_self _) z
    · exact Nat.ne_of_gt hlt (List.mem_singleton.mp z)
  refine rounds W.toS out (xs := xs) (by omega) (fun i v hv => strs_nth hi (by rw [Array.getElem?_toList]; exact hv)) (items.size - 0) 0 _ rfl (Nat.zero_le _) h0 ⟨[], fresh hS, fun x => by rw [List.take_zero], Nat.le_refl _⟩ fun s1 L mv r g => ?_
  obtain ⟨h1, g1, d1, k1, o1⟩ := s1
  have eg : g1 = s.gens := mv.gens
  have ed : d1 = s.drawn := mv.drawn
  have eo : o1 = s.os := mv.os
  subst eg ed eo
  rw [iz] at g
  refine ⟨rfl, h1, k1, L, rfl, r, g, fun b o e => ?_⟩
  have lt := Heap.lt_size e
  refine mv.heap b o (fun z => ?_) (Heap.get?_push_of_some _ (Heap.get?_push_of_some _ e))
  rcases List.mem_cons.mp z with z | z
  · exact Nat.ne_of_lt lt z
  · exact Nat.ne_of_lt (Nat.lt_succ_of_lt lt) (List.mem_singleton.mp z)
set_option maxHeartbeats 4000000 in
theorem inited {l : Addr} {items : Array Value} {xs : List Str} (hh : A.handled = none) (hl : s.heap.IsList l items ∨ s.heap.IsTuple l items) (hi : StrsAre items.toList xs) (few : xs.length + 1 < scanBound) :
    codeAny (model P w) A (.call (.builtin "set.__init__") ⟨[.ref s.heap.objs.size, .ref l], []⟩) (Told P w s xs E) { s with heap := s.heap.push (setObj w) } := by
  have hS : (s.heap.push (setObj w)).get? s.heap.objs.size = some (setObj w) := Heap.get?_push_size _ rfl
  have tS : Shared.TypeIs { s with heap := s.heap.push (setObj w) } (.ref s.heap.objs.size) "set" := ⟨_, hS, rfl⟩
  have zs : (s.heap.push (setObj w)).objs.size = s.heap.objs.size + 1 := Heap.size_push ..
  refine codeAny_call_builtin F.called_set.init.plain F.entry_set_init (check_set_init_1 tS ?_)
  rcases hl with ⟨⟨oc, od, oo, os⟩, hol, hoc, on, hod⟩ | ⟨⟨oc, od, oo, os⟩, hol, hoc, on, hod⟩
  all_goals simp only at hoc hod
  all_goals subst hoc hod
  all_goals have hl1 := Heap.get?_push_of_some (setObj w) hol
  all_goals have lts := Heap.lt_size hol
  · have s1 := F.sub_list_set
    have s2 := F.sub_list_frozenset
    have ne : (Value.type "list" == Value.type "dict") = false := by decide
    have isl : (s.heap.push (setObj w)).IsList l items := ⟨_, hl1, rfl, on, rfl⟩
    unfold Builtin.«set.__init__» noKeywords Builtin.Frozenset.updateFrom
    generalize hPI : pyIter = PI
    wp_walk
    subst hPI
    refine wpAny_pyIter_list isl (wpAny_bind (wpAny_runValue ?_))
    rw [show ({ s with heap := s.heap.push (setObj w) } : Shared).heap.objs.size = s.heap.objs.size + 1 from zs]
    refine codeAny_mono (begun (A := A.in1) (E := E) hi few lts (it := { cls := .type "list_iterator", data := .fields #[.ref l, .int 0 0] }) (Walks.list (by simp [hh]) (s.heap.objs.size + 1) l (Nat.ne_of_lt (Nat.lt_succ_of_lt lts)) items) ⟨⟨_, (by rw [← zs]; exact Heap.get?_push_size _ rfl), rfl, rfl⟩, isl.push _⟩) fun r u hr => ?_
    rcases r with e0 | f0
    · exact hr
    rcases f0 with _ | v0 | _ | _
    all_goals try exact hr.elim
    obtain ⟨rfl, ht⟩ := hr
    exact wpAny_pure (wpAny_pure ⟨rfl, ht⟩)
  · have s1 := F.sub_tuple_set
    have s2 := F.sub_tuple_frozenset
    have ne : (Value.type "tuple" == Value.type "dict") = false := by decide
    have isl : (s.heap.push (setObj w)).IsTuple l items := ⟨_, hl1, rfl, on, rfl⟩
    unfold Builtin.«set.__init__» noKeywords Builtin.Frozenset.updateFrom
    generalize hPI : pyIter = PI
    wp_walk
    subst hPI
    refine wpAny_pyIter_tuple isl (wpAny_bind (wpAny_runValue ?_))
    rw [show ({ s with heap := s.heap.push (setObj w) } : Shared).heap.objs.size = s.heap.objs.size + 1 from zs]
    refine codeAny_mono (begun (A := A.in1) (E := E) hi few lts (it := { cls := .type "tuple_iterator", data := .fields #[.ref l, .int 0 0] }) (Walks.tuple (by simp [hh]) (s.heap.objs.size + 1) l (Nat.ne_of_lt (Nat.lt_succ_of_lt lts)) items) ⟨⟨_, (by rw [← zs]; exact Heap.get?_push_size _ rfl), rfl, rfl⟩, isl.push _⟩) fun r u hr => ?_
    rcases r with e0 | f0
    · exact hr
    rcases f0 with _ | v0 | _ | _
    all_goals try exact hr.elim
    obtain ⟨rfl, ht⟩ := hr
    exact wpAny_pure (wpAny_pure ⟨rfl, ht⟩)
set_option maxHeartbeats 4000000 in
theorem made {l : Addr} {items : Array Value} {xs : List Str} {Q : Value → Shared → Prop} (hh : A.handled = none) (hl : s.heap.IsList l items ∨ s.heap.IsTuple l items) (hi : StrsAre items.toList xs) (few : xs.length + 1 < scanBound)
    (hQ : ∀ h1 tk L, TxR w h1 s.heap.objs.size L → Has xs xs.length L → (∀ b o, s.heap.get? b = some o → h1.get? b = some o) → Q (.ref s.heap.objs.size) { s with heap := h1, toks := tk }) :
    wpAny (model P w) A (call (.type "set") [.ref l]) Q E s := by
  have iz : items.size = xs.length := by rw [← StrsAre.len_eq hi, Array.length_toList]
  have ⟨mc, mt, hmro⟩ := F.called_set.mro
  have made' := F.called_set.made
  have sub' := F.called_set.sub
  refine wpAny_call (codeAny_of_tree ?_)
  show wpAny _ _ (callAny (.type "set") _) _ _ _
  refine wpAny_pure ⟨Code.quiet_builtin _ (by decide +kernel), codeAny_builtin F.entry_type_call ?_⟩
  rw [Around.under_plain (weight_type_call_type "set" [.ref l] []) rfl]
  have nt := F.called_set.notType
  have cc := F.called_set.canCreate
  have tc := F.typeCall_set_1 (.ref l)
  repeat (any_goals (first | assumption | wp_step))
  refine codeAny_mono (code_set_led1 (.ref l) (E := E) (Q₁ := fun v u => v = .ref s.heap.objs.size ∧ u = { s with heap := s.heap.push (setObj w) }) ⟨rfl, rfl⟩) fun r0 s0 h0 => ?_
  rcases r0 with e0 | f0
  · exact h0
  rcases f0 with _ | v0 | _ | _
  all_goals try exact h0.elim
  obtain ⟨rfl, rfl⟩ := h0
  have hS : (s.heap.push (setObj w)).get? s.heap.objs.size = some (setObj w) := Heap.get?_push_size _ rfl
  have tS : Shared.TypeIs { s with heap := s.heap.push (setObj w) } (.ref s.heap.objs.size) "set" := ⟨_, hS, rfl⟩
  have il := F.called_set.init.lookup
  have ib := F.called_set.init.bind (.ref s.heap.objs.size)
  repeat (any_goals (first | assumption | wp_step))
  refine codeAny_mono (inited (A := A.in1) (E := E) hh hl hi few) fun r u hr => ?_
  rcases r with e0 | f0
  · exact hr
  rcases f0 with _ | v0 | _ | _
  all_goals try exact hr.elim
  obtain ⟨rfl, h1, tk, L, rfl, r, g, kp⟩ := hr
  repeat (any_goals (first | assumption | wp_step))
  exact hQ _ _ _ r g kp
end
end TX
namespace TX
open PySem PySem.Spec PyProof.Rows L2 PySem.W
section
variable {P : Program} {w : World} {A : Around} {E : Value → Shared → Prop} {s : Shared} {a : Addr} {L : List Str}
end
end TX
/-! ### tables of sets, up to 512 slots -/
namespace TZ
open PySem PySem.Spec PyProof.Rows L2
/-- the slots that come from x by i -> 5 i + 1 -/
def orb (m : Nat) : Nat → Nat → List Nat
  | 0, _ => []
  | n + 1, x => x :: orb m n ((x * 5 + 1) % (m + 1))
theorem lcg_shift (m x : Nat) : ∀ k, lcgI m ((x * 5 + 1) % (m + 1)) k = lcgI m x (k + 1)
  | 0 => rfl
  | k + 1 => by
    unfold lcgI
    rw [lcg_shift m x k]
theorem lcg_plus (m x a : Nat) : ∀ k, lcgI m (lcgI m x a) k = lcgI m x (a + k)
  | 0 => rfl
  | k + 1 => by
    have e := lcg_plus m x a k
    show (lcgI m (lcgI m x a) k * 5 + 1) % (m + 1) = (lcgI m x (a + k) * 5 + 1) % (m + 1)
    rw [e]
theorem orb_mem (m : Nat) : ∀ (n x y : Nat), y ∈ orb m n x → ∃ k, k < n ∧ lcgI m x k = y
  | 0, _, _, h => nomatch h
  | n + 1, x, y, h => by
    rcases List.mem_cons.mp h with e | h
    · exact ⟨0, Nat.succ_pos n, e.symm⟩
    · obtain ⟨k, lk, ek⟩ := orb_mem m n _ y h
      exact ⟨k + 1, Nat.succ_lt_succ lk, by rw [← lcg_shift]; exact ek⟩
def cycB (m : Nat) : Bool := ((List.range (m + 1)).all fun j => (orb m (m + 1) 0).contains j) && (lcgI m 0 (m + 1) == 0) && (m % 2 == 1) && decide (m ≤ 511)
theorem cyc7 : cycB 7 = true := by decide +kernel
theorem cyc31 : cycB 31 = true := by decide +kernel
theorem cyc127 : cycB 127 = true := by decide +kernel
theorem cyc511 : cycB 511 = true := by decide +kernel
/-- a mask whose round meets each slot -/
structure Cyc (m : Nat) : Prop where
  all : ∀ j, j ≤ m → ∃ k, k ≤ m ∧ lcgI m 0 k = j
  back : lcgI m 0 (m + 1) = 0
  odd : m % 2 = 1
  few : m ≤ 511
theorem cyc_of {m : Nat} (h : cycB m = true) : Cyc m := by
  unfold cycB at h
  rw [Bool.and_eq_true, Bool.and_eq_true, Bool.and_eq_true] at h
  obtain ⟨⟨⟨h1, h2⟩, h3⟩, h4⟩ := h
  refine ⟨fun j lj => ?_, beq_iff_eq.mp h2, beq_iff_eq.mp h3, of_decide_eq_true h4⟩
  have c := List.all_eq_true.mp h1 j (List.mem_range.mpr (Nat.lt_succ_of_le lj))
  obtain ⟨k, lk, ek⟩ := orb_mem m _ 0 j (List.contains_iff_mem.mp c)
  exact ⟨k, Nat.le_of_lt_succ lk, ek⟩
theorem Cyc.meet {m : Nat} (c : Cyc m) {i j : Nat} (li : i ≤ m) (lj : j ≤ m) : ∃ k, k ≤ m ∧ lcgI m i k = j := by
  obtain ⟨a, la, ea⟩ := c.all i li
  obtain ⟨b, lb, eb⟩ := c.all j lj
  subst ea
  by_cases h : a ≤ b
  · refine ⟨b - a, by omega, ?_⟩
    rw [lcg_plus, show a + (b - a) = b by omega, eb]
  · refine ⟨b + (m + 1) - a, by omega, ?_⟩
    rw [lcg_plus, show a + (b + (m + 1) - a) = (m + 1) + b by omega, ← lcg_plus, c.back, eb]
theorem Cyc.run {m : Nat} (c : Cyc m) (h : Int) {j : Nat} (lj : j ≤ m) : ∃ n, n ≤ m + 12 ∧ runI m (SetTable.bits h) n = j := by
  obtain ⟨k, lk, ek⟩ := c.meet (runI_le m (SetTable.bits h) 12) lj
  exact ⟨12 + k, by omega, (runI_tail (bits_lt h) k).trans ek⟩
theorem Cyc.way {m : Nat} (c : Cyc m) (h : Int) {j : Nat} (lj : j ≤ m) : ∃ k, k < 10 * SetTable.turns m ∧ L2.way m h k = j := by
  obtain ⟨n, ln, en⟩ := c.run h lj
  obtain ⟨k, lk, ek⟩ := run_nth m (SetTable.bits h) n
  refine ⟨k, ?_, (congrArg SetTable.Probe.j ek).trans en⟩
  show k < 10 * (m + 15)
  omega
theorem way_in (m : Nat) (h : Int) (k : Nat) : L2.way m h k ≤ m := by
  have li : SetTable.bits h % (m + 1) ≤ m := Nat.le_of_lt_succ (Nat.mod_lt _ (Nat.succ_pos _))
  have b := runEnd_bd li
  have q := nth_in (m := m) k (runAt m (SetTable.bits h % (m + 1)) (SetTable.bits h)) (show SetTable.bits h % (m + 1) + (SetTable.runEnd m (SetTable.bits h % (m + 1)) - SetTable.bits h % (m + 1)) ≤ m by omega)
  exact Nat.le_trans (Nat.le_add_right _ _) q
/-- a table without dummies in which each hash is found again -/
structure Tab (t : SetTable) (hs : List Int) : Prop where
  cyc : Cyc t.mask
  up : Ris t.place.toList
  none : t.dummies = #[]
  len : t.place.size = hs.length
  low : ∀ x ∈ t.place.toList, x ≤ t.mask
  met : ∀ (i : Nat) (h : Int) (j : Nat), hs[i]? = some h → t.place.toList[i]? = some j → ∃ k, L2.way t.mask h k = j ∧ ∀ c, c < k → L2.way t.mask h c ∈ t.place.toList
theorem Tab.free {t : SetTable} {hs : List Int} (T : Tab t hs) (few : hs.length ≤ t.mask) (h : Int) : ∃ K, K < 10 * SetTable.turns t.mask ∧ L2.way t.mask h K ∉ t.place.toList ∧ ∀ c, c < K → L2.way t.mask h c ∈ t.place.toList := by
  obtain ⟨j, lj, nj⟩ := st_missing t.place.toList (t.mask + 1) (by rw [Array.length_toList, T.len]; omega)
  obtain ⟨k, lk, ek⟩ := T.cyc.way h (Nat.le_of_lt_succ lj)
  obtain ⟨K, a1, a2, a3⟩ := st_least (p := fun k => L2.way t.mask h k ∉ t.place.toList) k (by show L2.way t.mask h k ∉ _; rw [ek]; exact nj)
  exact ⟨K, Nat.lt_of_le_of_lt a1 lk, a2, fun c lc => Classical.byContradiction fun z => a3 c lc z⟩
theorem Tab.ahead {t : SetTable} {hs : List Int} (T : Tab t hs) {h : Int} {K i j : Nat} (nK : L2.way t.mask h K ∉ t.place.toList) (ei : hs[i]? = some h) (ej : t.place.toList[i]? = some j) : ∃ k, k < K ∧ L2.way t.mask h k = j := by
  obtain ⟨k, e, b⟩ := T.met i h j ei ej
  rcases Nat.lt_or_ge k K with c | c
  · exact ⟨k, c, e⟩
  · rcases Nat.lt_or_eq_of_le c with c | c
    · exact absurd (b K c) nK
    · exact absurd (List.mem_of_getElem? (by rw [ej, ← e, ← c])) nK
/-- what stands behind one more is put in -/
structure Put (t t1 : SetTable) (hs : List Int) (h : Int) (p : Nat) : Prop where
  le : p ≤ hs.length
  tab : Tab t1 (hs.take p ++ h :: hs.drop p)
  mask : t1.mask = t.mask
  led : t1.led = t.led
  fill : t1.fill = hs.length + 1
theorem Tab.put {t : SetTable} {hs : List Int} (T : Tab t hs) {h : Int} {K : Nat} (nK : L2.way t.mask h K ∉ t.place.toList) (bK : ∀ c, c < K → L2.way t.mask h c ∈ t.place.toList) :
    (t.put (L2.way t.mask h K)).2 = SetTable.below t.place (L2.way t.mask h K) ∧ Put t (t.put (L2.way t.mask h K)).1 hs h (SetTable.below t.place (L2.way t.mask h K)) := by
  have jm := way_in t.mask h K
  obtain ⟨j, ej⟩ : ∃ j, j = L2.way t.mask h K := ⟨_, rfl⟩
  rw [← ej] at nK jm ⊢
  obtain ⟨c1, _, _⟩ := below_cut T.up j
  have pl : SetTable.below t.place j ≤ t.place.toList.length := c1
  have ph : SetTable.below t.place j ≤ hs.length := T.len ▸ c1
  have pp := put_place t j
  have np : t.place[SetTable.below t.place j]? ≠ some j := fun e => nK (List.mem_of_getElem? ((Array.getElem?_toList ..).trans e))
  have sz : (t.put j).1.place.size = hs.length + 1 := by
    rw [← Array.length_toList, pp, len_ins _ pl, Array.length_toList, T.len]
  have more : ∀ {x}, x ∈ t.place.toList → x ∈ (t.put j).1.place.toList := fun hx => pp ▸ mem_ins.2 (.inr hx)
  refine ⟨rfl, ph, ⟨T.cyc, ris_insert T.up np, put_dm T.none j, by rw [len_ins _ ph]; exact sz, fun x hx => ?_, fun i g y e1 e2 => ?_⟩, rfl, rfl, ?_⟩
  · rw [pp] at hx
    exact (mem_ins.1 hx).elim (fun e => e ▸ jm) (T.low x)
  · rw [tins_get hs ph] at e1
    rw [pp, tins_get _ pl] at e2
    show ∃ k, L2.way t.mask g k = y ∧ ∀ c, c < k → L2.way t.mask g c ∈ (t.put j).1.place.toList
    by_cases l1 : i < SetTable.below t.place j
    · rw [if_pos l1] at e1 e2
      obtain ⟨k, ek, bk⟩ := T.met i g y e1 e2
      exact ⟨k, ek, fun c lc => more (bk c lc)⟩
    · rw [if_neg l1] at e1 e2
      by_cases l2 : i = SetTable.below t.place j
      · rw [if_pos l2] at e1 e2
        cases e1
        cases e2
        exact ⟨K, ej.symm, fun c lc => more (bK c lc)⟩
      · rw [if_neg l2] at e1 e2
        obtain ⟨k, ek, bk⟩ := T.met _ g y e1 e2
        exact ⟨k, ek, fun c lc => more (bk c lc)⟩
  · show (t.put j).1.place.size + (t.put j).1.dummies.size = _
    rw [sz, put_dm T.none j]
    rfl
/-! #### all laid anew -/
theorem Cyc.slot {m : Nat} (c : Cyc m) (owner : Array (Option Nat)) (h : Int) {j : Nat} (lj : j ≤ m) (f : oAt owner j = none) :
    ∃ K, SetTable.layClean.free m owner (SetTable.turns m) (SetTable.bits h % (m + 1)) (SetTable.bits h) = some (L2.way m h K) ∧ oAt owner (L2.way m h K) = none ∧ ∀ k, k < K → oAt owner (L2.way m h k) ≠ none := by
  obtain ⟨n, ln, en⟩ := c.run h lj
  have e : oAt owner (L2.way m h (off m (SetTable.bits h % (m + 1)) (SetTable.bits h) n)) = none := by
    have w : L2.way m h (off m (SetTable.bits h % (m + 1)) (SetTable.bits h) n) = j := by
      unfold L2.way
      rw [nth_off, itL_run]
      exact en
    rw [w]
    exact f
  obtain ⟨K, a1, a2, a3⟩ := st_least (p := fun k => oAt owner (L2.way m h k) = none) _ e
  refine ⟨K, free_spec m owner (SetTable.turns m) n _ _ K (show n < m + 15 by omega) a1 (fun k lk => ?_) (by rw [show oAt owner (nth m _ K).j = none from a2]; rfl), a2, a3⟩
  have := a3 k lk
  show (oAt owner (L2.way m h k)).isNone = false
  cases z : oAt owner (L2.way m h k) with
  | none => exact absurd z this
  | some _ => rfl
theorem own_next {m : Nat} (c : Cyc m) {done : List Int} {owner : Array (Option Nat)} (W : Own m done owner) (ld : done.length ≤ m) (h : Int) :
    ∃ j, SetTable.layClean.free m owner (SetTable.turns m) (SetTable.bits h % (m + 1)) (SetTable.bits h) = some j ∧ Own m (done ++ [h]) (owner.setIfInBounds j (some done.length)) := by
  obtain ⟨ps, lps, ips⟩ := W.ps
  obtain ⟨f, lf, nf⟩ := st_missing ps (m + 1) (by omega)
  have of : oAt owner f = none := Classical.byContradiction fun z => nf (ips f (Nat.le_of_lt_succ lf) z)
  obtain ⟨K, e1, e2, e3⟩ := c.slot owner h (Nat.le_of_lt_succ lf) of
  have wm := way_in m h K
  have at1 := oAt_set_self (owner := owner) (some done.length) (show L2.way m h K < owner.size by rw [W.sz]; omega)
  have still : ∀ {i}, oAt owner i ≠ none → oAt (owner.setIfInBounds (L2.way m h K) (some done.length)) i ≠ none := fun {i} z => by
    by_cases q : i = L2.way m h K
    · subst q
      rw [at1]
      exact fun y => nomatch y
    · rw [oAt_set_ne _ q]
      exact z
  refine ⟨_, e1, ⟨by rw [Array.size_setIfInBounds]; exact W.sz, fun j k lj e => ?_, fun k lk => ?_, L2.way m h K :: ps, by simp [lps], fun j lj e => ?_⟩⟩
  · by_cases q : j = L2.way m h K
    · subst q
      rw [at1] at e
      cases e
      exact ⟨h, K, by simp, rfl, fun c lc => still (e3 c lc)⟩
    · rw [oAt_set_ne _ q] at e
      obtain ⟨g, G, b1, b2, b3⟩ := W.at_ j k lj e
      exact ⟨g, G, by rw [List.getElem?_append_left (List.getElem?_eq_some_iff.mp b1).1]; exact b1, b2, fun c lc => still (b3 c lc)⟩
  · rw [List.length_append] at lk
    by_cases q : k < done.length
    · obtain ⟨j, lj, e⟩ := W.all k q
      exact ⟨j, lj, by rw [oAt_set_ne _ fun z => by rw [z, e2] at e; exact nomatch e]; exact e⟩
    · have : k = done.length := by
        have : [h].length = 1 := rfl
        omega
      subst this
      exact ⟨_, wm, at1⟩
  · by_cases q : j = L2.way m h K
    · exact q ▸ List.mem_cons_self
    · rw [oAt_set_ne _ q] at e
      exact List.mem_cons_of_mem _ (ips j lj e)
theorem own_all {m : Nat} (c : Cyc m) : ∀ (rest done : List Int) (owner : Array (Option Nat)), Own m done owner → done.length + rest.length ≤ m →
    ∃ o1, rest.foldl (stepF m) (some (owner, done.length)) = some (o1, (done ++ rest).length) ∧ Own m (done ++ rest) o1
  | [], done, owner, W, _ => ⟨owner, by rw [List.append_nil]; rfl, by rw [List.append_nil]; exact W⟩
  | h :: rest, done, owner, W, ln => by
    have ln : done.length + (rest.length + 1) ≤ m := ln
    obtain ⟨j, e, W1⟩ := own_next c W (by omega) h
    obtain ⟨o1, f, W2⟩ := own_all c rest (done ++ [h]) _ W1 (by rw [List.length_append]; show done.length + 1 + _ ≤ m; omega)
    rw [List.append_assoc] at f W2
    rw [List.length_append] at f
    exact ⟨o1, by rw [List.foldl_cons, stepF_some e]; exact f, W2⟩
theorem again {M : Nat} (c : Cyc M) (t : SetTable) {hs : Array Int} {wanted : Nat} (hw : SetTable.sizeAbove wanted - 1 = M) (few : hs.size ≤ M) :
    ∃ t1 order, t.relaid hs wanted = some (t1, order) ∧ order.toList.Perm (List.range hs.size) ∧ Tab t1 (order.toList.map fun i => hs.getD i 0) ∧ t1.mask = M ∧ t1.led = t.led := by
  obtain ⟨o1, f, W⟩ := own_all c hs.toList [] _ (Own.init M) (by show 0 + _ ≤ M; rw [Array.length_toList]; omega)
  rw [List.nil_append] at W f
  have e : SetTable.layClean M hs = some o1 := by
    rw [layClean_eq]
    rw [show (some (Array.replicate (M + 1) (none : Option Nat), 0)) = some (Array.replicate (M + 1) none, ([] : List Int).length) from rfl, f]
    rfl
  have er : t.relaid hs wanted = some (tabOf t M o1, ((liveOf M o1).map (·.2)).toArray) := by
    rw [relaid_eq, hw, e]
    rfl
  have rl := ris_live (fun j => o1.getD j none) (List.range (M + 1)) (by unfold Ris; first | exact List.pairwise_lt_range | exact List.pairwise_lt_range _)
  have r1 : Ris ((liveOf M o1).map (·.1)) := rl.1
  have inr : ∀ x ∈ (liveOf M o1).map (·.1), x ∈ List.range (M + 1) := rl.2
  have nd : ((liveOf M o1).map (·.1)).Nodup := r1.imp fun q => Nat.ne_of_lt q
  have hit : ∀ k, k < hs.size → k ∈ (liveOf M o1).map (·.2) := fun k lk => by
    obtain ⟨j, b1, b2⟩ := W.all k (by rw [Array.length_toList]; exact lk)
    exact List.mem_map.mpr ⟨(j, k), (mem_live W.sz).2 ⟨b1, b2⟩, rfl⟩
  have lz : (liveOf M o1).length = hs.size := by
    obtain ⟨ps, p1, p2⟩ := W.ps
    have u1 := nat_nodup_len ((liveOf M o1).map (·.1)) ps nd fun x hx => by
      obtain ⟨⟨y, k⟩, hq, rfl⟩ := List.mem_map.mp hx
      have b := (mem_live W.sz).1 hq
      exact p2 y b.1 (by rw [b.2]; exact fun z => nomatch z)
    have u2 := nat_nodup_len (List.range hs.size) ((liveOf M o1).map (·.2)) List.nodup_range fun k hk => hit k (List.mem_range.mp hk)
    rw [List.length_map, p1] at u1
    rw [List.length_map, List.length_range] at u2
    have : hs.toList.length = hs.size := Array.length_toList
    omega
  refine ⟨_, _, er, perm_range hs.size _ (by rw [show (((liveOf M o1).map (·.2)).toArray).toList = (liveOf M o1).map (·.2) from rfl, List.length_map, lz]) hit, ⟨c, r1, rfl, ?_, fun x hx => Nat.le_of_lt_succ (List.mem_range.mp (inr x hx)), fun i h j e1 e2 => ?_⟩, rfl, rfl⟩
  · show ((liveOf M o1).map (·.1)).toArray.size = (((liveOf M o1).map (·.2)).map fun i => hs.getD i 0).length
    simp
  · have e1 : (((liveOf M o1).map (·.2)).map fun i => hs.getD i 0)[i]? = some h := e1
    have e2 : ((liveOf M o1).map (·.1))[i]? = some j := e2
    rw [List.getElem?_map, List.getElem?_map] at e1
    rw [List.getElem?_map] at e2
    cases q : (liveOf M o1)[i]? with
    | none =>
      rw [q] at e2
      exact nomatch e2
    | some y =>
      rw [q] at e1 e2
      cases e2
      have e1 : hs.getD y.2 0 = h := Option.some.inj e1
      have b := (mem_live W.sz).1 (List.mem_of_getElem? q)
      obtain ⟨g, K, a1, a2, a3⟩ := W.at_ _ _ b.1 b.2
      have : g = h := by
        rw [← e1, Array.getD_eq_getD_getElem?, ← Array.getElem?_toList, a1]
        rfl
      subst this
      refine ⟨K, a2, fun k lk => ?_⟩
      show L2.way M g k ∈ (liveOf M o1).map (·.1)
      cases z : oAt o1 (L2.way M g k) with
      | none => exact absurd z (a3 k lk)
      | some x => exact List.mem_map.mpr ⟨(L2.way M g k, x), (mem_live W.sz).2 ⟨way_in M g k, z⟩, rfl⟩
theorem size_a : SetTable.sizeAbove (SetTable.grown 5) = 32 := by decide +kernel
theorem size_b : SetTable.sizeAbove (SetTable.grown 19) = 128 := by decide +kernel
theorem size_c : SetTable.sizeAbove (SetTable.grown 77) = 512 := by decide +kernel
end TZ
/-! ### sets of tuples of whole numbers and texts -/
namespace TZ
open PySem PySem.Spec PyProof.Rows L2
abbrev hK (P : Program) (w : World) (k : List Key) : Int := tupleKeyHash (mixKind P w) k
abbrev IsK (P : Program) (w : World) (h : Heap) (k : List Key) (b : Addr) : Prop := IsTupleKey (mixKind P w) h k b
def Plainv (v : Value) : Prop := (∃ i t, v = .int i t) ∨ ∃ x t, v = .str x t
theorem plain_items {P : Program} {w : World} {k : List Key} {vs : List Value} (h : ItemsAre (mixKind P w) k vs) : ∀ v ∈ vs, Plainv v := by
  induction h with
  | nil => exact fun _ z => nomatch z
  | cons q _ ih =>
    intro v hv
    rcases List.mem_cons.mp hv with rfl | hv
    · rcases keyIs_shape q with ⟨i, t, _, e⟩ | ⟨x, t, _, e⟩
      · exact .inl ⟨i, t, e⟩
      · exact .inr ⟨x, t, e⟩
    · exact ih v hv
section
variable {P : Program} {w : World} {A : Around} {E : Value → Shared → Prop} {s : Shared}
theorem class_item {v : Value} (p : Plainv v) (n : Nat) : ofAClassStatement n v = pure false := by
  rcases p with ⟨i, t, rfl⟩ | ⟨x, t, rfl⟩ <;> cases n <;> rfl
theorem hash_item {v : Value} (p : Plainv v) (n : Nat) : ∃ b, hashByValue n v = pure b := by
  rcases p with ⟨i, t, rfl⟩ | ⟨x, t, rfl⟩ <;> cases n <;> exact ⟨_, rfl⟩
theorem class_tup {k : List Key} {b : Addr} {Q : Bool → Shared → Prop} (hb : IsK P w s.heap k b) (q : Q false s) : wpAny (model P w) A (ofAClassStatement 8 (.ref b)) Q E s := by
  have T := hb.typeIs
  obtain ⟨ob, its, n, eb, _, db, ib⟩ := hb
  unfold ofAClassStatement
  refine wpAny_bind (wpAny_typeOf T ?_)
  dsimp only
  have tt : (("tuple" : String) == "tuple") = true := by decide
  simp only [tt, if_true, Bool.not_true, Bool.false_eq_true, if_false]
  try refine wpAny_bind (wpAny_pure ?_)
  try simp only [Bool.not_true, Bool.false_eq_true, if_false]
  show wpAny _ _ (seqItems? (.ref b) >>= _) _ _ s
  refine wpAny_bind (wpAny_seqItems eb db ?_)
  dsimp only
  refine wpAny_bind ?_
  show wpAny _ _ (forIn its _ _) _ _ s
  rw [← Array.forIn_toList]
  refine wpAny_forIn_list _ (fun l r u => r.1 = none ∧ u = s ∧ ∀ v ∈ l, Plainv v) _ ?_ ?_ _ _ ⟨rfl, rfl, plain_items ib⟩
  · rintro v l r u ⟨hr, rfl, al⟩
    rw [class_item (al v List.mem_cons_self)]
    refine wpAny_bind (wpAny_pure ?_)
    simp only [Bool.false_eq_true, if_false]
    exact wpAny_pure ⟨rfl, rfl, fun z hz => al z (List.mem_cons_of_mem _ hz)⟩
  · rintro ⟨r1, r2⟩ u ⟨hr, rfl, _⟩
    obtain rfl : r1 = none := hr
    exact wpAny_pure q
theorem hash_tup {k : List Key} {b : Addr} {Q : Bool → Shared → Prop} (hb : IsK P w s.heap k b) (q : ∀ c, Q c s) : wpAny (model P w) A (hashByValue 8 (.ref b)) Q E s := by
  have T := hb.typeIs
  obtain ⟨ob, its, n, eb, _, db, ib⟩ := hb
  unfold hashByValue
  refine wpAny_bind (wpAny_specialOf T F.slot_tuple_hash.lookup ?_)
  show wpAny _ _ (seqItems? (.ref b) >>= _) _ _ s
  refine wpAny_bind (wpAny_seqItems eb db ?_)
  refine wpAny_bind ?_
  show wpAny _ _ (forIn its _ _) _ _ s
  rw [← Array.forIn_toList]
  refine wpAny_forIn_list _ (fun l r u => r.1 = none ∧ u = s ∧ ∀ v ∈ l, Plainv v) _ ?_ ?_ _ _ ⟨rfl, rfl, plain_items ib⟩
  · rintro v l r u ⟨hr, rfl, al⟩
    obtain ⟨c, ec⟩ := hash_item (al v List.mem_cons_self) 7
    rw [ec]
    refine wpAny_bind (wpAny_pure ?_)
    cases c
    · simp only [Bool.not_false, if_true]
      refine wpAny_pure ?_
      exact wpAny_pure (q _)
    · simp only [Bool.not_true, Bool.false_eq_true, if_false]
      exact wpAny_pure ⟨rfl, rfl, fun z hz => al z (List.mem_cons_of_mem _ hz)⟩
  · rintro ⟨r1, r2⟩ u ⟨hr, rfl, _⟩
    obtain rfl : r1 = none := hr
    exact wpAny_pure (q _)
theorem unseen {k : List Key} {b : Addr} {Q : Bool → Shared → Prop} (hb : IsK P w s.heap k b) {ys : List Value} (hy : ∀ y ∈ ys, ∃ m c, y = Value.ref c ∧ IsK P w s.heap m c) (q : Q false s) : wpAny (model P w) A (searchCouldBeSeen (.ref b) ys) Q E s := by
  unfold searchCouldBeSeen
  refine wpAny_bind ?_
  refine wpAny_forIn_list _ (fun l r u => r.1 = none ∧ u = s ∧ ∀ y ∈ l, ∃ m c, y = Value.ref c ∧ IsK P w s.heap m c) _ ?_ ?_ _ _ ⟨rfl, rfl, hy⟩
  · rintro v l r u ⟨hr, rfl, al⟩
    obtain ⟨m, c, rfl, hc⟩ := al v List.mem_cons_self
    have more := fun z hz => al z (List.mem_cons_of_mem _ hz)
    dsimp only
    by_cases same : (b == c || (carriedByValue (.ref b) && carriedByValue (.ref c))) = true
    · exact wp_if_pos same (wpAny_pure ⟨rfl, rfl, more⟩)
    · refine wp_if_neg same (wpAny_bind (wpAny_eqIsQuiet_tuple hb ?_))
      simp only [Bool.not_true, Bool.false_eq_true, if_false]
      refine wpAny_bind (wpAny_eqIsQuiet_tuple hc ?_)
      simp only [Bool.not_true, Bool.false_eq_true, if_false]
      refine wpAny_bind (class_tup hb ?_)
      simp only [Bool.false_eq_true, if_false]
      refine wpAny_bind (class_tup hc ?_)
      simp only [Bool.false_eq_true, if_false]
      exact wpAny_pure ⟨rfl, rfl, more⟩
  · rintro ⟨r1, r2⟩ u ⟨hr, rfl, _⟩
    obtain rfl : r1 = none := hr
    exact wpAny_pure q
def rws (P : Program) (w : World) (L : List (Addr × List Key)) : List (Int × Value) := L.map fun p => (hK P w p.2, Value.ref p.1)
/-- the set at a, L the tuples of its entries, each with what it holds -/
structure SetK (P : Program) (w : World) (h : Heap) (a : Addr) (L : List (Addr × List Key)) (es : Array (Int × Value)) (ep : Nat) (t : SetTable) : Prop where
  ob : ∃ o, h.get? a = some o ∧ o.ExactSet ∧ o.data = .set es ep t
  rows : es.toList = rws P w L
  tab : Tab t (L.map fun p => hK P w p.2)
  nd : (L.map (·.2)).Nodup
  tup : ∀ p ∈ L, IsK P w h p.2 p.1
  led : w.params.followText "set-order" = true ∨ t.led = true
  room : L.length * 5 < t.mask * 3
  few : L.length ≤ 300
variable {a : Addr} {L : List (Addr × List Key)} {es : Array (Int × Value)} {ep : Nat} {t : SetTable}
theorem rws_len (h : es.toList = rws P w L) : es.size = L.length := by
  rw [← Array.length_toList, h]
  exact List.length_map _
theorem SetK.fit (R : SetK P w s.heap a L es ep t) : t.fits es.size = true := by
  have l1 : t.place.size = L.length := R.tab.len.trans (List.length_map _)
  have l2 := rws_len R.rows
  have l3 := R.room
  unfold SetTable.fits SetTable.fill
  rw [R.tab.none, Bool.and_eq_true, beq_iff_eq, decide_eq_true_eq]
  refine ⟨by omega, ?_⟩
  show t.place.size + 0 ≤ t.mask
  omega
theorem SetK.entry (R : SetK P w s.heap a L es ep t) {i : Nat} {p : Addr × List Key} (e : L[i]? = some p) : es[i]? = some (hK P w p.2, .ref p.1) := by
  rw [← Array.getElem?_toList, R.rows]
  show (L.map _)[i]? = _
  rw [List.getElem?_map, e]
  rfl
theorem SetK.stays (R : SetK P w s.heap a L es ep t) : ¬ t.gaveWay = true := by
  have := R.tab.cyc.odd
  unfold SetTable.gaveWay
  rw [this]
  decide
theorem dummy_none (m : Nat) : ∀ (n : Nat) (p : SetTable.Probe), p.dummy = none → (nth m p n).dummy = none
  | 0, _, h => h
  | n + 1, p, h => dummy_none m n (adv m p) (by unfold adv; split <;> exact h)
/-- the way of the search from its c-th step on -/
theorem seek (R : SetK P w s.heap a L es ep t) {x : Addr} {k : List Key} (hx : IsK P w s.heap k x) (hu : A.units < cLine) {K : Nat} (lK : K < 10 * SetTable.turns t.mask)
    (nK : L2.way t.mask (hK P w k) K ∉ t.place.toList) (bK : ∀ c, c < K → L2.way t.mask (hK P w k) c ∈ t.place.toList) {Q : SetFound → Shared → Prop}
    (q1 : k ∈ L.map (·.2) → Q (.there none) s) (q2 : k ∉ L.map (·.2) → Q (.free (L2.way t.mask (hK P w k) K) false) s) :
    ∀ (f c : Nat) (at_ : Option SetTable.Probe), at_.getD (t.probeStart (hK P w k)) = nth t.mask (runAt t.mask (SetTable.bits (hK P w k) % (t.mask + 1)) (SetTable.bits (hK P w k))) c → c ≤ K → K < f + c →
      (∀ (i : Nat) (p : Addr × List Key), L[i]? = some p → p.2 = k → ∃ d, c ≤ d ∧ d < K ∧ t.place.toList[i]? = some (L2.way t.mask (hK P w k) d)) →
      wpAny (model P w) A (setSearchFrom a (.ref x) (hK P w k) true f at_) Q E s
  | 0, c, at_, _, lc, lf, _ => absurd lf (by omega)
  | f + 1, c, at_, eat, lc, lf, ahead => by
    obtain ⟨o, eo, xo, od⟩ := R.ob
    rw [setSearchFrom_succ]
    refine wpAny_bind (wpAny_setState_of eo od R.fit ?_)
    dsimp only
    refine wp_if_neg R.stays ?_
    try refine wpAny_bind (wpAny_pure ?_)
    have jw : ∀ q, (nth t.mask (nth t.mask (runAt t.mask (SetTable.bits (hK P w k) % (t.mask + 1)) (SetTable.bits (hK P w k))) c) q).j = L2.way t.mask (hK P w k) (c + q) := fun q => congrArg SetTable.Probe.j (nth_add t.mask c _ q).symm
    have spec := go_spec t R.tab.up R.tab.none (fun i => (es[i]?.map (·.1)).getD 0) (hK P w k) (10 * SetTable.turns t.mask) (K - c) _ (dummy_none t.mask c (runAt t.mask (SetTable.bits (hK P w k) % (t.mask + 1)) (SetTable.bits (hK P w k))) rfl) (by omega)
      (fun q lq => by rw [jw]; exact bK (c + q) (by omega)) (by rw [jw, show c + (K - c) = K by omega]; exact nK)
    have hat : ∀ (i : Nat) (p : Addr × List Key), L[i]? = some p → (es[i]?.map (·.1)).getD 0 = hK P w p.2 := fun i p e => by
      rw [R.entry e]
      rfl
    rcases spec with ⟨q, i, lq, ei, _, no, pr⟩ | ⟨no, pr⟩
    · rw [← eat] at pr
      rw [show t.probe (fun i => (es[i]?.map (·.1)).getD 0) (hK P w k) (at_.getD (t.probeStart (hK P w k))) = _ from pr]
      dsimp only
      rw [eat, jw] at *
      have li : i < L.length := by
        have l1 := (List.getElem?_eq_some_iff.mp ei).1
        have l2 : t.place.size = L.length := R.tab.len.trans (List.length_map _)
        rw [Array.length_toList] at l1
        omega
      obtain ⟨p, ep1⟩ : ∃ p, L[i]? = some p := ⟨_, List.getElem?_eq_getElem li⟩
      have mp : p ∈ L := List.mem_of_getElem? ep1
      have sl : t.slot (L2.way t.mask (hK P w k) (c + q)) = .live i := slot_live R.tab.up ei
      have rest : wpAny (model P w) A (searchRest a (.ref x) (hK P w k) true f es t (L2.way t.mask (hK P w k) (c + q)) i (nth t.mask (nth t.mask (runAt t.mask (SetTable.bits (hK P w k) % (t.mask + 1)) (SetTable.bits (hK P w k))) c) (q + 1))) Q E s := by
        unfold searchRest
        rw [R.entry ep1]
        dsimp only
        refine wpAny_bind (wpAny_holding (wpAny_eqBool_tuple hu (R.tup p mp) hx ?_))
        refine wpAny_bind (wpAny_setState_of eo od R.fit ?_)
        dsimp only
        by_cases pk : p.2 = k
        · refine wp_if_pos (by simp [pk]) (wpAny_pure (q1 ?_))
          exact List.mem_map.mpr ⟨p, mp, pk⟩
        · refine wp_if_neg (by simp [pk]) ?_
          try refine wpAny_bind (wpAny_pure ?_)
          rw [sameMem]
          dsimp only
          simp only [if_true, sl, R.entry ep1]
          refine wpAny_bind (wpAny_isSame_ref_self (wpAny_bind (wpAny_pure ?_)))
          simp only [if_true]
          refine wp_if_neg (by simp [pk]) ?_
          refine seek R hx hu lK nK bK q1 q2 f (c + (q + 1)) _ (nth_add t.mask c _ (q + 1)).symm (by omega) (by omega) fun i0 p0 e0 k0 => ?_
          obtain ⟨d, d1, d2, d3⟩ := ahead i0 p0 e0 k0
          refine ⟨d, ?_, d2, d3⟩
          rcases Nat.lt_trichotomy d (c + q) with z | z | z
          · refine absurd ((hat i0 p0 e0).trans (congrArg (hK P w) k0)) (no (d - c) i0 (by omega) ?_)
            rw [jw, show c + (d - c) = d by omega]
            exact d3
          · subst z
            have s0 := slot_live R.tab.up d3
            rw [sl] at s0
            injection s0 with s0
            subst s0
            rw [ep1] at e0
            cases e0
            exact absurd k0 pk
          · exact z
      by_cases hl : t.led = true
      · refine wp_if_neg (by simp [hl]) ?_
        try refine wpAny_bind (wpAny_pure ?_)
        exact rest
      · refine wp_if_pos (by simp [hl]) ?_
        refine wpAny_bind (unseen hx (fun y hy => ?_) ?_)
        · obtain ⟨e, me, rfl⟩ := List.mem_map.mp hy
          have m1 : e ∈ es ∧ e.1 = hK P w k := by simpa using me
          have m2 : e ∈ es.toList := by simpa using m1.1
          rw [R.rows] at m2
          obtain ⟨p2, mp2, rfl⟩ := List.mem_map.mp m2
          exact ⟨p2.2, p2.1, rfl, R.tup p2 mp2⟩
        · refine wp_if_neg (by decide) ?_
          try refine wpAny_bind (wpAny_pure ?_)
          exact rest
    · have ej : (nth t.mask (nth t.mask (runAt t.mask (SetTable.bits (hK P w k) % (t.mask + 1)) (SetTable.bits (hK P w k))) c) (K - c)).j = L2.way t.mask (hK P w k) K := by
        rw [jw, show c + (K - c) = K by omega]
      rw [← eat] at pr ej
      rw [show t.probe (fun i => (es[i]?.map (·.1)).getD 0) (hK P w k) (at_.getD (t.probeStart (hK P w k))) = _ from pr]
      dsimp only
      rw [ej]
      refine wpAny_pure (q2 fun mk => ?_)
      obtain ⟨p0, m0, k0⟩ := List.mem_map.mp mk
      obtain ⟨i0, li0, e0⟩ := List.getElem_of_mem m0
      have g0 : L[i0]? = some p0 := by rw [List.getElem?_eq_getElem li0, e0]
      obtain ⟨d, d1, d2, d3⟩ := ahead i0 p0 g0 k0
      refine no (d - c) i0 (by omega) ?_ ((hat i0 p0 g0).trans (congrArg (hK P w) k0))
      rw [jw, show c + (d - c) = d by omega]
      exact d3
theorem sought (R : SetK P w s.heap a L es ep t) {x : Addr} {k : List Key} (hx : IsK P w s.heap k x) (hu : A.units < cLine) {Q : SetFound → Shared → Prop} (q1 : k ∈ L.map (·.2) → Q (.there none) s)
    (q2 : ∀ K, k ∉ L.map (·.2) → L2.way t.mask (hK P w k) K ∉ t.place.toList → (∀ c, c < K → L2.way t.mask (hK P w k) c ∈ t.place.toList) → Q (.free (L2.way t.mask (hK P w k) K) false) s) :
    wpAny (model P w) A (setSearch a (.ref x) (hK P w k) true) Q E s := by
  have rm := R.room
  have sm := R.tab.cyc.few
  obtain ⟨K, lK, nK, bK⟩ := R.tab.free (by rw [List.length_map]; omega) (hK P w k)
  have lK2 : K < 10 * (t.mask + 15) := lK
  refine seek R hx hu lK nK bK q1 (fun n => q2 K n nK bK) 100000 0 none rfl (Nat.zero_le _) (by omega) fun i p e pk => ?_
  have e1 : (L.map fun p => hK P w p.2)[i]? = some (hK P w k) := by rw [List.getElem?_map, e, ← pk]; rfl
  have li : i < t.place.toList.length := by
    have l1 := (List.getElem?_eq_some_iff.mp e1).1
    have l2 := R.tab.len
    rw [Array.length_toList]
    omega
  obtain ⟨c, lc, ec⟩ := R.tab.ahead nK e1 (List.getElem?_eq_getElem li)
  exact ⟨c, Nat.zero_le _, lc, by rw [List.getElem?_eq_getElem li, ec]⟩
end
end TZ
namespace TZ
open PySem PySem.Spec PyProof.Rows L2
section
variable {P : Program} {w : World} {A : Around} {E : Value → Shared → Prop} {s : Shared} {a : Addr} {L : List (Addr × List Key)} {es : Array (Int × Value)} {ep : Nat} {t : SetTable}
theorem isK_but {h h' : Heap} {k : List Key} {b : Addr} {o : Obj} (hb : IsK P w h k b) (eo : h.get? a = some o) (od : o.data = .set es ep t) (sb : Heap.SameBut a h h') : IsK P w h' k b := by
  obtain ⟨ob, its, n, eb, cb, db, ib⟩ := hb
  refine ⟨ob, its, n, ?_, cb, db, ib⟩
  rw [sb.2 b fun z => ?_]
  · exact eb
  · subst z
    rw [eo] at eb
    cases eb
    rw [od] at db
    exact nomatch db
theorem isK_keep {h h' : Heap} {k : List Key} {b : Addr} (x : IsK P w h k b) (kp : ∀ c o, h.get? c = some o → h'.get? c = some o) : IsK P w h' k b := by
  obtain ⟨ob, its, n, eb, r⟩ := x
  exact ⟨ob, its, n, kp b ob eb, r⟩
theorem ins_perm {α : Type} (l : List α) (p : Nat) (x : α) : (l.take p ++ x :: l.drop p).Perm (x :: l) := by
  have q : (l.take p ++ x :: l.drop p).Perm (x :: (l.take p ++ l.drop p)) := List.perm_middle
  rwa [List.take_append_drop] at q
/-- rows in another order -/
theorem rows_by (L : List (Addr × List Key)) (es : Array (Int × Value)) (er : es.toList = rws P w L) : ∀ order : List Nat, (∀ i ∈ order, i < L.length) →
    ∃ L1 : List (Addr × List Key), order.filterMap (fun i => es[i]?) = rws P w L1 ∧ L1 = order.filterMap (fun i => L[i]?) ∧ (L1.map fun p => hK P w p.2) = order.map fun i => (es.map (·.1)).getD i 0
  | [], _ => ⟨[], rfl, rfl, rfl⟩
  | i :: order, lo => by
    obtain ⟨L1, a1, a2, a3⟩ := rows_by L es er order fun j hj => lo j (List.mem_cons_of_mem _ hj)
    have li := lo i List.mem_cons_self
    obtain ⟨p, ep⟩ : ∃ p, L[i]? = some p := ⟨_, List.getElem?_eq_getElem li⟩
    have ee : es[i]? = some (hK P w p.2, .ref p.1) := by
      rw [← Array.getElem?_toList, er]
      show (L.map _)[i]? = _
      rw [List.getElem?_map, ep]
      rfl
    refine ⟨p :: L1, ?_, ?_, ?_⟩
    · rw [List.filterMap_cons_some ee, a1]
      rfl
    · rw [List.filterMap_cons_some ep, a2]
    · have eh : (es.map (·.1))[i]? = some (hK P w p.2) := by rw [Array.getElem?_map, ee]; rfl
      rw [List.map_cons, List.map_cons, a3, Array.getD_eq_getD_getElem?, eh]
      rfl
theorem range_all {α : Type} (L : List α) : ∀ n, n ≤ L.length → (List.range n).filterMap (fun i => L[i]?) = L.take n
  | 0, _ => rfl
  | n + 1, ln => by
    rw [List.range_succ, List.filterMap_append, range_all L n (Nat.le_of_lt ln), List.take_succ, List.getElem?_eq_getElem ln, List.filterMap_cons_some (List.getElem?_eq_getElem ln)]
    rfl
/-- the table made larger -/
theorem grow {o : Obj} (eo : s.heap.get? a = some o) (xo : o.ExactSet) (od : o.data = .set es ep t) (er : es.toList = rws P w L) (sz : t.place.size = es.size) (dm : t.dummies = #[]) (fl : es.size ≤ t.mask)
    (nd : (L.map (·.2)).Nodup) (tup : ∀ p ∈ L, IsK P w s.heap p.2 p.1) (ld : w.params.followText "set-order" = true ∨ t.led = true) (few : L.length ≤ 300) {wanted M : Nat}
    (hw : SetTable.sizeAbove wanted = M + 1) (c : Cyc M) (rm : L.length * 5 < M * 3) {Q : Unit → Shared → Prop}
    (q : ∀ h' L' es' ep' t', Heap.SameBut a s.heap h' → SetK P w h' a L' es' ep' t' → L'.Perm L → t'.mask = M → Q () { s with heap := h' }) : wpAny (model P w) A (setRelay a wanted) Q E s := by
  have sl := rws_len er
  have fm := c.few
  have ft : t.fits es.size = true := by
    unfold SetTable.fits SetTable.fill
    rw [dm, Bool.and_eq_true, beq_iff_eq, decide_eq_true_eq]
    refine ⟨sz, ?_⟩
    show t.place.size + 0 ≤ t.mask
    omega
  obtain ⟨t1, order, e, pm, T, em, el⟩ := again c t (hs := es.map (·.1)) (wanted := wanted) (by rw [hw]; rfl) (by rw [Array.size_map, sl]; omega)
  rw [Array.size_map, sl] at pm
  obtain ⟨L1, r1, r2, r3⟩ := rows_by (P := P) (w := w) L es er order.toList fun i hi => List.mem_range.mp (pm.mem_iff.mp hi)
  have pL : L1.Perm L := by
    have := pm.filterMap fun i => L[i]?
    rw [← r2, range_all L L.length (Nat.le_refl _), List.take_length] at this
    exact this
  rw [← r3] at T
  have r1' : (order.filterMap (es[·]?)).toList = rws P w L1 := by first | (rw [Array.toList_filterMap]; exact r1) | simpa using r1
  have s2 : (order.filterMap (es[·]?)).size = es.size := by rw [rws_len r1', pL.length_eq, sl]
  rw [setRelay_eq]
  refine wpAny_bind (wpAny_setState_of eo od ft ?_)
  dsimp only
  refine wp_if_neg (by rw [sizeLine_eq, hw]; omega) ?_
  try refine wpAny_bind (wpAny_pure ?_)
  rw [e]
  dsimp only
  refine wpAny_bind ?_
  refine wp_if_neg (by rw [s2]; simp) ?_
  try refine wpAny_bind (wpAny_pure ?_)
  refine wpAny_pure ?_
  dsimp only
  refine wpAny_storeSet_of eo od ?_ (by rw [s2, sl, sizeLine_eq]; omega)
  have sb := Heap.SameBut.update s.heap a (Obj.putSet (order.filterMap (es[·]?)) t1)
  refine q _ L1 _ (ep + 1) t1 sb ⟨⟨_, store_at eo od, ⟨xo.1, xo.2.1, xo.2.2⟩, rfl⟩, r1', T, (pL.map (·.2)).nodup_iff.mpr nd, fun p hp => isK_but (tup p (pL.mem_iff.mp hp)) eo od sb, ld.imp id fun z => el.trans z, ?_, by rw [pL.length_eq]; exact few⟩ pL em
  rw [pL.length_eq, em]
  exact rm
/-- one of the four masks -/
def Four (m : Nat) : Prop := m = 7 ∨ m = 31 ∨ m = 127 ∨ m = 511
theorem mask_cases {m n : Nat} (lm : Four m) (l1 : n * 5 < m * 3) (l2 : (n + 1) * 5 ≥ m * 3) (few : n + 1 ≤ 300) :
    ∃ M, SetTable.sizeAbove (SetTable.grown (n + 1)) = M + 1 ∧ Cyc M ∧ (n + 1) * 5 < M * 3 ∧ Four M ∧ n + 1 ≤ m := by
  rcases lm with e | e | e | e
  · obtain rfl : n = 4 := by omega
    exact ⟨31, size_a, cyc_of cyc31, by decide, .inr (.inl rfl), by omega⟩
  · obtain rfl : n = 18 := by omega
    exact ⟨127, size_b, cyc_of cyc127, by decide, .inr (.inr (.inl rfl)), by omega⟩
  · obtain rfl : n = 76 := by omega
    exact ⟨511, size_c, cyc_of cyc511, by decide, .inr (.inr (.inr rfl)), by omega⟩
  · omega
/-- the set at a, with its tuples -/
def SetF (P : Program) (w : World) (h : Heap) (a : Addr) (L : List (Addr × List Key)) : Prop := ∃ es ep t, SetK P w h a L es ep t ∧ Four t.mask
theorem add_one (R : SetF P w s.heap a L) {x : Addr} {k : List Key} (hx : IsK P w s.heap k x) (hu : A.units < cLine) (few : L.length + 1 ≤ 300) {Q : Bool → Shared → Prop}
    (q : ∀ b h' L', Heap.SameBut a s.heap h' → SetF P w h' a L' → (k ∈ L.map (·.2) → L' = L) → (k ∉ L.map (·.2) → L'.Perm ((x, k) :: L)) → Q b { s with heap := h' }) :
    wpAny (model P w) A (setAddHashed a (.ref x) (hK P w k)) Q E s := by
  obtain ⟨es, ep, t, R, fm⟩ := R
  obtain ⟨o, eo, xo, od⟩ := R.ob
  have sl := rws_len R.rows
  have rm := R.room
  unfold setAddHashed
  refine wpAny_holding ?_
  rw [show (100000 : Nat) = 99999 + 1 from rfl, setAddHashedIn_succ]
  refine wpAny_bind (wpAny_setState_of eo od R.fit ?_)
  dsimp only
  refine wp_if_neg (by simp [byScan, Value.scannable]) ?_
  try refine wpAny_bind (wpAny_pure ?_)
  refine wpAny_bind (sought R hx hu (fun mk => ?_) fun K mk nK bK => ?_)
  · dsimp only
    exact wpAny_pure (q false s.heap L (Heap.SameBut.refl a s.heap) ⟨es, ep, t, R, fm⟩ (fun _ => rfl) fun z => absurd mk z)
  · dsimp only
    refine wpAny_bind (wpAny_setState_of eo od R.fit ?_)
    dsimp only
    obtain ⟨e2, B⟩ := R.tab.put nK bK
    generalize ept : t.put (L2.way t.mask (hK P w k) K) = pt at e2 B ⊢
    obtain ⟨t1, p⟩ := pt
    dsimp only at e2 B ⊢
    rw [← e2] at B
    have go : ∀ t2 : SetTable, Put t t2 (L.map fun p => hK P w p.2) (hK P w k) p → wpAny (model P w) A (do
        storeSet a (SetTable.insertAt es p (hK P w k, Value.ref x)) t2
        if (!false && t2.tooFull) = true then do
            setRelay a (SetTable.grown (es.size + 1))
            pure true
          else pure true) Q E s := fun t2 B => by
      have ie : (SetTable.insertAt es p (hK P w k, Value.ref x)).toList = rws P w (L.take p ++ (x, k) :: L.drop p) := by
        rw [SetTable.toList_insertAt, R.rows]
        unfold rws
        rw [List.map_append, List.map_cons, List.map_take, List.map_drop]
      have pm := ins_perm L p (x, k)
      have ln : (L.take p ++ (x, k) :: L.drop p).length = L.length + 1 := pm.length_eq
      have hh : (L.take p ++ (x, k) :: L.drop p).map (fun p => hK P w p.2) = (L.map fun p => hK P w p.2).take p ++ hK P w k :: (L.map fun p => hK P w p.2).drop p := by
        rw [List.map_append, List.map_cons, List.map_take, List.map_drop]
      have T1 := B.tab
      rw [← hh] at T1
      have nd1 : ((L.take p ++ (x, k) :: L.drop p).map (·.2)).Nodup := (pm.map (·.2)).nodup_iff.mpr (List.nodup_cons.mpr ⟨mk, R.nd⟩)
      have z1 := rws_len ie
      generalize SetTable.insertAt es p (hK P w k, Value.ref x) = es1 at ie z1 ⊢
      generalize L.take p ++ (x, k) :: L.drop p = L1 at pm ln T1 nd1 ie z1
      refine wpAny_bind (wpAny_storeSet_of eo od ?_ (by rw [z1, ln, sizeLine_eq]; omega))
      have sb := Heap.SameBut.update s.heap a (Obj.putSet es1 t2)
      have o1 := store_at (es' := es1) (t' := t2) eo od
      generalize s.heap.update a (Obj.putSet es1 t2) = h1 at sb o1 ⊢
      have tp1 : ∀ r ∈ L1, IsK P w h1 r.2 r.1 := fun r hr => (List.mem_cons.mp (pm.mem_iff.mp hr)).elim (fun e => by rw [e]; exact isK_but hx eo od sb) fun hr => isK_but (R.tup r hr) eo od sb
      have ld1 : w.params.followText "set-order" = true ∨ t2.led = true := R.led.imp id fun z => B.led.trans z
      have fl := B.fill
      rw [List.length_map] at fl
      by_cases tf : t2.tooFull = true
      · refine wp_if_pos (by simp [tf]) (wpAny_bind ?_)
        have full : (L.length + 1) * 5 ≥ t.mask * 3 := by
          have := tf
          unfold SetTable.tooFull at this
          rw [decide_eq_true_eq, fl, B.mask] at this
          exact this
        rw [sl]
        obtain ⟨M, m1, m2, m3, m4, m5⟩ := mask_cases fm rm full few
        refine grow (s := { s with heap := h1 }) o1 ⟨xo.1, xo.2.1, xo.2.2⟩ rfl ie ?_ T1.none (by rw [z1, ln, B.mask]; exact m5) nd1 tp1 ld1 (by rw [ln]; exact few) m1 m2 (by rw [ln]; exact m3) fun h2 L2 es2 ep2 t3 sb2 R2 pm2 em => ?_
        · have := T1.len
          rw [List.length_map] at this
          rw [this, z1]
        · exact wpAny_pure (q true h2 L2 (sb.trans sb2) ⟨es2, ep2, t3, R2, by rw [em]; exact m4⟩ (fun z => absurd z mk) fun _ => pm2.trans pm)
      · refine wp_if_neg (by simp [tf]) (wpAny_pure ?_)
        refine q true h1 L1 sb ⟨es1, ep + 1, t2, ⟨⟨_, o1, ⟨xo.1, xo.2.1, xo.2.2⟩, rfl⟩, ie, T1, nd1, tp1, ld1, ?_, by rw [ln]; exact few⟩, by rw [B.mask]; exact fm⟩ (fun z => absurd z mk) fun _ => pm
        have := tf
        unfold SetTable.tooFull at this
        rw [decide_eq_true_eq, fl] at this
        rw [ln]
        omega
    have alt : Put t { t1 with plain := false } (L.map fun p => hK P w p.2) (hK P w k) p := ⟨B.le, ⟨B.tab.cyc, B.tab.up, B.tab.none, B.tab.len, B.tab.low, B.tab.met⟩, B.mask, B.led, B.fill⟩
    split
    · refine wpAny_bind (hash_tup hx fun c => ?_)
      cases c
      · exact go _ alt
      · exact go _ B
    · refine wpAny_bind (wpAny_pure ?_)
      exact go _ B
end
end TZ
namespace TZ
open PySem PySem.Spec PyProof.Rows L2
/-- what a set has when the first i of ks are in -/
structure Hold (ks : List (Addr × List Key)) (i : Nat) (L : List (Addr × List Key)) : Prop where
  sub : ∀ p ∈ L, p ∈ ks.take i
  all : ∀ p ∈ ks.take i, p.2 ∈ L.map (·.2)
  few : L.length ≤ i
theorem Hold.next {ks L L1 : List (Addr × List Key)} {i : Nat} {x : Addr × List Key} (g : Hold ks i L) (e : ks[i]? = some x) (c1 : x.2 ∈ L.map (·.2) → L1 = L) (c2 : x.2 ∉ L.map (·.2) → L1.Perm (x :: L)) : Hold ks (i + 1) L1 := by
  have et : ks.take (i + 1) = ks.take i ++ [x] := by
    rw [List.take_succ, e]
    rfl
  by_cases c : x.2 ∈ L.map (·.2)
  · rw [c1 c]
    refine ⟨fun p hp => by rw [et]; exact List.mem_append_left _ (g.sub p hp), fun p hp => ?_, Nat.le_succ_of_le g.few⟩
    rw [et] at hp
    rcases List.mem_append.mp hp with z | z
    · exact g.all p z
    · exact List.mem_singleton.mp z ▸ c
  · have pm := c2 c
    refine ⟨fun p hp => ?_, fun p hp => ?_, by rw [pm.length_eq]; exact Nat.succ_le_succ g.few⟩
    · rw [et]
      rcases List.mem_cons.mp (pm.mem_iff.mp hp) with z | z
      · exact List.mem_append_right _ (List.mem_singleton.mpr z)
      · exact List.mem_append_left _ (g.sub p z)
    · rw [et] at hp
      refine (pm.map (·.2)).mem_iff.mpr ?_
      rcases List.mem_append.mp hp with z | z
      · exact List.mem_cons_of_mem _ (g.all p z)
      · exact List.mem_singleton.mp z ▸ List.mem_cons_self
section
variable {P : Program} {w : World} {A : Around} {E : Value → Shared → Prop} {s : Shared}
theorem SetF.keep {h h' : Heap} {a : Addr} {L : List (Addr × List Key)} (R : SetF P w h a L) (ka : ∀ o, h.get? a = some o → h'.get? a = some o) (kt : ∀ p ∈ L, IsK P w h' p.2 p.1) : SetF P w h' a L := by
  obtain ⟨es, ep, t, R, fm⟩ := R
  obtain ⟨o, eo, r⟩ := R.ob
  exact ⟨es, ep, t, ⟨⟨o, ka o eo, r⟩, R.rows, R.tab, R.nd, kt, R.led, R.room, R.few⟩, fm⟩
theorem fresh {h : Heap} {a : Addr} (eo : h.get? a = some (TX.setObj w)) : SetF P w h a [] :=
  ⟨#[], 0, _, ⟨⟨_, eo, ⟨rfl, rfl, rfl⟩, rfl⟩, rfl, ⟨cyc_of cyc7, List.Pairwise.nil, rfl, rfl, fun _ z => absurd z List.not_mem_nil, fun i h j z => nomatch (show (none : Option Int) = some h by rw [← z]; rfl)⟩, List.nodup_nil, fun _ z => absurd z List.not_mem_nil, by
    show _ ∨ (!w.params.followText "set-order") = true
    cases w.params.followText "set-order"
    · exact .inr rfl
    · exact .inl rfl, (show 0 * 5 < 7 * 3 by decide), (show 0 ≤ 300 by decide)⟩, .inl rfl⟩
theorem turns {I : Addr} {fp wr : List Addr} {G : Array GenState → Array GenState → Prop} {n : Nat} {V : Nat → Value → Prop} {St : Nat → Shared → Prop} {R : Result → Shared → Prop} (W : WalksS P w A.in1 I fp wr G n V St) {S : Addr} (nS : S ∉ fp)
    {ks : List (Addr × List Key)} (few : n ≤ 299) (hv : ∀ i v, V i v → ∃ p, ks[i]? = some p ∧ v = .ref p.1) {h0 : Heap} (hk : ∀ p ∈ ks, IsK P w h0 p.2 p.1) (n0 : h0.get? S = none) (nw : ∀ b ∈ wr, h0.get? b = none) (hu : A.in1.units < cLine) :
    ∀ (k i : Nat) (s : Shared), n - i = k → i ≤ n → St i s → (∀ b o, h0.get? b = some o → s.heap.get? b = some o) → (∃ L, SetF P w s.heap S L ∧ Hold ks i L) →
      (∀ s1 L, Moved (S :: wr) G s s1 → SetF P w s1.heap S L → Hold ks n L → (∀ b o, h0.get? b = some o → s1.heap.get? b = some o) → R (.ok (.ret .none)) s1) → codeAny (model P w) A (.builtin "set.update.loop" ⟨[.ref S, .ref I], []⟩) R s := by
  have sw : S ∉ wr := fun z => nS (W.sub _ z)
  have up : ∀ b ∈ wr, b ∈ S :: wr := fun _ z => List.mem_cons_of_mem _ z
  have kept : ∀ {s s1 : Shared}, Moved wr G s s1 → (∀ b o, h0.get? b = some o → s.heap.get? b = some o) → ∀ b o, h0.get? b = some o → s1.heap.get? b = some o := fun mv kp b o e =>
    mv.heap b o (fun z => nomatch (nw b z).symm.trans e) (kp b o e)
  have inks : ∀ {i : Nat} {L : List (Addr × List Key)}, Hold ks i L → ∀ p ∈ L, p ∈ ks := fun g p hp => List.mem_of_mem_take (g.sub p hp)
  intro k
  induction k with
  | zero =>
    intro i s ek li st kp ⟨L, r, g⟩ q
    obtain rfl : i = n := by omega
    refine codeAny_builtin F.entry_set_update_loop ?_
    rw [Around.under_plainId F.plain_set_update_loop _]
    refine wpAny_bind (m := pyNext (.ref I)) (W.done s _ _ st fun s1 mv => ?_)
    have kp1 := kept mv kp
    exact wpAny_pure (q s1 L (mv.mono up) (r.keep (fun o e => mv.heap S o sw e) fun p hp => isK_keep (hk p (inks g p hp)) kp1) g kp1)
  | succ k ih =>
    intro i s ek li st kp ⟨L, r, g⟩ q
    have lt : i < n := by omega
    refine codeAny_builtin F.entry_set_update_loop ?_
    rw [Around.under_plainId F.plain_set_update_loop _]
    refine wpAny_bind (m := pyNext (.ref I)) (W.item i s _ _ lt st fun v s1 pv st1 mv => ?_)
    obtain ⟨x, ex, rfl⟩ := hv i v pv
    have kp1 := kept mv kp
    have r1 : SetF P w s1.heap S L := r.keep (fun o e => mv.heap S o sw e) fun p hp => isK_keep (hk p (inks g p hp)) kp1
    have hx : IsK P w s1.heap x.2 x.1 := isK_keep (hk x (List.mem_of_getElem? ex)) kp1
    show wpAny _ A.in1 (holding [Value.ref x.1] (setAdd S (.ref x.1)) >>= _) _ _ s1
    refine wpAny_bind (wpAny_holding ?_)
    unfold setAdd
    refine wpAny_holding (wpAny_bind (wpAny_pyHash_tuple hu hx ?_))
    have gl := g.few
    refine add_one (s := { s1 with toks := s1.toks + (x.2.length + 1) }) r1 hx hu (by omega) fun b h1 L1 sb r2 c1 c2 => ?_
    have kp2 : ∀ b o, h0.get? b = some o → h1.get? b = some o := fun b o e => by
      rw [sb.2 b fun z : b = S => by rw [z, n0] at e; exact nomatch e]
      exact kp1 b o e
    refine wpAny_pure ⟨plainId_quiet F.plain_set_update_loop _, ih (i + 1) _ (by omega) lt (W.frame _ s1 _ _ st1 (Nat.le_add_right _ _) fun b hb o e => ?_) kp2 ⟨L1, r2, g.next ex c1 c2⟩ fun s2 L2 mv2 r3 g3 kp3 => ?_⟩
    · rw [sb.2 b fun z : b = S => nS (z ▸ hb)]
      exact e
    · refine q s2 L2 (Moved.trans W.gtrans ((mv.mono up).then_heap (Nat.le_add_right _ _) fun b o hb e => ?_) mv2) r3 g3 kp3
      rw [sb.2 b fun z : b = S => hb (z ▸ List.mem_cons_self)]
      exact e
def Gave (P : Program) (w : World) (s : Shared) (ks : List (Addr × List Key)) (E : Value → Shared → Prop) : Result → Shared → Prop := wants (fun v u => v = .none ∧ ∃ h1 tk L, u = { s with heap := h1, toks := tk } ∧ SetF P w h1 s.heap.objs.size L ∧ Hold ks ks.length L ∧ ∀ b o, s.heap.get? b = some o → h1.get? b = some o) E
theorem begun {l : Addr} {items : Array Value} {ks : List (Addr × List Key)} (ie : items.toList = ks.map fun p => Value.ref p.1) (hk : ∀ p ∈ ks, IsK P w s.heap p.2 p.1) (few : ks.length ≤ 299) (hu : A.in1.units < cLine) {it : Obj} {St : Nat → Heap → Prop} (ll : l < s.heap.objs.size)
    (W : Walks P w A.in1 (s.heap.objs.size + 1) [s.heap.objs.size + 1, l] [s.heap.objs.size + 1] items.size (fun i v => items[i]? = some v) St) (h0 : St 0 ((s.heap.push (TX.setObj w)).push it)) :
    codeAny (model P w) A (.builtin "set.update.loop" ⟨[.ref s.heap.objs.size, .ref (s.heap.objs.size + 1)], []⟩) (Gave P w s ks E) { s with heap := (s.heap.push (TX.setObj w)).push it } := by
  have iz : items.size = ks.length := by rw [← Array.length_toList, ie]; exact List.length_map _
  have eS : ((s.heap.push (TX.setObj w)).push it).get? s.heap.objs.size = some (TX.setObj w) := Heap.get?_push_of_some _ (Heap.get?_push_size _ rfl)
  have new : ∀ b, s.heap.objs.size ≤ b → s.heap.get? b = none := fun b lb => by
    cases z : s.heap.get? b with
    | none => rfl
    | some o => exact absurd (Heap.lt_size z) (Nat.not_lt.mpr lb)
  have out : s.heap.objs.size ∉ [s.heap.objs.size + 1, l] := fun z => by
    rcases List.mem_cons.mp z with z | z
    · exact Nat.ne_of_lt (Nat.lt_succ_self _) z
    · exact Nat.ne_of_gt ll (List.mem_singleton.mp z)
  refine turns W.toS out (ks := ks) (by omega) (fun i v hv => ?_) hk (new _ (Nat.le_refl _)) (fun b hb => new b (by rw [List.mem_singleton.mp hb]; exact Nat.le_succ _)) hu (items.size - 0) 0 _ rfl (Nat.zero_le _) h0 (fun b o e => Heap.get?_push_of_some _ (Heap.get?_push_of_some _ e))
    ⟨[], fresh eS, ⟨fun _ z => (nomatch z), fun p z => by rw [List.take_zero] at z; exact (nomatch z), Nat.le_refl _⟩⟩ fun s1 L mv r g kp => ?_
  · have q : items.toList[i]? = some v := by rw [Array.getElem?_toList]; exact hv
    rw [ie, List.getElem?_map] at q
    obtain ⟨p, ep, rfl⟩ := Option.map_eq_some_iff.mp q
    exact ⟨p, ep, rfl⟩
  · obtain ⟨h1, g1, d1, k1, o1⟩ := s1
    have eg : g1 = s.gens := mv.gens
    have ed : d1 = s.drawn := mv.drawn
    have eo : o1 = s.os := mv.os
    subst eg ed eo
    rw [iz] at g
    exact ⟨rfl, h1, k1, L, rfl, r, g, kp⟩
set_option maxHeartbeats 4000000 in
theorem inited {l : Addr} {items : Array Value} {ks : List (Addr × List Key)} (hh : A.handled = none) (hu : A.units + 3 < cLine) (hl : s.heap.IsList l items ∨ s.heap.IsTuple l items) (ie : items.toList = ks.map fun p => Value.ref p.1) (hk : ∀ p ∈ ks, IsK P w s.heap p.2 p.1) (few : ks.length ≤ 299) :
    codeAny (model P w) A (.call (.builtin "set.__init__") ⟨[.ref s.heap.objs.size, .ref l], []⟩) (Gave P w s ks E) { s with heap := s.heap.push (TX.setObj w) } := by
  have hS : (s.heap.push (TX.setObj w)).get? s.heap.objs.size = some (TX.setObj w) := Heap.get?_push_size _ rfl
  have tS : Shared.TypeIs { s with heap := s.heap.push (TX.setObj w) } (.ref s.heap.objs.size) "set" := ⟨_, hS, rfl⟩
  have zs : (s.heap.push (TX.setObj w)).objs.size = s.heap.objs.size + 1 := Heap.size_push ..
  refine codeAny_call_builtin F.called_set.init.plain F.entry_set_init (check_set_init_1 tS ?_)
  rcases hl with ⟨⟨oc, od, oo, os⟩, hol, hoc, on, hod⟩ | ⟨⟨oc, od, oo, os⟩, hol, hoc, on, hod⟩
  all_goals simp only at hoc hod
  all_goals subst hoc hod
  all_goals have hl1 := Heap.get?_push_of_some (TX.setObj w) hol
  all_goals have lts := Heap.lt_size hol
  · have s1 := F.sub_list_set
    have s2 := F.sub_list_frozenset
    have ne : (Value.type "list" == Value.type "dict") = false := by decide
    have isl : (s.heap.push (TX.setObj w)).IsList l items := ⟨_, hl1, rfl, on, rfl⟩
    unfold Builtin.«set.__init__» noKeywords Builtin.Frozenset.updateFrom
    generalize hPI : pyIter = PI
    wp_walk
    subst hPI
    refine wpAny_pyIter_list isl (wpAny_bind (wpAny_runValue ?_))
    rw [show ({ s with heap := s.heap.push (TX.setObj w) } : Shared).heap.objs.size = s.heap.objs.size + 1 from zs]
    refine codeAny_mono (begun (E := E) ie hk few (by simp only [Around.in1_units]; omega) lts (it := { cls := .type "list_iterator", data := .fields #[.ref l, .int 0 0] }) (Walks.list (by simp [hh]) (s.heap.objs.size + 1) l (Nat.ne_of_lt (Nat.lt_succ_of_lt lts)) items) ⟨⟨_, (by rw [← zs]; exact Heap.get?_push_size _ rfl), rfl, rfl⟩, isl.push _⟩) fun r u hr => ?_
    rcases r with e0 | f0
    · exact hr
    rcases f0 with _ | v0 | _ | _
    all_goals try exact hr.elim
    obtain ⟨rfl, ht⟩ := hr
    exact wpAny_pure (wpAny_pure ⟨rfl, ht⟩)
  · have s1 := F.sub_tuple_set
    have s2 := F.sub_tuple_frozenset
    have ne : (Value.type "tuple" == Value.type "dict") = false := by decide
    have isl : (s.heap.push (TX.setObj w)).IsTuple l items := ⟨_, hl1, rfl, on, rfl⟩
    unfold Builtin.«set.__init__» noKeywords Builtin.Frozenset.updateFrom
    generalize hPI : pyIter = PI
    wp_walk
    subst hPI
    refine wpAny_pyIter_tuple isl (wpAny_bind (wpAny_runValue ?_))
    rw [show ({ s with heap := s.heap.push (TX.setObj w) } : Shared).heap.objs.size = s.heap.objs.size + 1 from zs]
    refine codeAny_mono (begun (E := E) ie hk few (by simp only [Around.in1_units]; omega) lts (it := { cls := .type "tuple_iterator", data := .fields #[.ref l, .int 0 0] }) (Walks.tuple (by simp [hh]) (s.heap.objs.size + 1) l (Nat.ne_of_lt (Nat.lt_succ_of_lt lts)) items) ⟨⟨_, (by rw [← zs]; exact Heap.get?_push_size _ rfl), rfl, rfl⟩, isl.push _⟩) fun r u hr => ?_
    rcases r with e0 | f0
    · exact hr
    rcases f0 with _ | v0 | _ | _
    all_goals try exact hr.elim
    obtain ⟨rfl, ht⟩ := hr
    exact wpAny_pure (wpAny_pure ⟨rfl, ht⟩)
set_option maxHeartbeats 4000000 in
theorem made {l : Addr} {items : Array Value} {ks : List (Addr × List Key)} {Q : Value → Shared → Prop} (hh : A.handled = none) (hu : A.units + 8 < cLine) (hl : s.heap.IsList l items ∨ s.heap.IsTuple l items) (ie : items.toList = ks.map fun p => Value.ref p.1) (hk : ∀ p ∈ ks, IsK P w s.heap p.2 p.1) (few : ks.length ≤ 299)
    (hQ : ∀ h1 tk L, SetF P w h1 s.heap.objs.size L → Hold ks ks.length L → (∀ b o, s.heap.get? b = some o → h1.get? b = some o) → Q (.ref s.heap.objs.size) { s with heap := h1, toks := tk }) :
    wpAny (model P w) A (call (.type "set") [.ref l]) Q E s := by
  have iz : items.size = ks.length := by rw [← Array.length_toList, ie]; exact List.length_map _
  have ⟨mc, mt, hmro⟩ := F.called_set.mro
  have made' := F.called_set.made
  have sub' := F.called_set.sub
  refine wpAny_call (codeAny_of_tree ?_)
  show wpAny _ _ (callAny (.type "set") _) _ _ _
  refine wpAny_pure ⟨Code.quiet_builtin _ (by decide +kernel), codeAny_builtin F.entry_type_call ?_⟩
  rw [Around.under_plain (weight_type_call_type "set" [.ref l] []) rfl]
  have nt := F.called_set.notType
  have cc := F.called_set.canCreate
  have tc := F.typeCall_set_1 (.ref l)
  repeat (any_goals (first | assumption | wp_step))
  refine codeAny_mono (code_set_led1 (.ref l) (E := E) (Q₁ := fun v u => v = .ref s.heap.objs.size ∧ u = { s with heap := s.heap.push (TX.setObj w) }) ⟨rfl, rfl⟩) fun r0 s0 h0 => ?_
  rcases r0 with e0 | f0
  · exact h0
  rcases f0 with _ | v0 | _ | _
  all_goals try exact h0.elim
  obtain ⟨rfl, rfl⟩ := h0
  have hS : (s.heap.push (TX.setObj w)).get? s.heap.objs.size = some (TX.setObj w) := Heap.get?_push_size _ rfl
  have tS : Shared.TypeIs { s with heap := s.heap.push (TX.setObj w) } (.ref s.heap.objs.size) "set" := ⟨_, hS, rfl⟩
  have il := F.called_set.init.lookup
  have ib := F.called_set.init.bind (.ref s.heap.objs.size)
  repeat (any_goals (first | assumption | wp_step))
  refine codeAny_mono (inited (A := A.in1) (E := E) hh (by simp only [Around.in1_units]; omega) hl ie hk few) fun r u hr => ?_
  rcases r with e0 | f0
  · exact hr
  rcases f0 with _ | v0 | _ | _
  all_goals try exact hr.elim
  obtain ⟨rfl, h1, tk, L, rfl, r, g, kp⟩ := hr
  repeat (any_goals (first | assumption | wp_step))
  exact hQ _ _ _ r g kp
end
end TZ
namespace PM
open PySem PySem.Spec PyProof.Rows L2 LB
/-! ### len(set(xs)), sorted(set(xs)), xs a list or tuple of texts -/
section
variable {X : Cx} {K : PySem.W.Frag} {w : World}
end
section
variable {T : Tb} {K : PySem.W.Frag} {w : World}
def txD : List PyData → Option (List Str)
  | [] => some []
  | .str x :: l => (txD l).map (x :: ·)
  | _ :: _ => none
theorem txD_strs : ∀ l : List Str, txD (l.map .str) = some l
  | [] => rfl
  | x :: l => by
    show (txD (l.map .str)).map _ = _
    rw [txD_strs l]
    rfl
theorem txD_is : ∀ {ds : List PyData} {l : List Str}, txD ds = some l → ds = l.map .str
  | [], l, h => by
    cases h
    rfl
  | d :: ds, l, h => by
    unfold txD at h
    split at h
    · rename_i e
      cases e
    · rename_i x l0 e
      injection e with e1 e2
      subst e1 e2
      obtain ⟨r, er, rfl⟩ := map_eq h
      rw [txD_is er]
      rfl
    · cases h
theorem tx_rp {M : Hp} : ∀ {l : List Str} {xs : List V}, RpAll K M xs (l.map .str) → xs = l.map V.str
  | [], _, r => by
    cases r
    rfl
  | x :: l, _, r => by
    cases r with
    | cons r1 r2 =>
      cases r1
      rw [tx_rp r2]
      rfl
variable {X : Cx} {e : Expr} {a : MA}
end
end PM
namespace PM
open PySem PySem.Spec PyProof.Rows L2 LB
/-! ### xs.extend(ys), ys a list -/
variable {T : Tb} {K : PySem.W.Frag} {X : Cx}
end PM
namespace PM
open PySem PySem.Spec PyProof.Rows L2 LB
variable {T : Tb} {K : PySem.W.Frag} {X : Cx} {e : Expr}
/-! ### list comprehensions with two fors -/
/-- all stands but the new list, which grows -/
structure LeX (D : Addr) (P P' : Pr T) : Prop where
  m : Ex P.M P'.M
  h : ∀ b o, b ≠ D → P.H b = some o → (∀ ps, o ≠ HO.tbl ps) → P'.H b = some o
  f : ∀ a, P.M a = none → P'.M a ≠ none → Opn P.H a
  n : P'.M D = none
theorem Le.x {D : Addr} {P P' : Pr T} (l : Le P P') (n : P'.M D = none) : LeX D P P' := ⟨l.m, fun b o _ e q => l.h b o e q, l.f, n⟩
theorem LeX.trans {D : Addr} {A B C : Pr T} (l1 : LeX D A B) (l2 : LeX D B C) : LeX D A C := by
  refine ⟨l1.m.trans l2.m, fun b o ne e q => l2.h b o ne (l1.h b o ne e q) q, fun a h1 h2 => ?_, l2.n⟩
  by_cases hb : B.M a = none
  · have ne : a ≠ D := fun z => h2 (by rw [z]; exact l2.n)
    have key : ∀ o, A.H a = some o → (∃ ps, o = HO.tbl ps) ∨ B.H a = some o := fun o ho => by
      by_cases t : ∃ ps, o = HO.tbl ps
      · exact .inl t
      · exact .inr (l1.h a o ne ho fun ps z => t ⟨ps, z⟩)
    rcases l2.f a hb h2 with lo | ⟨vs, tv⟩
    · exact .inl fun o ho => (key o ho).elim id fun z => lo o z
    · cases ha : A.H a with
      | none => exact .inl (loose_none ha)
      | some o =>
        rcases key o ha with t | z
        · exact .inl fun o' ho' => by
            rw [ha] at ho'
            cases ho'
            exact t
        · rw [tv] at z
          cases z
          exact .inr ⟨vs, ha⟩
  · exact l1.f a h1 hb
theorem own_noneX {D : Addr} {P P' : Pr T} (l : LeX D P P') {p : Addr} {o : HO} (h : P.M p = none) (e : P.H p = some o) (n : Plain o) (n2 : ∀ vs, o ≠ .tup vs) : P'.M p = none := by
  cases z : P'.M p with
  | none => rfl
  | some u =>
    rcases l.f p h (by rw [z]; exact fun q => nomatch q) with w | ⟨vs, w⟩
    · obtain ⟨ps, w⟩ := w o e
      exact absurd w (n ps)
    · rw [e] at w
      exact absurd (Option.some.inj w) (n2 vs)
/-- from a state on which the new list stands, to one where it has grown -/
theorem St.grow {Pb P P0 Pn : Pr T} {σ : L2.St} {ρ : Ev} {D : Addr} {a0 a1 : List V} (s : St K Pb P σ ρ) (hD : Pb.H D = some (.lst a0)) (hP : P.H D = some (.lst a1)) (hb : ∀ p, p ≠ D → Loose Pb.H p → Loose P0.H p) (l : LeX D P Pn) (le : Le P0 Pn) : St K P0 Pn σ ρ := by
  have ne : ∀ {p : Addr}, Loose Pb.H p → p ≠ D := fun h z => Loose.lst (z ▸ h) hD
  refine ⟨le, s.len, fun i x h => ?_, s.dis, fun i d p h1 h2 => hb p (ne (s.fr i d p h1 h2)) (s.fr i d p h1 h2), s.od.1, fun i ks p h1 h2 => hb p (ne (s.od.2 i ks p h1 h2)) (s.od.2 i ks p h1 h2)⟩
  obtain ⟨o, h1, h2⟩ := s.ok i x h
  refine ⟨o, h1, ?_⟩
  cases h2 with
  | no => exact .no
  | val r => exact .val (r.ext l.m)
  | exn => exact .exn
  | own q =>
    have np := ne (s.fr i _ _ h h1)
    refine .own ?_
    cases q with
    | lst h1 h2 h3 => exact .lst (own_noneX l h1 h2 (fun _ z => nomatch z) fun _ z => nomatch z) (l.h _ _ np h2 fun _ z => nomatch z) (h3.ext l.m)
    | dT h1 h2 h3 => exact .dT (own_noneX l h1 h2 (fun _ z => nomatch z) fun _ z => nomatch z) (l.h _ _ np h2 fun _ z => nomatch z) (h3.mono fun _ _ r => ⟨r.1, r.2.ext l.m⟩)
  | @ods pp _ _ w1 w2 w3 =>
    have np : pp ≠ D := fun z => by
      rw [z, hP] at w2
      cases w2
    exact .ods (own_noneX l w1 w2 (fun _ z => nomatch z) fun _ z => nomatch z) (l.h _ _ np w2 fun _ z => nomatch z) (w3.mono fun _ _ r => ⟨r.1, r.2.ext l.m⟩)
  | @lck pp _ _ _ w1 w2 w3 =>
    have np : pp ≠ D := fun z => by
      rw [z, hP] at w2
      cases w2
    exact .lck (own_noneX l w1 w2 (fun _ z => nomatch z) fun _ z => nomatch z) (l.h _ _ np w2 fun _ z => nomatch z) (w3.mono fun _ _ r => ⟨r.1, r.2.ext l.m⟩)
theorem OwnAt.list {P : Pr T} {p : Addr} {ds : List PyData} (h : OwnAt K P p (.list ds)) : ∃ xs, P.M p = none ∧ P.H p = some (.lst xs) ∧ RpAll K P.M xs ds := by
  cases h with
  | lst h1 h2 h3 => exact ⟨_, h1, h2, h3⟩
end PM
namespace PM
open PySem PySem.Spec PyProof.Rows L2 LB
/-! ### sorted(xs, key=lambda z: z[0]), xs a list of tuples whose first items are texts -/
structure LamF (x : Str) (scope : Scope) : Prop where
  kind : scope.kind = .function
  co : scope.isCoroutine = false
  gen : scope.isGenerator = false
  cell : ∀ y ∈ scope.names, y.2 ≠ .cell
  free : ∀ y ∈ scope.names, y.2 ≠ .free
  loc : scope.names.lookup x = some .local
section
variable {prog : Program} {w : World} {A : Around} {s : Shared} {E : Value → Shared → Prop}
end
def fstS : PyData → Str
  | .tuple (.str x :: _) => x
  | _ => Str.empty
section
variable {T : Tb} {K : PySem.W.Frag} {X : Cx} {e : Expr}
end
end PM
namespace PM
open PySem PySem.Spec PyProof.Rows L2 LB
/-! ### xs += ys, xs a list of one's own, ys a new one -/
variable {T : Tb} {K : PySem.W.Frag} {X : Cx}
def mAugL (i : Nat) (a : ME) : MS := fun ρ => (a ρ).bind fun d => match ρ[i]?, d with
  | some (.own (.list ds)), .list es => if ds.length + es.length ≤ 100000 then some (.nx (ρ.set i (.own (.list (ds ++ es))))) else none
  | _, _ => none
theorem s_augL {st : Stmt} {R : ER} {i : Nat} {a : ME} (h : PS X st (tAug i (tF K T a) rExt2)) : PS X st (tSR K T R (mAugL i a)) := ps_to h fun D σ H ⟨P0, P, ρ, o, h1, s, h2, q⟩ => by
  subst h1
  obtain ⟨d, e1, h3⟩ := bind_eq h2
  split at h3
  · rename_i ds es hd
    split at h3
    · rename_i hlt
      cases h3
      obtain ⟨u, g1, g2⟩ := s.ok i _ hd
      cases g2 with
      | @own p _ r =>
        refine ⟨_, g1, P0, P, ρ, _, rfl, s, e1, fun b P' l rv _ => ?_⟩
        have r' := r.up l
        cases r' with
        | @lst xs _ a1 a2 a3 =>
          obtain ⟨zs, b1, b2, ra⟩ := rv.list
          obtain ⟨Q', hQ, hQ', s'⟩ := (s.up l).mut (o' := .lst (xs ++ zs)) (d' := .list (ds ++ es)) hd g1 a1 a2 (fun _ z => nomatch z) (fun _ _ z => by unfold LamX.CodeO at z; cases z) fun R hM hH => .lst (by rw [hM]; exact a1) (by rw [hH]; exact upd_same) (by rw [hM]; exact RpAll.append a3 ra)
          refine ⟨p, b, xs, zs, rfl, rfl, a2, b2, ?_, ?_⟩
          · have e2 := a3.length
            have e3 := ra.length
            exact Nat.le_trans (by omega) (show 100000 ≤ sizeLine by decide)
          · have es : σ.set i (some (.ref p)) = σ := by
              refine List.ext_getElem? fun k => ?_
              by_cases z : i = k
              · subst z
                rw [List.getElem?_set_self (List.getElem?_eq_some_iff.mp g1).1, g1]
              · rw [List.getElem?_set_ne z]
            show D.nx (σ.set i (some (.ref p))) (upd P'.H p (.lst (xs ++ zs)))
            rw [es, ← hQ']
            exact q Q' σ s'
    · cases h3
  · cases h3
theorem x_augL {i : Nat} {a : ME} {ρ : Ev} {ds es : List PyData} (h : a ρ = some (.list es)) (ho : ρ[i]? = some (.own (.list ds))) (hl : ds.length + es.length ≤ 100000) : mAugL i a ρ = some (.nx (ρ.set i (.own (.list (ds ++ es))))) := by
  unfold mAugL
  rw [h, ho]
  show (if ds.length + es.length ≤ 100000 then _ else none) = _
  rw [if_pos hl]
end PM
namespace PM
open PySem PySem.Spec PyProof.Rows L2 LB
variable {T : Tb} {K : PySem.W.Frag} {X : Cx} {e : Expr}
/-! ### all(.. for .. in .. for .. in ..) -/
end PM
namespace PM
open PySem PySem.Spec PyProof.Rows L2 LB
section
variable {T : Tb} {K : PySem.W.Frag} {X : Cx} {e : Expr} {st : Stmt} {sts : List Stmt} {R : ER}
variable {P0 P P' : Pr T} {p q1 q2 : Addr} {a b : List PyData} {σ : L2.St} {ρ : Ev}
/-! ### a tuple of two new lists is taken apart, and told on -/
theorem Two.up (t : Two K P p q1 q2 a b) (l : Le P P') : Two K P' p q1 q2 a b := by
  obtain ⟨xs, k1, k2⟩ := t.l1
  obtain ⟨ys, k3, k4⟩ := t.l2
  exact ⟨l.h _ _ t.tp (fun _ z => (nomatch z)), t.ne, (own_none l t.m1 k1 (fun _ z => (nomatch z)) fun _ z => (nomatch z)), (own_none l t.m2 k3 (fun _ z => (nomatch z)) fun _ z => (nomatch z)), ⟨xs, l.h _ _ k1 (fun _ z => (nomatch z)), k2.ext l.m⟩, ⟨ys, l.h _ _ k3 (fun _ z => (nomatch z)), k4.ext l.m⟩⟩
theorem Two.o1 (t : Two K P p q1 q2 a b) : OwnAt K P q1 (.list a) := by
  obtain ⟨xs, k1, k2⟩ := t.l1
  exact .lst t.m1 k1 k2
theorem Two.o2 (t : Two K P p q1 q2 a b) : OwnAt K P q2 (.list b) := by
  obtain ⟨xs, k1, k2⟩ := t.l2
  exact .lst t.m2 k1 k2
theorem St.apart (s : St K P0 P σ ρ) {p : Addr} (lo : Loose P.H p) : ∀ (j : Nat) e q, ρ[j]? = some (.own e) → σ[j]? = some (some (.ref q)) → q ≠ p := fun j e' q' h1 h2 z => by
  obtain ⟨u, g1, g2⟩ := s.ok j _ h1
  rw [h2] at g1
  cases g1
  cases g2 with
  | own r' =>
    subst z
    exact r'.tight lo
/-! ### what is held: a loop of tests, any datum put behind -/
theorem Hold.up {i : Nat} (hd : Hold K P0 P σ ρ i p q1 q2 a b) (l : Le P P') : Hold K P0 P' σ ρ i p q1 q2 a b := ⟨hd.s.up l, hd.pl, hd.si, hd.ri, hd.two.up l, hd.l1, hd.l2⟩
end
end PM
namespace PM
open PySem PySem.Spec PyProof.Rows L2 LB
section
variable {T : Tb} {K : PySem.W.Frag} {X : Cx} {e : Expr} {st : Stmt} {R : ER}
/-! ### list(d.values()) -/
end
end PM
namespace PM
open PySem PySem.Spec PyProof.Rows L2 LB
section
variable {T : Tb} {K : PySem.W.Frag} {X : Cx} {e : Expr} {st : Stmt} {R : ER}
/-! ### len(d), d with text keys -/
end
end PM
namespace PM
open PySem PySem.Spec PyProof.Rows L2 LB
/-! ### (..) * n -/
section
variable {T : Tb} {K : PySem.W.Frag} {X : Cx} {e : Expr}
end
end PM
namespace PM
open PySem PySem.Spec PyProof.Rows L2 LB
/-! ### a table of the module, texts to defs: z in TABLE; f = TABLE[z]; return f(..) -/
structure TabF (K : PySem.W.Frag) (n : Str) (kvs : List (Str × Str)) : Prop where
  each : ∀ q ∈ kvs, PySem.W.nsIn K (He.ga K n) q.1 = some (some (.ref (He.ga K q.2)))
/-- the table n: where it stands, its keys, its defs -/
structure TabK (K : PySem.W.Frag) (w : World) (n : Str) (kvs : List (Str × Str)) : Prop where
  kd : ∃ es m, KDict K w (He.ga K n) es m
  yes : ∀ q ∈ kvs, PySem.W.nsIn K (He.ga K n) q.1 = some (some (.ref (He.ga K q.2)))
  no : ∀ z, z ∉ kvs.map (·.1) → PySem.W.nsIn K (He.ga K n) z = some none
section
variable {T : Tb} {K : PySem.W.Frag} {X : Cx} {e : Expr} {st : Stmt} {sts : List Stmt} {R : ER}
/-- of several defs that a slot may hold -/
def SOk (P : Program) (w : World) (K : PySem.W.Frag) (mg : Str → Option Value) (base : Heap) (j : Nat) (S : Addr → Sp → Prop) : Prop := ∀ f sp, S f sp → ∃ k x ps, k ≤ j ∧ OwnFn P w K mg base k x ps sp ∧ mg x = some (.ref f)
theorem SOk.nil {P : Program} {w : World} {mg : Str → Option Value} {base : Heap} {j : Nat} : SOk P w K mg base j fun _ _ => False := fun _ _ h => h.elim
theorem SOk.cons {P : Program} {w : World} {mg : Str → Option Value} {base : Heap} {j k : Nat} {x : Str} {ps : List Str} {f : List PyData → Option PyData} {S : Addr → Sp → Prop} (F : OwnFn P w K mg base k x ps (spM K T f)) (hm : mg x = some (.ref (He.ga K x))) (t : SOk P w K mg base j S) (hk : k ≤ j := by decide) :
    SOk P w K mg base j fun g sp => (g = He.ga K x ∧ sp = spM K T f) ∨ S g sp := fun g sp h => by
  rcases h with ⟨rfl, rfl⟩ | h
  · exact ⟨k, x, ps, hk, F, hm⟩
  · exact t g sp h
/-- the table's defs and what they give -/
inductive FsOk (K : PySem.W.Frag) (T : Tb) (kvs : List (Str × Str)) : List (Str × (List PyData → Option PyData)) → (Addr → Sp → Prop) → Prop
  | nil : FsOk K T kvs [] fun _ _ => False
  | cons {z x : Str} {f : List PyData → Option PyData} {fs : List (Str × (List PyData → Option PyData))} {S : Addr → Sp → Prop} : (z, x) ∈ kvs → FsOk K T kvs fs S → FsOk K T kvs ((z, f) :: fs) fun g sp => (g = He.ga K x ∧ sp = spM K T f) ∨ S g sp
theorem FsOk.at {kvs : List (Str × Str)} {fs : List (Str × (List PyData → Option PyData))} {S : Addr → Sp → Prop} (h : FsOk K T kvs fs S) {z : Str} {f : List PyData → Option PyData} (e : fs.lookup z = some f) : ∃ x, (z, x) ∈ kvs ∧ S (He.ga K x) (spM K T f) := by
  induction h with
  | nil => cases e
  | @cons z' x f' fs S hz t ih =>
    rw [List.lookup_cons] at e
    by_cases c : z = z'
    · subst c
      rw [show (z == z) = true from beq_self_eq_true z] at e
      cases e
      exact ⟨x, hz, .inl ⟨rfl, rfl⟩⟩
    · rw [show (z == z') = false from beq_eq_false_iff_ne.mpr c] at e
      obtain ⟨y, h1, h2⟩ := ih e
      exact ⟨y, h1, .inr h2⟩
end
end PM
namespace PM
open PySem PySem.Spec PyProof.Rows L2 LB PySem.W
/-! ### len(set(xs)), sorted(set(xs)), xs a list or tuple of tuples of whole numbers and texts -/
structure TzG (P : Program) (w : World) (h : Heap) (a : Addr) (L : List (Addr × List Key)) : Prop where
  ex : ∃ (es : Array (Int × Value)) (ep : Nat) (t : SetTable), (∃ o, h.get? a = some o ∧ o.ExactSet ∧ o.data = .set es ep t) ∧ es.toList = TZ.rws P w L ∧ TZ.Tab t (L.map fun p => TZ.hK P w p.2) ∧ (w.params.followText "set-order" = true ∨ t.led = true) ∧ L.length * 5 < t.mask * 3
  nd : (L.map (·.2)).Nodup
  few : L.length ≤ 300
section
variable {X : Cx} {K : PySem.W.Frag} {P : Program} {w : World}
end
/-! ### what the calls give, said of the data -/
section
variable {T : Tb} {K : PySem.W.Frag} {P : Program} {w : World}
variable {X : Cx} {e : Expr} {a : MA}
end
end PM
namespace PM
open PySem PySem.Spec PyProof.Rows L2 LB
/-! ### x[::-1], x a text too -/
section
variable {X : Cx}
end
section
variable {T : Tb} {K : PySem.W.Frag} {X : Cx} {e : Expr}
end
end PM
namespace GX
open PySem PySem.Spec PyProof.Rows L2 GenW
open Builtin Builtin.Str
section
variable {P : Program} {w : World} {outer : List Env} {H : Hp} {sc s : Shared} {ex : List Addr} {Q : List V → Hp → Prop} {EX : XK} {A : Around} {k : Nat} {u : Value} {E : Value → Shared → Prop} {x : Str} {t : Tok}
end
section
variable {X : Cx}
end
end GX
namespace PM
open PySem PySem.Spec PyProof.Rows L2 LB
section
variable {T : Tb} {K : PySem.W.Frag} {X : Cx} {e : Expr}
/-! ### sep.join(texts) -/
def oJoin (x y : PyData) : Option PyData := match x with
  | .str sep => (itemsD y).bind fun ds => (txD ds).bind fun zs => if (zs.map (·.length)).sum + zs.length * sep.length ≤ 16777216 then some (.str (Txt.join sep zs)) else none
  | _ => none
theorem c_join {a b : ME} (h : PE X e (tM1 (fun x xs H Q => ∃ a p, ∃ ys : List Str, x = .str a ∧ xs = [.ref p] ∧ (SqL K H p (ys.map V.str) ∨ SqT K H p (ys.map V.str)) ∧
      (ys.map (·.length)).sum + ys.length * a.length ≤ 16777216 ∧ Q (.str (Txt.join a ys)) H) (tD K T a) (tW K T b))) : PE X e (tD K T (mOp oJoin a b)) := pe_to h fun σ H Q ⟨P0, P, ρ, d, h1, s, h2, q⟩ => by
  subst h1
  obtain ⟨x, ex, h3⟩ := bind_eq h2
  obtain ⟨y, ey, h4⟩ := bind_eq h3
  clear h2 h3
  unfold oJoin at h4
  split at h4
  · rename_i sep
    obtain ⟨ds, ed, h4⟩ := bind_eq h4
    obtain ⟨zs, ez, h4⟩ := bind_eq h4
    split at h4
    · rename_i fit
      cases h4
      have eds := txD_is ez
      subst eds
      refine ⟨P0, P, ρ, _, rfl, s, ex, fun v P1 l1 r1 => ?_⟩
      cases r1
      refine ⟨⟨_, rfl⟩, P0, P1, ρ, y, rfl, s.up l1, ey, fun u P2 l2 r2 => ?_⟩
      unfold itemsD at ed
      split at ed
      · cases ed
        obtain ⟨p, xs, rfl, hs, ra⟩ := r2.list
        rw [tx_rp ra] at hs
        exact ⟨sep, p, zs, rfl, rfl, .inl hs, fit, q _ P2 (l1.trans l2) (.str _)⟩
      · cases ed
        obtain ⟨p, xs, rfl, _, hs, ra⟩ := r2.tuple
        rw [tx_rp ra] at hs
        exact ⟨sep, p, zs, rfl, rfl, .inr hs, fit, q _ P2 (l1.trans l2) (.str _)⟩
      · cases ed
    · cases h4
  · cases h4
/-! ### list(text) -/
end
end PM
namespace EN
open PySem PySem.Spec PyProof.Rows L2 LB ZM
/-! ### enumerate of a text -/
end EN
namespace PM
open PySem PySem.Spec PyProof.Rows L2 LB
section
variable {T : Tb} {K : PySem.W.Frag} {X : Cx} {e : Expr}
/-! ### int(text) -/
def oIntZ : List PyData → Option PyData
  | [.str z] => if z.length ≤ 640 then (PySem.intText? z).map .int else none
  | _ => none
theorem cb_intZ : CbD K T (fun xs H Q => ∃ a n, xs = [.str a] ∧ PySem.intText? a = some n ∧ a.length ≤ 640 ∧ Q (.int n) H) oIntZ := by
  intro P vs ds d ra h Q q
  unfold oIntZ at h
  split at h
  · split at h
    · rename_i z hz
      obtain ⟨n, hn, rfl⟩ := map_eq h
      cases ra with
      | cons r1 r2 =>
        cases r2
        obtain rfl := r1.str
        exact ⟨z, n, rfl, hn, hz, q _ P (Le.refl _) (.int _)⟩
    · cases h
  · cases h
end
end PM
namespace PM
open PySem PySem.Spec PyProof.Rows L2 LB
section
variable {T : Tb} {K : PySem.W.Frag} {X : Cx} {e : Expr}
/-! ### x.split(sep) -/
theorem rp_txts {M : Hp} : ∀ l : List Str, RpAll K M (l.map V.str) (l.map .str)
  | [] => .nil
  | _ :: l => .cons (.str _) (rp_txts l)
def oSplit (x y : PyData) : Option PyData := match x, y with
  | .str a, .str b => if b.length ≠ 0 ∧ a.length ≤ 10000 then some (.list ((Txt.split a b).map .str)) else none
  | _, _ => none
theorem c_split {a b : ME} (h : PE X e (tM1 (fun x xs H Q => ∃ a b, x = .str a ∧ xs = [.str b] ∧ (b.length == 0) = false ∧ a.length + 2 ≤ sizeLine ∧ rNewStrs (Txt.split a b) H Q) (tD K T a) (tD K T b))) : PE X e (tF K T (mOp oSplit a b)) := pe_to h fun σ H Q ⟨P0, P, ρ, d, h1, s, h2, q⟩ => by
  subst h1
  obtain ⟨x, ex, h3⟩ := bind_eq h2
  obtain ⟨y, ey, h4⟩ := bind_eq h3
  clear h2 h3
  unfold oSplit at h4
  split at h4
  · rename_i za zb
    split at h4
    · rename_i hh
      cases h4
      refine ⟨P0, P, ρ, _, rfl, s, ex, fun v P1 l1 r1 => ?_⟩
      cases r1
      refine ⟨⟨_, rfl⟩, P0, P1, ρ, _, rfl, s.up l1, ey, fun u P2 l2 r2 => ?_⟩
      cases r2
      refine ⟨za, zb, rfl, rfl, by simpa using hh.1, Nat.le_trans (Nat.add_le_add_right hh.2 2) (by decide), fun p hp => ?_⟩
      exact q _ (P2.hid p (.lst _) hp) ((l1.trans l2).trans (le_hid P2 hp)) (.lst (P2.none hp) upd_same (rp_txts _)) (loose_back (l1.trans l2).h (loose_none hp))
    · cases h4
  · cases h4
theorem mSplit_is {a b : ME} (ρ : Ev) (d : PyData) (h : mOp oSplit a b ρ = some d) : isLst d = true := by
  obtain ⟨x, _, h⟩ := bind_eq h
  obtain ⟨y, _, h⟩ := bind_eq h
  unfold oSplit at h
  split at h
  · split at h
    · cases h
      rfl
    · cases h
  · cases h
/-! ### f-strings of texts and whole numbers -/
def fmtD : PyData → Option Str
  | .str z => if z.length ≤ 10000 then some z else none
  | .int i => if i.natAbs.log2 < 1920 then some (toString i) else none
  | _ => none
def fsGo : List ME → Str → ME
  | [], acc => fun _ => some (.str acc)
  | p :: ps, acc => fun ρ => (p ρ).bind fun d => (fmtD d).bind fun z => if (acc ++ z).length ≤ 10000 then fsGo ps (acc ++ z) ρ else none
def mFs (ps : List ME) : ME := fsGo ps Str.empty
inductive FJ (X : Cx) (K : PySem.W.Frag) (T : Tb) : List Expr → List ME → Prop where
  | nil : FJ X K T [] []
  | con {e : Expr} {z : Str} {es : List Expr} {ms : List ME} (h : PE X e (tD K T (mC (.str z)))) (r : FJ X K T es ms) : FJ X K T (e :: es) (mC (.str z) :: ms)
  | fmt {e : Expr} {a : ME} {es : List Expr} {ms : List ME} (h : PE X e (tFmt (tD K T a))) (r : FJ X K T es ms) : FJ X K T (e :: es) (a :: ms)
theorem szS {z : Str} (h : z.length ≤ 10000) : z.length ≤ sizeLine := Nat.le_trans h (by decide)
theorem fj_run {es : List Expr} {ms : List ME} (h : FJ X K T es ms) : ∃ ts, PJ X es ts ∧ ∀ (acc : Str) (P0 P : Pr T) (ρ : Ev) (σ : L2.St) (d : PyData) (Q : Str → Hp → Prop), St K P0 P σ ρ → fsGo ms acc ρ = some d → (∀ P' : Pr T, Le P P' → ∀ out, d = .str out → Q out P'.H) → tJs ts acc σ P.H Q := by
  induction h with
  | nil =>
    refine ⟨[], .nil, fun acc P0 P ρ σ d Q s e q => ?_⟩
    cases e
    exact q P (Le.refl _) acc rfl
  | @con e z es ms h r ih =>
    obtain ⟨ts, pj, ih⟩ := ih
    refine ⟨_, .cons h pj, fun acc P0 P ρ σ d Q s g q => ?_⟩
    have g1 : ((fmtD (.str z)).bind fun z => if (acc ++ z).length ≤ 10000 then fsGo ms (acc ++ z) ρ else none) = some d := g
    have hz : z.length ≤ 10000 := by
      by_cases hl : z.length ≤ 10000
      · exact hl
      · have : fmtD (.str z) = none := if_neg hl
        rw [this] at g1
        cases g1
    rw [show fmtD (.str z) = some z from if_pos hz] at g1
    have g2 : (if (acc ++ z).length ≤ 10000 then fsGo ms (acc ++ z) ρ else none) = some d := g1
    by_cases fit : (acc ++ z).length ≤ 10000
    · rw [if_pos fit] at g2
      refine ⟨P0, P, ρ, .str z, rfl, s, rfl, fun v P1 l1 r1 => ?_⟩
      cases r1
      exact ⟨z, rfl, szS fit, ih (acc ++ z) P0 P1 ρ σ d Q (s.up l1) g2 fun P' l' out eo => q P' (l1.trans l') out eo⟩
    · rw [if_neg fit] at g2
      cases g2
  | @fmt e a es ms h r ih =>
    obtain ⟨ts, pj, ih⟩ := ih
    refine ⟨_, .cons h pj, fun acc P0 P ρ σ d Q s g q => ?_⟩
    obtain ⟨x, ex, g1⟩ := bind_eq g
    obtain ⟨y, ey, g2⟩ := bind_eq g1
    clear g g1
    by_cases fit : (acc ++ y).length ≤ 10000
    · rw [if_pos fit] at g2
      refine ⟨P0, P, ρ, x, rfl, s, ex, fun v P1 l1 r1 => ?_⟩
      have fin := ih (acc ++ y) P0 P1 ρ σ d Q (s.up l1) g2 fun P' l' out eo => q P' (l1.trans l') out eo
      unfold fmtD at ey
      split at ey
      · rename_i z
        split at ey
        · rename_i hz
          cases ey
          cases r1
          exact .inl ⟨_, rfl, szS hz, _, rfl, szS fit, fin⟩
        · cases ey
      · rename_i i
        split at ey
        · rename_i hi
          cases ey
          cases r1
          exact .inr ⟨i, rfl, hi, _, rfl, szS fit, fin⟩
        · cases ey
      · cases ey
    · rw [if_neg fit] at g2
      cases g2
theorem fs_str : ∀ {ms : List ME} {acc : Str} {ρ : Ev} {d : PyData}, fsGo ms acc ρ = some d → ∃ z, d = .str z
  | [], acc, ρ, d, h => by
    cases h
    exact ⟨acc, rfl⟩
  | p :: ps, acc, ρ, d, h => by
    obtain ⟨x, _, h⟩ := bind_eq h
    obtain ⟨y, _, h⟩ := bind_eq h
    split at h
    · exact fs_str h
    · cases h
theorem c_fs {v1 v2 : Expr} {rest : List Expr} {ms : List ME} {pos : Pos} (h : FJ X K T (v1 :: v2 :: rest) ms) : PE X (.JoinedStr (v1 :: v2 :: rest) pos) (tD K T (mFs ms)) := by
  obtain ⟨ts, pj, run⟩ := fj_run h
  refine pe_to (pe_joined pj) fun σ H Q ⟨P0, P, ρ, d, h1, s, h2, q⟩ => ?_
  subst h1
  obtain ⟨z, rfl⟩ := fs_str h2
  refine run Str.empty P0 P ρ σ _ _ s h2 fun P' l' out eo => ?_
  cases eo
  exact q _ P' l' (.str _)
end
end PM
namespace EN
open PySem PySem.Spec PyProof.Rows PySem.Calls L2 LB ZM
section
variable {M : Model} {A : Around} {E : Value → Shared → Prop} {s : Shared}
theorem callWith_typeK {pos : Pos} {T : String} {first : List Value} {args : List (Bool × Sem Value)} {kws : List (Option Str × Sem Value)} {Q : Value → Shared → Prop} (hplain : args.any (·.1) = false) (hnone : kws.any (·.1.isNone) = false)
    (h : wpAny M A (evalArgs (.type T) true args kws) (fun a s₁ => wpAny M A (call (.type T) (first ++ a.pos) a.kw) Q E s₁) E s) :
    wpAny M A (callWith pos (.type T) first args kws) Q E s := by
  unfold callWith
  refine wpAny_bind (wpAny_holding (wpAny_mono h (fun a s₁ h₁ => wpAny_bind (wpAny_standAt ?_)) fun _ _ x => x))
  simp only [hplain, hnone, Bool.or_false]
  refine wpAny_bind (wpAny_pure ?_)
  exact wpAny_bind (wpAny_mono h₁ (fun r s₂ hr => wpAny_bind (wpAny_holding (wpAny_point (wpAny_pure hr)))) fun _ _ x => x)
end
/-! ### enumerate(row, start=k) -/
theorem shift {prog : Program} {w : World} {A : Around} {it : Addr} {fp : List Addr} {n : Nat} {P : Nat → Value → Prop} {St : Nat → Heap → Prop} (D : Draws prog w A it fp n P St) (k : Nat) : Draws prog w A it fp (n + k) (fun j v => k ≤ j ∧ P (j - k) v) (fun j h => k ≤ j ∧ St (j - k) h) where
  live := fun j h ⟨_, st⟩ => D.live _ h st
  frame := fun j h h' ⟨a, st⟩ hk => ⟨a, D.frame _ h h' st hk⟩
  item := fun j s Q E hj ⟨a, st⟩ hQ => D.item (j - k) s Q E (by omega) st fun x h' tk p st' sb => hQ x h' tk ⟨a, p⟩ ⟨by omega, by rw [show j + 1 - k = (j - k) + 1 by omega]; exact st'⟩ sb
  done := fun s Q E ⟨a, st⟩ hE => D.done s Q E (by rw [Nat.add_sub_cancel] at st; exact st) hE
def ItES (K : PySem.W.Frag) (t : Bool) (a : Addr) (k : Nat) : It :=
  ⟨fun i H => ∃ (xs : List V) (x : V), SqK K t H a xs ∧ xs[i]? = some x, fun i H v H' => ∃ T x, v = .ref T ∧ H T = none ∧ H' = upd H T (.tup [.int ((i + k : Nat) : Int), x]) ∧ ∀ xs, SqK K t H a xs → xs[i]? = some x, fun i H => ∃ xs : List V, SqK K t H a xs ∧ xs.length = i⟩
theorem turnS {P : Program} {w : World} {K : PySem.W.Frag} {elts : List Expr} {kk : Nat} {tpos : Pos} {t : Bool} (a e it : Addr) (k : Nat) (hne : e ≠ it) (hea : e ≠ a) :
    Turn P w K (.Tuple elts kk tpos) (ItES K t a k) [e, it] e (fun i h => (∃ old, IsEnum h e it ((i + k : Nat) : Int) old) ∧ ItK t h it a i) where
  mem := by simp
  obj := fun i h st b hb => by
    obtain ⟨⟨old, he⟩, hit⟩ := st
    simp only [List.mem_cons, List.not_mem_nil, or_false] at hb
    rcases hb with rfl | rfl
    · exact ⟨_, he, fun v q => nomatch q⟩
    · exact it_obj hit
  keep := fun i h h' st k => let ⟨⟨old, he⟩, hi⟩ := st; ⟨⟨old, k e (by simp) _ he⟩, it_at hi fun o q => k it (by simp) o q⟩
  item := by
    intro X hP hw hK hc i pins s σ H E I hf st hg
    subst hP hw hK
    obtain ⟨⟨old, he⟩, hit⟩ := st
    obtain ⟨xs, x, hq, hx⟩ := hg
    obtain ⟨us, rv, p, la⟩ := row I hq
    obtain ⟨u, hu, ru⟩ := rv.get hx
    have hh := I.ok.hd hc
    have gu : us.toArray[i]? = some u := by simpa using hu
    have hel : e < s.heap.objs.size := Heap.lt_size he
    have hil : it < s.heap.objs.size := by
      obtain ⟨_, q, _⟩ := it_obj hit
      exact Heap.lt_size q
    have hef : e ∉ [it, a] := by
      simp only [List.mem_cons, List.not_mem_nil, or_false, not_or]
      exact ⟨hne, hea⟩
    refine wpAny_pyNext_enum_itemD (shift (draws t (A := X.A.in1) hh (Z3.apart hit p) us.toArray) k) he ⟨Nat.le_add_left _ _, by rw [Nat.add_sub_cancel]; exact ⟨hit, p⟩⟩ (Nat.add_lt_add_right (Array.getElem?_eq_some_iff.mp gu).1 k) hne hef fun x2 h' tk hP ho hst' hT hsz hk => ?_
    obtain ⟨_, hP⟩ := hP
    rw [Nat.add_sub_cancel, gu] at hP
    cases hP
    obtain ⟨_, hst'⟩ := hst'
    rw [show i + k + 1 - k = i + 1 by omega] at hst'
    refine ⟨_, rfl, wpAny_letOwnedTupleGo_enum (s := { s with heap := h', toks := tk + 1 }) ho fun h'' he' sb => ?_⟩
    have hT2 := (sb.2 s.heap.objs.size (Nat.ne_of_gt hel)).trans hT
    have new : ObjOk X.prog X.w (upd H s.heap.objs.size (.tup [.int ((i + k : Nat) : Int), x])) h'' s.heap.objs.size (.tup [.int ((i + k : Nat) : Int), x]) :=
      ⟨by show 2 ≤ sizeLine; decide, [.int ((i + k : Nat) : Int) tk, u], .cons ⟨_, rfl⟩ (.cons ru .nil), ⟨_, hT2, rfl, _, rfl⟩⟩
    have I1 : Inv X pins σ (upd H s.heap.objs.size (.tup [.int ((i + k : Nat) : Int), x])) { s with heap := h'', toks := tk + 1 } :=
      I.turnedNew (ch := [e, it]) (fun b ob hb q => (sb.2 b (fun z => hb (by simp [z]))).trans (hk b ob (fun z => hb (by simp [z])) (fun z => hb (by simp [z])) q)) hf (Nat.le_refl _) new
    refine ⟨.ref s.heap.objs.size, _, I1, rfl, ⟨_, x, rfl, I.hok.fresh (Nat.le_refl _), rfl, fun ys hy => by rw [inj I hy hq]; exact hx⟩, ⟨⟨u, ?_⟩, it_at hst'.1 fun o q => (sb.2 it (Ne.symm hne)).trans q⟩, fun b hb => ?_⟩
    · have e1 : ((i + 1 + k : Nat) : Int) = ((i + k : Nat) : Int) + 1 := by omega
      rw [e1]; exact he'
    · have hb' : b < s.heap.objs.size := by
        simp only [List.mem_cons, List.not_mem_nil, or_false] at hb
        rcases hb with z | z
        · rw [z]; exact hel
        · rw [z]; exact hil
      rw [upd_ne (Nat.ne_of_lt hb')]
      exact (hf b hb).1
  done := by
    intro X hP hw hK hc i pins s σ H E I hf st hg
    subst hP hw hK
    obtain ⟨⟨old, he⟩, hit⟩ := st
    obtain ⟨xs, hq, hx⟩ := hg
    obtain ⟨us, rv, p, la⟩ := row I hq
    obtain ⟨f0, f1, f2, f3, f4, f5⟩ := hf it (by simp)
    have hl := rv.length
    have hn : us.toArray.size = i := by simp; omega
    have hst : k ≤ us.toArray.size + k ∧ (ItK t s.heap it a (us.toArray.size + k - k) ∧ IsK t s.heap a us.toArray) := ⟨Nat.le_add_left _ _, by rw [Nat.add_sub_cancel, hn]; exact hit, p⟩
    exact wpAny_pyNext_enum_endD (shift (draws t (A := X.A.in1) (I.ok.hd hc) (Z3.apart hit p) us.toArray) k) he hst fun h' eb => ⟨rfl, I.turned (t' := s.toks) (fun b o hb q => eb b o hb q) f0 f1 f3 f4 f5⟩
  self := fun A i s Q E st h => let ⟨⟨_, he⟩, _⟩ := st; wpAny_pyIter_enum he h
def iES (K : PySem.W.Frag) (ta : TA) (k : Nat) : TI := fun σ H R => ta σ H fun vs H1 => ∃ a xs t, vs = [.ref a] ∧ SqK K t H1 a xs ∧ R (ItES K t a k) H1
theorem pi_enS {X : Cx} {e : Expr} {ta : TA} {p pos tpos p4 p5 : Pos} {elts : List Expr} {kk k3 : Nat} {k : Nat} (hk : k ≤ 1000) (hg : Gl X "enumerate") (hm : X.mg "enumerate" = none) (ha : PA X [e] ta) (hs : starEach [e] X.env = [(false, eval e X.env)] := by rfl)
    (he : eval (.Call (.Name "enumerate" p) [e] [⟨some "start", .Constant (.int (k : Int)) k3 p4, p5⟩] pos) X.env = (do callWith pos (← eval (.Name "enumerate" p) X.env) [] (backTo pos (starEach [e] X.env)) (backToKw pos (keywordEach [⟨some "start", .Constant (.int (k : Int)) k3 p4, p5⟩] X.env))) := by rfl)
    (hnone : (backToKw pos (keywordEach [⟨some "start", .Constant (.int (k : Int)) k3 p4, p5⟩] X.env)).any (·.1.isNone) = false := by rfl) (hall : (backToKw pos (keywordEach [⟨some "start", .Constant (.int (k : Int)) k3 p4, p5⟩] X.env)).all (·.1.isSome) = true := by rfl)
    (hks : (backToKw pos (keywordEach [⟨some "start", .Constant (.int (k : Int)) k3 p4, p5⟩] X.env)).filterMap (·.1) = [Str.ofString "start"] := by rfl) :
    PI X (.Tuple elts kk tpos) (.Call (.Name "enumerate" p) [e] [⟨some "start", .Constant (.int (k : Int)) k3 p4, p5⟩] pos) (iES X.K ta k) := by
  refine ⟨fun pins s σ H R I h => ?_⟩
  rw [he]
  refine wpAny_bind (ld_blt I hg hm boot_enumerate ?_)
  refine callWith_typeK (by rw [hs]; rfl) hnone (evalArgs_kw2 hall (thn (ha.run pos pins s σ H _ I h) fun us s1 ⟨vs, H1, I1, r1, q1⟩ => ?_) hs)
  rw [hks]
  refine kwAll_cons (thn (pe_int.run pins s1 σ H1 (fun x H2 => x = .int (k : Int) ∧ H2 = H1) I1 ⟨rfl, rfl⟩) fun kv s2 ⟨x, H2, I2, r2, ex, eH⟩ => kwAll_nil ?_)
  subst ex eH
  obtain ⟨tk, rfl⟩ := _root_.id r2
  obtain ⟨a, xs, t, ex, hq, q⟩ := q1
  subst ex
  cases r1 with
  | cons r rr =>
    cases rr
    cases r
    obtain ⟨its, rv, p', la⟩ := row I2 hq
    show wpAny _ _ (call (.type "enumerate") [.ref a] [(Str.ofString "start", .int (k : Int) tk)]) _ _ _
    refine enum_begins_start (begins t a its.toArray) p' (by omega) (by omega) fun h' he hit hsz hk' => wpAny_pyIter_enum he ?_
    have I3 : Inv X pins σ H2 { s2 with heap := h' } := I2.kept (t' := s2.toks) hk'
    refine ⟨s2.heap.objs.size + 1, [s2.heap.objs.size + 1, s2.heap.objs.size], _, _, H2, rfl, I3, turnS a (s2.heap.objs.size + 1) s2.heap.objs.size k (Nat.succ_ne_self _) (Nat.ne_of_gt (Nat.lt_succ_of_lt la)), ⟨⟨.none, by rw [Nat.zero_add]; exact he⟩, it0 hit⟩, fun b hb => ?_, q⟩
    have e' : b = s2.heap.objs.size + 1 ∨ b = s2.heap.objs.size := by simpa using hb
    have hle : s2.heap.objs.size ≤ b := by
      rcases e' with z | z
      · rw [z]; exact Nat.le_add_right _ _
      · rw [z]; exact Nat.le_refl _
    exact I2.fpOk hle (I2.hok.fresh hle)
end EN
namespace PM
open PySem PySem.Spec PyProof.Rows L2 LB
section
variable {T : Tb} {K : PySem.W.Frag} {X : Cx} {e : Expr}
def enumS (k : Nat) (xs : List PyData) : List PyData := (List.range xs.length).map fun (i : Nat) => .tuple [.int ((i + k : Nat) : Int), xs.getD i .none]
theorem enumS_len (k : Nat) (xs : List PyData) : (enumS k xs).length = xs.length := by
  unfold enumS
  rw [List.length_map, List.length_range]
theorem enumS_at {k : Nat} {xs : List PyData} {i : Nat} {d : PyData} (h : xs[i]? = some d) : (enumS k xs)[i]? = some (.tuple [.int ((i + k : Nat) : Int), d]) := by
  obtain ⟨hi, e⟩ := List.getElem?_eq_some_iff.mp h
  unfold enumS
  rw [List.getElem?_map, List.getElem?_range hi]
  show some (PyData.tuple [.int ((i + k : Nat) : Int), xs.getD i .none]) = _
  rw [List.getD_eq_getElem?_getD, h]
  rfl
def oEnumS (k : Nat) : List PyData → Option (List PyData)
  | [x] => (lsO x).map (enumS k)
  | _ => none
def iEs (k : Nat) (a : MA) : MA := fun ρ => (a ρ).bind (oEnumS k)
theorem wk_es {P1 : Pr T} {t : Bool} {a : Addr} {xs : List V} {ds : List PyData} {k : Nat} (hs : ZM.SqK K t P1.M a xs) (ra : RpAll K P1.M xs ds) : WkM K P1 (EN.ItES K t a k) (enumS k ds) := by
  have g : ∀ {P' : Pr T}, Ex P1.M P'.M → ZM.SqK K t P'.H a xs := fun {P'} x => ex_K P'.sub (ex_K x hs)
  have l := enumS_len k ds
  have l1 := ra.length
  refine ⟨fun P' x => ⟨xs, g x, by omega⟩, fun i P' hi x => ?_, fun i P' v H'' hi x y => ?_⟩
  · exact ⟨xs, xs[i]'(by omega), g x, List.getElem?_eq_getElem _⟩
  · obtain ⟨t, v1, rfl, hn, rfl, h1⟩ := y
    obtain ⟨d1, e1, r1⟩ := ra.get (h1 xs (g x))
    have lp := (le_put P' (o := .tup [.int ((i + k : Nat) : Int), v1]) hn).m
    exact ⟨P'.put t (.tup [.int ((i + k : Nat) : Int), v1]) hn, rfl, le_put P' hn, _, enumS_at e1, .tup upd_same (.cons (.int _) (.cons ((r1.ext x).ext lp) .nil))⟩
theorem c_ies {tg : Expr} {a : MA} {k : Nat} (h : PI X tg e (EN.iES K (tA K T a) k)) : PI X tg e (tI K T (iEs k a)) := pi_to h fun σ H Q ⟨P0, P, ρ, ds, h1, s, h2, q⟩ => by
  subst h1
  obtain ⟨x, ex, h3⟩ := bind_eq h2
  refine ⟨P0, P, ρ, x, rfl, s, ex, fun vs P1 l1 r1 => ?_⟩
  unfold oEnumS at h3
  split at h3
  · obtain ⟨xs, e1, rfl⟩ := map_eq h3
    cases r1 with
    | cons r1 r2 =>
      cases r2
      obtain ⟨t, a, va, rfl, qa, ra⟩ := rp_K r1 e1
      exact ⟨_, _, t, rfl, ex_K P1.sub qa, q _ P1 l1 (wk_es qa ra)⟩
  · cases h3
theorem pi_es {e1 : Expr} {ta : TA} {p pos tpos p4 p5 : Pos} {elts : List Expr} {kk k3 : Nat} {k : Nat} (hk : k ≤ 1000) (hg : Gl X "enumerate") (hm : X.mg "enumerate" = none) (ha : PA X [e1] ta) (hK : X.K = K := by rfl) (hs : starEach [e1] X.env = [(false, eval e1 X.env)] := by rfl)
    (he : eval (.Call (.Name "enumerate" p) [e1] [⟨some "start", .Constant (.int (k : Int)) k3 p4, p5⟩] pos) X.env = (do callWith pos (← eval (.Name "enumerate" p) X.env) [] (backTo pos (starEach [e1] X.env)) (backToKw pos (keywordEach [⟨some "start", .Constant (.int (k : Int)) k3 p4, p5⟩] X.env))) := by rfl) :
    PI X (.Tuple elts kk tpos) (.Call (.Name "enumerate" p) [e1] [⟨some "start", .Constant (.int (k : Int)) k3 p4, p5⟩] pos) (EN.iES K ta k) := by
  subst hK
  exact EN.pi_enS hk hg hm ha hs he
end
end PM
namespace K01
/-- the loop of rests -/
theorem gcd_fmod (a b : Int) : Int.gcd b (a.fmod b) = Int.gcd a b := by
  have h : a.fmod b = a - b * a.fdiv b := by
    have := Int.mul_fdiv_add_fmod a b
    omega
  rw [h]
  rw [Int.gcd_comm a b]
  apply Nat.dvd_antisymm
  · apply Int.dvd_gcd (Int.gcd_dvd_left _ _)
    have h1 : (↑(Int.gcd b (a - b * a.fdiv b)) : Int) ∣ b := Int.gcd_dvd_left _ _
    have h2 : (↑(Int.gcd b (a - b * a.fdiv b)) : Int) ∣ (a - b * a.fdiv b) := Int.gcd_dvd_right _ _
    have h3 := Int.dvd_add h2 (Int.dvd_mul_of_dvd_left (c := a.fdiv b) h1)
    rwa [Int.sub_add_cancel] at h3
  · apply Int.dvd_gcd (Int.gcd_dvd_left _ _)
    have h1 : (↑(Int.gcd b a) : Int) ∣ b := Int.gcd_dvd_left _ _
    have h2 : (↑(Int.gcd b a) : Int) ∣ a := Int.gcd_dvd_right _ _
    exact Int.dvd_sub h2 (Int.dvd_mul_of_dvd_left (c := a.fdiv b) h1)
theorem fmod_small (a b : Int) (hb : b ≠ 0) : (a.fmod b).natAbs < b.natAbs := by
  rcases Int.lt_or_lt_of_ne hb with h | h
  · have e := Int.fmod_eq_emod (a := a) (b := b)
    have h1 := Int.emod_nonneg a hb
    have h2 := Int.emod_lt a hb
    split at e
    · rename_i q
      rcases q with q | q
      · omega
      · have := Int.emod_eq_zero_of_dvd q
        omega
    · rename_i q
      have h3 : a % b ≠ 0 := fun z => q (Or.inr (Int.dvd_of_emod_eq_zero z))
      omega
  · have h1 := Int.fmod_nonneg_of_pos a h
    have h2 := Int.fmod_lt_of_pos a h
    omega
/-- the divisor with the bottom's sign -/
def dvs (t b : Int) : Int := if b < 0 then -(Int.gcd t b : Int) else (Int.gcd t b : Int)
def lowT (t b : Int) : Int := t.fdiv (dvs t b)
def lowB (t b : Int) : Int := b.fdiv (dvs t b)
theorem gcd_pos (t : Int) {b : Int} (hb : b ≠ 0) : 0 < Int.gcd t b := Int.gcd_pos_iff.mpr (Or.inr hb)
theorem dvs_ne (t : Int) {b : Int} (hb : b ≠ 0) : dvs t b ≠ 0 := by
  have := gcd_pos t hb
  unfold dvs
  split <;> omega
theorem dvs_nat (t b : Int) : (dvs t b).natAbs = Int.gcd t b := by
  unfold dvs
  split <;> omega
theorem gcd_le (t : Int) {b : Int} (hb : b ≠ 0) : Int.gcd t b ≤ b.natAbs := by
  have h : (Int.gcd t b) ∣ b.natAbs := Int.natAbs_dvd_natAbs.mpr (Int.gcd_dvd_right t b)
  exact Nat.le_of_dvd (by omega) h
theorem dvs_dvd_b (t b : Int) : dvs t b ∣ b := by
  unfold dvs
  split
  · exact Int.neg_dvd.mpr (Int.gcd_dvd_right t b)
  · exact Int.gcd_dvd_right t b
theorem dvs_dvd_t (t b : Int) : dvs t b ∣ t := by
  unfold dvs
  split
  · exact Int.neg_dvd.mpr (Int.gcd_dvd_left t b)
  · exact Int.gcd_dvd_left t b
theorem lowB_mul (t b : Int) : lowB t b * dvs t b = b := by
  unfold lowB
  rw [Int.fdiv_eq_ediv_of_dvd (dvs_dvd_b t b)]
  exact Int.ediv_mul_cancel (dvs_dvd_b t b)
theorem lowT_mul (t b : Int) : lowT t b * dvs t b = t := by
  unfold lowT
  rw [Int.fdiv_eq_ediv_of_dvd (dvs_dvd_t t b)]
  exact Int.ediv_mul_cancel (dvs_dvd_t t b)
theorem lowB_pos (t : Int) {b : Int} (hb : b ≠ 0) : 0 < lowB t b := by
  have e := lowB_mul t b
  have g := gcd_pos t hb
  unfold dvs at e
  split at e
  · rename_i h
    apply Int.not_le.mp
    intro z
    have h2 : 0 ≤ lowB t b * -(Int.gcd t b : Int) := Int.mul_nonneg_of_nonpos_of_nonpos z (by omega)
    omega
  · rename_i h
    apply Int.not_le.mp
    intro z
    have h2 : lowB t b * (Int.gcd t b : Int) ≤ 0 := Int.mul_nonpos_of_nonpos_of_nonneg z (by omega)
    omega
theorem low_gcd (t : Int) {b : Int} (hb : b ≠ 0) : Int.gcd (lowT t b) (lowB t b) = 1 := by
  have g := gcd_pos t hb
  have h1 : Int.gcd (lowT t b * dvs t b) (lowB t b * dvs t b) = Int.gcd (lowT t b) (lowB t b) * (dvs t b).natAbs := Int.gcd_mul_right ..
  rw [lowT_mul, lowB_mul, dvs_nat] at h1
  have h2 : 1 * Int.gcd t b = Int.gcd (lowT t b) (lowB t b) * Int.gcd t b := by omega
  exact (Nat.eq_of_mul_eq_mul_right g h2).symm
theorem low_id {t b : Int} (hb : 0 < b) : (lowT t b = t ∧ lowB t b = b) ↔ Int.gcd t b = 1 := by
  constructor
  · intro ⟨_, h⟩
    have e := lowB_mul t b
    rw [h] at e
    have e2 : b * dvs t b = b * 1 := by omega
    have e3 : dvs t b = 1 := Int.eq_of_mul_eq_mul_left (by omega) e2
    have := dvs_nat t b
    omega
  · intro h
    have e : dvs t b = 1 := by
      unfold dvs
      rw [if_neg (by omega), h]
      rfl
    unfold lowT lowB
    rw [e, Int.fdiv_one, Int.fdiv_one]
    exact ⟨rfl, rfl⟩
theorem low_natAbs_t (t : Int) {b : Int} (hb : b ≠ 0) : (lowT t b).natAbs ≤ t.natAbs := by
  have e := congrArg Int.natAbs (lowT_mul t b)
  rw [Int.natAbs_mul, dvs_nat] at e
  have g := gcd_pos t hb
  rw [← e]
  exact Nat.le_mul_of_pos_right _ g
theorem low_natAbs_b (t : Int) {b : Int} (hb : b ≠ 0) : (lowB t b).natAbs ≤ b.natAbs := by
  have e := congrArg Int.natAbs (lowB_mul t b)
  rw [Int.natAbs_mul, dvs_nat] at e
  have g := gcd_pos t hb
  rw [← e]
  exact Nat.le_mul_of_pos_right _ g
end K01
namespace PM
open PySem PySem.Spec PyProof.Rows L2 LB
open K01 (lowT lowB dvs gcd_fmod fmod_small gcd_pos dvs_ne dvs_nat gcd_le lowB_mul lowT_mul lowB_pos low_gcd low_id low_natAbs_t low_natAbs_b)
/-! ### fractions, among data -/
theorem fdv_big {i j : Int} (h : j ≠ 0) (h2 : j.natAbs < 2 ^ 250) : oFdv (.int i) (.int j) = some (.int (i.fdiv j)) := by
  show (if decide (j ≠ 0 ∧ j.natAbs < 2 ^ 250) = true then some (PyData.int (i.fdiv j)) else none) = _
  rw [if_pos (decide_eq_true ⟨h, h2⟩)]
end PM
namespace PM
open PySem PySem.Spec PyProof.Rows L2 LB
open K01 (lowT lowB dvs gcd_fmod fmod_small gcd_pos dvs_ne dvs_nat gcd_le lowB_mul lowT_mul lowB_pos low_gcd low_id low_natAbs_t low_natAbs_b)
/-! ### lines of cuts, among data -/
/-- a price p / q of a web of this top -/
structure Pri (top p q : Int) : Prop where
  q1 : 0 < q
  p0 : 0 ≤ p
  pt : p ≤ top * q
  q40 : q < 2 ^ 40
end PM
namespace K04
open PySem PySem.Spec PyProof.Rows L2
def top (i : Nat) : Stmt := PySem.Challenge.pw_cutstairs_k04_webs_as_texts.main.body.getD i (.Pass ⟨0, 0, 0, 0⟩)
abbrev s_is_whole : Stmt := top 4
abbrev s_is_between : Stmt := top 5
abbrev s_is_row : Stmt := top 6
abbrev s_is_name : Stmt := top 9
abbrev s_is_rising : Stmt := top 10
abbrev s_is_top : Stmt := top 11
abbrev s_is_place : Stmt := top 12
abbrev s_is_tie : Stmt := top 13
abbrev s_are_places : Stmt := top 14
abbrev s_are_ties : Stmt := top 15
abbrev s_is_web : Stmt := top 16
abbrev s_names_of : Stmt := top 17
abbrev s_show_web : Stmt := top 21
abbrev s_read_number : Stmt := top 22
abbrev s_read_two : Stmt := top 23
abbrev s_read_top : Stmt := top 24
abbrev s_read_place : Stmt := top 25
abbrev s_read_tie : Stmt := top 26
abbrev s_with_row : Stmt := top 27
abbrev s_read_web : Stmt := top 28
abbrev s_L_cell : Stmt := top 30
abbrev s_L_numbers : Stmt := top 31
abbrev s_L_names : Stmt := top 32
abbrev s_L_place : Stmt := top 33
abbrev s_L_ties : Stmt := top 34
abbrev s_L_web : Stmt := top 35
abbrev s_L_chain : Stmt := top 36
abbrev s_L_drawn : Stmt := top 37
abbrev s_L_web_rows : Stmt := top 38
abbrev s_L_tuples : Stmt := top 39
abbrev s_L_right : Stmt := top 40
abbrev s_law : Stmt := top 41
end K04
namespace K04
open PySem PySem.Spec PyProof.Rows L2 LB PM
def m_is_whole : MS := (mRet (mAnd (mIs "int" (mW 0)) (mNot (mIs "bool" (mW 0)))))
def M_is_whole : List PyData → Option PyData := fnM 1 1 m_is_whole
def m_is_between : MS := (mRet (mAnd (mCb M_is_whole (aCons (mV 0) aNil)) (mCh oLe oLe (mW 1) (mW 0) (mW 2))))
def M_is_between : List PyData → Option PyData := fnM 3 3 m_is_between
def m_is_row : MS := (mRet (mAnd (mIs "tuple" (mW 0)) (mOp oEq (mCb oLen (aCons (mW 0) aNil)) (mW 1))))
def M_is_row : List PyData → Option PyData := fnM 2 2 m_is_row
def m_is_name : MS := (mRet (mAnd (mIs "str" (mW 0)) (mAnd (mCh oLe oLe (mC (.int 1)) (mCb oLen (aCons (mW 0) aNil)) (mC (.int 8))) (mAg (iS (mW 0)) [1] (gN 1) qT (mOp oInX (mW 1) (mC (.str "abcdefghijklmnopqrstuvwxyz")))))))
def M_is_name : List PyData → Option PyData := fnM 1 2 m_is_name
def m_is_rising : MS := (mRet (mAg (iZ (aCons (mV 0) (aCons (mSl (mW 0) (pSo (mC (.int 1))) pNo) aNil))) [1, 2] (gT [1, 2]) qT (mOp oLtX (mW 1) (mW 2))))
def M_is_rising : List PyData → Option PyData := fnM 1 3 m_is_rising
def m_is_top : MS := (mRet (mCb M_is_between (aCons (mV 0) (aCons (mC (.int 1)) (aCons (mC (.int 9)) aNil)))))
def M_is_top : List PyData → Option PyData := fnM 1 1 m_is_top
def m_is_place : MS := (mSeq (mIfS (qNot (qV (mCb M_is_row (aCons (mV 1) (aCons (mC (.int 5)) aNil))))) (mRet (mC (.bool false))) mNx)
  (mSeq (mAsg (mV 1) (gT [2, 3, 4, 5, 6]))
  (mSeq (mIfS (qNot (qAnd (qV (mCb M_is_name (aCons (mV 2) aNil))) (qAnd (qV (mCb M_is_between (aCons (mV 3) (aCons (mC (.int 0)) (aCons (mC (.int 99)) aNil))))) (qAnd (qV (mCb M_is_between (aCons (mV 4) (aCons (mC (.int 0)) (aCons (mC (.int 99)) aNil))))) (qV (mCb M_is_between (aCons (mV 6) (aCons (mC (.int 0)) (aCons (mC (.int 99)) aNil))))))))) (mRet (mC (.bool false))) mNx)
  (mRet (mCb M_is_between (aCons (mV 5) (aCons (mOp oMul (mW 6) (mW 0)) (aCons (mC (.int 999)) aNil))))))))
def M_is_place : List PyData → Option PyData := fnM 2 7 m_is_place
def m_is_tie : MS := (mSeq (mIfS (qNot (qV (mCb M_is_row (aCons (mV 1) (aCons (mC (.int 3)) aNil))))) (mRet (mC (.bool false))) mNx)
  (mSeq (mAsg (mV 1) (gT [2, 3, 4]))
  (mSeq (mIfS (qNot (qAnd (qV (mCb M_is_name (aCons (mV 2) aNil))) (qAnd (qV (mCb M_is_name (aCons (mV 3) aNil))) (qV (mCb M_is_between (aCons (mV 4) (aCons (mC (.int 1)) (aCons (mC (.int 999)) aNil)))))))) (mRet (mC (.bool false))) mNx)
  (mRet (mAnd (mOp oIn (mW 2) (mW 0)) (mAnd (mOp oIn (mW 3) (mW 0)) (mOp oNe (mW 2) (mW 3))))))))
def M_is_tie : List PyData → Option PyData := fnM 2 5 m_is_tie
def m_are_places : MS := (mSeq (mIfS (qNot (qAnd (qV (mIs "tuple" (mW 1))) (qV (mCh oLe oLe (mC (.int 1)) (mCb oLen (aCons (mW 1) aNil)) (mC (.int 8)))))) (mRet (mC (.bool false))) mNx)
  (mRet (mAnd (mAg (iS (mW 1)) [2] (gN 2) qT (mCb M_is_place (aCons (mV 0) (aCons (mV 2) aNil)))) (mCb M_is_rising (aCons (mLc (iS (mW 1)) [2] (gN 2) qT (mOp oIx (mW 2) (mC (.int 0)))) aNil)))))
def M_are_places : List PyData → Option PyData := fnM 2 3 m_are_places
def m_are_ties : MS := (mSeq (mIfS (qNot (qAnd (qV (mIs "tuple" (mW 1))) (qV (mOp oLe (mCb oLen (aCons (mW 1) aNil)) (mC (.int 16)))))) (mRet (mC (.bool false))) mNx)
  (mRet (mAnd (mAg (iS (mW 1)) [2] (gN 2) qT (mCb M_is_tie (aCons (mV 0) (aCons (mV 2) aNil)))) (mCb M_is_rising (aCons (mLc (iS (mW 1)) [2] (gN 2) qT (mSl (mW 2) pNo (pSo (mC (.int 2))))) aNil)))))
def M_are_ties : List PyData → Option PyData := fnM 2 3 m_are_ties
def m_names_of : MS := (mRet (mTg (iS (mOp oIx (mW 0) (mC (.int 1)))) [1] (gN 1) qT (mOp oIx (mW 1) (mC (.int 0)))))
def M_names_of : List PyData → Option PyData := fnM 1 2 m_names_of
def m_is_web : MS := (mSeq (mIfS (qNot (qV (mCb M_is_row (aCons (mV 0) (aCons (mC (.int 3)) aNil))))) (mRet (mC (.bool false))) mNx)
  (mSeq (mAsg (mV 0) (gT [1, 2, 3]))
  (mRet (mAnd (mCb M_is_top (aCons (mV 1) aNil)) (mAnd (mCb M_are_places (aCons (mV 1) (aCons (mV 2) aNil))) (mCb M_are_ties (aCons (mCb M_names_of (aCons (mV 0) aNil)) (aCons (mV 3) aNil))))))))
def M_is_web : List PyData → Option PyData := fnM 1 4 m_is_web
def m_show_web : MS := (mSeq (mAsg (mV 0) (gT [2, 3, 4]))
  (mSeq (mSetO 1 (mLst (aCons (mFs [(mC (.str "top ")), (mV 2)]) aNil)))
  (mSeq (mAugL 1 (mLc (iS (mW 3)) [5, 6, 7, 8, 9] (gT [5, 6, 7, 8, 9]) qT (mFs [(mV 5), (mC (.str " ")), (mV 6), (mC (.str "+")), (mV 7), (mC (.str " ")), (mV 8), (mC (.str "-")), (mV 9)])))
  (mSeq (mAugL 1 (mLc (iS (mW 4)) [10, 11, 12] (gT [10, 11, 12]) qT (mFs [(mV 10), (mC (.str " > ")), (mV 11), (mC (.str " ")), (mV 12)])))
  (mRet (mOp oJoin (mC (.str "\n")) (mW 1)))))))
def M_show_web : List PyData → Option PyData := fnM 1 13 m_show_web
def m_read_number : MS := (mSeq (mIfS (qOr (qNot (qV (mCh oLe oLe (mC (.int 1)) (mCb oLen (aCons (mW 0) aNil)) (mW 1)))) (qNot (qV (mAg (iS (mW 0)) [2] (gN 2) qT (mOp oInX (mW 2) (mC (.str "0123456789"))))))) (mRet (mC .none)) mNx)
  (mSeq (mIfS (qAnd (qV (mOp oEq (mOp oIx (mW 0) (mC (.int 0))) (mC (.str "0")))) (qV (mOp oNe (mW 0) (mC (.str "0"))))) (mRet (mC .none)) mNx)
  (mRet (mCb oIntZ (aCons (mW 0) aNil)))))
def M_read_number : List PyData → Option PyData := fnM 2 3 m_read_number
def m_read_two : MS := (mSeq (mSet 3 (mLc (iS (mOp oSplit (mV 0) (mV 1))) [4] (gN 4) qT (mCb M_read_number (aCons (mV 4) (aCons (mV 2) aNil)))))
  (mSeq (mIfS (qOr (qV (mOp oNe (mCb oLen (aCons (mW 3) aNil)) (mC (.int 2)))) (qV (mOp oIn (mC .none) (mW 3)))) (mRet (mC .none)) mNx)
  (mRet (mV 3))))
def M_read_two : List PyData → Option PyData := fnM 3 5 m_read_two
def m_read_top : MS := (mSeq (mSet 1 (mOp oSplit (mV 0) (mC (.str " "))))
  (mSeq (mIfS (qOr (qV (mOp oNe (mCb oLen (aCons (mW 1) aNil)) (mC (.int 2)))) (qV (mOp oNe (mOp oIx (mW 1) (mC (.int 0))) (mC (.str "top"))))) (mRet (mC .none)) mNx)
  (mRet (mCb M_read_number (aCons (mOp oIx (mW 1) (mC (.int 1))) (aCons (mC (.int 3)) aNil))))))
def M_read_top : List PyData → Option PyData := fnM 1 2 m_read_top
def m_read_place : MS := (mSeq (mSet 1 (mOp oSplit (mV 0) (mC (.str " "))))
  (mSeq (mIfS (qV (mOp oNe (mCb oLen (aCons (mW 1) aNil)) (mC (.int 3)))) (mRet (mC .none)) mNx)
  (mSeq (mSet 2 (mCb M_read_two (aCons (mOp oIx (mW 1) (mC (.int 1))) (aCons (mC (.str "+")) (aCons (mC (.int 3)) aNil)))))
  (mSeq (mSet 3 (mCb M_read_two (aCons (mOp oIx (mW 1) (mC (.int 2))) (aCons (mC (.str "-")) (aCons (mC (.int 3)) aNil)))))
  (mSeq (mIfS (qOr (qV (mOp oIsNo (mW 2) (mC .none))) (qV (mOp oIsNo (mW 3) (mC .none)))) (mRet (mC .none)) mNx)
  (mRet (mTup (aCons (mOp oIx (mW 1) (mC (.int 0))) (aStar (mW 2) (aStar (mW 3) aNil))))))))))
def M_read_place : List PyData → Option PyData := fnM 1 4 m_read_place
def m_read_tie : MS := (mSeq (mSet 1 (mOp oSplit (mV 0) (mC (.str " "))))
  (mSeq (mIfS (qOr (qV (mOp oNe (mCb oLen (aCons (mW 1) aNil)) (mC (.int 4)))) (qV (mOp oNe (mOp oIx (mW 1) (mC (.int 1))) (mC (.str ">"))))) (mRet (mC .none)) mNx)
  (mSeq (mSet 2 (mCb M_read_number (aCons (mOp oIx (mW 1) (mC (.int 3))) (aCons (mC (.int 3)) aNil))))
  (mSeq (mIfS (qV (mOp oIsNo (mW 2) (mC .none))) (mRet (mC .none)) mNx)
  (mRet (mTup (aCons (mOp oIx (mW 1) (mC (.int 0))) (aCons (mOp oIx (mW 1) (mC (.int 2))) (aCons (mV 2) aNil)))))))))
def M_read_tie : List PyData → Option PyData := fnM 1 3 m_read_tie
def m_with_row : MS := (mSeq (mAsg (mV 0) (gT [4, 5, 6]))
  (mSeq (mSet 2 (mCb M_read_place (aCons (mV 1) aNil)))
  (mSeq (mIfS (qAnd (qV (mOp oNotNo (mW 2) (mC .none))) (qV (mOp oEq (mCb oLen (aCons (mW 6) aNil)) (mC (.int 0))))) (mRet (mTup (aCons (mV 4) (aCons (mTup (aStar (mW 5) (aCons (mV 2) aNil))) (aCons (mV 6) aNil))))) mNx)
  (mSeq (mSet 3 (mCb M_read_tie (aCons (mV 1) aNil)))
  (mSeq (mIfS (qV (mOp oNotNo (mW 3) (mC .none))) (mRet (mTup (aCons (mV 4) (aCons (mV 5) (aCons (mTup (aStar (mW 6) (aCons (mV 3) aNil))) aNil))))) mNx)
  (mRet (mC .none)))))))
def M_with_row : List PyData → Option PyData := fnM 2 7 m_with_row
def m_read_web : MS := (mSeq (mIfS (qNot (qV (mIs "str" (mW 0)))) mNo mNx)
  (mSeq (mSet 1 (mOp oSplit (mV 0) (mC (.str "\n"))))
  (mSeq (mSet 2 (mCb M_read_top (aCons (mOp oIx (mW 1) (mC (.int 0))) aNil)))
  (mSeq (mIfS (qOr (qV (mOp oEq (mCb oLen (aCons (mW 1) aNil)) (mC (.int 1)))) (qNot (qV (mCb M_is_top (aCons (mV 2) aNil))))) mNo mNx)
  (mSeq (mSet 3 (mTup (aCons (mV 2) (aCons (mTup aNil) (aCons (mTup aNil) aNil)))))
  (mSeq (mFor (iEs 1 (aCons (mSl (mW 1) (pSo (mC (.int 1))) pNo) aNil)) (gT [4, 5])
   (mSeq (mSet 3 (mCb M_with_row (aCons (mV 3) (aCons (mV 5) aNil))))
  (mIfS (qNot (qV (mCb M_is_web (aCons (mV 3) aNil)))) mNo mNx)))
  (mRet (mV 3))))))))
def M_read_web : List PyData → Option PyData := fnM 1 6 m_read_web
def m_L_cell : MS := (mSeq (mIfS (qV (mOp oLt (mW 1) (mCb oLen (aCons (mW 0) aNil)))) (mRet (mOp oIx (mW 0) (mW 1))) mNx)
  (mSeq (mSet 2 (mOp oMod (mOp oMul (mC (.int 48271)) (mOp oAdd (mOp oAdd (mOp oMul (mW 1) (mW 1)) (mOp oMul (mC (.int 7)) (mW 1))) (mC (.int 11)))) (mC (.int 2147483647))))
  (mSeq (mFor (iS (mSl (mW 0) pNo (pSo (mC (.int 3))))) (gN 3)
   (mSet 2 (mOp oMod (mOp oAdd (mOp oMul (mW 2) (mC (.int 69621))) (mW 3)) (mC (.int 2147483647)))))
  (mRet (mV 2)))))
def M_L_cell : List PyData → Option PyData := fnM 2 4 m_L_cell
def m_L_numbers : MS := (mSeq (mSetO 2 (mLst aNil))
  (mSeq (mSet 3 (mOp oMod (mOp oMul (mOp oAdd (mOp oMod (mW 0) (mC (.int 1999999973))) (mC (.int 31))) (mC (.int 765432101))) (mC (.int 1999999973))))
  (mSeq (mSet 4 (mC (.int 0)))
  (mSeq (mIfS (qOr (qV (mOp oLt (mW 0) (mC (.int 0)))) (qV (mOp oGe (mW 0) (mOp oPow (mC (.int 10)) (mC (.int 18)))))) (mSet 4 (mCb oAbs (aCons (mW 0) aNil))) mNx)
  (mSeq (mFor (iR (aCons (mV 1) aNil)) (gN 5)
   (mSeq (mSet 3 (mOp oMod (mOp oAdd (mOp oAdd (mOp oMul (mW 3) (mOp oAdd (mOp oMod (mW 3) (mC (.int 65521))) (mC (.int 40487)))) (mOp oMul (mC (.int 7)) (mW 5))) (mC (.int 5))) (mC (.int 1999999973))))
  (mSeq (mApp 2 (mOp oIx (mLst (aCons (mV 3) (aCons (mOp oMod (mW 4) (mC (.int 1000000))) aNil))) (mCb oInt (aCons (mOp oGt (mW 4) (mC (.int 0))) aNil))))
  (mSet 4 (mOp oFdv (mW 4) (mC (.int 1000000)))))))
  (mRetO 2))))))
def M_L_numbers : List PyData → Option PyData := fnM 2 6 m_L_numbers
noncomputable def m_L_names : MS := (mSeq (mSet 2 (mC (.str "abcdefghijklmnopqrstuvwxyz")))
  (mSeq (mSetO 3 (mLst aNil))
  (mSeq (mFor (iR (aCons (mV 1) aNil)) (gN 4)
   (mSeq (mSet 5 (mOp oMul (mOp oIx (mW 2) (mOp oMod (mOp oAdd (mOp oIx (mW 0) (mC (.int 0))) (mOp oMul (mC (.int 7)) (mW 4))) (mC (.int 26)))) (mOp oAdd (mC (.int 1)) (mOp oMod (mOp oAdd (mOp oIx (mW 0) (mC (.int 2))) (mOp oMul (mC (.int 3)) (mW 4))) (mOp oIx (mLst (aCons (mC (.int 1)) (aCons (mC (.int 5)) aNil))) (mOp oMod (mOp oIx (mW 0) (mC (.int 3))) (mC (.int 2))))))))
  (mSeq (mIfS (qV (mOp oEq (mOp oMod (mOp oIx (mW 0) (mC (.int 1))) (mC (.int 4))) (mC (.int 1)))) (mSet 5 (mOp oAdd (mOp oIx (mC (.str "abcdefgh")) (mW 4)) (mOp oMul (mOp oIx (mW 2) (mOp oMod (mOp oIx (mW 0) (mC (.int 2))) (mC (.int 26)))) (mOp oMod (mOp oIx (mW 0) (mC (.int 3))) (mC (.int 8)))))) mNx)
  (mSeq (mIfS (qV (mOp oEq (mOp oMod (mOp oIx (mW 0) (mC (.int 1))) (mC (.int 4))) (mC (.int 2)))) (mSet 5 (mOp oMul (mOp oIx (mW 2) (mOp oMod (mOp oIx (mW 0) (mC (.int 2))) (mC (.int 26)))) (mOp oAdd (mC (.int 1)) (mW 4)))) mNx)
  (mSeq (mIfS (qV (mOp oEq (mOp oMod (mOp oIx (mW 0) (mC (.int 1))) (mC (.int 4))) (mC (.int 3)))) (mSeq (mSet 6 (mOp oIx (mW 2) (mOp oMod (mOp oAdd (mOp oIx (mW 0) (mC (.int 3))) (mOp oMul (mC (.int 5)) (mW 4))) (mC (.int 26)))))
  (mSet 5 (mOp oAdd (mOp oAdd (mOp oIx (mW 2) (mOp oMod (mOp oIx (mW 0) (mC (.int 2))) (mC (.int 26)))) (mW 6)) (mOp oIx (mW 2) (mOp oMod (mOp oIx (mW 0) (mC (.int 0))) (mC (.int 26))))))) mNx)
  (mSeq (mIfS (qV (mOp oEq (mOp oMod (mOp oIx (mW 0) (mC (.int 1))) (mC (.int 8))) (mC (.int 6)))) (mSet 5 (mOp oIx (mLst (aCons (mC (.str "top")) (aCons (mC (.str "tie")) (aCons (mC (.str "place")) (aCons (mC (.str "none")) (aCons (mC (.str "at")) (aCons (mC (.str "to")) (aCons (mC (.str "cut")) (aCons (mC (.str "drain")) aNil))))))))) (mOp oMod (mOp oAdd (mW 4) (mOp oIx (mW 0) (mC (.int 3)))) (mC (.int 8))))) mNx)
  (mApp 3 (mV 5))))))))
  (mRet (mCb oSorted (aCons (mW 3) aNil))))))
noncomputable def M_L_names : List PyData → Option PyData := fnM 2 7 m_L_names
def m_L_place : MS := (mSeq (mSet 4 (mOp oIx (mLst (aCons (mC (.int 4)) (aCons (mC (.int 10)) (aCons (mC (.int 100)) (aCons (mC (.int 100)) aNil))))) (mW 3)))
  (mSeq (mSet 5 (mOp oMod (mOp oIx (mW 1) (mC (.int 0))) (mW 4)))
  (mSeq (mSet 6 (mOp oMod (mOp oIx (mW 1) (mC (.int 1))) (mOp oIx (mLst (aCons (mC (.int 3)) (aCons (mC (.int 5)) (aCons (mC (.int 100)) (aCons (mC (.int 100)) aNil))))) (mW 3))))
  (mSeq (mSet 7 (mOp oMod (mOp oIx (mW 1) (mC (.int 2))) (mOp oIx (mLst (aCons (mC (.int 2)) (aCons (mC (.int 4)) (aCons (mC (.int 100)) (aCons (mC (.int 100)) aNil))))) (mW 3))))
  (mSeq (mSet 8 (mOp oAdd (mOp oMul (mW 7) (mW 2)) (mOp oMod (mOp oIx (mW 1) (mC (.int 3))) (mOp oIx (mLst (aCons (mC (.int 5)) (aCons (mC (.int 20)) (aCons (mC (.int 100)) (aCons (mC (.int 100)) aNil))))) (mW 3)))))
  (mSeq (mIfS (qV (mOp oEq (mOp oMod (mOp oIx (mW 1) (mC (.int 4))) (mC (.int 5))) (mC (.int 1)))) (mPar 5 6 (aCons (mC (.int 0)) (aCons (mOp oMod (mOp oFdv (mOp oIx (mW 1) (mC (.int 1))) (mC (.int 8))) (mC (.int 3))) aNil))) mNx)
  (mSeq (mIfS (qV (mOp oEq (mOp oMod (mOp oIx (mW 1) (mC (.int 4))) (mC (.int 5))) (mC (.int 2)))) (mSeq (mSet 7 (mC (.int 0)))
  (mSet 8 (mOp oMod (mOp oIx (mW 1) (mC (.int 3))) (mOp oIx (mLst (aCons (mC (.int 5)) (aCons (mC (.int 20)) (aCons (mC (.int 1000)) (aCons (mC (.int 1000)) aNil))))) (mW 3))))) mNx)
  (mRet (mTup (aCons (mV 0) (aCons (mV 5) (aCons (mV 6) (aCons (mV 8) (aCons (mV 7) aNil))))))))))))))
def M_L_place : List PyData → Option PyData := fnM 4 9 m_L_place
noncomputable def m_L_ties : MS := (mSeq (mSetO 5 (mC (.dict [])))
  (mSeq (mFor (iR (aCons (mV 3) aNil)) (gN 6)
   (mSeq (mSet 7 (mCb M_L_numbers (aCons (mCb M_L_cell (aCons (mV 1) (aCons (mOp oAdd (mW 2) (mW 6)) aNil))) (aCons (mC (.int 5)) aNil))))
  (mSeq (mSet 8 (mOp oMod (mOp oIx (mW 7) (mC (.int 0))) (mCb oLen (aCons (mW 0) aNil))))
  (mSeq (mSet 9 (mOp oMod (mOp oAdd (mOp oAdd (mW 8) (mC (.int 1))) (mOp oMod (mOp oIx (mW 7) (mC (.int 1))) (mCb oMax (aCons (mC (.int 1)) (aCons (mOp oSub (mCb oLen (aCons (mW 0) aNil)) (mC (.int 1))) aNil))))) (mCb oLen (aCons (mW 0) aNil))))
  (mSeq (mSet 10 (mOp oIx (mLst (aCons (mOp oAdd (mC (.int 1)) (mOp oMod (mOp oIx (mW 7) (mC (.int 2))) (mC (.int 4)))) (aCons (mOp oAdd (mC (.int 1)) (mOp oMod (mOp oIx (mW 7) (mC (.int 2))) (mC (.int 30)))) (aCons (mOp oAdd (mC (.int 1)) (mOp oMod (mOp oIx (mW 7) (mC (.int 2))) (mC (.int 999)))) (aCons (mOp oAdd (mC (.int 1)) (mOp oMod (mOp oIx (mW 7) (mC (.int 2))) (mC (.int 999)))) aNil))))) (mW 4)))
  (mIfS (qV (mOp oNe (mW 8) (mW 9))) (mSeq (mDput 5 (aCons (mOp oIx (mW 0) (mW 8)) (aCons (mOp oIx (mW 0) (mW 9)) aNil)) (mV 10))
  (mIfS (qAnd (qV (mOp oEq (mOp oMod (mOp oIx (mW 7) (mC (.int 3))) (mC (.int 3))) (mC (.int 1)))) (qV (mOp oLt (mLenD 5) (mC (.int 16))))) (mDput 5 (aCons (mOp oIx (mW 0) (mW 9)) (aCons (mOp oIx (mW 0) (mW 8)) aNil)) (mOp oAdd (mC (.int 1)) (mOp oMod (mOp oIx (mW 7) (mC (.int 4))) (mC (.int 9))))) mNx)) mNx))))))
  (mRet (mCb oTuple (aCons (mSl (mTies 11 5) pNo (pSo (mC (.int 16)))) aNil)))))
noncomputable def M_L_ties : List PyData → Option PyData := fnM 5 12 m_L_ties
noncomputable def m_L_web : MS := (mSeq (mSet 3 (mCb M_L_numbers (aCons (mCb M_L_cell (aCons (mV 0) (aCons (mV 1) aNil))) (aCons (mC (.int 12)) aNil))))
  (mSeq (mSet 4 (mOp oAdd (mC (.int 1)) (mOp oMod (mOp oIx (mW 3) (mC (.int 4))) (mC (.int 9)))))
  (mSeq (mSet 5 (mOp oAdd (mC (.int 1)) (mOp oMod (mOp oIx (mW 3) (mC (.int 5))) (mW 2))))
  (mSeq (mSet 6 (mOp oIx (mLst (aCons (mC (.int 0)) (aCons (mC (.int 1)) (aCons (mC (.int 0)) (aCons (mC (.int 1)) (aCons (mC (.int 2)) aNil)))))) (mOp oMod (mOp oIx (mW 3) (mC (.int 6))) (mC (.int 5)))))
  (mSeq (mSet 7 (mCb M_L_names (aCons (mV 3) (aCons (mV 5) aNil))))
  (mSeq (mSetO 8 (mLst aNil))
  (mSeq (mFor (iR (aCons (mV 5) aNil)) (gN 9)
   (mApp 8 (mCb M_L_place (aCons (mOp oIx (mW 7) (mW 9)) (aCons (mCb M_L_numbers (aCons (mCb M_L_cell (aCons (mV 0) (aCons (mOp oAdd (mOp oAdd (mW 1) (mC (.int 1))) (mW 9)) aNil))) (aCons (mC (.int 5)) aNil))) (aCons (mV 4) (aCons (mV 6) aNil)))))))
  (mSeq (mSet 10 (mCb M_L_ties (aCons (mV 7) (aCons (mV 0) (aCons (mOp oAdd (mOp oAdd (mW 1) (mC (.int 1))) (mW 5)) (aCons (mOp oMod (mOp oIx (mW 3) (mC (.int 7))) (mOp oAdd (mOp oMul (mC (.int 2)) (mW 5)) (mC (.int 1)))) (aCons (mV 6) aNil)))))))
  (mRet (mTup (aCons (mV 4) (aCons (mCb oTuple (aCons (mW 8) aNil)) (aCons (mV 10) aNil)))))))))))))
noncomputable def M_L_web : List PyData → Option PyData := fnM 3 11 m_L_web
noncomputable def m_L_chain : MS := (mSeq (mSet 2 (mCb M_L_names (aCons (mV 0) (aCons (mV 1) aNil))))
  (mSeq (mSet 3 (mOp oAdd (mC (.int 1)) (mOp oMod (mOp oIx (mW 0) (mC (.int 4))) (mC (.int 9)))))
  (mSeq (mSetO 4 (mLst aNil))
  (mSeq (mFor (iR (aCons (mV 1) aNil)) (gN 5)
   (mSeq (mSet 8 (mOp oMul (mOp oAdd (mC (.int 1)) (mOp oMod (mOp oIx (mW 0) (mC (.int 5))) (mC (.int 9)))) (mCb oInt (aCons (mOp oEq (mW 5) (mC (.int 0))) aNil))))
  (mApp 4 (mTup (aCons (mOp oIx (mW 2) (mW 5)) (aCons (mC (.int 0)) (aCons (mV 8) (aCons (mOp oIx (mLst (aCons (mC (.int 0)) (aCons (mOp oMul (mW 3) (mC (.int 20))) aNil))) (mCb oInt (aCons (mOp oEq (mW 5) (mOp oSub (mW 1) (mC (.int 1)))) aNil))) (aCons (mC (.int 0)) aNil)))))))))
  (mSeq (mSet 6 (mUn oLrg (mV 1)))
  (mSeq (mIfS (qV (mOp oEq (mOp oMod (mOp oIx (mW 0) (mC (.int 6))) (mC (.int 2))) (mC (.int 1)))) (mSet 6 (mUn oRevU (mW 6))) mNx)
  (mSeq (mSetO 7 (mLst aNil))
  (mSeq (mFor (iR (aCons (mOp oSub (mW 1) (mC (.int 1))) aNil)) (gN 5)
   (mApp 7 (mTup (aCons (mOp oIx (mW 2) (mOp oIx (mW 6) (mW 5))) (aCons (mOp oIx (mW 2) (mOp oIx (mW 6) (mOp oAdd (mW 5) (mC (.int 1))))) (aCons (mOp oAdd (mC (.int 1)) (mOp oMod (mOp oAdd (mOp oIx (mW 0) (mC (.int 7))) (mOp oMul (mC (.int 3)) (mW 5))) (mC (.int 20)))) aNil))))))
  (mRet (mTup (aCons (mV 3) (aCons (mCb oTuple (aCons (mW 4) aNil)) (aCons (mCb oTuple (aCons (mCb oSorted (aCons (mW 7) aNil)) aNil)) aNil)))))))))))))
noncomputable def M_L_chain : List PyData → Option PyData := fnM 2 9 m_L_chain
noncomputable def m_L_drawn : MS := (mSeq (mSet 1 (mCb M_L_numbers (aCons (mCb M_L_cell (aCons (mV 0) (aCons (mC (.int 0)) aNil))) (aCons (mC (.int 24)) aNil))))
  (mSeq (mIfS (qV (mOp oEq (mOp oMod (mOp oIx (mW 1) (mC (.int 12))) (mC (.int 8))) (mC (.int 1)))) (mRet (mCb M_L_chain (aCons (mSl (mW 1) (pSo (mC (.int 13))) pNo) (aCons (mOp oAdd (mC (.int 2)) (mOp oMod (mOp oFdv (mOp oIx (mW 1) (mC (.int 12))) (mC (.int 8))) (mC (.int 7)))) aNil)))) mNx)
  (mRet (mCb M_L_web (aCons (mV 0) (aCons (mC (.int 1)) (aCons (mOp oIx (mLst (aCons (mC (.int 6)) (aCons (mC (.int 8)) aNil))) (mCb oInt (aCons (mOp oEq (mOp oMod (mOp oIx (mW 1) (mC (.int 12))) (mC (.int 8))) (mC (.int 2))) aNil))) aNil)))))))
noncomputable def M_L_drawn : List PyData → Option PyData := fnM 1 2 m_L_drawn
def m_L_web_rows : MS := (mSeq (mSetO 1 (mLst (aCons (mOp oAdd (mC (.str "top ")) (mCb oStrI (aCons (mOp oIx (mW 0) (mC (.int 0))) aNil))) aNil)))
  (mSeq (mFor (iS (mOp oIx (mW 0) (mC (.int 1)))) (gT [2, 3, 4, 5, 6])
   (mApp 1 (mOp oAdd (mOp oAdd (mOp oAdd (mOp oAdd (mOp oAdd (mOp oAdd (mOp oAdd (mOp oAdd (mW 2) (mC (.str " "))) (mCb oStrI (aCons (mW 3) aNil))) (mC (.str "+"))) (mCb oStrI (aCons (mW 4) aNil))) (mC (.str " "))) (mCb oStrI (aCons (mW 5) aNil))) (mC (.str "-"))) (mCb oStrI (aCons (mW 6) aNil)))))
  (mSeq (mFor (iS (mOp oIx (mW 0) (mC (.int 2)))) (gT [7, 8, 9])
   (mApp 1 (mOp oAdd (mOp oAdd (mOp oAdd (mOp oAdd (mW 7) (mC (.str " > "))) (mW 8)) (mC (.str " "))) (mCb oStrI (aCons (mW 9) aNil)))))
  (mRetO 1))))
def M_L_web_rows : List PyData → Option PyData := fnM 1 10 m_L_web_rows
def m_L_tuples (M_L_tuples : List PyData → Option PyData) : MS := (mSeq (mIfS (qV (mIs "list" (mW 0))) (mRet (mC (.bool false))) mNx)
  (mRet (mOr (mNot (mIs "tuple" (mW 0))) (mCb oAll (aCons (mLc (iS (mW 0)) [1] (gN 1) qT (mCb M_L_tuples (aCons (mV 1) aNil))) aNil)))))
def MR_L_tuples : Nat → List PyData → Option PyData
  | 0 => fun _ => none
  | n + 1 => fnM 1 2 (m_L_tuples (MR_L_tuples n))
def M_L_tuples : List PyData → Option PyData := MR_L_tuples 8
def m_L_right : MS := (mSeq (mSet 1 (mOp oJoin (mC (.str "\n")) (mCb M_L_web_rows (aCons (mV 0) aNil))))
  (mSeq (mSet 2 (mCb M_show_web (aCons (mV 0) aNil)))
  (mSeq (mIfS (qOr (qNot (qV (mIs "str" (mW 2)))) (qV (mOp oNe (mW 2) (mW 1)))) (mRet (mC (.bool false))) mNx)
  (mSeq (mSet 3 (mCb M_read_web (aCons (mV 1) aNil)))
  (mRet (mAnd (mOp oEq (mW 3) (mW 0)) (mAnd (mCb M_L_tuples (aCons (mV 3) aNil)) (mAnd (mCb M_is_web (aCons (mV 3) aNil)) (mOp oEq (mCb M_show_web (aCons (mV 3) aNil)) (mW 1))))))))))
def M_L_right : List PyData → Option PyData := fnM 1 4 m_L_right
noncomputable def m_law : MS := (mSeq (mSet 1 (mCb M_L_drawn (aCons (mV 0) aNil)))
  (mSeq (mIfS (qOr (qNot (qV (mCb M_L_right (aCons (mV 1) aNil)))) (qNot (qV (mCb M_L_right (aCons (mTup (aCons (mOp oIx (mW 1) (mC (.int 0))) (aCons (mOp oIx (mW 1) (mC (.int 1))) (aCons (mTup aNil) aNil)))) aNil))))) (mRet (mC (.bool false))) mNx)
  (mSeq (mFor (iS (mOp oAdd (mLst (aCons (mCb M_L_cell (aCons (mV 0) (aCons (mC (.int 30)) aNil))) aNil)) (mSl (mW 0) (pSo (mC (.int 31))) (pSo (mC (.int 36)))))) (gN 2)
   (mSeq (mSet 3 (mCb M_L_numbers (aCons (mV 2) (aCons (mC (.int 24)) aNil))))
  (mSeq (mSet 4 (mCb oTuple (aCons (mLc (iR (aCons (mCb oLen (aCons (mOp oIx (mW 1) (mC (.int 2))) aNil)) aNil)) [9] (gN 9) (qV (mOp oGt (mOp oMod (mOp oIx (mW 3) (mW 9)) (mC (.int 3))) (mC (.int 0)))) (mOp oIx (mOp oIx (mW 1) (mC (.int 2))) (mW 9))) aNil)))
  (mSeq (mIfS (qNot (qV (mCb M_L_right (aCons (mTup (aCons (mOp oIx (mW 1) (mC (.int 0))) (aCons (mOp oIx (mW 1) (mC (.int 1))) (aCons (mV 4) aNil)))) aNil)))) (mRet (mC (.bool false))) mNx)
  (mSeq (mSet 5 (mCb oTuple (aCons (mLc (iR (aCons (mCb oLen (aCons (mOp oIx (mW 1) (mC (.int 1))) aNil)) aNil)) [9] (gN 9) (qV (mOp oGt (mOp oMod (mOp oIx (mW 3) (mOp oAdd (mC (.int 16)) (mW 9))) (mC (.int 3))) (mC (.int 0)))) (mOp oIx (mOp oIx (mW 1) (mC (.int 1))) (mW 9))) aNil)))
  (mSeq (mSet 6 (mLc (iS (mW 5)) [8] (gN 8) qT (mOp oIx (mW 8) (mC (.int 0)))))
  (mSeq (mSet 7 (mCb oTuple (aCons (mLc (iS (mOp oIx (mW 1) (mC (.int 2)))) [10] (gN 10) (qAnd (qV (mOp oIn (mOp oIx (mW 10) (mC (.int 0))) (mW 6))) (qV (mOp oIn (mOp oIx (mW 10) (mC (.int 1))) (mW 6)))) (mV 10)) aNil)))
  (mIfS (qAnd (qV (mOp oNe (mW 5) (mTup aNil))) (qNot (qV (mCb M_L_right (aCons (mTup (aCons (mOp oIx (mW 1) (mC (.int 0))) (aCons (mV 5) (aCons (mV 7) aNil)))) aNil))))) (mRet (mC (.bool false))) mNx))))))))
  (mRet (mC (.bool true))))))
noncomputable def M_law : List PyData → Option PyData := fnM 1 11 m_law
end K04
namespace K04
open PySem PySem.Spec PyProof.Rows L2 LB
/-- what the top has left -/
structure Txt (K : PySem.W.Frag) (mg : Str → Option Value) : Prop where
  m_StairError : mg "StairError" = some (.ref (He.ga K "StairError"))
  m_NoText : mg "NoText" = some (.ref (He.ga K "NoText"))
  m_is_whole : mg "is_whole" = some (.ref (He.ga K "is_whole"))
  m_is_between : mg "is_between" = some (.ref (He.ga K "is_between"))
  m_is_row : mg "is_row" = some (.ref (He.ga K "is_row"))
  m_is_name : mg "is_name" = some (.ref (He.ga K "is_name"))
  m_is_rising : mg "is_rising" = some (.ref (He.ga K "is_rising"))
  m_is_top : mg "is_top" = some (.ref (He.ga K "is_top"))
  m_is_place : mg "is_place" = some (.ref (He.ga K "is_place"))
  m_is_tie : mg "is_tie" = some (.ref (He.ga K "is_tie"))
  m_are_places : mg "are_places" = some (.ref (He.ga K "are_places"))
  m_are_ties : mg "are_ties" = some (.ref (He.ga K "are_ties"))
  m_is_web : mg "is_web" = some (.ref (He.ga K "is_web"))
  m_names_of : mg "names_of" = some (.ref (He.ga K "names_of"))
  m_show_web : mg "show_web" = some (.ref (He.ga K "show_web"))
  m_read_number : mg "read_number" = some (.ref (He.ga K "read_number"))
  m_read_two : mg "read_two" = some (.ref (He.ga K "read_two"))
  m_read_top : mg "read_top" = some (.ref (He.ga K "read_top"))
  m_read_place : mg "read_place" = some (.ref (He.ga K "read_place"))
  m_read_tie : mg "read_tie" = some (.ref (He.ga K "read_tie"))
  m_with_row : mg "with_row" = some (.ref (He.ga K "with_row"))
  m_read_web : mg "read_web" = some (.ref (He.ga K "read_web"))
  m_L_cell : mg "_law_cell" = some (.ref (He.ga K "_law_cell"))
  m_L_numbers : mg "_law_numbers" = some (.ref (He.ga K "_law_numbers"))
  m_L_names : mg "_law_names" = some (.ref (He.ga K "_law_names"))
  m_L_place : mg "_law_place" = some (.ref (He.ga K "_law_place"))
  m_L_ties : mg "_law_ties" = some (.ref (He.ga K "_law_ties"))
  m_L_web : mg "_law_web" = some (.ref (He.ga K "_law_web"))
  m_L_chain : mg "_law_chain" = some (.ref (He.ga K "_law_chain"))
  m_L_drawn : mg "_law_drawn" = some (.ref (He.ga K "_law_drawn"))
  m_L_web_rows : mg "_law_web_rows" = some (.ref (He.ga K "_law_web_rows"))
  m_L_tuples : mg "_law_tuples" = some (.ref (He.ga K "_law_tuples"))
  m_L_right : mg "_law_right" = some (.ref (He.ga K "_law_right"))
  m_law : mg "law" = some (.ref (He.ga K "law"))
  f_ValueError : mg "ValueError" = none
  f_abs : mg "abs" = none
  f_all : mg "all" = none
  f_bool : mg "bool" = none
  f_enumerate : mg "enumerate" = none
  f_int : mg "int" = none
  f_isinstance : mg "isinstance" = none
  f_len : mg "len" = none
  f_list : mg "list" = none
  f_max : mg "max" = none
  f_range : mg "range" = none
  f_sorted : mg "sorted" = none
  f_str : mg "str" = none
  f_super : mg "super" = none
  f_tuple : mg "tuple" = none
  f_zip : mg "zip" = none
  c_LETTERS : ∃ t, mg "LETTERS" = some (.str "abcdefghijklmnopqrstuvwxyz" t)
  c_FIGURES : ∃ t, mg "FIGURES" = some (.str "0123456789" t)
  c_MOST_FIGURES : ∃ t, mg "MOST_FIGURES" = some (.int 3 t)
  k_StairError : PySem.W.keepIn K (.ref (He.ga K "StairError")) = true
  k_NoText : PySem.W.keepIn K (.ref (He.ga K "NoText")) = true
  D_is_whole : Df K mg "is_whole" s_is_whole
  D_is_between : Df K mg "is_between" s_is_between
  D_is_row : Df K mg "is_row" s_is_row
  D_is_name : Df K mg "is_name" s_is_name
  D_is_rising : Df K mg "is_rising" s_is_rising
  D_is_top : Df K mg "is_top" s_is_top
  D_is_place : Df K mg "is_place" s_is_place
  D_is_tie : Df K mg "is_tie" s_is_tie
  D_are_places : Df K mg "are_places" s_are_places
  D_are_ties : Df K mg "are_ties" s_are_ties
  D_is_web : Df K mg "is_web" s_is_web
  D_names_of : Df K mg "names_of" s_names_of
  D_show_web : Df K mg "show_web" s_show_web
  D_read_number : Df K mg "read_number" s_read_number
  D_read_two : Df K mg "read_two" s_read_two
  D_read_top : Df K mg "read_top" s_read_top
  D_read_place : Df K mg "read_place" s_read_place
  D_read_tie : Df K mg "read_tie" s_read_tie
  D_with_row : Df K mg "with_row" s_with_row
  D_read_web : Df K mg "read_web" s_read_web
  D_L_cell : Df K mg "_law_cell" s_L_cell
  D_L_numbers : Df K mg "_law_numbers" s_L_numbers
  D_L_names : Df K mg "_law_names" s_L_names
  D_L_place : Df K mg "_law_place" s_L_place
  D_L_ties : Df K mg "_law_ties" s_L_ties
  D_L_web : Df K mg "_law_web" s_L_web
  D_L_chain : Df K mg "_law_chain" s_L_chain
  D_L_drawn : Df K mg "_law_drawn" s_L_drawn
  D_L_web_rows : Df K mg "_law_web_rows" s_L_web_rows
  D_L_tuples : Df K mg "_law_tuples" s_L_tuples
  D_L_right : Df K mg "_law_right" s_L_right
  D_law : Df K mg "law" s_law
end K04
namespace K04
open PySem PySem.Spec PyProof.Rows L2 LB PM
abbrev gens : List Str := ["is_name", "is_rising", "are_places", "are_ties", "names_of", "read_number"]
abbrev tabs (K : PySem.W.Frag) : Tb := tabsOf K gens
def ex (K : PySem.W.Frag) : Bool := decide ((gens.map fun x => (He.cT K (x, none)).2).Nodup)
structure Ext (K : PySem.W.Frag) : Prop where
  nd : (gens.map fun x => (He.cT K (x, none)).2).Nodup
theorem ext_of {K : PySem.W.Frag} (h : ex K = true) : Ext K := by
  exact ⟨of_decide_eq_true h⟩
end K04
namespace K04
open PySem PySem.Spec PyProof.Rows L2 LB PM
section
variable {P : Program} {w : World} {K : PySem.W.Frag} {mg : Str → Option Value} {base : Heap}
abbrev N_is_whole : List Str := ["thing"]
theorem sc_is_whole : FnScope N_is_whole ["thing"] (defScope s_is_whole) := ⟨rfl, rfl, rfl, by decide +kernel, rfl, by decide +kernel, by decide +kernel⟩
theorem ok_is_whole (T : Txt K mg) : OwnFn P w K mg base 1 "is_whole" ["thing"] (spM K (tabs K) M_is_whole) := by
  exact own_ok (k := 0) T.D_is_whole sc_is_whole (fun _ _ _ _ _ _ us hl => match us, hl with | [_], _ => rfl) (fun vs H Q E h => spM_len h) (fun cdv A outer s H vs Q E hr h => ⟨_, PSs.nox (show PSs _ _ (tS K (tabs K) m_is_whole) from (pss_one (PM.s_ret (ps_ret (c_andV (pe_and (c_is (pe_callB (call_isK K) (by rfl) T.f_isinstance (by decide +kernel) (pa_cons (c_vw (pv 0)) (pa_cons (pe_bltn (v := .ty "int") rfl T.f_int (by decide +kernel) rfl) pa_nil)))) (pe_one (c_notV (pe_not (c_is (pe_callB (call_isK K) (by rfl) T.f_isinstance (by decide +kernel) (pa_cons (c_vw (pv 0)) (pa_cons (pe_bltn (v := .ty "bool") rfl T.f_bool (by decide +kernel) rfl) pa_nil))))))))))))), spM_in (N := N_is_whole) h⟩)
abbrev N_is_between : List Str := ["thing", "least", "most"]
theorem sc_is_between : FnScope N_is_between ["thing", "least", "most"] (defScope s_is_between) := ⟨rfl, rfl, rfl, by decide +kernel, rfl, by decide +kernel, by decide +kernel⟩
theorem ok_is_between (T : Txt K mg) (F_is_whole : OwnFn P w K mg base 1 "is_whole" ["thing"] (spM K (tabs K) M_is_whole)) : OwnFn P w K mg base 2 "is_between" ["thing", "least", "most"] (spM K (tabs K) M_is_between) := by
  exact own_ok (k := 1) T.D_is_between sc_is_between (fun _ _ _ _ _ _ us hl => match us, hl with | [_, _, _], _ => rfl) (fun vs H Q E h => spM_len h) (fun cdv A outer s H vs Q E hr h => ⟨_, PSs.nox (show PSs _ _ (tS K (tabs K) m_is_between) from (pss_one (PM.s_ret (ps_ret (c_andV (pe_and (c_call (pe_own F_is_whole hr passL (a_cons (pa_cons (c_v (pv 0)) (a_nil pa_nil))))) (pe_one (c_ch od_le od_le (pe_chain op_le op_le (c_vw (pv 1)) (c_vw (pv 0)) (c_vw (pv 2))))))))))), spM_in (N := N_is_between) h⟩)
abbrev N_is_row : List Str := ["thing", "many"]
theorem sc_is_row : FnScope N_is_row ["thing", "many"] (defScope s_is_row) := ⟨rfl, rfl, rfl, by decide +kernel, rfl, by decide +kernel, by decide +kernel⟩
theorem ok_is_row (T : Txt K mg) : OwnFn P w K mg base 1 "is_row" ["thing", "many"] (spM K (tabs K) M_is_row) := by
  exact own_ok (k := 0) T.D_is_row sc_is_row (fun _ _ _ _ _ _ us hl => match us, hl with | [_, _], _ => rfl) (fun vs H Q E h => spM_len h) (fun cdv A outer s H vs Q E hr h => ⟨_, PSs.nox (show PSs _ _ (tS K (tabs K) m_is_row) from (pss_one (PM.s_ret (ps_ret (c_andV (pe_and (c_is (pe_callB (call_isK K) (by rfl) T.f_isinstance (by decide +kernel) (pa_cons (c_vw (pv 0)) (pa_cons (pe_bltn (v := .ty "tuple") rfl T.f_tuple (by decide +kernel) rfl) pa_nil)))) (pe_one (c_op od_eq (pe_cmpR (op_eqK (room_u64 hr)) (c_w (c_cb cb_len (pe_callB (call_lenK K) (by rfl) T.f_len (by decide +kernel) (a_consw (pa_cons (c_vw (pv 0)) (a_nilw pa_nil)))))) (c_vw (pv 1)) (nomark _)))))))))), spM_in (N := N_is_row) h⟩)
abbrev N_is_name : List Str := ["thing", "sign"]
theorem sc_is_name : FnScope N_is_name ["thing"] (defScope s_is_name) := ⟨rfl, rfl, rfl, by decide +kernel, rfl, by decide +kernel, by decide +kernel⟩
theorem ok_is_name (T : Txt K mg) (Y : Ext K) (TB : LamX.TabB base mg (He.cT K ("is_name", none)).1 (He.cT K ("is_name", none)).2) : OwnFn P w K mg base 3 "is_name" ["thing"] (spM K (tabs K) M_is_name) := by
  have hmT : ((He.cT K ("is_name", none)).2, qOf "is_name") ∈ tabs K := tab_mem (by decide +kernel)
  have hu : ∀ p ∈ tabs K, p.1 = (He.cT K ("is_name", none)).2 → p.2 = qOf "is_name" := tab_uniq Y.nd (by decide +kernel)
  exact own_okC (k := 2) T.D_is_name sc_is_name (fun _ _ _ _ _ _ us hl => match us, hl with | [_], _ => rfl) (fun vs H Q E h => spM_len h) (fun cdv A outer s H vs Q E hcd hr h => ⟨_, PSs.nox (show PSs _ _ (tS K (tabs K) m_is_name) from (pss_one (PM.s_ret (ps_ret (c_andV (pe_and (c_is (pe_callB (call_isK K) (by rfl) T.f_isinstance (by decide +kernel) (pa_cons (c_vw (pv 0)) (pa_cons (pe_bltn (v := .ty "str") rfl T.f_str (by decide +kernel) rfl) pa_nil)))) (c_andV (pe_and (c_ch od_le od_le (pe_chain op_le op_le (c_w (c_c pe_int fun _ => .int _)) (c_w (c_cb cb_len (pe_callB (call_lenK K) (by rfl) T.f_len (by decide +kernel) (a_consw (pa_cons (c_vw (pv 0)) (a_nilw pa_nil)))))) (c_w (c_c pe_int fun _ => .int _)))) (pe_one (c_ag (by refine GX.pe_allG (k := 0) (T := tabs K) (own := [("sign", 1)]) (hr.mono (by decide)) (by rfl) T.f_all TB hcd hmT hu (GX.gx_by (own := [("sign", 1)]) (N := N_is_name) (sc := defScope s_is_name) (by decide +kernel)) sc_is_name.nd ?_ (fun _ => rfl) ?_ ?_ ?_; exact (c_iseqw (pi_seq (c_vw (pv 0)))); exact (fun _ _ _ _ _ _ _ _ => (c_gn (pg_name (i := 1) sc_is_name.nd rfl (by first | exact Or.inl rfl | exact Or.inr rfl)))); exact (fun _ _ _ _ _ _ _ _ hr => (q_nil pts_nil)); exact (fun _ _ _ _ _ _ _ _ hr => (c_op od_inX (pe_cmpR op_uInX (c_vw (pv 1)) (c_w (c_c (pe_glob (v := .str "abcdefghijklmnopqrstuvwxyz") rfl T.c_LETTERS.choose_spec ⟨_, rfl⟩) fun _ => .str _)) (by rfl))))))))))))))), spM_in (N := N_is_name) h⟩)
abbrev N_is_rising : List Str := ["row", "ahead", "behind"]
theorem sc_is_rising : FnScope N_is_rising ["row"] (defScope s_is_rising) := ⟨rfl, rfl, rfl, by decide +kernel, rfl, by decide +kernel, by decide +kernel⟩
theorem ok_is_rising (T : Txt K mg) (Y : Ext K) (TB : LamX.TabB base mg (He.cT K ("is_rising", none)).1 (He.cT K ("is_rising", none)).2) : OwnFn P w K mg base 3 "is_rising" ["row"] (spM K (tabs K) M_is_rising) := by
  have hmT : ((He.cT K ("is_rising", none)).2, qOf "is_rising") ∈ tabs K := tab_mem (by decide +kernel)
  have hu : ∀ p ∈ tabs K, p.1 = (He.cT K ("is_rising", none)).2 → p.2 = qOf "is_rising" := tab_uniq Y.nd (by decide +kernel)
  exact own_okC (k := 2) T.D_is_rising sc_is_rising (fun _ _ _ _ _ _ us hl => match us, hl with | [_], _ => rfl) (fun vs H Q E h => spM_len h) (fun cdv A outer s H vs Q E hcd hr h => ⟨_, PSs.nox (show PSs _ _ (tS K (tabs K) m_is_rising) from (pss_one (PM.s_ret (ps_ret (c_ag (by refine GX.pe_allG (k := 0) (T := tabs K) (own := [("ahead", 1), ("behind", 2)]) (hr.mono (by decide)) (by rfl) T.f_all TB hcd hmT hu (GX.gx_by (own := [("ahead", 1), ("behind", 2)]) (N := N_is_rising) (sc := defScope s_is_rising) (by decide +kernel)) sc_is_rising.nd ?_ (fun _ => rfl) ?_ ?_ ?_; exact (c_ih (c_izip (pi_zipK (by rfl) T.f_zip (a_cons (pa_cons (c_v (pv 0)) (a_cons (pa_cons (c_sl (pe_slice sl_u (c_vw (pv 0)) (c_pso (po_some (c_c pe_int fun _ => .int _))) (c_pno po_none))) (a_nil pa_nil)))))))); exact (fun _ _ _ _ _ _ _ _ => (c_gt [1, 2] (pg_tupK rfl (pgs_cons (pg_name (i := 1) sc_is_rising.nd rfl (by first | exact Or.inl rfl | exact Or.inr rfl)) (pgs_cons (pg_name (i := 2) sc_is_rising.nd rfl (by first | exact Or.inl rfl | exact Or.inr rfl)) pgs_nil))))); exact (fun _ _ _ _ _ _ _ _ hr => (q_nil pts_nil)); exact (fun _ _ _ _ _ _ _ _ hr => (c_op od_ltX (pe_cmpR (op_uLtX (room_u64 hr)) (c_vw (pv 1)) (c_vw (pv 2)) (nomark _)))))))))), spM_in (N := N_is_rising) h⟩)
abbrev N_is_top : List Str := ["thing"]
theorem sc_is_top : FnScope N_is_top ["thing"] (defScope s_is_top) := ⟨rfl, rfl, rfl, by decide +kernel, rfl, by decide +kernel, by decide +kernel⟩
theorem ok_is_top (T : Txt K mg) (F_is_between : OwnFn P w K mg base 2 "is_between" ["thing", "least", "most"] (spM K (tabs K) M_is_between)) : OwnFn P w K mg base 3 "is_top" ["thing"] (spM K (tabs K) M_is_top) := by
  exact own_ok (k := 2) T.D_is_top sc_is_top (fun _ _ _ _ _ _ us hl => match us, hl with | [_], _ => rfl) (fun vs H Q E h => spM_len h) (fun cdv A outer s H vs Q E hr h => ⟨_, PSs.nox (show PSs _ _ (tS K (tabs K) m_is_top) from (pss_one (PM.s_ret (ps_ret (c_call (pe_own F_is_between hr passL (a_cons (pa_cons (c_v (pv 0)) (a_cons (pa_cons (c_c pe_int fun _ => .int _) (a_cons (pa_cons (c_c pe_int fun _ => .int _) (a_nil pa_nil))))))))))))), spM_in (N := N_is_top) h⟩)
abbrev N_is_place : List Str := ["top", "thing", "name", "a", "b", "c", "d"]
theorem sc_is_place : FnScope N_is_place ["top", "thing"] (defScope s_is_place) := ⟨rfl, rfl, rfl, by decide +kernel, rfl, by decide +kernel, by decide +kernel⟩
theorem ok_is_place (T : Txt K mg) (F_is_row : OwnFn P w K mg base 1 "is_row" ["thing", "many"] (spM K (tabs K) M_is_row)) (F_is_between : OwnFn P w K mg base 2 "is_between" ["thing", "least", "most"] (spM K (tabs K) M_is_between)) (F_is_name : OwnFn P w K mg base 3 "is_name" ["thing"] (spM K (tabs K) M_is_name)) : OwnFn P w K mg base 4 "is_place" ["top", "thing"] (spM K (tabs K) M_is_place) := by
  exact own_ok (k := 3) T.D_is_place sc_is_place (fun _ _ _ _ _ _ us hl => match us, hl with | [_, _], _ => rfl) (fun vs H Q E h => spM_len h) (fun cdv A outer s H vs Q E hr h => ⟨_, PSs.nox (show PSs _ _ (tS K (tabs K) m_is_place) from (PM.s_seq (pss_cons (PM.s_if (ps_if (c_not (pt_not (c_tv (pt_val (c_call (pe_own F_is_row hr passL (a_cons (pa_cons (c_v (pv 1)) (a_cons (pa_cons (c_c pe_int fun _ => .int _) (a_nil pa_nil))))))))))) (pss_one (PM.s_ret (ps_ret (c_c pe_bl fun _ => .bl _)))) (PM.s_nil pss_nil)))
  (PM.s_seq (pss_cons (PM.s_asg (ps_asg (c_v (pv 1)) (c_gt [2, 3, 4, 5, 6] (pg_tupK rfl (pgs_cons (pg_name (i := 2) sc_is_place.nd rfl (by first | exact Or.inl rfl | exact Or.inr rfl)) (pgs_cons (pg_name (i := 3) sc_is_place.nd rfl (by first | exact Or.inl rfl | exact Or.inr rfl)) (pgs_cons (pg_name (i := 4) sc_is_place.nd rfl (by first | exact Or.inl rfl | exact Or.inr rfl)) (pgs_cons (pg_name (i := 5) sc_is_place.nd rfl (by first | exact Or.inl rfl | exact Or.inr rfl)) (pgs_cons (pg_name (i := 6) sc_is_place.nd rfl (by first | exact Or.inl rfl | exact Or.inr rfl)) pgs_nil)))))))))
  (PM.s_seq (pss_cons (PM.s_if (ps_if (c_not (pt_not (PW.pt (c_and (pw_and (c_tv (pt_val (c_call (pe_own F_is_name hr passL (a_cons (pa_cons (c_v (pv 2)) (a_nil pa_nil))))))) (c_and (pw_and (c_tv (pt_val (c_call (pe_own F_is_between hr passL (a_cons (pa_cons (c_v (pv 3)) (a_cons (pa_cons (c_c pe_int fun _ => .int _) (a_cons (pa_cons (c_c pe_int fun _ => .int _) (a_nil pa_nil))))))))))) (c_and (pw_and (c_tv (pt_val (c_call (pe_own F_is_between hr passL (a_cons (pa_cons (c_v (pv 4)) (a_cons (pa_cons (c_c pe_int fun _ => .int _) (a_cons (pa_cons (c_c pe_int fun _ => .int _) (a_nil pa_nil))))))))))) (pw_and1 (c_tv (pt_val (c_call (pe_own F_is_between hr passL (a_cons (pa_cons (c_v (pv 6)) (a_cons (pa_cons (c_c pe_int fun _ => .int _) (a_cons (pa_cons (c_c pe_int fun _ => .int _) (a_nil pa_nil))))))))))))))))))))) (pss_one (PM.s_ret (ps_ret (c_c pe_bl fun _ => .bl _)))) (PM.s_nil pss_nil)))
  (pss_one (PM.s_ret (ps_ret (c_call (pe_own F_is_between hr passL (a_cons (pa_cons (c_v (pv 5)) (a_cons (pa_cons (c_op od_mul (pe_op op_uMul (c_vw (pv 6)) (c_vw (pv 0)))) (a_cons (pa_cons (c_c pe_int fun _ => .int _) (a_nil pa_nil))))))))))))))))))), spM_in (N := N_is_place) h⟩)
abbrev N_is_tie : List Str := ["names", "thing", "one", "other", "size"]
theorem sc_is_tie : FnScope N_is_tie ["names", "thing"] (defScope s_is_tie) := ⟨rfl, rfl, rfl, by decide +kernel, rfl, by decide +kernel, by decide +kernel⟩
theorem ok_is_tie (T : Txt K mg) (F_is_row : OwnFn P w K mg base 1 "is_row" ["thing", "many"] (spM K (tabs K) M_is_row)) (F_is_between : OwnFn P w K mg base 2 "is_between" ["thing", "least", "most"] (spM K (tabs K) M_is_between)) (F_is_name : OwnFn P w K mg base 3 "is_name" ["thing"] (spM K (tabs K) M_is_name)) : OwnFn P w K mg base 4 "is_tie" ["names", "thing"] (spM K (tabs K) M_is_tie) := by
  exact own_ok (k := 3) T.D_is_tie sc_is_tie (fun _ _ _ _ _ _ us hl => match us, hl with | [_, _], _ => rfl) (fun vs H Q E h => spM_len h) (fun cdv A outer s H vs Q E hr h => ⟨_, PSs.nox (show PSs _ _ (tS K (tabs K) m_is_tie) from (PM.s_seq (pss_cons (PM.s_if (ps_if (c_not (pt_not (c_tv (pt_val (c_call (pe_own F_is_row hr passL (a_cons (pa_cons (c_v (pv 1)) (a_cons (pa_cons (c_c pe_int fun _ => .int _) (a_nil pa_nil))))))))))) (pss_one (PM.s_ret (ps_ret (c_c pe_bl fun _ => .bl _)))) (PM.s_nil pss_nil)))
  (PM.s_seq (pss_cons (PM.s_asg (ps_asg (c_v (pv 1)) (c_gt [2, 3, 4] (pg_tupK rfl (pgs_cons (pg_name (i := 2) sc_is_tie.nd rfl (by first | exact Or.inl rfl | exact Or.inr rfl)) (pgs_cons (pg_name (i := 3) sc_is_tie.nd rfl (by first | exact Or.inl rfl | exact Or.inr rfl)) (pgs_cons (pg_name (i := 4) sc_is_tie.nd rfl (by first | exact Or.inl rfl | exact Or.inr rfl)) pgs_nil)))))))
  (PM.s_seq (pss_cons (PM.s_if (ps_if (c_not (pt_not (PW.pt (c_and (pw_and (c_tv (pt_val (c_call (pe_own F_is_name hr passL (a_cons (pa_cons (c_v (pv 2)) (a_nil pa_nil))))))) (c_and (pw_and (c_tv (pt_val (c_call (pe_own F_is_name hr passL (a_cons (pa_cons (c_v (pv 3)) (a_nil pa_nil))))))) (pw_and1 (c_tv (pt_val (c_call (pe_own F_is_between hr passL (a_cons (pa_cons (c_v (pv 4)) (a_cons (pa_cons (c_c pe_int fun _ => .int _) (a_cons (pa_cons (c_c pe_int fun _ => .int _) (a_nil pa_nil))))))))))))))))))) (pss_one (PM.s_ret (ps_ret (c_c pe_bl fun _ => .bl _)))) (PM.s_nil pss_nil)))
  (pss_one (PM.s_ret (ps_ret (c_andV (pe_and (c_op od_in (pe_cmpR (op_inK K) (c_vw (pv 2)) (c_vw (pv 0)) (by rfl))) (c_andV (pe_and (c_op od_in (pe_cmpR (op_inK K) (c_vw (pv 3)) (c_vw (pv 0)) (by rfl))) (pe_one (c_op od_ne (pe_cmpR (op_neK (room_u64 hr)) (c_vw (pv 2)) (c_vw (pv 3)) (nomark _)))))))))))))))))), spM_in (N := N_is_tie) h⟩)
abbrev N_are_places : List Str := ["top", "thing", "place"]
theorem sc_are_places : FnScope N_are_places ["top", "thing"] (defScope s_are_places) := ⟨rfl, rfl, rfl, by decide +kernel, rfl, by decide +kernel, by decide +kernel⟩
theorem ok_are_places (T : Txt K mg) (Y : Ext K) (TB : LamX.TabB base mg (He.cT K ("are_places", none)).1 (He.cT K ("are_places", none)).2) (F_is_rising : OwnFn P w K mg base 3 "is_rising" ["row"] (spM K (tabs K) M_is_rising)) (F_is_place : OwnFn P w K mg base 4 "is_place" ["top", "thing"] (spM K (tabs K) M_is_place)) : OwnFn P w K mg base 7 "are_places" ["top", "thing"] (spM K (tabs K) M_are_places) := by
  have hmT : ((He.cT K ("are_places", none)).2, qOf "are_places") ∈ tabs K := tab_mem (by decide +kernel)
  have hu : ∀ p ∈ tabs K, p.1 = (He.cT K ("are_places", none)).2 → p.2 = qOf "are_places" := tab_uniq Y.nd (by decide +kernel)
  exact own_okC (k := 6) T.D_are_places sc_are_places (fun _ _ _ _ _ _ us hl => match us, hl with | [_, _], _ => rfl) (fun vs H Q E h => spM_len h) (fun cdv A outer s H vs Q E hcd hr h => ⟨_, PSs.nox (show PSs _ _ (tS K (tabs K) m_are_places) from (PM.s_seq (pss_cons (PM.s_if (ps_if (c_not (pt_not (PW.pt (c_and (pw_and (c_tv (pt_val (c_is (pe_callB (call_isK K) (by rfl) T.f_isinstance (by decide +kernel) (pa_cons (c_vw (pv 1)) (pa_cons (pe_bltn (v := .ty "tuple") rfl T.f_tuple (by decide +kernel) rfl) pa_nil)))))) (pw_and1 (c_chT od_le od_le (pt_chain op_le op_le (c_w (c_c pe_int fun _ => .int _)) (c_w (c_cb cb_len (pe_callB (call_lenK K) (by rfl) T.f_len (by decide +kernel) (a_consw (pa_cons (c_vw (pv 1)) (a_nilw pa_nil)))))) (c_w (c_c pe_int fun _ => .int _)))))))))) (pss_one (PM.s_ret (ps_ret (c_c pe_bl fun _ => .bl _)))) (PM.s_nil pss_nil)))
  (pss_one (PM.s_ret (ps_ret (c_andV (pe_and (c_ag (by refine GX.pe_allG (k := 4) (T := tabs K) (own := [("place", 2)]) (hr.mono (by decide)) (by rfl) T.f_all TB hcd hmT hu (GX.gx_by (own := [("place", 2)]) (N := N_are_places) (sc := defScope s_are_places) (by decide +kernel)) sc_are_places.nd ?_ (fun _ => rfl) ?_ ?_ ?_; exact (c_iseqw (pi_seq (c_vw (pv 1)))); exact (fun _ _ _ _ _ _ _ _ => (c_gn (pg_name (i := 2) sc_are_places.nd rfl (by first | exact Or.inl rfl | exact Or.inr rfl)))); exact (fun _ _ _ _ _ _ _ _ hr => (q_nil pts_nil)); exact (fun _ _ _ _ _ _ _ _ hr => (c_call (pe_own F_is_place hr passL (a_cons (pa_cons (c_v (pv 0)) (a_cons (pa_cons (c_v (pv 2)) (a_nil pa_nil)))))))))) (pe_one (c_call (pe_own F_is_rising hr passL (a_cons (pa_cons (c_f (c_lc (pe_lc (own := [("place", 2)]) (by rfl) sc_are_places.nd (c_iseqw (pi_seq (c_vw (pv 1)))) (blkOk_by (own := [("place", 2)]) (N := N_are_places) (sc := defScope s_are_places) (by decide +kernel)) (fun _ _ _ _ _ => (c_gn (pg_name (i := 2) sc_are_places.nd rfl (by first | exact Or.inl rfl | exact Or.inr rfl)))) (fun _ _ _ _ _ => (q_nil pts_nil)) (fun _ _ _ _ _ => (c_op od_ix (pe_ix ix_u (c_vw (pv 2)) (c_w (c_c pe_int fun _ => .int _)) (fun _ _ => rfl)))))) mLc_is) (a_nil pa_nil)))))))))))))), spM_in (N := N_are_places) h⟩)
abbrev N_are_ties : List Str := ["names", "thing", "tie"]
theorem sc_are_ties : FnScope N_are_ties ["names", "thing"] (defScope s_are_ties) := ⟨rfl, rfl, rfl, by decide +kernel, rfl, by decide +kernel, by decide +kernel⟩
theorem ok_are_ties (T : Txt K mg) (Y : Ext K) (TB : LamX.TabB base mg (He.cT K ("are_ties", none)).1 (He.cT K ("are_ties", none)).2) (F_is_rising : OwnFn P w K mg base 3 "is_rising" ["row"] (spM K (tabs K) M_is_rising)) (F_is_tie : OwnFn P w K mg base 4 "is_tie" ["names", "thing"] (spM K (tabs K) M_is_tie)) : OwnFn P w K mg base 7 "are_ties" ["names", "thing"] (spM K (tabs K) M_are_ties) := by
  have hmT : ((He.cT K ("are_ties", none)).2, qOf "are_ties") ∈ tabs K := tab_mem (by decide +kernel)
  have hu : ∀ p ∈ tabs K, p.1 = (He.cT K ("are_ties", none)).2 → p.2 = qOf "are_ties" := tab_uniq Y.nd (by decide +kernel)
  exact own_okC (k := 6) T.D_are_ties sc_are_ties (fun _ _ _ _ _ _ us hl => match us, hl with | [_, _], _ => rfl) (fun vs H Q E h => spM_len h) (fun cdv A outer s H vs Q E hcd hr h => ⟨_, PSs.nox (show PSs _ _ (tS K (tabs K) m_are_ties) from (PM.s_seq (pss_cons (PM.s_if (ps_if (c_not (pt_not (PW.pt (c_and (pw_and (c_tv (pt_val (c_is (pe_callB (call_isK K) (by rfl) T.f_isinstance (by decide +kernel) (pa_cons (c_vw (pv 1)) (pa_cons (pe_bltn (v := .ty "tuple") rfl T.f_tuple (by decide +kernel) rfl) pa_nil)))))) (pw_and1 (c_opT od_le (pt_cmpR op_le (c_w (c_cb cb_len (pe_callB (call_lenK K) (by rfl) T.f_len (by decide +kernel) (a_consw (pa_cons (c_vw (pv 1)) (a_nilw pa_nil)))))) (c_w (c_c pe_int fun _ => .int _)) (nomark _))))))))) (pss_one (PM.s_ret (ps_ret (c_c pe_bl fun _ => .bl _)))) (PM.s_nil pss_nil)))
  (pss_one (PM.s_ret (ps_ret (c_andV (pe_and (c_ag (by refine GX.pe_allG (k := 4) (T := tabs K) (own := [("tie", 2)]) (hr.mono (by decide)) (by rfl) T.f_all TB hcd hmT hu (GX.gx_by (own := [("tie", 2)]) (N := N_are_ties) (sc := defScope s_are_ties) (by decide +kernel)) sc_are_ties.nd ?_ (fun _ => rfl) ?_ ?_ ?_; exact (c_iseqw (pi_seq (c_vw (pv 1)))); exact (fun _ _ _ _ _ _ _ _ => (c_gn (pg_name (i := 2) sc_are_ties.nd rfl (by first | exact Or.inl rfl | exact Or.inr rfl)))); exact (fun _ _ _ _ _ _ _ _ hr => (q_nil pts_nil)); exact (fun _ _ _ _ _ _ _ _ hr => (c_call (pe_own F_is_tie hr passL (a_cons (pa_cons (c_v (pv 0)) (a_cons (pa_cons (c_v (pv 2)) (a_nil pa_nil)))))))))) (pe_one (c_call (pe_own F_is_rising hr passL (a_cons (pa_cons (c_f (c_lc (pe_lc (own := [("tie", 2)]) (by rfl) sc_are_ties.nd (c_iseqw (pi_seq (c_vw (pv 1)))) (blkOk_by (own := [("tie", 2)]) (N := N_are_ties) (sc := defScope s_are_ties) (by decide +kernel)) (fun _ _ _ _ _ => (c_gn (pg_name (i := 2) sc_are_ties.nd rfl (by first | exact Or.inl rfl | exact Or.inr rfl)))) (fun _ _ _ _ _ => (q_nil pts_nil)) (fun _ _ _ _ _ => (c_sl (pe_slice sl_u (c_vw (pv 2)) (c_pno po_none) (c_pso (po_some (c_c pe_int fun _ => .int _)))))))) mLc_is) (a_nil pa_nil)))))))))))))), spM_in (N := N_are_ties) h⟩)
abbrev N_names_of : List Str := ["web", "place"]
theorem sc_names_of : FnScope N_names_of ["web"] (defScope s_names_of) := ⟨rfl, rfl, rfl, by decide +kernel, rfl, by decide +kernel, by decide +kernel⟩
theorem ok_names_of (T : Txt K mg) (Y : Ext K) (TB : LamX.TabB base mg (He.cT K ("names_of", none)).1 (He.cT K ("names_of", none)).2) : OwnFn P w K mg base 6 "names_of" ["web"] (spM K (tabs K) M_names_of) := by
  have hmT : ((He.cT K ("names_of", none)).2, qOf "names_of") ∈ tabs K := tab_mem (by decide +kernel)
  have hu : ∀ p ∈ tabs K, p.1 = (He.cT K ("names_of", none)).2 → p.2 = qOf "names_of" := tab_uniq Y.nd (by decide +kernel)
  exact own_okC (k := 5) T.D_names_of sc_names_of (fun _ _ _ _ _ _ us hl => match us, hl with | [_], _ => rfl) (fun vs H Q E h => spM_len h) (fun cdv A outer s H vs Q E hcd hr h => ⟨_, PSs.nox (show PSs _ _ (tS K (tabs K) m_names_of) from (pss_one (PM.s_ret (ps_ret (c_tg (by refine GX.pe_tupG (k := 1) ?_ (hr.mono (by decide)) (by rfl) T.f_tuple; refine GX.pgen_gx (k := 0) (T := tabs K) (own := [("place", 1)]) (hr.mono (by decide)) TB hcd hmT hu (GX.gx_by (own := [("place", 1)]) (N := N_names_of) (sc := defScope s_names_of) (by decide +kernel)) sc_names_of.nd ?_ (fun _ => rfl) ?_ ?_ ?_; exact (c_iseqw (pi_seq (c_w (c_op od_ix (pe_ix ix_u (c_vw (pv 0)) (c_w (c_c pe_int fun _ => .int _)) (fun _ _ => rfl)))))); exact (fun _ _ _ _ _ _ _ _ => (c_gn (pg_name (i := 1) sc_names_of.nd rfl (by first | exact Or.inl rfl | exact Or.inr rfl)))); exact (fun _ _ _ _ _ _ _ _ hr => (q_nil pts_nil)); exact (fun _ _ _ _ _ _ _ _ hr => (c_op od_ix (pe_ix ix_u (c_vw (pv 1)) (c_w (c_c pe_int fun _ => .int _)) (fun _ _ => rfl)))))))))), spM_in (N := N_names_of) h⟩)
abbrev N_is_web : List Str := ["thing", "top", "places", "ties"]
theorem sc_is_web : FnScope N_is_web ["thing"] (defScope s_is_web) := ⟨rfl, rfl, rfl, by decide +kernel, rfl, by decide +kernel, by decide +kernel⟩
theorem ok_is_web (T : Txt K mg) (F_is_row : OwnFn P w K mg base 1 "is_row" ["thing", "many"] (spM K (tabs K) M_is_row)) (F_names_of : OwnFn P w K mg base 6 "names_of" ["web"] (spM K (tabs K) M_names_of)) (F_are_ties : OwnFn P w K mg base 7 "are_ties" ["names", "thing"] (spM K (tabs K) M_are_ties)) (F_are_places : OwnFn P w K mg base 7 "are_places" ["top", "thing"] (spM K (tabs K) M_are_places)) (F_is_top : OwnFn P w K mg base 3 "is_top" ["thing"] (spM K (tabs K) M_is_top)) : OwnFn P w K mg base 8 "is_web" ["thing"] (spM K (tabs K) M_is_web) := by
  exact own_ok (k := 7) T.D_is_web sc_is_web (fun _ _ _ _ _ _ us hl => match us, hl with | [_], _ => rfl) (fun vs H Q E h => spM_len h) (fun cdv A outer s H vs Q E hr h => ⟨_, PSs.nox (show PSs _ _ (tS K (tabs K) m_is_web) from (PM.s_seq (pss_cons (PM.s_if (ps_if (c_not (pt_not (c_tv (pt_val (c_call (pe_own F_is_row hr passL (a_cons (pa_cons (c_v (pv 0)) (a_cons (pa_cons (c_c pe_int fun _ => .int _) (a_nil pa_nil))))))))))) (pss_one (PM.s_ret (ps_ret (c_c pe_bl fun _ => .bl _)))) (PM.s_nil pss_nil)))
  (PM.s_seq (pss_cons (PM.s_asg (ps_asg (c_v (pv 0)) (c_gt [1, 2, 3] (pg_tupK rfl (pgs_cons (pg_name (i := 1) sc_is_web.nd rfl (by first | exact Or.inl rfl | exact Or.inr rfl)) (pgs_cons (pg_name (i := 2) sc_is_web.nd rfl (by first | exact Or.inl rfl | exact Or.inr rfl)) (pgs_cons (pg_name (i := 3) sc_is_web.nd rfl (by first | exact Or.inl rfl | exact Or.inr rfl)) pgs_nil)))))))
  (pss_one (PM.s_ret (ps_ret (c_andV (pe_and (c_call (pe_own F_is_top hr passL (a_cons (pa_cons (c_v (pv 1)) (a_nil pa_nil))))) (c_andV (pe_and (c_call (pe_own F_are_places hr passL (a_cons (pa_cons (c_v (pv 1)) (a_cons (pa_cons (c_v (pv 2)) (a_nil pa_nil))))))) (pe_one (c_call (pe_own F_are_ties hr passL (a_cons (pa_cons (c_call (pe_own F_names_of hr passL (a_cons (pa_cons (c_v (pv 0)) (a_nil pa_nil))))) (a_cons (pa_cons (c_v (pv 3)) (a_nil pa_nil)))))))))))))))))))), spM_in (N := N_is_web) h⟩)
abbrev N_show_web : List Str := ["web", "rows", "top", "places", "ties", "name", "a", "b", "c", "d", "one", "other", "size"]
theorem sc_show_web : FnScope N_show_web ["web"] (defScope s_show_web) := ⟨rfl, rfl, rfl, by decide +kernel, rfl, by decide +kernel, by decide +kernel⟩
theorem ok_show_web (T : Txt K mg) : OwnFn P w K mg base 1 "show_web" ["web"] (spM K (tabs K) M_show_web) := by
  exact own_ok (k := 0) T.D_show_web sc_show_web (fun _ _ _ _ _ _ us hl => match us, hl with | [_], _ => rfl) (fun vs H Q E h => spM_len h) (fun cdv A outer s H vs Q E hr h => ⟨_, PSs.nox (show PSs _ _ (tS K (tabs K) m_show_web) from (PM.s_seq (pss_cons (PM.s_asg (ps_asg (c_v (pv 0)) (c_gt [2, 3, 4] (pg_tupK rfl (pgs_cons (pg_name (i := 2) sc_show_web.nd rfl (by first | exact Or.inl rfl | exact Or.inr rfl)) (pgs_cons (pg_name (i := 3) sc_show_web.nd rfl (by first | exact Or.inl rfl | exact Or.inr rfl)) (pgs_cons (pg_name (i := 4) sc_show_web.nd rfl (by first | exact Or.inl rfl | exact Or.inr rfl)) pgs_nil)))))))
  (PM.s_seq (pss_cons (PM.s_setO (ps_set (i := 1) sc_show_web.nd rfl (by first | exact Or.inl rfl | exact Or.inr rfl) (c_lst (pe_lst (a_cons (pa_cons (c_fs (FJ.con (c_c pe_str fun _ => .str _) (FJ.fmt (pe_fmt (c_v (pv 2))) FJ.nil))) (a_nil pa_nil)))))))
  (PM.s_seq (pss_cons (PM.s_augL (ps_aug (i := 1) sc_show_web.nd rfl (by first | exact Or.inl rfl | exact Or.inr rfl) (c_lc (pe_lc (own := [("name", 5), ("a", 6), ("b", 7), ("c", 8), ("d", 9)]) (by rfl) sc_show_web.nd (c_iseqw (pi_seq (c_vw (pv 3)))) (blkOk_by (own := [("name", 5), ("a", 6), ("b", 7), ("c", 8), ("d", 9)]) (N := N_show_web) (sc := defScope s_show_web) (by decide +kernel)) (fun _ _ _ _ _ => (c_gt [5, 6, 7, 8, 9] (pg_tupK rfl (pgs_cons (pg_name (i := 5) sc_show_web.nd rfl (by first | exact Or.inl rfl | exact Or.inr rfl)) (pgs_cons (pg_name (i := 6) sc_show_web.nd rfl (by first | exact Or.inl rfl | exact Or.inr rfl)) (pgs_cons (pg_name (i := 7) sc_show_web.nd rfl (by first | exact Or.inl rfl | exact Or.inr rfl)) (pgs_cons (pg_name (i := 8) sc_show_web.nd rfl (by first | exact Or.inl rfl | exact Or.inr rfl)) (pgs_cons (pg_name (i := 9) sc_show_web.nd rfl (by first | exact Or.inl rfl | exact Or.inr rfl)) pgs_nil)))))))) (fun _ _ _ _ _ => (q_nil pts_nil)) (fun _ _ _ _ _ => (c_fs (FJ.fmt (pe_fmt (c_v (pv 5))) (FJ.con (c_c pe_str fun _ => .str _) (FJ.fmt (pe_fmt (c_v (pv 6))) (FJ.con (c_c pe_str fun _ => .str _) (FJ.fmt (pe_fmt (c_v (pv 7))) (FJ.con (c_c pe_str fun _ => .str _) (FJ.fmt (pe_fmt (c_v (pv 8))) (FJ.con (c_c pe_str fun _ => .str _) (FJ.fmt (pe_fmt (c_v (pv 9))) FJ.nil))))))))))))) iop_ext))
  (PM.s_seq (pss_cons (PM.s_augL (ps_aug (i := 1) sc_show_web.nd rfl (by first | exact Or.inl rfl | exact Or.inr rfl) (c_lc (pe_lc (own := [("one", 10), ("other", 11), ("size", 12)]) (by rfl) sc_show_web.nd (c_iseqw (pi_seq (c_vw (pv 4)))) (blkOk_by (own := [("one", 10), ("other", 11), ("size", 12)]) (N := N_show_web) (sc := defScope s_show_web) (by decide +kernel)) (fun _ _ _ _ _ => (c_gt [10, 11, 12] (pg_tupK rfl (pgs_cons (pg_name (i := 10) sc_show_web.nd rfl (by first | exact Or.inl rfl | exact Or.inr rfl)) (pgs_cons (pg_name (i := 11) sc_show_web.nd rfl (by first | exact Or.inl rfl | exact Or.inr rfl)) (pgs_cons (pg_name (i := 12) sc_show_web.nd rfl (by first | exact Or.inl rfl | exact Or.inr rfl)) pgs_nil)))))) (fun _ _ _ _ _ => (q_nil pts_nil)) (fun _ _ _ _ _ => (c_fs (FJ.fmt (pe_fmt (c_v (pv 10))) (FJ.con (c_c pe_str fun _ => .str _) (FJ.fmt (pe_fmt (c_v (pv 11))) (FJ.con (c_c pe_str fun _ => .str _) (FJ.fmt (pe_fmt (c_v (pv 12))) FJ.nil))))))))) iop_ext))
  (pss_one (PM.s_ret (ps_ret (c_join (pe_join (c_c pe_str fun _ => .str _) (c_vw (pv 1)))))))))))))))), spM_in (N := N_show_web) h⟩)
abbrev N_read_number : List Str := ["word", "most", "sign"]
theorem sc_read_number : FnScope N_read_number ["word", "most"] (defScope s_read_number) := ⟨rfl, rfl, rfl, by decide +kernel, rfl, by decide +kernel, by decide +kernel⟩
theorem ok_read_number (T : Txt K mg) (Y : Ext K) (TB : LamX.TabB base mg (He.cT K ("read_number", none)).1 (He.cT K ("read_number", none)).2) : OwnFn P w K mg base 3 "read_number" ["word", "most"] (spM K (tabs K) M_read_number) := by
  have hmT : ((He.cT K ("read_number", none)).2, qOf "read_number") ∈ tabs K := tab_mem (by decide +kernel)
  have hu : ∀ p ∈ tabs K, p.1 = (He.cT K ("read_number", none)).2 → p.2 = qOf "read_number" := tab_uniq Y.nd (by decide +kernel)
  exact own_okC (k := 2) T.D_read_number sc_read_number (fun _ _ _ _ _ _ us hl => match us, hl with | [_, _], _ => rfl) (fun vs H Q E h => spM_len h) (fun cdv A outer s H vs Q E hcd hr h => ⟨_, PSs.nox (show PSs _ _ (tS K (tabs K) m_read_number) from (PM.s_seq (pss_cons (PM.s_if (ps_if (PW.pt (c_or (pw_or (c_not (pt_not (c_chT od_le od_le (pt_chain op_le op_le (c_w (c_c pe_int fun _ => .int _)) (c_w (c_cb cb_len (pe_callB (call_lenK K) (by rfl) T.f_len (by decide +kernel) (a_consw (pa_cons (c_vw (pv 0)) (a_nilw pa_nil)))))) (c_vw (pv 1)))))) (pw_or1 (c_not (pt_not (c_tv (pt_val (c_ag (by refine GX.pe_allG (k := 0) (T := tabs K) (own := [("sign", 2)]) (hr.mono (by decide)) (by rfl) T.f_all TB hcd hmT hu (GX.gx_by (own := [("sign", 2)]) (N := N_read_number) (sc := defScope s_read_number) (by decide +kernel)) sc_read_number.nd ?_ (fun _ => rfl) ?_ ?_ ?_; exact (c_iseqw (pi_seq (c_vw (pv 0)))); exact (fun _ _ _ _ _ _ _ _ => (c_gn (pg_name (i := 2) sc_read_number.nd rfl (by first | exact Or.inl rfl | exact Or.inr rfl)))); exact (fun _ _ _ _ _ _ _ _ hr => (q_nil pts_nil)); exact (fun _ _ _ _ _ _ _ _ hr => (c_op od_inX (pe_cmpR op_uInX (c_vw (pv 2)) (c_w (c_c (pe_glob (v := .str "0123456789") rfl T.c_FIGURES.choose_spec ⟨_, rfl⟩) fun _ => .str _)) (by rfl)))))))))))))) (pss_one (PM.s_ret (ps_ret (c_c pe_non fun _ => .non)))) (PM.s_nil pss_nil)))
  (PM.s_seq (pss_cons (PM.s_if (ps_if (PW.pt (c_and (pw_and (c_opT od_eq (pt_cmpR (op_eqK (room_u64 hr)) (c_w (c_op od_ix (pe_ix ix_u (c_vw (pv 0)) (c_w (c_c pe_int fun _ => .int _)) (fun _ _ => rfl)))) (c_w (c_c pe_str fun _ => .str _)) (nomark _))) (pw_and1 (c_opT od_ne (pt_cmpR (op_neK (room_u64 hr)) (c_vw (pv 0)) (c_w (c_c pe_str fun _ => .str _)) (nomark _))))))) (pss_one (PM.s_ret (ps_ret (c_c pe_non fun _ => .non)))) (PM.s_nil pss_nil)))
  (pss_one (PM.s_ret (ps_ret (c_cb cb_intZ (pe_callTy call_int_str (by rfl) T.f_int (by decide +kernel) (a_consw (pa_cons (c_vw (pv 0)) (a_nilw pa_nil))))))))))))), spM_in (N := N_read_number) h⟩)
abbrev N_read_two : List Str := ["word", "sign", "most", "numbers", "part"]
theorem sc_read_two : FnScope N_read_two ["word", "sign", "most"] (defScope s_read_two) := ⟨rfl, rfl, rfl, by decide +kernel, rfl, by decide +kernel, by decide +kernel⟩
theorem ok_read_two (T : Txt K mg) (F_read_number : OwnFn P w K mg base 3 "read_number" ["word", "most"] (spM K (tabs K) M_read_number)) : OwnFn P w K mg base 4 "read_two" ["word", "sign", "most"] (spM K (tabs K) M_read_two) := by
  exact own_ok (k := 3) T.D_read_two sc_read_two (fun _ _ _ _ _ _ us hl => match us, hl with | [_, _, _], _ => rfl) (fun vs H Q E h => spM_len h) (fun cdv A outer s H vs Q E hr h => ⟨_, PSs.nox (show PSs _ _ (tS K (tabs K) m_read_two) from (PM.s_seq (pss_cons (PM.s_set (PM.s_fd (PM.s_lc (ps_setLc (i := 3) (own := [("part", 4)]) (by rfl) sc_read_two.nd rfl rfl (sw_true rfl rfl rfl (by decide +kernel)) (c_iseqw (pi_seq (c_fw (c_split (pe_split (c_v (pv 0)) (c_v (pv 1))))))) (blkOk_by (own := [("part", 4)]) (N := N_read_two) (sc := defScope s_read_two) (by decide +kernel)) (fun _ _ _ _ _ => (c_gn (pg_name (i := 4) sc_read_two.nd rfl (by first | exact Or.inl rfl | exact Or.inr rfl)))) (fun _ _ _ _ _ => (q_nil pts_nil)) (fun _ _ _ _ _ => (c_call (pe_own F_read_number hr passL (a_cons (pa_cons (c_v (pv 4)) (a_cons (pa_cons (c_v (pv 2)) (a_nil pa_nil)))))))))) mLc_is))
  (PM.s_seq (pss_cons (PM.s_if (ps_if (PW.pt (c_or (pw_or (c_opT od_ne (pt_cmpR (op_neK (room_u64 hr)) (c_w (c_cb cb_len (pe_callB (call_lenK K) (by rfl) T.f_len (by decide +kernel) (a_consw (pa_cons (c_vw (pv 3)) (a_nilw pa_nil)))))) (c_w (c_c pe_int fun _ => .int _)) (nomark _))) (pw_or1 (c_opT od_in (pt_cmpR (op_inK K) (c_w (c_c pe_non fun _ => .non)) (c_vw (pv 3)) (by rfl))))))) (pss_one (PM.s_ret (ps_ret (c_c pe_non fun _ => .non)))) (PM.s_nil pss_nil)))
  (pss_one (PM.s_ret (ps_ret (c_v (pv 3)))))))))), spM_in (N := N_read_two) h⟩)
abbrev N_read_top : List Str := ["row", "words"]
theorem sc_read_top : FnScope N_read_top ["row"] (defScope s_read_top) := ⟨rfl, rfl, rfl, by decide +kernel, rfl, by decide +kernel, by decide +kernel⟩
theorem ok_read_top (T : Txt K mg) (F_read_number : OwnFn P w K mg base 3 "read_number" ["word", "most"] (spM K (tabs K) M_read_number)) : OwnFn P w K mg base 4 "read_top" ["row"] (spM K (tabs K) M_read_top) := by
  exact own_ok (k := 3) T.D_read_top sc_read_top (fun _ _ _ _ _ _ us hl => match us, hl with | [_], _ => rfl) (fun vs H Q E h => spM_len h) (fun cdv A outer s H vs Q E hr h => ⟨_, PSs.nox (show PSs _ _ (tS K (tabs K) m_read_top) from (PM.s_seq (pss_cons (PM.s_set (ps_set (i := 1) sc_read_top.nd rfl (by first | exact Or.inl rfl | exact Or.inr rfl) (c_f (c_split (pe_split (c_v (pv 0)) (c_c pe_str fun _ => .str _))) mSplit_is)))
  (PM.s_seq (pss_cons (PM.s_if (ps_if (PW.pt (c_or (pw_or (c_opT od_ne (pt_cmpR (op_neK (room_u64 hr)) (c_w (c_cb cb_len (pe_callB (call_lenK K) (by rfl) T.f_len (by decide +kernel) (a_consw (pa_cons (c_vw (pv 1)) (a_nilw pa_nil)))))) (c_w (c_c pe_int fun _ => .int _)) (nomark _))) (pw_or1 (c_opT od_ne (pt_cmpR (op_neK (room_u64 hr)) (c_w (c_op od_ix (pe_ix ix_u (c_vw (pv 1)) (c_w (c_c pe_int fun _ => .int _)) (fun _ _ => rfl)))) (c_w (c_c pe_str fun _ => .str _)) (nomark _))))))) (pss_one (PM.s_ret (ps_ret (c_c pe_non fun _ => .non)))) (PM.s_nil pss_nil)))
  (pss_one (PM.s_ret (ps_ret (c_call (pe_own F_read_number hr passL (a_cons (pa_cons (c_op od_ix (pe_ix ix_u (c_vw (pv 1)) (c_w (c_c pe_int fun _ => .int _)) (fun _ _ => rfl))) (a_cons (pa_cons (c_c (pe_glob (v := .int 3) rfl T.c_MOST_FIGURES.choose_spec ⟨_, rfl⟩) fun _ => .int _) (a_nil pa_nil))))))))))))))), spM_in (N := N_read_top) h⟩)
abbrev N_read_place : List Str := ["row", "words", "into", "out"]
theorem sc_read_place : FnScope N_read_place ["row"] (defScope s_read_place) := ⟨rfl, rfl, rfl, by decide +kernel, rfl, by decide +kernel, by decide +kernel⟩
theorem ok_read_place (T : Txt K mg) (F_read_two : OwnFn P w K mg base 4 "read_two" ["word", "sign", "most"] (spM K (tabs K) M_read_two)) : OwnFn P w K mg base 5 "read_place" ["row"] (spM K (tabs K) M_read_place) := by
  exact own_ok (k := 4) T.D_read_place sc_read_place (fun _ _ _ _ _ _ us hl => match us, hl with | [_], _ => rfl) (fun vs H Q E h => spM_len h) (fun cdv A outer s H vs Q E hr h => ⟨_, PSs.nox (show PSs _ _ (tS K (tabs K) m_read_place) from (PM.s_seq (pss_cons (PM.s_set (ps_set (i := 1) sc_read_place.nd rfl (by first | exact Or.inl rfl | exact Or.inr rfl) (c_f (c_split (pe_split (c_v (pv 0)) (c_c pe_str fun _ => .str _))) mSplit_is)))
  (PM.s_seq (pss_cons (PM.s_if (ps_if (c_opT od_ne (pt_cmpR (op_neK (room_u64 hr)) (c_w (c_cb cb_len (pe_callB (call_lenK K) (by rfl) T.f_len (by decide +kernel) (a_consw (pa_cons (c_vw (pv 1)) (a_nilw pa_nil)))))) (c_w (c_c pe_int fun _ => .int _)) (nomark _))) (pss_one (PM.s_ret (ps_ret (c_c pe_non fun _ => .non)))) (PM.s_nil pss_nil)))
  (PM.s_seq (pss_cons (PM.s_set (ps_set (i := 2) sc_read_place.nd rfl (by first | exact Or.inl rfl | exact Or.inr rfl) (c_call (pe_own F_read_two hr passL (a_cons (pa_cons (c_op od_ix (pe_ix ix_u (c_vw (pv 1)) (c_w (c_c pe_int fun _ => .int _)) (fun _ _ => rfl))) (a_cons (pa_cons (c_c pe_str fun _ => .str _) (a_cons (pa_cons (c_c (pe_glob (v := .int 3) rfl T.c_MOST_FIGURES.choose_spec ⟨_, rfl⟩) fun _ => .int _) (a_nil pa_nil)))))))))))
  (PM.s_seq (pss_cons (PM.s_set (ps_set (i := 3) sc_read_place.nd rfl (by first | exact Or.inl rfl | exact Or.inr rfl) (c_call (pe_own F_read_two hr passL (a_cons (pa_cons (c_op od_ix (pe_ix ix_u (c_vw (pv 1)) (c_w (c_c pe_int fun _ => .int _)) (fun _ _ => rfl))) (a_cons (pa_cons (c_c pe_str fun _ => .str _) (a_cons (pa_cons (c_c (pe_glob (v := .int 3) rfl T.c_MOST_FIGURES.choose_spec ⟨_, rfl⟩) fun _ => .int _) (a_nil pa_nil)))))))))))
  (PM.s_seq (pss_cons (PM.s_if (ps_if (PW.pt (c_or (pw_or (c_opT od_isNo (pt_cmpR op_isN (c_vw (pv 2)) (c_w (c_c pe_non fun _ => .non)) (nomark _))) (pw_or1 (c_opT od_isNo (pt_cmpR op_isN (c_vw (pv 3)) (c_w (c_c pe_non fun _ => .non)) (nomark _))))))) (pss_one (PM.s_ret (ps_ret (c_c pe_non fun _ => .non)))) (PM.s_nil pss_nil)))
  (pss_one (PM.s_ret (ps_ret (c_tup (pe_tup (a_cons (pa_cons (c_op od_ix (pe_ix ix_u (c_vw (pv 1)) (c_w (c_c pe_int fun _ => .int _)) (fun _ _ => rfl))) (a_star (pa_starK K (c_vw (pv 2)) (a_star (pa_starK K (c_vw (pv 3)) (a_nil pa_nil))))))))))))))))))))))), spM_in (N := N_read_place) h⟩)
abbrev N_read_tie : List Str := ["row", "words", "size"]
theorem sc_read_tie : FnScope N_read_tie ["row"] (defScope s_read_tie) := ⟨rfl, rfl, rfl, by decide +kernel, rfl, by decide +kernel, by decide +kernel⟩
theorem ok_read_tie (T : Txt K mg) (F_read_number : OwnFn P w K mg base 3 "read_number" ["word", "most"] (spM K (tabs K) M_read_number)) : OwnFn P w K mg base 4 "read_tie" ["row"] (spM K (tabs K) M_read_tie) := by
  exact own_ok (k := 3) T.D_read_tie sc_read_tie (fun _ _ _ _ _ _ us hl => match us, hl with | [_], _ => rfl) (fun vs H Q E h => spM_len h) (fun cdv A outer s H vs Q E hr h => ⟨_, PSs.nox (show PSs _ _ (tS K (tabs K) m_read_tie) from (PM.s_seq (pss_cons (PM.s_set (ps_set (i := 1) sc_read_tie.nd rfl (by first | exact Or.inl rfl | exact Or.inr rfl) (c_f (c_split (pe_split (c_v (pv 0)) (c_c pe_str fun _ => .str _))) mSplit_is)))
  (PM.s_seq (pss_cons (PM.s_if (ps_if (PW.pt (c_or (pw_or (c_opT od_ne (pt_cmpR (op_neK (room_u64 hr)) (c_w (c_cb cb_len (pe_callB (call_lenK K) (by rfl) T.f_len (by decide +kernel) (a_consw (pa_cons (c_vw (pv 1)) (a_nilw pa_nil)))))) (c_w (c_c pe_int fun _ => .int _)) (nomark _))) (pw_or1 (c_opT od_ne (pt_cmpR (op_neK (room_u64 hr)) (c_w (c_op od_ix (pe_ix ix_u (c_vw (pv 1)) (c_w (c_c pe_int fun _ => .int _)) (fun _ _ => rfl)))) (c_w (c_c pe_str fun _ => .str _)) (nomark _))))))) (pss_one (PM.s_ret (ps_ret (c_c pe_non fun _ => .non)))) (PM.s_nil pss_nil)))
  (PM.s_seq (pss_cons (PM.s_set (ps_set (i := 2) sc_read_tie.nd rfl (by first | exact Or.inl rfl | exact Or.inr rfl) (c_call (pe_own F_read_number hr passL (a_cons (pa_cons (c_op od_ix (pe_ix ix_u (c_vw (pv 1)) (c_w (c_c pe_int fun _ => .int _)) (fun _ _ => rfl))) (a_cons (pa_cons (c_c (pe_glob (v := .int 3) rfl T.c_MOST_FIGURES.choose_spec ⟨_, rfl⟩) fun _ => .int _) (a_nil pa_nil)))))))))
  (PM.s_seq (pss_cons (PM.s_if (ps_if (c_opT od_isNo (pt_cmpR op_isN (c_vw (pv 2)) (c_w (c_c pe_non fun _ => .non)) (nomark _))) (pss_one (PM.s_ret (ps_ret (c_c pe_non fun _ => .non)))) (PM.s_nil pss_nil)))
  (pss_one (PM.s_ret (ps_ret (c_tup (pe_tup (a_cons (pa_cons (c_op od_ix (pe_ix ix_u (c_vw (pv 1)) (c_w (c_c pe_int fun _ => .int _)) (fun _ _ => rfl))) (a_cons (pa_cons (c_op od_ix (pe_ix ix_u (c_vw (pv 1)) (c_w (c_c pe_int fun _ => .int _)) (fun _ _ => rfl))) (a_cons (pa_cons (c_v (pv 2)) (a_nil pa_nil))))))))))))))))))))), spM_in (N := N_read_tie) h⟩)
abbrev N_with_row : List Str := ["web", "row", "place", "tie", "top", "places", "ties"]
theorem sc_with_row : FnScope N_with_row ["web", "row"] (defScope s_with_row) := ⟨rfl, rfl, rfl, by decide +kernel, rfl, by decide +kernel, by decide +kernel⟩
theorem ok_with_row (T : Txt K mg) (F_read_place : OwnFn P w K mg base 5 "read_place" ["row"] (spM K (tabs K) M_read_place)) (F_read_tie : OwnFn P w K mg base 4 "read_tie" ["row"] (spM K (tabs K) M_read_tie)) : OwnFn P w K mg base 6 "with_row" ["web", "row"] (spM K (tabs K) M_with_row) := by
  exact own_ok (k := 5) T.D_with_row sc_with_row (fun _ _ _ _ _ _ us hl => match us, hl with | [_, _], _ => rfl) (fun vs H Q E h => spM_len h) (fun cdv A outer s H vs Q E hr h => ⟨_, PSs.nox (show PSs _ _ (tS K (tabs K) m_with_row) from (PM.s_seq (pss_cons (PM.s_asg (ps_asg (c_v (pv 0)) (c_gt [4, 5, 6] (pg_tupK rfl (pgs_cons (pg_name (i := 4) sc_with_row.nd rfl (by first | exact Or.inl rfl | exact Or.inr rfl)) (pgs_cons (pg_name (i := 5) sc_with_row.nd rfl (by first | exact Or.inl rfl | exact Or.inr rfl)) (pgs_cons (pg_name (i := 6) sc_with_row.nd rfl (by first | exact Or.inl rfl | exact Or.inr rfl)) pgs_nil)))))))
  (PM.s_seq (pss_cons (PM.s_set (ps_set (i := 2) sc_with_row.nd rfl (by first | exact Or.inl rfl | exact Or.inr rfl) (c_call (pe_own F_read_place hr passL (a_cons (pa_cons (c_v (pv 1)) (a_nil pa_nil)))))))
  (PM.s_seq (pss_cons (PM.s_if (ps_if (PW.pt (c_and (pw_and (c_opT od_notNo (pt_cmpR op_notN (c_vw (pv 2)) (c_w (c_c pe_non fun _ => .non)) (nomark _))) (pw_and1 (c_opT od_eq (pt_cmpR (op_eqK (room_u64 hr)) (c_w (c_cb cb_len (pe_callB (call_lenK K) (by rfl) T.f_len (by decide +kernel) (a_consw (pa_cons (c_vw (pv 6)) (a_nilw pa_nil)))))) (c_w (c_c pe_int fun _ => .int _)) (nomark _))))))) (pss_one (PM.s_ret (ps_ret (c_tup (pe_tup (a_cons (pa_cons (c_v (pv 4)) (a_cons (pa_cons (c_tup (pe_tup (a_star (pa_starK K (c_vw (pv 5)) (a_cons (pa_cons (c_v (pv 2)) (a_nil pa_nil))))))) (a_cons (pa_cons (c_v (pv 6)) (a_nil pa_nil)))))))))))) (PM.s_nil pss_nil)))
  (PM.s_seq (pss_cons (PM.s_set (ps_set (i := 3) sc_with_row.nd rfl (by first | exact Or.inl rfl | exact Or.inr rfl) (c_call (pe_own F_read_tie hr passL (a_cons (pa_cons (c_v (pv 1)) (a_nil pa_nil)))))))
  (PM.s_seq (pss_cons (PM.s_if (ps_if (c_opT od_notNo (pt_cmpR op_notN (c_vw (pv 3)) (c_w (c_c pe_non fun _ => .non)) (nomark _))) (pss_one (PM.s_ret (ps_ret (c_tup (pe_tup (a_cons (pa_cons (c_v (pv 4)) (a_cons (pa_cons (c_v (pv 5)) (a_cons (pa_cons (c_tup (pe_tup (a_star (pa_starK K (c_vw (pv 6)) (a_cons (pa_cons (c_v (pv 3)) (a_nil pa_nil))))))) (a_nil pa_nil)))))))))))) (PM.s_nil pss_nil)))
  (pss_one (PM.s_ret (ps_ret (c_c pe_non fun _ => .non))))))))))))))), spM_in (N := N_with_row) h⟩)
abbrev N_read_web : List Str := ["text", "rows", "top", "web", "at", "row"]
theorem sc_read_web : FnScope N_read_web ["text"] (defScope s_read_web) := ⟨rfl, rfl, rfl, by decide +kernel, rfl, by decide +kernel, by decide +kernel⟩
theorem ok_read_web (T : Txt K mg) (F_read_top : OwnFn P w K mg base 4 "read_top" ["row"] (spM K (tabs K) M_read_top)) (F_is_top : OwnFn P w K mg base 3 "is_top" ["thing"] (spM K (tabs K) M_is_top)) (F_with_row : OwnFn P w K mg base 6 "with_row" ["web", "row"] (spM K (tabs K) M_with_row)) (F_is_web : OwnFn P w K mg base 8 "is_web" ["thing"] (spM K (tabs K) M_is_web)) : OwnFn P w K mg base 9 "read_web" ["text"] (spM K (tabs K) M_read_web) := by
  exact own_ok (k := 8) T.D_read_web sc_read_web (fun _ _ _ _ _ _ us hl => match us, hl with | [_], _ => rfl) (fun vs H Q E h => spM_len h) (fun cdv A outer s H vs Q E hr h => ⟨_, PSs.nox (show PSs _ _ (tS K (tabs K) m_read_web) from (PM.s_seq (pss_cons (PM.s_if (ps_if (c_not (pt_not (c_tv (pt_val (c_is (pe_callB (call_isK K) (by rfl) T.f_isinstance (by decide +kernel) (pa_cons (c_vw (pv 0)) (pa_cons (pe_bltn (v := .ty "str") rfl T.f_str (by decide +kernel) rfl) pa_nil)))))))) (pss_one s_no) (PM.s_nil pss_nil)))
  (PM.s_seq (pss_cons (PM.s_set (ps_set (i := 1) sc_read_web.nd rfl (by first | exact Or.inl rfl | exact Or.inr rfl) (c_f (c_split (pe_split (c_v (pv 0)) (c_c pe_str fun _ => .str _))) mSplit_is)))
  (PM.s_seq (pss_cons (PM.s_set (ps_set (i := 2) sc_read_web.nd rfl (by first | exact Or.inl rfl | exact Or.inr rfl) (c_call (pe_own F_read_top hr passL (a_cons (pa_cons (c_op od_ix (pe_ix ix_u (c_vw (pv 1)) (c_w (c_c pe_int fun _ => .int _)) (fun _ _ => rfl))) (a_nil pa_nil)))))))
  (PM.s_seq (pss_cons (PM.s_if (ps_if (PW.pt (c_or (pw_or (c_opT od_eq (pt_cmpR (op_eqK (room_u64 hr)) (c_w (c_cb cb_len (pe_callB (call_lenK K) (by rfl) T.f_len (by decide +kernel) (a_consw (pa_cons (c_vw (pv 1)) (a_nilw pa_nil)))))) (c_w (c_c pe_int fun _ => .int _)) (nomark _))) (pw_or1 (c_not (pt_not (c_tv (pt_val (c_call (pe_own F_is_top hr passL (a_cons (pa_cons (c_v (pv 2)) (a_nil pa_nil))))))))))))) (pss_one s_no) (PM.s_nil pss_nil)))
  (PM.s_seq (pss_cons (PM.s_set (ps_set (i := 3) sc_read_web.nd rfl (by first | exact Or.inl rfl | exact Or.inr rfl) (c_tup (pe_tup (a_cons (pa_cons (c_v (pv 2)) (a_cons (pa_cons (c_tup (pe_tup (a_nil pa_nil))) (a_cons (pa_cons (c_tup (pe_tup (a_nil pa_nil))) (a_nil pa_nil)))))))))))
  (PM.s_seq (pss_cons (PM.s_for (ps_for PassesOwn.never rfl (c_ies (pi_es (k := 1) (by decide) (by rfl) T.f_enumerate (a_cons (pa_cons (c_sl (pe_slice sl_u (c_vw (pv 1)) (c_pso (po_some (c_c pe_int fun _ => .int _))) (c_pno po_none))) (a_nil pa_nil))))) (c_gt [4, 5] (pg_tupK rfl (pgs_cons (pg_name (i := 4) sc_read_web.nd rfl (by first | exact Or.inl rfl | exact Or.inr rfl)) (pgs_cons (pg_name (i := 5) sc_read_web.nd rfl (by first | exact Or.inl rfl | exact Or.inr rfl)) pgs_nil))))
   (PM.s_seq (pss_cons (PM.s_set (ps_set (i := 3) sc_read_web.nd rfl (by first | exact Or.inl rfl | exact Or.inr rfl) (c_call (pe_own F_with_row hr passL (a_cons (pa_cons (c_v (pv 3)) (a_cons (pa_cons (c_v (pv 5)) (a_nil pa_nil)))))))))
  (pss_one (PM.s_if (ps_if (c_not (pt_not (c_tv (pt_val (c_call (pe_own F_is_web hr passL (a_cons (pa_cons (c_v (pv 3)) (a_nil pa_nil))))))))) (pss_one s_no) (PM.s_nil pss_nil))))))))
  (pss_one (PM.s_ret (ps_ret (c_v (pv 3)))))))))))))))))), spM_in (N := N_read_web) h⟩)
abbrev N_L_cell : List Str := ["_law_script", "_law_k", "_law_state", "_law_cell_here"]
theorem sc_L_cell : FnScope N_L_cell ["_law_script", "_law_k"] (defScope s_L_cell) := ⟨rfl, rfl, rfl, by decide +kernel, rfl, by decide +kernel, by decide +kernel⟩
theorem ok_L_cell (T : Txt K mg) : OwnFn P w K mg base 1 "_law_cell" ["_law_script", "_law_k"] (spM K (tabs K) M_L_cell) := by
  exact own_ok (k := 0) T.D_L_cell sc_L_cell (fun _ _ _ _ _ _ us hl => match us, hl with | [_, _], _ => rfl) (fun vs H Q E h => spM_len h) (fun cdv A outer s H vs Q E hr h => ⟨_, PSs.nox (show PSs _ _ (tS K (tabs K) m_L_cell) from (PM.s_seq (pss_cons (PM.s_if (ps_if (c_opT od_lt (pt_cmpR op_uLt (c_vw (pv 1)) (c_w (c_cb cb_len (pe_callB (call_lenK K) (by rfl) T.f_len (by decide +kernel) (a_consw (pa_cons (c_vw (pv 0)) (a_nilw pa_nil)))))) (nomark _))) (pss_one (PM.s_ret (ps_ret (c_op od_ix (pe_ix ix_u (c_vw (pv 0)) (c_vw (pv 1)) (fun _ _ => rfl)))))) (PM.s_nil pss_nil)))
  (PM.s_seq (pss_cons (PM.s_set (ps_set (i := 2) sc_L_cell.nd rfl (by first | exact Or.inl rfl | exact Or.inr rfl) (c_op od_mod (pe_op op_modN (c_w (c_op od_mul (pe_op op_uMul (c_w (c_c pe_int fun _ => .int _)) (c_w (c_op od_add (pe_op op_uAdd (c_w (c_op od_add (pe_op op_uAdd (c_w (c_op od_mul (pe_op op_uMul (c_vw (pv 1)) (c_vw (pv 1))))) (c_w (c_op od_mul (pe_op op_uMul (c_w (c_c pe_int fun _ => .int _)) (c_vw (pv 1)))))))) (c_w (c_c pe_int fun _ => .int _)))))))) (c_w (c_c pe_int fun _ => .int _))))))
  (PM.s_seq (pss_cons (PM.s_for (ps_for PassesOwn.never rfl (c_iseq (pi_seq (c_sl (pe_slice sl_u (c_vw (pv 0)) (c_pno po_none) (c_pso (po_some (c_c pe_int fun _ => .int _))))))) (c_gn (pg_name (i := 3) sc_L_cell.nd rfl (by first | exact Or.inl rfl | exact Or.inr rfl)))
   (pss_one (PM.s_set (ps_set (i := 2) sc_L_cell.nd rfl (by first | exact Or.inl rfl | exact Or.inr rfl) (c_op od_mod (pe_op op_modN (c_w (c_op od_add (pe_op op_uAdd (c_w (c_op od_mul (pe_op op_uMul (c_vw (pv 2)) (c_w (c_c pe_int fun _ => .int _))))) (c_vw (pv 3))))) (c_w (c_c pe_int fun _ => .int _)))))))))
  (pss_one (PM.s_ret (ps_ret (c_v (pv 2)))))))))))), spM_in (N := N_L_cell) h⟩)
abbrev N_L_numbers : List Str := ["_law_cell_here", "_law_many", "_law_found", "_law_state", "_law_digits", "_law_k"]
theorem sc_L_numbers : FnScope N_L_numbers ["_law_cell_here", "_law_many"] (defScope s_L_numbers) := ⟨rfl, rfl, rfl, by decide +kernel, rfl, by decide +kernel, by decide +kernel⟩
theorem ok_L_numbers (T : Txt K mg) : OwnFn P w K mg base 1 "_law_numbers" ["_law_cell_here", "_law_many"] (spM K (tabs K) M_L_numbers) := by
  exact own_ok (k := 0) T.D_L_numbers sc_L_numbers (fun _ _ _ _ _ _ us hl => match us, hl with | [_, _], _ => rfl) (fun vs H Q E h => spM_len h) (fun cdv A outer s H vs Q E hr h => ⟨_, PSs.nox (show PSs _ _ (tS K (tabs K) m_L_numbers) from (PM.s_seq (pss_cons (PM.s_setO (ps_set (i := 2) sc_L_numbers.nd rfl (by first | exact Or.inl rfl | exact Or.inr rfl) (c_lst (pe_lst (a_nil pa_nil)))))
  (PM.s_seq (pss_cons (PM.s_set (ps_set (i := 3) sc_L_numbers.nd rfl (by first | exact Or.inl rfl | exact Or.inr rfl) (c_op od_mod (pe_op op_modN (c_w (c_op od_mul (pe_op op_uMul (c_w (c_op od_add (pe_op op_uAdd (c_w (c_op od_mod (pe_op op_modN (c_vw (pv 0)) (c_w (c_c pe_int fun _ => .int _))))) (c_w (c_c pe_int fun _ => .int _))))) (c_w (c_c pe_int fun _ => .int _))))) (c_w (c_c pe_int fun _ => .int _))))))
  (PM.s_seq (pss_cons (PM.s_set (ps_set (i := 4) sc_L_numbers.nd rfl (by first | exact Or.inl rfl | exact Or.inr rfl) (c_c pe_int fun _ => .int _)))
  (PM.s_seq (pss_cons (PM.s_if (ps_if (PW.pt (c_or (pw_or (c_opT od_lt (pt_cmpR op_uLt (c_vw (pv 0)) (c_w (c_c pe_int fun _ => .int _)) (nomark _))) (pw_or1 (c_opT od_ge (pt_cmpR op_ge (c_vw (pv 0)) (c_w (c_op od_pow (pe_op op_pow (c_w (c_c pe_int fun _ => .int _)) (c_w (c_c pe_int fun _ => .int _))))) (nomark _))))))) (pss_one (PM.s_set (ps_set (i := 4) sc_L_numbers.nd rfl (by first | exact Or.inl rfl | exact Or.inr rfl) (c_cb cb_abs (pe_callB call_abs (by rfl) T.f_abs (by decide +kernel) (a_consw (pa_cons (c_vw (pv 0)) (a_nilw pa_nil)))))))) (PM.s_nil pss_nil)))
  (PM.s_seq (pss_cons (PM.s_for (ps_for PassesOwn.never rfl (c_irng (pi_range1 (by rfl) T.f_range (a_cons (pa_cons (c_v (pv 1)) (a_nil pa_nil))))) (c_gn (pg_name (i := 5) sc_L_numbers.nd rfl (by first | exact Or.inl rfl | exact Or.inr rfl)))
   (PM.s_seq (pss_cons (PM.s_set (ps_set (i := 3) sc_L_numbers.nd rfl (by first | exact Or.inl rfl | exact Or.inr rfl) (c_op od_mod (pe_op op_modN (c_w (c_op od_add (pe_op op_uAdd (c_w (c_op od_add (pe_op op_uAdd (c_w (c_op od_mul (pe_op op_uMul (c_vw (pv 3)) (c_w (c_op od_add (pe_op op_uAdd (c_w (c_op od_mod (pe_op op_modN (c_vw (pv 3)) (c_w (c_c pe_int fun _ => .int _))))) (c_w (c_c pe_int fun _ => .int _)))))))) (c_w (c_op od_mul (pe_op op_uMul (c_w (c_c pe_int fun _ => .int _)) (c_vw (pv 5)))))))) (c_w (c_c pe_int fun _ => .int _))))) (c_w (c_c pe_int fun _ => .int _))))))
  (PM.s_seq (pss_cons (PM.s_app (ps_expr (pe_bm PySem.F.plainAttrs_list PySem.F.slot_list_append PySem.F.type_list_append mt_append (pv 2) (pa_cons (c_op od_ix (pe_ix ix_u (c_fw (c_lst (pe_lst (a_cons (pa_cons (c_v (pv 3)) (a_cons (pa_cons (c_op od_mod (pe_op op_modN (c_vw (pv 4)) (c_w (c_c pe_int fun _ => .int _)))) (a_nil pa_nil)))))))) (c_w (c_cb cb_int (pe_callTy call_int1 (by rfl) T.f_int (by decide +kernel) (a_consw (pa_cons (c_w (c_op od_gt (pe_cmpR op_gt (c_vw (pv 4)) (c_w (c_c pe_int fun _ => .int _)) (nomark _)))) (a_nilw pa_nil)))))) (fun _ _ => rfl))) pa_nil))))
  (pss_one (PM.s_set (ps_set (i := 4) sc_L_numbers.nd rfl (by first | exact Or.inl rfl | exact Or.inr rfl) (c_op od_fdv (pe_op op_fdivG (c_vw (pv 4)) (c_w (c_c pe_int fun _ => .int _)))))))))))))
  (pss_one (PM.s_retO (ps_ret (pv 2))))))))))))))), spM_in (N := N_L_numbers) h⟩)
abbrev N_L_names : List Str := ["_law_xs", "_law_many", "_law_letters", "_law_found", "_law_k", "_law_name", "_law_middle"]
theorem sc_L_names : FnScope N_L_names ["_law_xs", "_law_many"] (defScope s_L_names) := ⟨rfl, rfl, rfl, by decide +kernel, rfl, by decide +kernel, by decide +kernel⟩
theorem ok_L_names (T : Txt K mg) : OwnFn P w K mg base 1 "_law_names" ["_law_xs", "_law_many"] (spM K (tabs K) M_L_names) := by
  exact own_ok (k := 0) T.D_L_names sc_L_names (fun _ _ _ _ _ _ us hl => match us, hl with | [_, _], _ => rfl) (fun vs H Q E h => spM_len h) (fun cdv A outer s H vs Q E hr h => ⟨_, PSs.nox (show PSs _ _ (tS K (tabs K) m_L_names) from (PM.s_seq (pss_cons (PM.s_set (ps_set (i := 2) sc_L_names.nd rfl (by first | exact Or.inl rfl | exact Or.inr rfl) (c_c pe_str fun _ => .str _)))
  (PM.s_seq (pss_cons (PM.s_setO (ps_set (i := 3) sc_L_names.nd rfl (by first | exact Or.inl rfl | exact Or.inr rfl) (c_lst (pe_lst (a_nil pa_nil)))))
  (PM.s_seq (pss_cons (PM.s_for (ps_for PassesOwn.never rfl (c_irng (pi_range1 (by rfl) T.f_range (a_cons (pa_cons (c_v (pv 1)) (a_nil pa_nil))))) (c_gn (pg_name (i := 4) sc_L_names.nd rfl (by first | exact Or.inl rfl | exact Or.inr rfl)))
   (PM.s_seq (pss_cons (PM.s_set (ps_set (i := 5) sc_L_names.nd rfl (by first | exact Or.inl rfl | exact Or.inr rfl) (c_op od_mul (pe_op op_uMul (c_w (c_op od_ix (pe_ix ix_u (c_vw (pv 2)) (c_w (c_op od_mod (pe_op op_modN (c_w (c_op od_add (pe_op op_uAdd (c_w (c_op od_ix (pe_ix ix_u (c_vw (pv 0)) (c_w (c_c pe_int fun _ => .int _)) (fun _ _ => rfl)))) (c_w (c_op od_mul (pe_op op_uMul (c_w (c_c pe_int fun _ => .int _)) (c_vw (pv 4)))))))) (c_w (c_c pe_int fun _ => .int _))))) (fun _ _ => rfl)))) (c_w (c_op od_add (pe_op op_uAdd (c_w (c_c pe_int fun _ => .int _)) (c_w (c_op od_mod (pe_op op_modN (c_w (c_op od_add (pe_op op_uAdd (c_w (c_op od_ix (pe_ix ix_u (c_vw (pv 0)) (c_w (c_c pe_int fun _ => .int _)) (fun _ _ => rfl)))) (c_w (c_op od_mul (pe_op op_uMul (c_w (c_c pe_int fun _ => .int _)) (c_vw (pv 4)))))))) (c_w (c_op od_ix (pe_ix ix_u (c_fw (c_lst (pe_lst (a_cons (pa_cons (c_c pe_int fun _ => .int _) (a_cons (pa_cons (c_c pe_int fun _ => .int _) (a_nil pa_nil)))))))) (c_w (c_op od_mod (pe_op op_modN (c_w (c_op od_ix (pe_ix ix_u (c_vw (pv 0)) (c_w (c_c pe_int fun _ => .int _)) (fun _ _ => rfl)))) (c_w (c_c pe_int fun _ => .int _))))) (fun _ _ => rfl))))))))))))))
  (PM.s_seq (pss_cons (PM.s_if (ps_if (c_opT od_eq (pt_cmpR (op_eqK (room_u64 hr)) (c_w (c_op od_mod (pe_op op_modN (c_w (c_op od_ix (pe_ix ix_u (c_vw (pv 0)) (c_w (c_c pe_int fun _ => .int _)) (fun _ _ => rfl)))) (c_w (c_c pe_int fun _ => .int _))))) (c_w (c_c pe_int fun _ => .int _)) (nomark _))) (pss_one (PM.s_set (ps_set (i := 5) sc_L_names.nd rfl (by first | exact Or.inl rfl | exact Or.inr rfl) (c_op od_add (pe_op op_uAdd (c_w (c_op od_ix (pe_ix ix_u (c_w (c_c pe_str fun _ => .str _)) (c_vw (pv 4)) (fun _ _ => rfl)))) (c_w (c_op od_mul (pe_op op_uMul (c_w (c_op od_ix (pe_ix ix_u (c_vw (pv 2)) (c_w (c_op od_mod (pe_op op_modN (c_w (c_op od_ix (pe_ix ix_u (c_vw (pv 0)) (c_w (c_c pe_int fun _ => .int _)) (fun _ _ => rfl)))) (c_w (c_c pe_int fun _ => .int _))))) (fun _ _ => rfl)))) (c_w (c_op od_mod (pe_op op_modN (c_w (c_op od_ix (pe_ix ix_u (c_vw (pv 0)) (c_w (c_c pe_int fun _ => .int _)) (fun _ _ => rfl)))) (c_w (c_c pe_int fun _ => .int _))))))))))))) (PM.s_nil pss_nil)))
  (PM.s_seq (pss_cons (PM.s_if (ps_if (c_opT od_eq (pt_cmpR (op_eqK (room_u64 hr)) (c_w (c_op od_mod (pe_op op_modN (c_w (c_op od_ix (pe_ix ix_u (c_vw (pv 0)) (c_w (c_c pe_int fun _ => .int _)) (fun _ _ => rfl)))) (c_w (c_c pe_int fun _ => .int _))))) (c_w (c_c pe_int fun _ => .int _)) (nomark _))) (pss_one (PM.s_set (ps_set (i := 5) sc_L_names.nd rfl (by first | exact Or.inl rfl | exact Or.inr rfl) (c_op od_mul (pe_op op_uMul (c_w (c_op od_ix (pe_ix ix_u (c_vw (pv 2)) (c_w (c_op od_mod (pe_op op_modN (c_w (c_op od_ix (pe_ix ix_u (c_vw (pv 0)) (c_w (c_c pe_int fun _ => .int _)) (fun _ _ => rfl)))) (c_w (c_c pe_int fun _ => .int _))))) (fun _ _ => rfl)))) (c_w (c_op od_add (pe_op op_uAdd (c_w (c_c pe_int fun _ => .int _)) (c_vw (pv 4)))))))))) (PM.s_nil pss_nil)))
  (PM.s_seq (pss_cons (PM.s_if (ps_if (c_opT od_eq (pt_cmpR (op_eqK (room_u64 hr)) (c_w (c_op od_mod (pe_op op_modN (c_w (c_op od_ix (pe_ix ix_u (c_vw (pv 0)) (c_w (c_c pe_int fun _ => .int _)) (fun _ _ => rfl)))) (c_w (c_c pe_int fun _ => .int _))))) (c_w (c_c pe_int fun _ => .int _)) (nomark _))) (PM.s_seq (pss_cons (PM.s_set (ps_set (i := 6) sc_L_names.nd rfl (by first | exact Or.inl rfl | exact Or.inr rfl) (c_op od_ix (pe_ix ix_u (c_vw (pv 2)) (c_w (c_op od_mod (pe_op op_modN (c_w (c_op od_add (pe_op op_uAdd (c_w (c_op od_ix (pe_ix ix_u (c_vw (pv 0)) (c_w (c_c pe_int fun _ => .int _)) (fun _ _ => rfl)))) (c_w (c_op od_mul (pe_op op_uMul (c_w (c_c pe_int fun _ => .int _)) (c_vw (pv 4)))))))) (c_w (c_c pe_int fun _ => .int _))))) (fun _ _ => rfl)))))
  (pss_one (PM.s_set (ps_set (i := 5) sc_L_names.nd rfl (by first | exact Or.inl rfl | exact Or.inr rfl) (c_op od_add (pe_op op_uAdd (c_w (c_op od_add (pe_op op_uAdd (c_w (c_op od_ix (pe_ix ix_u (c_vw (pv 2)) (c_w (c_op od_mod (pe_op op_modN (c_w (c_op od_ix (pe_ix ix_u (c_vw (pv 0)) (c_w (c_c pe_int fun _ => .int _)) (fun _ _ => rfl)))) (c_w (c_c pe_int fun _ => .int _))))) (fun _ _ => rfl)))) (c_vw (pv 6))))) (c_w (c_op od_ix (pe_ix ix_u (c_vw (pv 2)) (c_w (c_op od_mod (pe_op op_modN (c_w (c_op od_ix (pe_ix ix_u (c_vw (pv 0)) (c_w (c_c pe_int fun _ => .int _)) (fun _ _ => rfl)))) (c_w (c_c pe_int fun _ => .int _))))) (fun _ _ => rfl))))))))))) (PM.s_nil pss_nil)))
  (PM.s_seq (pss_cons (PM.s_if (ps_if (c_opT od_eq (pt_cmpR (op_eqK (room_u64 hr)) (c_w (c_op od_mod (pe_op op_modN (c_w (c_op od_ix (pe_ix ix_u (c_vw (pv 0)) (c_w (c_c pe_int fun _ => .int _)) (fun _ _ => rfl)))) (c_w (c_c pe_int fun _ => .int _))))) (c_w (c_c pe_int fun _ => .int _)) (nomark _))) (pss_one (PM.s_set (ps_set (i := 5) sc_L_names.nd rfl (by first | exact Or.inl rfl | exact Or.inr rfl) (c_op od_ix (pe_ix ix_u (c_fw (c_lst (pe_lst (a_cons (pa_cons (c_c pe_str fun _ => .str _) (a_cons (pa_cons (c_c pe_str fun _ => .str _) (a_cons (pa_cons (c_c pe_str fun _ => .str _) (a_cons (pa_cons (c_c pe_str fun _ => .str _) (a_cons (pa_cons (c_c pe_str fun _ => .str _) (a_cons (pa_cons (c_c pe_str fun _ => .str _) (a_cons (pa_cons (c_c pe_str fun _ => .str _) (a_cons (pa_cons (c_c pe_str fun _ => .str _) (a_nil pa_nil)))))))))))))))))))) (c_w (c_op od_mod (pe_op op_modN (c_w (c_op od_add (pe_op op_uAdd (c_vw (pv 4)) (c_w (c_op od_ix (pe_ix ix_u (c_vw (pv 0)) (c_w (c_c pe_int fun _ => .int _)) (fun _ _ => rfl))))))) (c_w (c_c pe_int fun _ => .int _))))) (fun _ _ => rfl)))))) (PM.s_nil pss_nil)))
  (pss_one (PM.s_app (ps_expr (pe_bm PySem.F.plainAttrs_list PySem.F.slot_list_append PySem.F.type_list_append mt_append (pv 3) (pa_cons (c_v (pv 5)) pa_nil)))))))))))))))))
  (pss_one (PM.s_ret (ps_ret (c_f (c_cbF cb_sorted (pe_callB (cr_sortM (room_u64 hr)) (by rfl) T.f_sorted (by decide +kernel) (a_consw (pa_cons (c_vw (pv 3)) (a_nilw pa_nil))))) mSorted_is))))))))))), spM_in (N := N_L_names) h⟩)
abbrev N_L_place : List Str := ["_law_name", "_law_xs", "_law_top", "_law_wide", "_law_most", "_law_a", "_law_b", "_law_d", "_law_c"]
theorem sc_L_place : FnScope N_L_place ["_law_name", "_law_xs", "_law_top", "_law_wide"] (defScope s_L_place) := ⟨rfl, rfl, rfl, by decide +kernel, rfl, by decide +kernel, by decide +kernel⟩
theorem ok_L_place (T : Txt K mg) : OwnFn P w K mg base 1 "_law_place" ["_law_name", "_law_xs", "_law_top", "_law_wide"] (spM K (tabs K) M_L_place) := by
  exact own_ok (k := 0) T.D_L_place sc_L_place (fun _ _ _ _ _ _ us hl => match us, hl with | [_, _, _, _], _ => rfl) (fun vs H Q E h => spM_len h) (fun cdv A outer s H vs Q E hr h => ⟨_, PSs.nox (show PSs _ _ (tS K (tabs K) m_L_place) from (PM.s_seq (pss_cons (PM.s_set (ps_set (i := 4) sc_L_place.nd rfl (by first | exact Or.inl rfl | exact Or.inr rfl) (c_op od_ix (pe_ix ix_u (c_fw (c_lst (pe_lst (a_cons (pa_cons (c_c pe_int fun _ => .int _) (a_cons (pa_cons (c_c pe_int fun _ => .int _) (a_cons (pa_cons (c_c pe_int fun _ => .int _) (a_cons (pa_cons (c_c pe_int fun _ => .int _) (a_nil pa_nil)))))))))))) (c_vw (pv 3)) (fun _ _ => rfl)))))
  (PM.s_seq (pss_cons (PM.s_set (ps_set (i := 5) sc_L_place.nd rfl (by first | exact Or.inl rfl | exact Or.inr rfl) (c_op od_mod (pe_op op_modN (c_w (c_op od_ix (pe_ix ix_u (c_vw (pv 1)) (c_w (c_c pe_int fun _ => .int _)) (fun _ _ => rfl)))) (c_vw (pv 4))))))
  (PM.s_seq (pss_cons (PM.s_set (ps_set (i := 6) sc_L_place.nd rfl (by first | exact Or.inl rfl | exact Or.inr rfl) (c_op od_mod (pe_op op_modN (c_w (c_op od_ix (pe_ix ix_u (c_vw (pv 1)) (c_w (c_c pe_int fun _ => .int _)) (fun _ _ => rfl)))) (c_w (c_op od_ix (pe_ix ix_u (c_fw (c_lst (pe_lst (a_cons (pa_cons (c_c pe_int fun _ => .int _) (a_cons (pa_cons (c_c pe_int fun _ => .int _) (a_cons (pa_cons (c_c pe_int fun _ => .int _) (a_cons (pa_cons (c_c pe_int fun _ => .int _) (a_nil pa_nil)))))))))))) (c_vw (pv 3)) (fun _ _ => rfl))))))))
  (PM.s_seq (pss_cons (PM.s_set (ps_set (i := 7) sc_L_place.nd rfl (by first | exact Or.inl rfl | exact Or.inr rfl) (c_op od_mod (pe_op op_modN (c_w (c_op od_ix (pe_ix ix_u (c_vw (pv 1)) (c_w (c_c pe_int fun _ => .int _)) (fun _ _ => rfl)))) (c_w (c_op od_ix (pe_ix ix_u (c_fw (c_lst (pe_lst (a_cons (pa_cons (c_c pe_int fun _ => .int _) (a_cons (pa_cons (c_c pe_int fun _ => .int _) (a_cons (pa_cons (c_c pe_int fun _ => .int _) (a_cons (pa_cons (c_c pe_int fun _ => .int _) (a_nil pa_nil)))))))))))) (c_vw (pv 3)) (fun _ _ => rfl))))))))
  (PM.s_seq (pss_cons (PM.s_set (ps_set (i := 8) sc_L_place.nd rfl (by first | exact Or.inl rfl | exact Or.inr rfl) (c_op od_add (pe_op op_uAdd (c_w (c_op od_mul (pe_op op_uMul (c_vw (pv 7)) (c_vw (pv 2))))) (c_w (c_op od_mod (pe_op op_modN (c_w (c_op od_ix (pe_ix ix_u (c_vw (pv 1)) (c_w (c_c pe_int fun _ => .int _)) (fun _ _ => rfl)))) (c_w (c_op od_ix (pe_ix ix_u (c_fw (c_lst (pe_lst (a_cons (pa_cons (c_c pe_int fun _ => .int _) (a_cons (pa_cons (c_c pe_int fun _ => .int _) (a_cons (pa_cons (c_c pe_int fun _ => .int _) (a_cons (pa_cons (c_c pe_int fun _ => .int _) (a_nil pa_nil)))))))))))) (c_vw (pv 3)) (fun _ _ => rfl)))))))))))
  (PM.s_seq (pss_cons (PM.s_if (ps_if (c_opT od_eq (pt_cmpR (op_eqK (room_u64 hr)) (c_w (c_op od_mod (pe_op op_modN (c_w (c_op od_ix (pe_ix ix_u (c_vw (pv 1)) (c_w (c_c pe_int fun _ => .int _)) (fun _ _ => rfl)))) (c_w (c_c pe_int fun _ => .int _))))) (c_w (c_c pe_int fun _ => .int _)) (nomark _))) (pss_one (PM.s_par (ps_par (i := 5) (j := 6) rfl sc_L_place.nd rfl rfl (by decide) rfl rfl (a_cons (pa_cons (c_c pe_int fun _ => .int _) (a_cons (pa_cons (c_op od_mod (pe_op op_modN (c_w (c_op od_fdv (pe_op op_fdivG (c_w (c_op od_ix (pe_ix ix_u (c_vw (pv 1)) (c_w (c_c pe_int fun _ => .int _)) (fun _ _ => rfl)))) (c_w (c_c pe_int fun _ => .int _))))) (c_w (c_c pe_int fun _ => .int _)))) (a_nil pa_nil))))) (by rfl)))) (PM.s_nil pss_nil)))
  (PM.s_seq (pss_cons (PM.s_if (ps_if (c_opT od_eq (pt_cmpR (op_eqK (room_u64 hr)) (c_w (c_op od_mod (pe_op op_modN (c_w (c_op od_ix (pe_ix ix_u (c_vw (pv 1)) (c_w (c_c pe_int fun _ => .int _)) (fun _ _ => rfl)))) (c_w (c_c pe_int fun _ => .int _))))) (c_w (c_c pe_int fun _ => .int _)) (nomark _))) (PM.s_seq (pss_cons (PM.s_set (ps_set (i := 7) sc_L_place.nd rfl (by first | exact Or.inl rfl | exact Or.inr rfl) (c_c pe_int fun _ => .int _)))
  (pss_one (PM.s_set (ps_set (i := 8) sc_L_place.nd rfl (by first | exact Or.inl rfl | exact Or.inr rfl) (c_op od_mod (pe_op op_modN (c_w (c_op od_ix (pe_ix ix_u (c_vw (pv 1)) (c_w (c_c pe_int fun _ => .int _)) (fun _ _ => rfl)))) (c_w (c_op od_ix (pe_ix ix_u (c_fw (c_lst (pe_lst (a_cons (pa_cons (c_c pe_int fun _ => .int _) (a_cons (pa_cons (c_c pe_int fun _ => .int _) (a_cons (pa_cons (c_c pe_int fun _ => .int _) (a_cons (pa_cons (c_c pe_int fun _ => .int _) (a_nil pa_nil)))))))))))) (c_vw (pv 3)) (fun _ _ => rfl))))))))))) (PM.s_nil pss_nil)))
  (pss_one (PM.s_ret (ps_ret (c_tup (pe_tup (a_cons (pa_cons (c_v (pv 0)) (a_cons (pa_cons (c_v (pv 5)) (a_cons (pa_cons (c_v (pv 6)) (a_cons (pa_cons (c_v (pv 8)) (a_cons (pa_cons (c_v (pv 7)) (a_nil pa_nil))))))))))))))))))))))))))))))), spM_in (N := N_L_place) h⟩)
abbrev N_L_ties : List Str := ["_law_names_here", "_law_script", "_law_at", "_law_many", "_law_wide", "_law_found", "_law_k", "_law_xs", "_law_one", "_law_other", "_law_size", "_law_pair"]
theorem sc_L_ties : FnScope N_L_ties ["_law_names_here", "_law_script", "_law_at", "_law_many", "_law_wide"] (defScope s_L_ties) := ⟨rfl, rfl, rfl, by decide +kernel, rfl, by decide +kernel, by decide +kernel⟩
theorem ok_L_ties (T : Txt K mg) (F_L_cell : OwnFn P w K mg base 1 "_law_cell" ["_law_script", "_law_k"] (spM K (tabs K) M_L_cell)) (F_L_numbers : OwnFn P w K mg base 1 "_law_numbers" ["_law_cell_here", "_law_many"] (spM K (tabs K) M_L_numbers)) : OwnFn P w K mg base 2 "_law_ties" ["_law_names_here", "_law_script", "_law_at", "_law_many", "_law_wide"] (spM K (tabs K) M_L_ties) := by
  exact own_ok (k := 1) T.D_L_ties sc_L_ties (fun _ _ _ _ _ _ us hl => match us, hl with | [_, _, _, _, _], _ => rfl) (fun vs H Q E h => spM_len h) (fun cdv A outer s H vs Q E hr h => ⟨_, PSs.nox (show PSs _ _ (tS K (tabs K) m_L_ties) from (PM.s_seq (pss_cons (PM.s_setO (ps_set (i := 5) sc_L_ties.nd rfl (by first | exact Or.inl rfl | exact Or.inr rfl) (c_dnew pe_dnewT)))
  (PM.s_seq (pss_cons (PM.s_for (ps_for PassesOwn.never rfl (c_irng (pi_range1 (by rfl) T.f_range (a_cons (pa_cons (c_v (pv 3)) (a_nil pa_nil))))) (c_gn (pg_name (i := 6) sc_L_ties.nd rfl (by first | exact Or.inl rfl | exact Or.inr rfl)))
   (PM.s_seq (pss_cons (PM.s_set (ps_set (i := 7) sc_L_ties.nd rfl (by first | exact Or.inl rfl | exact Or.inr rfl) (c_call (pe_own F_L_numbers hr passL (a_cons (pa_cons (c_call (pe_own F_L_cell hr passL (a_cons (pa_cons (c_v (pv 1)) (a_cons (pa_cons (c_op od_add (pe_op op_uAdd (c_vw (pv 2)) (c_vw (pv 6)))) (a_nil pa_nil))))))) (a_cons (pa_cons (c_c pe_int fun _ => .int _) (a_nil pa_nil)))))))))
  (PM.s_seq (pss_cons (PM.s_set (ps_set (i := 8) sc_L_ties.nd rfl (by first | exact Or.inl rfl | exact Or.inr rfl) (c_op od_mod (pe_op op_modN (c_w (c_op od_ix (pe_ix ix_u (c_vw (pv 7)) (c_w (c_c pe_int fun _ => .int _)) (fun _ _ => rfl)))) (c_w (c_cb cb_len (pe_callB (call_lenK K) (by rfl) T.f_len (by decide +kernel) (a_consw (pa_cons (c_vw (pv 0)) (a_nilw pa_nil))))))))))
  (PM.s_seq (pss_cons (PM.s_set (ps_set (i := 9) sc_L_ties.nd rfl (by first | exact Or.inl rfl | exact Or.inr rfl) (c_op od_mod (pe_op op_modN (c_w (c_op od_add (pe_op op_uAdd (c_w (c_op od_add (pe_op op_uAdd (c_vw (pv 8)) (c_w (c_c pe_int fun _ => .int _))))) (c_w (c_op od_mod (pe_op op_modN (c_w (c_op od_ix (pe_ix ix_u (c_vw (pv 7)) (c_w (c_c pe_int fun _ => .int _)) (fun _ _ => rfl)))) (c_w (c_cb cb_max (pe_callB (call_max2 rfl) (by rfl) T.f_max (by decide +kernel) (a_consw (pa_cons (c_w (c_c pe_int fun _ => .int _)) (a_consw (pa_cons (c_w (c_op od_sub (pe_op op_sub (c_w (c_cb cb_len (pe_callB (call_lenK K) (by rfl) T.f_len (by decide +kernel) (a_consw (pa_cons (c_vw (pv 0)) (a_nilw pa_nil)))))) (c_w (c_c pe_int fun _ => .int _))))) (a_nilw pa_nil)))))))))))))) (c_w (c_cb cb_len (pe_callB (call_lenK K) (by rfl) T.f_len (by decide +kernel) (a_consw (pa_cons (c_vw (pv 0)) (a_nilw pa_nil))))))))))
  (PM.s_seq (pss_cons (PM.s_set (ps_set (i := 10) sc_L_ties.nd rfl (by first | exact Or.inl rfl | exact Or.inr rfl) (c_op od_ix (pe_ix ix_u (c_fw (c_lst (pe_lst (a_cons (pa_cons (c_op od_add (pe_op op_uAdd (c_w (c_c pe_int fun _ => .int _)) (c_w (c_op od_mod (pe_op op_modN (c_w (c_op od_ix (pe_ix ix_u (c_vw (pv 7)) (c_w (c_c pe_int fun _ => .int _)) (fun _ _ => rfl)))) (c_w (c_c pe_int fun _ => .int _))))))) (a_cons (pa_cons (c_op od_add (pe_op op_uAdd (c_w (c_c pe_int fun _ => .int _)) (c_w (c_op od_mod (pe_op op_modN (c_w (c_op od_ix (pe_ix ix_u (c_vw (pv 7)) (c_w (c_c pe_int fun _ => .int _)) (fun _ _ => rfl)))) (c_w (c_c pe_int fun _ => .int _))))))) (a_cons (pa_cons (c_op od_add (pe_op op_uAdd (c_w (c_c pe_int fun _ => .int _)) (c_w (c_op od_mod (pe_op op_modN (c_w (c_op od_ix (pe_ix ix_u (c_vw (pv 7)) (c_w (c_c pe_int fun _ => .int _)) (fun _ _ => rfl)))) (c_w (c_c pe_int fun _ => .int _))))))) (a_cons (pa_cons (c_op od_add (pe_op op_uAdd (c_w (c_c pe_int fun _ => .int _)) (c_w (c_op od_mod (pe_op op_modN (c_w (c_op od_ix (pe_ix ix_u (c_vw (pv 7)) (c_w (c_c pe_int fun _ => .int _)) (fun _ _ => rfl)))) (c_w (c_c pe_int fun _ => .int _))))))) (a_nil pa_nil)))))))))))) (c_vw (pv 4)) (fun _ _ => rfl)))))
  (pss_one (PM.s_if (ps_if (c_opT od_ne (pt_cmpR (op_neK (room_u64 hr)) (c_vw (pv 8)) (c_vw (pv 9)) (nomark _))) (PM.s_seq (pss_cons (PM.s_dput (ps_dput (room_u hr) (pv 5) (pe_tup (a_cons (pa_cons (c_op od_ix (pe_ix ix_u (c_vw (pv 0)) (c_vw (pv 8)) (fun _ _ => rfl))) (a_cons (pa_cons (c_op od_ix (pe_ix ix_u (c_vw (pv 0)) (c_vw (pv 9)) (fun _ _ => rfl))) (a_nil pa_nil)))))) (c_v (pv 10)) (by rfl)))
  (pss_one (PM.s_if (ps_if (PW.pt (c_and (pw_and (c_opT od_eq (pt_cmpR (op_eqK (room_u64 hr)) (c_w (c_op od_mod (pe_op op_modN (c_w (c_op od_ix (pe_ix ix_u (c_vw (pv 7)) (c_w (c_c pe_int fun _ => .int _)) (fun _ _ => rfl)))) (c_w (c_c pe_int fun _ => .int _))))) (c_w (c_c pe_int fun _ => .int _)) (nomark _))) (pw_and1 (c_opT od_lt (pt_cmpR op_uLt (c_w (c_lenD (pe_callB call_len_dT (by rfl) T.f_len (by decide +kernel) (pa_cons (pv 5) pa_nil)))) (c_w (c_c pe_int fun _ => .int _)) (nomark _))))))) (pss_one (PM.s_dput (ps_dput (room_u hr) (pv 5) (pe_tup (a_cons (pa_cons (c_op od_ix (pe_ix ix_u (c_vw (pv 0)) (c_vw (pv 9)) (fun _ _ => rfl))) (a_cons (pa_cons (c_op od_ix (pe_ix ix_u (c_vw (pv 0)) (c_vw (pv 8)) (fun _ _ => rfl))) (a_nil pa_nil)))))) (c_op od_add (pe_op op_uAdd (c_w (c_c pe_int fun _ => .int _)) (c_w (c_op od_mod (pe_op op_modN (c_w (c_op od_ix (pe_ix ix_u (c_vw (pv 7)) (c_w (c_c pe_int fun _ => .int _)) (fun _ _ => rfl)))) (c_w (c_c pe_int fun _ => .int _))))))) (by rfl)))) (PM.s_nil pss_nil)))))) (PM.s_nil pss_nil))))))))))))))
  (pss_one (PM.s_ret (ps_ret (c_cb cb_tuple (pe_callTy (call_tupK K) (by rfl) T.f_tuple (by decide +kernel) (a_consw (pa_cons (c_w (c_sl (pe_slice sl_u (c_fw (c_ties (by decide) (pe_lc (own := [("_law_pair", 11)]) (by rfl) sc_L_ties.nd (pi_list (pe_callB (cr_sortDT rfl (room_u64 hr)) (by rfl) T.f_sorted (by decide +kernel) (pa_cons (pv 5) pa_nil))) (blkOk_by (own := [("_law_pair", 11)]) (N := N_L_ties) (sc := defScope s_L_ties) (by decide +kernel)) (fun _ _ _ _ _ => (pg_name (i := 11) sc_L_ties.nd rfl (by first | exact Or.inl rfl | exact Or.inr rfl))) (fun _ _ _ _ _ => pts_nil) (fun _ _ _ _ _ => (pe_op op_uAdd (pv 11) (pe_tup (pa_cons (pe_dget (room_u hr) (pv 5) (pv 11) (fun _ _ => rfl)) pa_nil))))))) (c_pno po_none) (c_pso (po_some (c_c pe_int fun _ => .int _)))))) (a_nilw pa_nil))))))))))))), spM_in (N := N_L_ties) h⟩)
abbrev N_L_web : List Str := ["_law_script", "_law_at", "_law_most", "_law_head", "_law_top", "_law_many", "_law_wide", "_law_names_here", "_law_places", "_law_k", "_law_ties_here"]
theorem sc_L_web : FnScope N_L_web ["_law_script", "_law_at", "_law_most"] (defScope s_L_web) := ⟨rfl, rfl, rfl, by decide +kernel, rfl, by decide +kernel, by decide +kernel⟩
theorem ok_L_web (T : Txt K mg) (F_L_cell : OwnFn P w K mg base 1 "_law_cell" ["_law_script", "_law_k"] (spM K (tabs K) M_L_cell)) (F_L_numbers : OwnFn P w K mg base 1 "_law_numbers" ["_law_cell_here", "_law_many"] (spM K (tabs K) M_L_numbers)) (F_L_names : OwnFn P w K mg base 1 "_law_names" ["_law_xs", "_law_many"] (spM K (tabs K) M_L_names)) (F_L_place : OwnFn P w K mg base 1 "_law_place" ["_law_name", "_law_xs", "_law_top", "_law_wide"] (spM K (tabs K) M_L_place)) (F_L_ties : OwnFn P w K mg base 2 "_law_ties" ["_law_names_here", "_law_script", "_law_at", "_law_many", "_law_wide"] (spM K (tabs K) M_L_ties)) : OwnFn P w K mg base 3 "_law_web" ["_law_script", "_law_at", "_law_most"] (spM K (tabs K) M_L_web) := by
  exact own_ok (k := 2) T.D_L_web sc_L_web (fun _ _ _ _ _ _ us hl => match us, hl with | [_, _, _], _ => rfl) (fun vs H Q E h => spM_len h) (fun cdv A outer s H vs Q E hr h => ⟨_, PSs.nox (show PSs _ _ (tS K (tabs K) m_L_web) from (PM.s_seq (pss_cons (PM.s_set (ps_set (i := 3) sc_L_web.nd rfl (by first | exact Or.inl rfl | exact Or.inr rfl) (c_call (pe_own F_L_numbers hr passL (a_cons (pa_cons (c_call (pe_own F_L_cell hr passL (a_cons (pa_cons (c_v (pv 0)) (a_cons (pa_cons (c_v (pv 1)) (a_nil pa_nil))))))) (a_cons (pa_cons (c_c pe_int fun _ => .int _) (a_nil pa_nil)))))))))
  (PM.s_seq (pss_cons (PM.s_set (ps_set (i := 4) sc_L_web.nd rfl (by first | exact Or.inl rfl | exact Or.inr rfl) (c_op od_add (pe_op op_uAdd (c_w (c_c pe_int fun _ => .int _)) (c_w (c_op od_mod (pe_op op_modN (c_w (c_op od_ix (pe_ix ix_u (c_vw (pv 3)) (c_w (c_c pe_int fun _ => .int _)) (fun _ _ => rfl)))) (c_w (c_c pe_int fun _ => .int _)))))))))
  (PM.s_seq (pss_cons (PM.s_set (ps_set (i := 5) sc_L_web.nd rfl (by first | exact Or.inl rfl | exact Or.inr rfl) (c_op od_add (pe_op op_uAdd (c_w (c_c pe_int fun _ => .int _)) (c_w (c_op od_mod (pe_op op_modN (c_w (c_op od_ix (pe_ix ix_u (c_vw (pv 3)) (c_w (c_c pe_int fun _ => .int _)) (fun _ _ => rfl)))) (c_vw (pv 2)))))))))
  (PM.s_seq (pss_cons (PM.s_set (ps_set (i := 6) sc_L_web.nd rfl (by first | exact Or.inl rfl | exact Or.inr rfl) (c_op od_ix (pe_ix ix_u (c_fw (c_lst (pe_lst (a_cons (pa_cons (c_c pe_int fun _ => .int _) (a_cons (pa_cons (c_c pe_int fun _ => .int _) (a_cons (pa_cons (c_c pe_int fun _ => .int _) (a_cons (pa_cons (c_c pe_int fun _ => .int _) (a_cons (pa_cons (c_c pe_int fun _ => .int _) (a_nil pa_nil)))))))))))))) (c_w (c_op od_mod (pe_op op_modN (c_w (c_op od_ix (pe_ix ix_u (c_vw (pv 3)) (c_w (c_c pe_int fun _ => .int _)) (fun _ _ => rfl)))) (c_w (c_c pe_int fun _ => .int _))))) (fun _ _ => rfl)))))
  (PM.s_seq (pss_cons (PM.s_set (ps_set (i := 7) sc_L_web.nd rfl (by first | exact Or.inl rfl | exact Or.inr rfl) (c_call (pe_own F_L_names hr passL (a_cons (pa_cons (c_v (pv 3)) (a_cons (pa_cons (c_v (pv 5)) (a_nil pa_nil)))))))))
  (PM.s_seq (pss_cons (PM.s_setO (ps_set (i := 8) sc_L_web.nd rfl (by first | exact Or.inl rfl | exact Or.inr rfl) (c_lst (pe_lst (a_nil pa_nil)))))
  (PM.s_seq (pss_cons (PM.s_for (ps_for PassesOwn.never rfl (c_irng (pi_range1 (by rfl) T.f_range (a_cons (pa_cons (c_v (pv 5)) (a_nil pa_nil))))) (c_gn (pg_name (i := 9) sc_L_web.nd rfl (by first | exact Or.inl rfl | exact Or.inr rfl)))
   (pss_one (PM.s_app (ps_expr (pe_bm PySem.F.plainAttrs_list PySem.F.slot_list_append PySem.F.type_list_append mt_append (pv 8) (pa_cons (c_call (pe_own F_L_place hr passL (a_cons (pa_cons (c_op od_ix (pe_ix ix_u (c_vw (pv 7)) (c_vw (pv 9)) (fun _ _ => rfl))) (a_cons (pa_cons (c_call (pe_own F_L_numbers hr passL (a_cons (pa_cons (c_call (pe_own F_L_cell hr passL (a_cons (pa_cons (c_v (pv 0)) (a_cons (pa_cons (c_op od_add (pe_op op_uAdd (c_w (c_op od_add (pe_op op_uAdd (c_vw (pv 1)) (c_w (c_c pe_int fun _ => .int _))))) (c_vw (pv 9)))) (a_nil pa_nil))))))) (a_cons (pa_cons (c_c pe_int fun _ => .int _) (a_nil pa_nil))))))) (a_cons (pa_cons (c_v (pv 4)) (a_cons (pa_cons (c_v (pv 6)) (a_nil pa_nil))))))))))) pa_nil)))))))
  (PM.s_seq (pss_cons (PM.s_set (ps_set (i := 10) sc_L_web.nd rfl (by first | exact Or.inl rfl | exact Or.inr rfl) (c_call (pe_own F_L_ties hr passL (a_cons (pa_cons (c_v (pv 7)) (a_cons (pa_cons (c_v (pv 0)) (a_cons (pa_cons (c_op od_add (pe_op op_uAdd (c_w (c_op od_add (pe_op op_uAdd (c_vw (pv 1)) (c_w (c_c pe_int fun _ => .int _))))) (c_vw (pv 5)))) (a_cons (pa_cons (c_op od_mod (pe_op op_modN (c_w (c_op od_ix (pe_ix ix_u (c_vw (pv 3)) (c_w (c_c pe_int fun _ => .int _)) (fun _ _ => rfl)))) (c_w (c_op od_add (pe_op op_uAdd (c_w (c_op od_mul (pe_op op_uMul (c_w (c_c pe_int fun _ => .int _)) (c_vw (pv 5))))) (c_w (c_c pe_int fun _ => .int _))))))) (a_cons (pa_cons (c_v (pv 6)) (a_nil pa_nil)))))))))))))))
  (pss_one (PM.s_ret (ps_ret (c_tup (pe_tup (a_cons (pa_cons (c_v (pv 4)) (a_cons (pa_cons (c_cb cb_tuple (pe_callTy (call_tupK K) (by rfl) T.f_tuple (by decide +kernel) (a_consw (pa_cons (c_vw (pv 8)) (a_nilw pa_nil))))) (a_cons (pa_cons (c_v (pv 10)) (a_nil pa_nil))))))))))))))))))))))))))))), spM_in (N := N_L_web) h⟩)
abbrev N_L_chain : List Str := ["_law_xs", "_law_many", "_law_names_here", "_law_top", "_law_places", "_law_k", "_law_order", "_law_ties_here", "_law_b"]
theorem sc_L_chain : FnScope N_L_chain ["_law_xs", "_law_many"] (defScope s_L_chain) := ⟨rfl, rfl, rfl, by decide +kernel, rfl, by decide +kernel, by decide +kernel⟩
theorem ok_L_chain (T : Txt K mg) (F_L_names : OwnFn P w K mg base 1 "_law_names" ["_law_xs", "_law_many"] (spM K (tabs K) M_L_names)) : OwnFn P w K mg base 2 "_law_chain" ["_law_xs", "_law_many"] (spM K (tabs K) M_L_chain) := by
  exact own_ok (k := 1) T.D_L_chain sc_L_chain (fun _ _ _ _ _ _ us hl => match us, hl with | [_, _], _ => rfl) (fun vs H Q E h => spM_len h) (fun cdv A outer s H vs Q E hr h => ⟨_, PSs.nox (show PSs _ _ (tS K (tabs K) m_L_chain) from (PM.s_seq (pss_cons (PM.s_set (ps_set (i := 2) sc_L_chain.nd rfl (by first | exact Or.inl rfl | exact Or.inr rfl) (c_call (pe_own F_L_names hr passL (a_cons (pa_cons (c_v (pv 0)) (a_cons (pa_cons (c_v (pv 1)) (a_nil pa_nil)))))))))
  (PM.s_seq (pss_cons (PM.s_set (ps_set (i := 3) sc_L_chain.nd rfl (by first | exact Or.inl rfl | exact Or.inr rfl) (c_op od_add (pe_op op_uAdd (c_w (c_c pe_int fun _ => .int _)) (c_w (c_op od_mod (pe_op op_modN (c_w (c_op od_ix (pe_ix ix_u (c_vw (pv 0)) (c_w (c_c pe_int fun _ => .int _)) (fun _ _ => rfl)))) (c_w (c_c pe_int fun _ => .int _)))))))))
  (PM.s_seq (pss_cons (PM.s_setO (ps_set (i := 4) sc_L_chain.nd rfl (by first | exact Or.inl rfl | exact Or.inr rfl) (c_lst (pe_lst (a_nil pa_nil)))))
  (PM.s_seq (pss_cons (PM.s_for (ps_for PassesOwn.never rfl (c_irng (pi_range1 (by rfl) T.f_range (a_cons (pa_cons (c_v (pv 1)) (a_nil pa_nil))))) (c_gn (pg_name (i := 5) sc_L_chain.nd rfl (by first | exact Or.inl rfl | exact Or.inr rfl)))
   (PM.s_seq (pss_cons (PM.s_set (ps_set (i := 8) sc_L_chain.nd rfl (by first | exact Or.inl rfl | exact Or.inr rfl) (c_op od_mul (pe_op op_uMul (c_w (c_op od_add (pe_op op_uAdd (c_w (c_c pe_int fun _ => .int _)) (c_w (c_op od_mod (pe_op op_modN (c_w (c_op od_ix (pe_ix ix_u (c_vw (pv 0)) (c_w (c_c pe_int fun _ => .int _)) (fun _ _ => rfl)))) (c_w (c_c pe_int fun _ => .int _)))))))) (c_w (c_cb cb_int (pe_callTy call_int1 (by rfl) T.f_int (by decide +kernel) (a_consw (pa_cons (c_w (c_op od_eq (pe_cmpR (op_eqK (room_u64 hr)) (c_vw (pv 5)) (c_w (c_c pe_int fun _ => .int _)) (nomark _)))) (a_nilw pa_nil))))))))))
  (pss_one (PM.s_app (ps_expr (pe_bm PySem.F.plainAttrs_list PySem.F.slot_list_append PySem.F.type_list_append mt_append (pv 4) (pa_cons (c_tup (pe_tup (a_cons (pa_cons (c_op od_ix (pe_ix ix_u (c_vw (pv 2)) (c_vw (pv 5)) (fun _ _ => rfl))) (a_cons (pa_cons (c_c pe_int fun _ => .int _) (a_cons (pa_cons (c_v (pv 8)) (a_cons (pa_cons (c_op od_ix (pe_ix ix_u (c_fw (c_lst (pe_lst (a_cons (pa_cons (c_c pe_int fun _ => .int _) (a_cons (pa_cons (c_op od_mul (pe_op op_uMul (c_vw (pv 3)) (c_w (c_c pe_int fun _ => .int _)))) (a_nil pa_nil)))))))) (c_w (c_cb cb_int (pe_callTy call_int1 (by rfl) T.f_int (by decide +kernel) (a_consw (pa_cons (c_w (c_op od_eq (pe_cmpR (op_eqK (room_u64 hr)) (c_vw (pv 5)) (c_w (c_op od_sub (pe_op op_sub (c_vw (pv 1)) (c_w (c_c pe_int fun _ => .int _))))) (nomark _)))) (a_nilw pa_nil)))))) (fun _ _ => rfl))) (a_cons (pa_cons (c_c pe_int fun _ => .int _) (a_nil pa_nil))))))))))))) pa_nil)))))))))
  (PM.s_seq (pss_cons (PM.s_set (ps_set (i := 6) sc_L_chain.nd rfl (by first | exact Or.inl rfl | exact Or.inr rfl) (c_f (c_lrg (pe_listRg rfl (by rfl) T.f_list (prg_1 (by rfl) T.f_range (c_v (pv 1))))) mLrg_is)))
  (PM.s_seq (pss_cons (PM.s_if (ps_if (c_opT od_eq (pt_cmpR (op_eqK (room_u64 hr)) (c_w (c_op od_mod (pe_op op_modN (c_w (c_op od_ix (pe_ix ix_u (c_vw (pv 0)) (c_w (c_c pe_int fun _ => .int _)) (fun _ _ => rfl)))) (c_w (c_c pe_int fun _ => .int _))))) (c_w (c_c pe_int fun _ => .int _)) (nomark _))) (pss_one (PM.s_set (ps_set (i := 6) sc_L_chain.nd rfl (by first | exact Or.inl rfl | exact Or.inr rfl) (c_revU (c_rev (pe_revK (c_vw (pv 6)))) (c_revL (pe_revL (c_vw (pv 6)))))))) (PM.s_nil pss_nil)))
  (PM.s_seq (pss_cons (PM.s_setO (ps_set (i := 7) sc_L_chain.nd rfl (by first | exact Or.inl rfl | exact Or.inr rfl) (c_lst (pe_lst (a_nil pa_nil)))))
  (PM.s_seq (pss_cons (PM.s_for (ps_for PassesOwn.never rfl (c_irng (pi_range1 (by rfl) T.f_range (a_cons (pa_cons (c_op od_sub (pe_op op_sub (c_vw (pv 1)) (c_w (c_c pe_int fun _ => .int _)))) (a_nil pa_nil))))) (c_gn (pg_name (i := 5) sc_L_chain.nd rfl (by first | exact Or.inl rfl | exact Or.inr rfl)))
   (pss_one (PM.s_app (ps_expr (pe_bm PySem.F.plainAttrs_list PySem.F.slot_list_append PySem.F.type_list_append mt_append (pv 7) (pa_cons (c_tup (pe_tup (a_cons (pa_cons (c_op od_ix (pe_ix ix_u (c_vw (pv 2)) (c_w (c_op od_ix (pe_ix ix_u (c_vw (pv 6)) (c_vw (pv 5)) (fun _ _ => rfl)))) (fun _ _ => rfl))) (a_cons (pa_cons (c_op od_ix (pe_ix ix_u (c_vw (pv 2)) (c_w (c_op od_ix (pe_ix ix_u (c_vw (pv 6)) (c_w (c_op od_add (pe_op op_uAdd (c_vw (pv 5)) (c_w (c_c pe_int fun _ => .int _))))) (fun _ _ => rfl)))) (fun _ _ => rfl))) (a_cons (pa_cons (c_op od_add (pe_op op_uAdd (c_w (c_c pe_int fun _ => .int _)) (c_w (c_op od_mod (pe_op op_modN (c_w (c_op od_add (pe_op op_uAdd (c_w (c_op od_ix (pe_ix ix_u (c_vw (pv 0)) (c_w (c_c pe_int fun _ => .int _)) (fun _ _ => rfl)))) (c_w (c_op od_mul (pe_op op_uMul (c_w (c_c pe_int fun _ => .int _)) (c_vw (pv 5)))))))) (c_w (c_c pe_int fun _ => .int _))))))) (a_nil pa_nil))))))))) pa_nil)))))))
  (pss_one (PM.s_ret (ps_ret (c_tup (pe_tup (a_cons (pa_cons (c_v (pv 3)) (a_cons (pa_cons (c_cb cb_tuple (pe_callTy (call_tupK K) (by rfl) T.f_tuple (by decide +kernel) (a_consw (pa_cons (c_vw (pv 4)) (a_nilw pa_nil))))) (a_cons (pa_cons (c_cb cb_tuple (pe_callTy (call_tupK K) (by rfl) T.f_tuple (by decide +kernel) (a_consw (pa_cons (c_fw (c_cbF cb_sorted (pe_callB (cr_sortM (room_u64 hr)) (by rfl) T.f_sorted (by decide +kernel) (a_consw (pa_cons (c_vw (pv 7)) (a_nilw pa_nil)))))) (a_nilw pa_nil))))) (a_nil pa_nil))))))))))))))))))))))))))))), spM_in (N := N_L_chain) h⟩)
abbrev N_L_drawn : List Str := ["_law_script", "_law_xs"]
theorem sc_L_drawn : FnScope N_L_drawn ["_law_script"] (defScope s_L_drawn) := ⟨rfl, rfl, rfl, by decide +kernel, rfl, by decide +kernel, by decide +kernel⟩
theorem ok_L_drawn (T : Txt K mg) (F_L_cell : OwnFn P w K mg base 1 "_law_cell" ["_law_script", "_law_k"] (spM K (tabs K) M_L_cell)) (F_L_numbers : OwnFn P w K mg base 1 "_law_numbers" ["_law_cell_here", "_law_many"] (spM K (tabs K) M_L_numbers)) (F_L_chain : OwnFn P w K mg base 2 "_law_chain" ["_law_xs", "_law_many"] (spM K (tabs K) M_L_chain)) (F_L_web : OwnFn P w K mg base 3 "_law_web" ["_law_script", "_law_at", "_law_most"] (spM K (tabs K) M_L_web)) : OwnFn P w K mg base 4 "_law_drawn" ["_law_script"] (spM K (tabs K) M_L_drawn) := by
  exact own_ok (k := 3) T.D_L_drawn sc_L_drawn (fun _ _ _ _ _ _ us hl => match us, hl with | [_], _ => rfl) (fun vs H Q E h => spM_len h) (fun cdv A outer s H vs Q E hr h => ⟨_, PSs.nox (show PSs _ _ (tS K (tabs K) m_L_drawn) from (PM.s_seq (pss_cons (PM.s_set (ps_set (i := 1) sc_L_drawn.nd rfl (by first | exact Or.inl rfl | exact Or.inr rfl) (c_call (pe_own F_L_numbers hr passL (a_cons (pa_cons (c_call (pe_own F_L_cell hr passL (a_cons (pa_cons (c_v (pv 0)) (a_cons (pa_cons (c_c pe_int fun _ => .int _) (a_nil pa_nil))))))) (a_cons (pa_cons (c_c pe_int fun _ => .int _) (a_nil pa_nil)))))))))
  (PM.s_seq (pss_cons (PM.s_if (ps_if (c_opT od_eq (pt_cmpR (op_eqK (room_u64 hr)) (c_w (c_op od_mod (pe_op op_modN (c_w (c_op od_ix (pe_ix ix_u (c_vw (pv 1)) (c_w (c_c pe_int fun _ => .int _)) (fun _ _ => rfl)))) (c_w (c_c pe_int fun _ => .int _))))) (c_w (c_c pe_int fun _ => .int _)) (nomark _))) (pss_one (PM.s_ret (ps_ret (c_call (pe_own F_L_chain hr passL (a_cons (pa_cons (c_sl (pe_slice sl_u (c_vw (pv 1)) (c_pso (po_some (c_c pe_int fun _ => .int _))) (c_pno po_none))) (a_cons (pa_cons (c_op od_add (pe_op op_uAdd (c_w (c_c pe_int fun _ => .int _)) (c_w (c_op od_mod (pe_op op_modN (c_w (c_op od_fdv (pe_op op_fdivG (c_w (c_op od_ix (pe_ix ix_u (c_vw (pv 1)) (c_w (c_c pe_int fun _ => .int _)) (fun _ _ => rfl)))) (c_w (c_c pe_int fun _ => .int _))))) (c_w (c_c pe_int fun _ => .int _))))))) (a_nil pa_nil)))))))))) (PM.s_nil pss_nil)))
  (pss_one (PM.s_ret (ps_ret (c_call (pe_own F_L_web hr passL (a_cons (pa_cons (c_v (pv 0)) (a_cons (pa_cons (c_c pe_int fun _ => .int _) (a_cons (pa_cons (c_op od_ix (pe_ix ix_u (c_fw (c_lst (pe_lst (a_cons (pa_cons (c_c pe_int fun _ => .int _) (a_cons (pa_cons (c_c pe_int fun _ => .int _) (a_nil pa_nil)))))))) (c_w (c_cb cb_int (pe_callTy call_int1 (by rfl) T.f_int (by decide +kernel) (a_consw (pa_cons (c_w (c_op od_eq (pe_cmpR (op_eqK (room_u64 hr)) (c_w (c_op od_mod (pe_op op_modN (c_w (c_op od_ix (pe_ix ix_u (c_vw (pv 1)) (c_w (c_c pe_int fun _ => .int _)) (fun _ _ => rfl)))) (c_w (c_c pe_int fun _ => .int _))))) (c_w (c_c pe_int fun _ => .int _)) (nomark _)))) (a_nilw pa_nil)))))) (fun _ _ => rfl))) (a_nil pa_nil))))))))))))))))), spM_in (N := N_L_drawn) h⟩)
abbrev N_L_web_rows : List Str := ["_law_web_here", "_law_rows", "_law_name", "_law_a", "_law_b", "_law_c", "_law_d", "_law_one", "_law_other", "_law_size"]
theorem sc_L_web_rows : FnScope N_L_web_rows ["_law_web_here"] (defScope s_L_web_rows) := ⟨rfl, rfl, rfl, by decide +kernel, rfl, by decide +kernel, by decide +kernel⟩
theorem ok_L_web_rows (T : Txt K mg) : OwnFn P w K mg base 1 "_law_web_rows" ["_law_web_here"] (spM K (tabs K) M_L_web_rows) := by
  exact own_ok (k := 0) T.D_L_web_rows sc_L_web_rows (fun _ _ _ _ _ _ us hl => match us, hl with | [_], _ => rfl) (fun vs H Q E h => spM_len h) (fun cdv A outer s H vs Q E hr h => ⟨_, PSs.nox (show PSs _ _ (tS K (tabs K) m_L_web_rows) from (PM.s_seq (pss_cons (PM.s_setO (ps_set (i := 1) sc_L_web_rows.nd rfl (by first | exact Or.inl rfl | exact Or.inr rfl) (c_lst (pe_lst (a_cons (pa_cons (c_op od_add (pe_op op_uAdd (c_w (c_c pe_str fun _ => .str _)) (c_w (c_cb cb_strI (pe_callTy call_str_int (by rfl) T.f_str (by decide +kernel) (a_consw (pa_cons (c_w (c_op od_ix (pe_ix ix_u (c_vw (pv 0)) (c_w (c_c pe_int fun _ => .int _)) (fun _ _ => rfl)))) (a_nilw pa_nil)))))))) (a_nil pa_nil)))))))
  (PM.s_seq (pss_cons (PM.s_for (ps_for PassesOwn.never rfl (c_iseq (pi_seq (c_op od_ix (pe_ix ix_u (c_vw (pv 0)) (c_w (c_c pe_int fun _ => .int _)) (fun _ _ => rfl))))) (c_gt [2, 3, 4, 5, 6] (pg_tupK rfl (pgs_cons (pg_name (i := 2) sc_L_web_rows.nd rfl (by first | exact Or.inl rfl | exact Or.inr rfl)) (pgs_cons (pg_name (i := 3) sc_L_web_rows.nd rfl (by first | exact Or.inl rfl | exact Or.inr rfl)) (pgs_cons (pg_name (i := 4) sc_L_web_rows.nd rfl (by first | exact Or.inl rfl | exact Or.inr rfl)) (pgs_cons (pg_name (i := 5) sc_L_web_rows.nd rfl (by first | exact Or.inl rfl | exact Or.inr rfl)) (pgs_cons (pg_name (i := 6) sc_L_web_rows.nd rfl (by first | exact Or.inl rfl | exact Or.inr rfl)) pgs_nil)))))))
   (pss_one (PM.s_app (ps_expr (pe_bm PySem.F.plainAttrs_list PySem.F.slot_list_append PySem.F.type_list_append mt_append (pv 1) (pa_cons (c_op od_add (pe_op op_uAdd (c_w (c_op od_add (pe_op op_uAdd (c_w (c_op od_add (pe_op op_uAdd (c_w (c_op od_add (pe_op op_uAdd (c_w (c_op od_add (pe_op op_uAdd (c_w (c_op od_add (pe_op op_uAdd (c_w (c_op od_add (pe_op op_uAdd (c_w (c_op od_add (pe_op op_uAdd (c_vw (pv 2)) (c_w (c_c pe_str fun _ => .str _))))) (c_w (c_cb cb_strI (pe_callTy call_str_int (by rfl) T.f_str (by decide +kernel) (a_consw (pa_cons (c_vw (pv 3)) (a_nilw pa_nil))))))))) (c_w (c_c pe_str fun _ => .str _))))) (c_w (c_cb cb_strI (pe_callTy call_str_int (by rfl) T.f_str (by decide +kernel) (a_consw (pa_cons (c_vw (pv 4)) (a_nilw pa_nil))))))))) (c_w (c_c pe_str fun _ => .str _))))) (c_w (c_cb cb_strI (pe_callTy call_str_int (by rfl) T.f_str (by decide +kernel) (a_consw (pa_cons (c_vw (pv 5)) (a_nilw pa_nil))))))))) (c_w (c_c pe_str fun _ => .str _))))) (c_w (c_cb cb_strI (pe_callTy call_str_int (by rfl) T.f_str (by decide +kernel) (a_consw (pa_cons (c_vw (pv 6)) (a_nilw pa_nil)))))))) pa_nil)))))))
  (PM.s_seq (pss_cons (PM.s_for (ps_for PassesOwn.never rfl (c_iseq (pi_seq (c_op od_ix (pe_ix ix_u (c_vw (pv 0)) (c_w (c_c pe_int fun _ => .int _)) (fun _ _ => rfl))))) (c_gt [7, 8, 9] (pg_tupK rfl (pgs_cons (pg_name (i := 7) sc_L_web_rows.nd rfl (by first | exact Or.inl rfl | exact Or.inr rfl)) (pgs_cons (pg_name (i := 8) sc_L_web_rows.nd rfl (by first | exact Or.inl rfl | exact Or.inr rfl)) (pgs_cons (pg_name (i := 9) sc_L_web_rows.nd rfl (by first | exact Or.inl rfl | exact Or.inr rfl)) pgs_nil)))))
   (pss_one (PM.s_app (ps_expr (pe_bm PySem.F.plainAttrs_list PySem.F.slot_list_append PySem.F.type_list_append mt_append (pv 1) (pa_cons (c_op od_add (pe_op op_uAdd (c_w (c_op od_add (pe_op op_uAdd (c_w (c_op od_add (pe_op op_uAdd (c_w (c_op od_add (pe_op op_uAdd (c_vw (pv 7)) (c_w (c_c pe_str fun _ => .str _))))) (c_vw (pv 8))))) (c_w (c_c pe_str fun _ => .str _))))) (c_w (c_cb cb_strI (pe_callTy call_str_int (by rfl) T.f_str (by decide +kernel) (a_consw (pa_cons (c_vw (pv 9)) (a_nilw pa_nil)))))))) pa_nil)))))))
  (pss_one (PM.s_retO (ps_ret (pv 1))))))))))), spM_in (N := N_L_web_rows) h⟩)
abbrev N_L_tuples : List Str := ["_law_thing", "_law_part"]
theorem sc_L_tuples : FnScope N_L_tuples ["_law_thing"] (defScope s_L_tuples) := ⟨rfl, rfl, rfl, by decide +kernel, rfl, by decide +kernel, by decide +kernel⟩
theorem okR_L_tuples (T : Txt K mg) : ∀ n, OwnFn P w K mg base (1 + n) "_law_tuples" ["_law_thing"] (spM K (tabs K) (MR_L_tuples n))
  | 0 => own_ok (k := 0) T.D_L_tuples sc_L_tuples (fun _ _ _ _ _ _ us hl => match us, hl with | [_], _ => rfl) (fun vs H Q E h => by obtain ⟨_, _, _, _, _, z, _⟩ := h; cases z) (fun cdv A outer s H vs Q E hr h => by obtain ⟨_, _, _, _, _, z, _⟩ := h; cases z)
  | n + 1 => by
    have F_L_tuples := okR_L_tuples T n
    exact own_ok (k := 1 + n) T.D_L_tuples sc_L_tuples (fun _ _ _ _ _ _ us hl => match us, hl with | [_], _ => rfl) (fun vs H Q E h => spM_len h) (fun cdv A outer s H vs Q E hr h => ⟨_, PSs.nox (show PSs _ _ (tS K (tabs K) (m_L_tuples (MR_L_tuples n))) from (PM.s_seq (pss_cons (PM.s_if (ps_if (c_tv (pt_val (c_is (pe_callB (call_isK K) (by rfl) T.f_isinstance (by decide +kernel) (pa_cons (c_vw (pv 0)) (pa_cons (pe_bltn (v := .ty "list") rfl T.f_list (by decide +kernel) rfl) pa_nil)))))) (pss_one (PM.s_ret (ps_ret (c_c pe_bl fun _ => .bl _)))) (PM.s_nil pss_nil)))
    (pss_one (PM.s_ret (ps_ret (c_orV (pe_or (c_notV (pe_not (c_is (pe_callB (call_isK K) (by rfl) T.f_isinstance (by decide +kernel) (pa_cons (c_vw (pv 0)) (pa_cons (pe_bltn (v := .ty "tuple") rfl T.f_tuple (by decide +kernel) rfl) pa_nil)))))) (pe_one (c_cb cb_all (pe_callB (cr_allK rfl) (by rfl) T.f_all (by decide +kernel) (a_consw (pa_cons (c_fw (c_lc (pe_lc (own := [("_law_part", 1)]) (by rfl) sc_L_tuples.nd (c_iseqw (pi_seq (c_vw (pv 0)))) (blkOk_by (own := [("_law_part", 1)]) (N := N_L_tuples) (sc := defScope s_L_tuples) (by decide +kernel)) (fun _ _ _ _ _ => (c_gn (pg_name (i := 1) sc_L_tuples.nd rfl (by first | exact Or.inl rfl | exact Or.inr rfl)))) (fun _ _ _ _ _ => (q_nil pts_nil)) (fun _ _ _ _ _ => (c_call (pe_own (hk := by omega) F_L_tuples hr passL (a_cons (pa_cons (c_v (pv 1)) (a_nil pa_nil))))))))) (a_nilw pa_nil)))))))))))))), spM_in (N := N_L_tuples) h⟩)
  
theorem ok_L_tuples (T : Txt K mg) : OwnFn P w K mg base 9 "_law_tuples" ["_law_thing"] (spM K (tabs K) M_L_tuples) := okR_L_tuples T 8
abbrev N_L_right : List Str := ["_law_web_here", "_law_text", "_law_shown", "_law_found"]
theorem sc_L_right : FnScope N_L_right ["_law_web_here"] (defScope s_L_right) := ⟨rfl, rfl, rfl, by decide +kernel, rfl, by decide +kernel, by decide +kernel⟩
theorem ok_L_right (T : Txt K mg) (F_L_web_rows : OwnFn P w K mg base 1 "_law_web_rows" ["_law_web_here"] (spM K (tabs K) M_L_web_rows)) (F_show_web : OwnFn P w K mg base 1 "show_web" ["web"] (spM K (tabs K) M_show_web)) (F_read_web : OwnFn P w K mg base 9 "read_web" ["text"] (spM K (tabs K) M_read_web)) (F_is_web : OwnFn P w K mg base 8 "is_web" ["thing"] (spM K (tabs K) M_is_web)) (F_L_tuples : OwnFn P w K mg base 9 "_law_tuples" ["_law_thing"] (spM K (tabs K) M_L_tuples)) : OwnFn P w K mg base 10 "_law_right" ["_law_web_here"] (spM K (tabs K) M_L_right) := by
  exact own_ok (k := 9) T.D_L_right sc_L_right (fun _ _ _ _ _ _ us hl => match us, hl with | [_], _ => rfl) (fun vs H Q E h => spM_len h) (fun cdv A outer s H vs Q E hr h => ⟨_, PSs.nox (show PSs _ _ (tS K (tabs K) m_L_right) from (PM.s_seq (pss_cons (PM.s_set (ps_set (i := 1) sc_L_right.nd rfl (by first | exact Or.inl rfl | exact Or.inr rfl) (c_join (pe_join (c_c pe_str fun _ => .str _) (c_w (c_call (pe_own F_L_web_rows hr passL (a_cons (pa_cons (c_v (pv 0)) (a_nil pa_nil))))))))))
  (PM.s_seq (pss_cons (PM.s_set (ps_set (i := 2) sc_L_right.nd rfl (by first | exact Or.inl rfl | exact Or.inr rfl) (c_call (pe_own F_show_web hr passL (a_cons (pa_cons (c_v (pv 0)) (a_nil pa_nil)))))))
  (PM.s_seq (pss_cons (PM.s_if (ps_if (PW.pt (c_or (pw_or (c_not (pt_not (c_tv (pt_val (c_is (pe_callB (call_isK K) (by rfl) T.f_isinstance (by decide +kernel) (pa_cons (c_vw (pv 2)) (pa_cons (pe_bltn (v := .ty "str") rfl T.f_str (by decide +kernel) rfl) pa_nil)))))))) (pw_or1 (c_opT od_ne (pt_cmpR (op_neK (room_u64 hr)) (c_vw (pv 2)) (c_vw (pv 1)) (nomark _))))))) (pss_one (PM.s_ret (ps_ret (c_c pe_bl fun _ => .bl _)))) (PM.s_nil pss_nil)))
  (PM.s_seq (pss_cons (PM.s_set (ps_set (i := 3) sc_L_right.nd rfl (by first | exact Or.inl rfl | exact Or.inr rfl) (c_call (pe_own F_read_web hr passL (a_cons (pa_cons (c_v (pv 1)) (a_nil pa_nil)))))))
  (pss_one (PM.s_ret (ps_ret (c_andV (pe_and (c_op od_eq (pe_cmpR (op_eqK (room_u64 hr)) (c_vw (pv 3)) (c_vw (pv 0)) (nomark _))) (c_andV (pe_and (c_call (pe_own F_L_tuples hr passL (a_cons (pa_cons (c_v (pv 3)) (a_nil pa_nil))))) (c_andV (pe_and (c_call (pe_own F_is_web hr passL (a_cons (pa_cons (c_v (pv 3)) (a_nil pa_nil))))) (pe_one (c_op od_eq (pe_cmpR (op_eqK (room_u64 hr)) (c_w (c_call (pe_own F_show_web hr passL (a_cons (pa_cons (c_v (pv 3)) (a_nil pa_nil)))))) (c_vw (pv 1)) (nomark _)))))))))))))))))))))), spM_in (N := N_L_right) h⟩)
abbrev N_law : List Str := ["_law_script", "_law_web_here", "_law_cell_here", "_law_xs", "_law_ties_here", "_law_places", "_law_names_here", "_law_among", "_law_place_here", "_law_k", "_law_tie"]
theorem sc_law : FnScope N_law ["_law_script"] (defScope s_law) := ⟨rfl, rfl, rfl, by decide +kernel, rfl, by decide +kernel, by decide +kernel⟩
theorem ok_law (T : Txt K mg) (F_L_drawn : OwnFn P w K mg base 4 "_law_drawn" ["_law_script"] (spM K (tabs K) M_L_drawn)) (F_L_right : OwnFn P w K mg base 10 "_law_right" ["_law_web_here"] (spM K (tabs K) M_L_right)) (F_L_cell : OwnFn P w K mg base 1 "_law_cell" ["_law_script", "_law_k"] (spM K (tabs K) M_L_cell)) (F_L_numbers : OwnFn P w K mg base 1 "_law_numbers" ["_law_cell_here", "_law_many"] (spM K (tabs K) M_L_numbers)) : OwnFn P w K mg base 11 "law" ["_law_script"] (spM K (tabs K) M_law) := by
  exact own_ok (k := 10) T.D_law sc_law (fun _ _ _ _ _ _ us hl => match us, hl with | [_], _ => rfl) (fun vs H Q E h => spM_len h) (fun cdv A outer s H vs Q E hr h => ⟨_, PSs.nox (show PSs _ _ (tS K (tabs K) m_law) from (PM.s_seq (pss_cons (PM.s_set (ps_set (i := 1) sc_law.nd rfl (by first | exact Or.inl rfl | exact Or.inr rfl) (c_call (pe_own F_L_drawn hr passL (a_cons (pa_cons (c_v (pv 0)) (a_nil pa_nil)))))))
  (PM.s_seq (pss_cons (PM.s_if (ps_if (PW.pt (c_or (pw_or (c_not (pt_not (c_tv (pt_val (c_call (pe_own F_L_right hr passL (a_cons (pa_cons (c_v (pv 1)) (a_nil pa_nil))))))))) (pw_or1 (c_not (pt_not (c_tv (pt_val (c_call (pe_own F_L_right hr passL (a_cons (pa_cons (c_tup (pe_tup (a_cons (pa_cons (c_op od_ix (pe_ix ix_u (c_vw (pv 1)) (c_w (c_c pe_int fun _ => .int _)) (fun _ _ => rfl))) (a_cons (pa_cons (c_op od_ix (pe_ix ix_u (c_vw (pv 1)) (c_w (c_c pe_int fun _ => .int _)) (fun _ _ => rfl))) (a_cons (pa_cons (c_tup (pe_tup (a_nil pa_nil))) (a_nil pa_nil))))))))) (a_nil pa_nil))))))))))))) (pss_one (PM.s_ret (ps_ret (c_c pe_bl fun _ => .bl _)))) (PM.s_nil pss_nil)))
  (PM.s_seq (pss_cons (PM.s_for (ps_for PassesOwn.never rfl (c_iseq (pi_seq (c_op od_add (pe_op op_uAdd (c_fw (c_lst (pe_lst (a_cons (pa_cons (c_call (pe_own F_L_cell hr passL (a_cons (pa_cons (c_v (pv 0)) (a_cons (pa_cons (c_c pe_int fun _ => .int _) (a_nil pa_nil))))))) (a_nil pa_nil)))))) (c_w (c_sl (pe_slice sl_u (c_vw (pv 0)) (c_pso (po_some (c_c pe_int fun _ => .int _))) (c_pso (po_some (c_c pe_int fun _ => .int _)))))))))) (c_gn (pg_name (i := 2) sc_law.nd rfl (by first | exact Or.inl rfl | exact Or.inr rfl)))
   (PM.s_seq (pss_cons (PM.s_set (ps_set (i := 3) sc_law.nd rfl (by first | exact Or.inl rfl | exact Or.inr rfl) (c_call (pe_own F_L_numbers hr passL (a_cons (pa_cons (c_v (pv 2)) (a_cons (pa_cons (c_c pe_int fun _ => .int _) (a_nil pa_nil)))))))))
  (PM.s_seq (pss_cons (PM.s_set (ps_set (i := 4) sc_law.nd rfl (by first | exact Or.inl rfl | exact Or.inr rfl) (c_cb cb_tuple (pe_callTy (call_tupK K) (by rfl) T.f_tuple (by decide +kernel) (a_consw (pa_cons (c_fw (c_lc (pe_lc (own := [("_law_k", 9)]) (by rfl) sc_law.nd (c_ih (c_irng (pi_range1 (by rfl) T.f_range (a_cons (pa_cons (c_cb cb_len (pe_callB (call_lenK K) (by rfl) T.f_len (by decide +kernel) (a_consw (pa_cons (c_w (c_op od_ix (pe_ix ix_u (c_vw (pv 1)) (c_w (c_c pe_int fun _ => .int _)) (fun _ _ => rfl)))) (a_nilw pa_nil))))) (a_nil pa_nil)))))) (blkOk_by (own := [("_law_k", 9)]) (N := N_law) (sc := defScope s_law) (by decide +kernel)) (fun _ _ _ _ _ => (c_gn (pg_name (i := 9) sc_law.nd rfl (by first | exact Or.inl rfl | exact Or.inr rfl)))) (fun _ _ _ _ _ => (pts_one (c_opT od_gt (pt_cmpR op_gt (c_w (c_op od_mod (pe_op op_modN (c_w (c_op od_ix (pe_ix ix_u (c_vw (pv 3)) (c_vw (pv 9)) (fun _ _ => rfl)))) (c_w (c_c pe_int fun _ => .int _))))) (c_w (c_c pe_int fun _ => .int _)) (nomark _))))) (fun _ _ _ _ _ => (c_op od_ix (pe_ix ix_u (c_w (c_op od_ix (pe_ix ix_u (c_vw (pv 1)) (c_w (c_c pe_int fun _ => .int _)) (fun _ _ => rfl)))) (c_vw (pv 9)) (fun _ _ => rfl))))))) (a_nilw pa_nil)))))))
  (PM.s_seq (pss_cons (PM.s_if (ps_if (c_not (pt_not (c_tv (pt_val (c_call (pe_own F_L_right hr passL (a_cons (pa_cons (c_tup (pe_tup (a_cons (pa_cons (c_op od_ix (pe_ix ix_u (c_vw (pv 1)) (c_w (c_c pe_int fun _ => .int _)) (fun _ _ => rfl))) (a_cons (pa_cons (c_op od_ix (pe_ix ix_u (c_vw (pv 1)) (c_w (c_c pe_int fun _ => .int _)) (fun _ _ => rfl))) (a_cons (pa_cons (c_v (pv 4)) (a_nil pa_nil))))))))) (a_nil pa_nil))))))))) (pss_one (PM.s_ret (ps_ret (c_c pe_bl fun _ => .bl _)))) (PM.s_nil pss_nil)))
  (PM.s_seq (pss_cons (PM.s_set (ps_set (i := 5) sc_law.nd rfl (by first | exact Or.inl rfl | exact Or.inr rfl) (c_cb cb_tuple (pe_callTy (call_tupK K) (by rfl) T.f_tuple (by decide +kernel) (a_consw (pa_cons (c_fw (c_lc (pe_lc (own := [("_law_k", 9)]) (by rfl) sc_law.nd (c_ih (c_irng (pi_range1 (by rfl) T.f_range (a_cons (pa_cons (c_cb cb_len (pe_callB (call_lenK K) (by rfl) T.f_len (by decide +kernel) (a_consw (pa_cons (c_w (c_op od_ix (pe_ix ix_u (c_vw (pv 1)) (c_w (c_c pe_int fun _ => .int _)) (fun _ _ => rfl)))) (a_nilw pa_nil))))) (a_nil pa_nil)))))) (blkOk_by (own := [("_law_k", 9)]) (N := N_law) (sc := defScope s_law) (by decide +kernel)) (fun _ _ _ _ _ => (c_gn (pg_name (i := 9) sc_law.nd rfl (by first | exact Or.inl rfl | exact Or.inr rfl)))) (fun _ _ _ _ _ => (pts_one (c_opT od_gt (pt_cmpR op_gt (c_w (c_op od_mod (pe_op op_modN (c_w (c_op od_ix (pe_ix ix_u (c_vw (pv 3)) (c_w (c_op od_add (pe_op op_uAdd (c_w (c_c pe_int fun _ => .int _)) (c_vw (pv 9))))) (fun _ _ => rfl)))) (c_w (c_c pe_int fun _ => .int _))))) (c_w (c_c pe_int fun _ => .int _)) (nomark _))))) (fun _ _ _ _ _ => (c_op od_ix (pe_ix ix_u (c_w (c_op od_ix (pe_ix ix_u (c_vw (pv 1)) (c_w (c_c pe_int fun _ => .int _)) (fun _ _ => rfl)))) (c_vw (pv 9)) (fun _ _ => rfl))))))) (a_nilw pa_nil)))))))
  (PM.s_seq (pss_cons (PM.s_set (ps_set (i := 6) sc_law.nd rfl (by first | exact Or.inl rfl | exact Or.inr rfl) (c_f (c_lc (pe_lc (own := [("_law_place_here", 8)]) (by rfl) sc_law.nd (c_iseqw (pi_seq (c_vw (pv 5)))) (blkOk_by (own := [("_law_place_here", 8)]) (N := N_law) (sc := defScope s_law) (by decide +kernel)) (fun _ _ _ _ _ => (c_gn (pg_name (i := 8) sc_law.nd rfl (by first | exact Or.inl rfl | exact Or.inr rfl)))) (fun _ _ _ _ _ => (q_nil pts_nil)) (fun _ _ _ _ _ => (c_op od_ix (pe_ix ix_u (c_vw (pv 8)) (c_w (c_c pe_int fun _ => .int _)) (fun _ _ => rfl)))))) mLc_is)))
  (PM.s_seq (pss_cons (PM.s_set (ps_set (i := 7) sc_law.nd rfl (by first | exact Or.inl rfl | exact Or.inr rfl) (c_cb cb_tuple (pe_callTy (call_tupK K) (by rfl) T.f_tuple (by decide +kernel) (a_consw (pa_cons (c_fw (c_lc (pe_lc (own := [("_law_tie", 10)]) (by rfl) sc_law.nd (c_iseqw (pi_seq (c_w (c_op od_ix (pe_ix ix_u (c_vw (pv 1)) (c_w (c_c pe_int fun _ => .int _)) (fun _ _ => rfl)))))) (blkOk_by (own := [("_law_tie", 10)]) (N := N_law) (sc := defScope s_law) (by decide +kernel)) (fun _ _ _ _ _ => (c_gn (pg_name (i := 10) sc_law.nd rfl (by first | exact Or.inl rfl | exact Or.inr rfl)))) (fun _ _ _ _ _ => (pts_one (PW.pt (c_and (pw_and (c_opT od_in (pt_cmpR (op_inK K) (c_w (c_op od_ix (pe_ix ix_u (c_vw (pv 10)) (c_w (c_c pe_int fun _ => .int _)) (fun _ _ => rfl)))) (c_vw (pv 6)) (by rfl))) (pw_and1 (c_opT od_in (pt_cmpR (op_inK K) (c_w (c_op od_ix (pe_ix ix_u (c_vw (pv 10)) (c_w (c_c pe_int fun _ => .int _)) (fun _ _ => rfl)))) (c_vw (pv 6)) (by rfl))))))))) (fun _ _ _ _ _ => (c_v (pv 10)))))) (a_nilw pa_nil)))))))
  (pss_one (PM.s_if (ps_if (PW.pt (c_and (pw_and (c_opT od_ne (pt_cmpR (op_neK (room_u64 hr)) (c_vw (pv 5)) (c_w (c_tup (pe_tup (a_nil pa_nil)))) (nomark _))) (pw_and1 (c_not (pt_not (c_tv (pt_val (c_call (pe_own F_L_right hr passL (a_cons (pa_cons (c_tup (pe_tup (a_cons (pa_cons (c_op od_ix (pe_ix ix_u (c_vw (pv 1)) (c_w (c_c pe_int fun _ => .int _)) (fun _ _ => rfl))) (a_cons (pa_cons (c_v (pv 5)) (a_cons (pa_cons (c_v (pv 7)) (a_nil pa_nil))))))))) (a_nil pa_nil))))))))))))) (pss_one (PM.s_ret (ps_ret (c_c pe_bl fun _ => .bl _)))) (PM.s_nil pss_nil))))))))))))))))))
  (pss_one (PM.s_ret (ps_ret (c_c pe_bl fun _ => .bl _))))))))))), spM_in (N := N_law) h⟩)
end
end K04
namespace K04
open PySem PySem.Spec PyProof.Rows L2 LB PM
section
variable {P : Program} {w : World} {K : PySem.W.Frag} {mg : Str → Option Value} {base : Heap}
theorem all_ok (T : Txt K mg) (Y : Ext K) (TB : ∀ x, x ∈ gens → LamX.TabB base mg (He.cT K (x, none)).1 (He.cT K (x, none)).2) : OwnFn P w K mg base 11 "law" ["_law_script"] (spM K (tabs K) M_law) := by
  have F_is_whole : OwnFn P w K mg base 1 "is_whole" _ _ := ok_is_whole T
  have F_is_between : OwnFn P w K mg base 2 "is_between" _ _ := ok_is_between T F_is_whole
  have F_is_row : OwnFn P w K mg base 1 "is_row" _ _ := ok_is_row T
  have F_is_name : OwnFn P w K mg base 3 "is_name" _ _ := ok_is_name T Y (TB "is_name" (by decide +kernel))
  have F_is_rising : OwnFn P w K mg base 3 "is_rising" _ _ := ok_is_rising T Y (TB "is_rising" (by decide +kernel))
  have F_is_top : OwnFn P w K mg base 3 "is_top" _ _ := ok_is_top T F_is_between
  have F_is_place : OwnFn P w K mg base 4 "is_place" _ _ := ok_is_place T F_is_row F_is_between F_is_name
  have F_is_tie : OwnFn P w K mg base 4 "is_tie" _ _ := ok_is_tie T F_is_row F_is_between F_is_name
  have F_are_places : OwnFn P w K mg base 7 "are_places" _ _ := ok_are_places T Y (TB "are_places" (by decide +kernel)) F_is_rising F_is_place
  have F_are_ties : OwnFn P w K mg base 7 "are_ties" _ _ := ok_are_ties T Y (TB "are_ties" (by decide +kernel)) F_is_rising F_is_tie
  have F_names_of : OwnFn P w K mg base 6 "names_of" _ _ := ok_names_of T Y (TB "names_of" (by decide +kernel))
  have F_is_web : OwnFn P w K mg base 8 "is_web" _ _ := ok_is_web T F_is_row F_names_of F_are_ties F_are_places F_is_top
  have F_show_web : OwnFn P w K mg base 1 "show_web" _ _ := ok_show_web T
  have F_read_number : OwnFn P w K mg base 3 "read_number" _ _ := ok_read_number T Y (TB "read_number" (by decide +kernel))
  have F_read_two : OwnFn P w K mg base 4 "read_two" _ _ := ok_read_two T F_read_number
  have F_read_top : OwnFn P w K mg base 4 "read_top" _ _ := ok_read_top T F_read_number
  have F_read_place : OwnFn P w K mg base 5 "read_place" _ _ := ok_read_place T F_read_two
  have F_read_tie : OwnFn P w K mg base 4 "read_tie" _ _ := ok_read_tie T F_read_number
  have F_with_row : OwnFn P w K mg base 6 "with_row" _ _ := ok_with_row T F_read_place F_read_tie
  have F_read_web : OwnFn P w K mg base 9 "read_web" _ _ := ok_read_web T F_read_top F_is_top F_with_row F_is_web
  have F_L_cell : OwnFn P w K mg base 1 "_law_cell" _ _ := ok_L_cell T
  have F_L_numbers : OwnFn P w K mg base 1 "_law_numbers" _ _ := ok_L_numbers T
  have F_L_names : OwnFn P w K mg base 1 "_law_names" _ _ := ok_L_names T
  have F_L_place : OwnFn P w K mg base 1 "_law_place" _ _ := ok_L_place T
  have F_L_ties : OwnFn P w K mg base 2 "_law_ties" _ _ := ok_L_ties T F_L_cell F_L_numbers
  have F_L_web : OwnFn P w K mg base 3 "_law_web" _ _ := ok_L_web T F_L_cell F_L_numbers F_L_names F_L_place F_L_ties
  have F_L_chain : OwnFn P w K mg base 2 "_law_chain" _ _ := ok_L_chain T F_L_names
  have F_L_drawn : OwnFn P w K mg base 4 "_law_drawn" _ _ := ok_L_drawn T F_L_cell F_L_numbers F_L_chain F_L_web
  have F_L_web_rows : OwnFn P w K mg base 1 "_law_web_rows" _ _ := ok_L_web_rows T
  have F_L_tuples : OwnFn P w K mg base 9 "_law_tuples" _ _ := ok_L_tuples T
  have F_L_right : OwnFn P w K mg base 10 "_law_right" _ _ := ok_L_right T F_L_web_rows F_show_web F_read_web F_is_web F_L_tuples
  have F_law : OwnFn P w K mg base 11 "law" _ _ := ok_law T F_L_drawn F_L_right F_L_cell F_L_numbers
  exact F_law
end
end K04
namespace K04.Q
open PySem PySem.Spec PyProof.Rows L2 LB PM
/-! ### names, rows that rise, of any kind -/
theorem is_ty (n : String) (d : PyData) {ρ : Ev} {i : Nat} (h : ρ[i]? = some (.val d)) : mIs n (mW i) ρ = (kitB (tyN d) n).map .bool := by
  unfold mIs mW
  rw [h]
  rfl
theorem isS_is (d : PyData) {ρ : Ev} {i : Nat} (h : ρ[i]? = some (.val d)) : mIs "str" (mW i) ρ = some (.bool (isS d)) := by
  rw [is_ty "str" d h, kit_str]
  rfl
theorem isU_is (d : PyData) {ρ : Ev} {i : Nat} (h : ρ[i]? = some (.val d)) : mIs "tuple" (mW i) ρ = some (.bool (isU d)) := by
  rw [is_ty "tuple" d h, kit_tuple]
  rfl
theorem ch3 {a c i : Int} {e : ME} {ρ : Ev} (h : e ρ = some (.int i)) : mCh oLe oLe (mC (.int a)) e (mC (.int c)) ρ = some (.bool (decide (a ≤ i) && decide (i ≤ c))) := by
  show ((e ρ).bind fun y => (oLe (.int a) y).bind fun z => (asB z).bind fun k => if k = true then (some (PyData.int c)).bind fun w => oLe y w else some (.bool false)) = _
  rw [h]
  show (if decide (a ≤ i) = true then some (PyData.bool (decide (i ≤ c))) else some (.bool false)) = _
  cases decide (a ≤ i) <;> rfl
/-- texts that are no longer than they may be -/
def Shrt (d : PyData) : Prop := ∀ z, d = .str z → z.length ≤ 10000
def sgB (c : Nat) : Bool := decide (c ∈ ("abcdefghijklmnopqrstuvwxyz" : Str).cps.toList)
def sgD : PyData → Bool
  | .str x => match sg1 x with
    | some c => sgB c
    | none => false
  | _ => false
theorem sgD_all (z : Str) : (signsD z).all sgD = z.cps.toList.all sgB := by
  unfold signsD
  rw [List.all_map]
  rfl
theorem sgD_in {z : Str} {d : PyData} (h : d ∈ signsD z) : oInX d (.str "abcdefghijklmnopqrstuvwxyz") = some (.bool (sgD d)) := by
  obtain ⟨c, _, rfl⟩ := List.mem_map.mp h
  rfl
def nmB : PyData → Bool
  | .str z => (decide (1 ≤ (z.length : Int)) && decide ((z.length : Int) ≤ 8)) && z.cps.toList.all sgB
  | _ => false
theorem len_str {z : Str} (h : z.length ≤ 10000) : oLen [.str z] = some (.int (z.length : Int)) := if_pos h
theorem name_is {d : PyData} (hs : Shrt d) : M_is_name [d] = some (.bool (nmB d)) := by
  have hS := isS_is d (ρ := [.val d, .no]) (i := 0) rfl
  refine r_eq rfl (r_ret (d := .bool (nmB d)) ?_ rfl)
  cases d with
  | str z =>
    have hl := len_str (hs z rfl)
    refine x_mandT hS ?_
    have h1 : mCh oLe oLe (mC (.int 1)) (mCb oLen (aCons (mW 0) aNil)) (mC (.int 8)) [.val (.str z), .no] = some (.bool (decide (1 ≤ (z.length : Int)) && decide ((z.length : Int) ≤ 8))) := ch3 (x_cb rfl hl)
    rw [show nmB (.str z) = ((decide (1 ≤ (z.length : Int)) && decide ((z.length : Int) ≤ 8)) && z.cps.toList.all sgB) from rfl]
    cases hb : (decide (1 ≤ (z.length : Int)) && decide ((z.length : Int) ≤ 8)) with
    | false =>
      rw [hb] at h1
      exact x_mandF h1
    | true =>
      rw [hb] at h1
      refine x_mandT h1 ?_
      rw [Bool.true_and, ← sgD_all]
      exact x_ag (ds := signsD z) rfl (x_agGo sgD _ fun d hd => ⟨[.val (.str z), .val d], rfl, rfl, x_op rfl rfl (sgD_in hd)⟩)
  | _ => exact x_mandF hS
end K04.Q
namespace K04.Q
open PySem PySem.Spec PyProof.Rows L2 LB PM
/-! ### rows that rise -/
def ltV (a b : PyData) : Bool := match oLtX a b with
  | some (.bool c) => c
  | _ => false
def rB : List PyData → Bool
  | a :: b :: r => ltV a b && rB (b :: r)
  | _ => true
def Cmp (ds : List PyData) : Prop := ∀ a ∈ ds, ∀ b ∈ ds, oLtX a b = some (.bool (ltV a b))
def ltZ : PyData → Bool
  | .tuple [a, b] => ltV a b
  | _ => false
theorem zip_all : ∀ ds : List PyData, (zipD ds (ds.drop 1)).all ltZ = rB ds
  | [] => rfl
  | [a] => rfl
  | a :: b :: r => by
    show (ltV a b && (zipD (b :: r) ((b :: r).drop 1)).all ltZ) = (ltV a b && rB (b :: r))
    rw [zip_all (b :: r)]
theorem zip_mem : ∀ {xs ys : List PyData} {d : PyData}, d ∈ zipD xs ys → ∃ a ∈ xs, ∃ b ∈ ys, d = .tuple [a, b]
  | a :: xs, b :: ys, d, h => by
    rcases List.mem_cons.mp (show d ∈ PyData.tuple [a, b] :: zipD xs ys from h) with h | h
    · exact ⟨a, List.mem_cons_self, b, List.mem_cons_self, h⟩
    · obtain ⟨a', ha, b', hb, e⟩ := zip_mem h
      exact ⟨a', List.mem_cons_of_mem _ ha, b', List.mem_cons_of_mem _ hb, e⟩
  | [], _, d, h => absurd (show d ∈ [] from h) List.not_mem_nil
  | _ :: _, [], d, h => absurd (show d ∈ [] from h) List.not_mem_nil
theorem cmp_strs {ds : List PyData} (h : ∀ d ∈ ds, isS d = true) : Cmp ds := fun a ha b hb => by
  have h1 := h a ha
  have h2 := h b hb
  match a, b, h1, h2 with
  | .str _, .str _, _, _ => rfl
def pairB : PyData → Bool
  | .tuple [.str _, .str _] => true
  | _ => false
theorem cmp_pairs {ds : List PyData} (h : ∀ d ∈ ds, pairB d = true) : Cmp ds := fun a ha b hb => by
  have h1 := h a ha
  have h2 := h b hb
  unfold pairB at h1 h2
  split at h1
  · split at h2
    · have : ∀ p q r s : Str, oLtX (.tuple [.str p, .str q]) (.tuple [.str r, .str s]) = some (.bool (PySem.W.dataLt (.tuple [.str p, .str q]) (.tuple [.str r, .str s]))) := fun p q r s => by
        unfold oLtX
        exact if_pos ⟨rfl, rfl, rfl, Nat.le_of_ble_eq_true rfl⟩
      rw [this]
      unfold ltV
      rw [this]
    · cases h2
  · cases h1
/-! ### what a graph is -/
def ShP (d : PyData) : Prop := ∀ x y, d = .tuple [x, y] → Shrt x ∧ Shrt y
def txD : PyData → List Str
  | .tuple xs => txs xs
  | _ => []
structure ShG (d : PyData) : Prop where
  nm : ∀ a b xs, d = .tuple [a, b] → a = .tuple xs → ∀ x ∈ xs, Shrt x
  pr : ∀ a b ys, d = .tuple [a, b] → b = .tuple ys → ∀ y ∈ ys, ∀ zs, y = .tuple zs → ∀ z ∈ zs, Shrt z
theorem ShG.sp {d a b : PyData} {ys : List PyData} (h : ShG d) (e : d = .tuple [a, b]) (eb : b = .tuple ys) {y : PyData} (hy : y ∈ ys) : ShP y := fun x z exz => ⟨h.pr a b ys e eb y hy _ exz x (by simp), h.pr a b ys e eb y hy _ exz z (by simp)⟩
end K04.Q
namespace K04.Q
open PySem PySem.Spec PyProof.Rows L2 LB PM
/-! ### what a house is, of any kind of thing -/
theorem sgB_iff (c : Nat) : sgB c = true ↔ 97 ≤ c ∧ c ≤ 122 := by
  unfold sgB
  have e : ("abcdefghijklmnopqrstuvwxyz" : Str).cps.toList = (List.range 26).map (· + 97) := by decide
  rw [decide_eq_true_iff, e, List.mem_map]
  constructor
  · rintro ⟨k, hk, rfl⟩
    have := List.mem_range.mp hk
    omega
  · exact fun h => ⟨c - 97, List.mem_range.mpr (by omega), by omega⟩
theorem nmB_iff (x : Str) : nmB (.str x) = true ↔ NameOk x := by
  show ((decide (1 ≤ (x.length : Int)) && decide ((x.length : Int) ≤ 8)) && x.cps.toList.all sgB) = true ↔ _
  rw [Bool.and_eq_true, Bool.and_eq_true, decide_eq_true_iff, decide_eq_true_iff, List.all_eq_true]
  unfold NameOk
  constructor
  · rintro ⟨⟨h1, h2⟩, h3⟩
    exact ⟨by omega, by omega, fun c hc => (sgB_iff c).mp (h3 c hc)⟩
  · rintro ⟨h1, h2, h3⟩
    exact ⟨⟨by omega, by omega⟩, fun c hc => (sgB_iff c).mpr (h3 c hc)⟩
theorem ltV_str (a b : Str) : ltV (.str a) (.str b) = decide (a.cps.toList < b.cps.toList) := rfl
theorem rB_iff : ∀ l : List Str, rB (l.map .str) = true ↔ Rise l
  | [] => ⟨fun _ => List.Pairwise.nil, fun _ => rfl⟩
  | [a] => ⟨fun _ => List.pairwise_singleton _ _, fun _ => rfl⟩
  | a :: b :: r => by
    have ih := rB_iff (b :: r)
    show (ltV (.str a) (.str b) && rB ((b :: r).map .str)) = true ↔ _
    rw [Bool.and_eq_true, ih, ltV_str, decide_eq_true_iff]
    constructor
    · rintro ⟨h1, h2⟩
      refine List.pairwise_cons.mpr ⟨fun x hx => ?_, h2⟩
      rcases List.mem_cons.mp hx with rfl | hx
      · exact h1
      · exact List.lt_trans h1 ((List.pairwise_cons.mp h2).1 x hx)
    · intro h
      obtain ⟨h1, h2⟩ := List.pairwise_cons.mp h
      exact ⟨h1 b List.mem_cons_self, h2⟩
/-- numbers from .. to .. -/
def bwB (a b : Int) : PyData → Bool
  | .int i => decide (a ≤ i) && decide (i ≤ b)
  | _ => false
theorem bw_int {a b : Int} {d : PyData} (h : bwB a b d = true) : ∃ i, d = .int i ∧ a ≤ i ∧ i ≤ b := by
  cases d with
  | int i =>
    have h : (decide (a ≤ i) && decide (i ≤ b)) = true := h
    rw [Bool.and_eq_true, decide_eq_true_iff, decide_eq_true_iff] at h
    exact ⟨i, rfl, h⟩
  | _ => cases h
theorem whole_is (d : PyData) : M_is_whole [d] = some (.bool (match d with | .int _ => true | _ => false)) := by
  cases d with
  | int i => exact r_eq rfl (r_ret (x_mandT rfl rfl) rfl)
  | bool b => exact r_eq rfl (r_ret (x_mandT rfl rfl) rfl)
  | _ => exact r_eq rfl (r_ret (x_mandF rfl) rfl)
theorem between_is (a b : Int) (d : PyData) : M_is_between [d, .int a, .int b] = some (.bool (bwB a b d)) := by
  have w := whole_is d
  cases d with
  | int i =>
    refine r_eq rfl (r_ret (x_mandT (x_cb rfl w) ?_) rfl)
    show (if decide (a ≤ i) = true then some (PyData.bool (decide (i ≤ b))) else some (.bool false)) = some (.bool (decide (a ≤ i) && decide (i ≤ b)))
    cases decide (a ≤ i) <;> rfl
  | _ => exact r_eq rfl (r_ret (x_mandF (x_cb rfl w)) rfl)
def rowN (n : Nat) : PyData → Bool
  | .tuple xs => decide (xs.length = n)
  | _ => false
theorem rowN_is (n : Nat) (d : PyData) : M_is_row [d, .int (n : Int)] = some (.bool (rowN n d)) := by
  cases d with
  | tuple xs =>
    refine r_eq rfl (r_ret (d := .bool (decide (xs.length = n))) (x_mandT rfl (x_op (x_cb rfl rfl) rfl ((eq_ii _ _).trans ?_))) rfl)
    exact congrArg (fun b => some (PyData.bool b)) (decide_eq_decide.mpr (by omega))
  | _ => exact r_eq rfl (r_ret (d := .bool false) (x_mandF rfl) rfl)
/-- texts within are short, rows few -/
structure Ths (d : PyData) : Prop where
  few : ∀ t js ls, d = .tuple [t, .tuple js, .tuple ls] → js.length ≤ 20 ∧ ls.length ≤ 20
  row : ∀ t js ls, d = .tuple [t, .tuple js, .tuple ls] → ∀ j ∈ js ++ ls, ∀ xs, j = .tuple xs → ∀ x ∈ xs, Shrt x ∧ ∀ ws, x = .tuple ws → ws.length ≤ 20 ∧ ∀ y ∈ ws, Shrt y
/-- rows of jobs and tools, whatever their numbers are -/
structure RJ where
  n : Str
  g : PyData
  r : PyData
  w : List Str
structure RT where
  n : Str
  c : PyData
  f : PyData
end K04.Q
namespace K04.Q
open PySem PySem.Spec PyProof.Rows L2 LB PM
/-! ### jobs and tools, as the program looks at them -/
abbrev jn (J : List RJ) : List Str := J.map (·.n)
abbrev ln (L : List RT) : List Str := L.map (·.n)
def JobOk (j : RJ) : Prop := NameOk j.n ∧ Rise j.w ∧ ∀ x ∈ j.w, NameOk x
/-- jobs and tools, whatever their numbers are -/
structure JT (J : List RJ) (L : List RT) : Prop where
  jok : ∀ j ∈ J, JobOk j
  tok : ∀ t ∈ L, NameOk t.n
  jr : Rise (jn J)
  lr : Rise (ln L)
  wl : ∀ j ∈ J, ∀ x ∈ j.w, x ∈ ln L
theorem lc_fst {α : Type} {ρ : Ev} {i : Nat} (D : α → PyData) (F : α → Str) (l : List α) {e : ME} (h : ∀ a ∈ l, ∃ ρ1, gN i (D a) ρ = some ρ1 ∧ e ρ1 = some (.str (F a))) : lcGo (gN i) qT e ρ (l.map D) = some ((l.map F).map .str) := by
  rw [List.map_map]
  have : ∀ l : List α, (∀ a ∈ l, ∃ ρ1, gN i (D a) ρ = some ρ1 ∧ e ρ1 = some (.str (F a))) → lcGo (gN i) qT e ρ (l.map D) = some (l.map fun a => .str (F a)) := fun l => by
    induction l with
    | nil => exact fun _ => rfl
    | cons a l ih =>
      intro h
      obtain ⟨ρ1, h1, h2⟩ := h a List.mem_cons_self
      have ih := ih fun x hx => h x (List.mem_cons_of_mem _ hx)
      show (gN i (D a) ρ).bind _ = _
      rw [h1]
      show (e ρ1).bind _ = _
      rw [h2]
      show (lcGo (gN i) qT e ρ (l.map D)).map _ = _
      rw [ih]
      rfl
  exact this l h
theorem rising_strs (ns : List Str) : M_is_rising [.list (ns.map .str)] = some (.bool (rB (ns.map .str))) := by
  have h : Cmp (ns.map PyData.str) := cmp_strs fun d hd => by
    obtain ⟨x, _, rfl⟩ := List.mem_map.mp hd
    rfl
  generalize ns.map PyData.str = ds at h
  refine r_eq rfl (r_ret (d := .bool (rB ds)) (x_ag (ds := zipD ds (ds.drop 1)) ?_ ?_) rfl)
  · show some (zipD ds (LB.cutD ds (some 1) none)) = _
    rw [cut_tail]
  · rw [x_agGo ltZ _ fun d hd => ?_, zip_all]
    obtain ⟨a, ha, b, hb, rfl⟩ := zip_mem hd
    exact ⟨[.val (.list ds), .val a, .val b], rfl, rfl, x_op rfl rfl (h a ha b (List.mem_of_mem_drop hb))⟩
end K04.Q
namespace K04.Q
open PySem PySem.Spec PyProof.Rows L2 LB PM
/-! ### the web of jobs and tools -/
theorem name_lay {x : Str} (h : NameOk x) : PyData.strOk x = true := by
  have h := h.2.2
  unfold PyData.strOk
  rw [← Array.all_toList, List.all_eq_true]
  intro c hc
  have := h c hc
  exact decide_eq_true (by omega)
theorem ne_str {x y : Str} (hx : SeqAt.shaped (.str x) = true) (hy : SeqAt.shaped (.str y) = true) : oNe (.str x) (.str y) = some (.bool (!decide (x = y))) := by
  unfold oNe
  rw [if_pos ⟨hx, hy⟩, eqv_str]
  rfl
theorem x_asg {e : ME} {gm : MG} {ρ ρ' : Ev} {d : PyData} (h : e ρ = some d) (h2 : gm d ρ = some ρ') : mAsg e gm ρ = some (.nx ρ') := by
  unfold mAsg
  rw [h]
  show (gm d ρ).map _ = _
  rw [h2]
  rfl
def pRJ (j : RJ) : PyData := .tuple [.str j.n, j.g, j.r, .int 0, .int 0]
def pRT (t : RT) : PyData := .tuple [.str t.n, .int 0, .int 0, t.c, t.f]
def plU (J : List RJ) (L : List RT) : List PyData := J.map pRJ ++ L.map pRT
noncomputable def plS (J : List RJ) (L : List RT) : List PyData := (plU J L).mergeSort (PySem.W.dataLe false fun d => .str (fstS d))
end K04.Q
namespace K04.Q
open PySem PySem.Spec PyProof.Rows L2 LB PM PySem.W
/-! ### the web's places and ties -/
def ctB (top : Int) (f c : PyData) : Bool := match f with
  | .int i => bwB (i * top) 999 c
  | _ => false
def plB (top : Int) (g r c f : PyData) : Bool := (bwB 0 99 g && (bwB 0 99 r && bwB 0 99 f)) && ctB top f c
theorem place_is {top : Int} (t1 : 1 ≤ top) (t9 : top ≤ 9) {x : Str} (hx : NameOk x) (g r c f : PyData) : M_is_place [.int top, .tuple [.str x, g, r, c, f]] = some (.bool (plB top g r c f)) := by
  have hr := rowN_is 5 (.tuple [.str x, g, r, c, f])
  have hn := name_is (d := .str x) fun z e => by
    injection e with e
    subst e
    have := hx.2.1
    omega
  rw [(nmB_iff x).mpr hx] at hn
  have bg := between_is 0 99 g
  have br := between_is 0 99 r
  have bf := between_is 0 99 f
  have q0 : qV (mCb M_is_name (aCons (mV 2) aNil)) [.val (.int top), .val (.tuple [.str x, g, r, c, f]), .val (.str x), .val g, .val r, .val c, .val f] = some true := x_qv (x_cb rfl hn)
  have q1 : qV (mCb M_is_between (aCons (mV 3) (aCons (mC (.int 0)) (aCons (mC (.int 99)) aNil)))) [.val (.int top), .val (.tuple [.str x, g, r, c, f]), .val (.str x), .val g, .val r, .val c, .val f] = some (bwB 0 99 g) := x_qv (x_cb rfl bg)
  have q2 : qV (mCb M_is_between (aCons (mV 4) (aCons (mC (.int 0)) (aCons (mC (.int 99)) aNil)))) [.val (.int top), .val (.tuple [.str x, g, r, c, f]), .val (.str x), .val g, .val r, .val c, .val f] = some (bwB 0 99 r) := x_qv (x_cb rfl br)
  have q3 : qV (mCb M_is_between (aCons (mV 6) (aCons (mC (.int 0)) (aCons (mC (.int 99)) aNil)))) [.val (.int top), .val (.tuple [.str x, g, r, c, f]), .val (.str x), .val g, .val r, .val c, .val f] = some (bwB 0 99 f) := x_qv (x_cb rfl bf)
  have qq : qAnd (qV (mCb M_is_name (aCons (mV 2) aNil))) (qAnd (qV (mCb M_is_between (aCons (mV 3) (aCons (mC (.int 0)) (aCons (mC (.int 99)) aNil))))) (qAnd (qV (mCb M_is_between (aCons (mV 4) (aCons (mC (.int 0)) (aCons (mC (.int 99)) aNil))))) (qV (mCb M_is_between (aCons (mV 6) (aCons (mC (.int 0)) (aCons (mC (.int 99)) aNil))))))) [.val (.int top), .val (.tuple [.str x, g, r, c, f]), .val (.str x), .val g, .val r, .val c, .val f] = some (bwB 0 99 g && (bwB 0 99 r && bwB 0 99 f)) := by
    refine x_andT q0 ?_
    cases hg : bwB 0 99 g with
    | false =>
      rw [hg] at q1
      exact x_andF q1
    | true =>
      rw [hg] at q1
      refine (x_andT q1 (c := bwB 0 99 r && bwB 0 99 f) ?_)
      cases hr' : bwB 0 99 r with
      | false =>
        rw [hr'] at q2
        exact x_andF q2
      | true =>
        rw [hr'] at q2
        exact x_andT q2 q3
  unfold plB
  refine r_eq rfl (r_seq (x_ifF (x_not (c := true) (x_qv (x_cb rfl hr))) rfl) (r_seq (x_asg rfl rfl) ?_))
  cases hb : (bwB 0 99 g && (bwB 0 99 r && bwB 0 99 f)) with
  | false =>
    rw [hb] at qq
    exact ⟨_, x_ret (x_ifT (x_not (c := false) qq) (x_rt rfl)), rfl⟩
  | true =>
    rw [hb] at qq
    rw [Bool.and_eq_true, Bool.and_eq_true] at hb
    obtain ⟨i, rfl, i0, i9⟩ := bw_int hb.2.2
    have bc := between_is (i * top) 999 c
    exact r_seq (x_ifF (x_not (c := true) qq) rfl) (r_ret (x_cb (x_cons rfl (x_cons (x_op rfl rfl (mul_ii (by omega) (by omega))) (x_cons rfl rfl))) bc) rfl)
/-! ### ties in their order -/
theorem lex_app : ∀ {p p' s s' : List (Int ⊕ List Nat)}, p.length = p'.length → lexLt itemOrd p p' = true → lexLt itemOrd (p ++ s) (p' ++ s') = true
  | [], [], s, s', _, h => by
    rw [lex_irrefl] at h
    cases h
  | [], _ :: _, _, _, h, _ => by cases h
  | _ :: _, [], _, _, h, _ => by cases h
  | x :: r, y :: t, s, s', hl, h => by
    rw [List.length_cons, List.length_cons] at hl
    rcases lex_true.mp h with h | ⟨h1, h2⟩
    · exact lex_true.mpr (.inl h)
    · exact lex_true.mpr (.inr ⟨h1, lex_app (by omega) h2⟩)
def pkT (e : Str × Str) : PyData := .tuple [.str e.1, .str e.2]
def tok4 (e : Str × Str) : List (Int ⊕ List Nat) := [.inl 1, .inr e.1.cps.toList, .inl 1, .inr e.2.cps.toList]
theorem toks2 (e : Str × Str) : keyToksAll [.str e.1, .str e.2] = tok4 e ++ [.inl 0] := by
  simp [keyToksAll, keyToks, tok4]
theorem tok4_inj {e f : Str × Str} (h : tok4 e = tok4 f) : e = f := by
  unfold tok4 at h
  simp only [List.cons.injEq, Sum.inr.injEq, and_true, true_and] at h
  obtain ⟨h1, h2⟩ := h
  obtain ⟨a, b⟩ := e
  obtain ⟨c, d⟩ := f
  have h1 : a = c := str_of_cps h1
  have h2 : b = d := str_of_cps h2
  rw [h1, h2]
theorem rB_pairs : ∀ {l : List PyData}, l.Pairwise (fun a b => ltV a b = true) → rB l = true
  | [], _ => rfl
  | [_], _ => rfl
  | a :: b :: r, h => by
    obtain ⟨h1, h2⟩ := List.pairwise_cons.mp h
    show (ltV a b && rB (b :: r)) = true
    rw [h1 b List.mem_cons_self, rB_pairs h2]
    rfl
end K04.Q
namespace K04.Q
open PySem PySem.Spec PyProof.Rows L2 LB PM PySem.W
/-! ### what the program says of a house -/
theorem le_tr : ∀ a b c : PyData, dataLe false id a b = true → dataLe false id b c = true → dataLe false id a c = true := fun a b c h1 h2 => by
  have h1 : (!lexLt itemOrd (keyToks b) (keyToks a)) = true := h1
  have h2 : (!lexLt itemOrd (keyToks c) (keyToks b)) = true := h2
  show (!lexLt itemOrd (keyToks c) (keyToks a)) = true
  cases h : lexLt itemOrd (keyToks c) (keyToks a) with
  | false => rfl
  | true =>
    rcases lex_negTrans (O := itemOrd) _ (keyToks b) _ h with z | z
    · rw [z] at h2
      cases h2
    · rw [z] at h1
      cases h1
theorem le_tot : ∀ a b : PyData, (dataLe false id a b || dataLe false id b a) = true := fun a b => by
  show (!lexLt itemOrd (keyToks b) (keyToks a) || !lexLt itemOrd (keyToks a) (keyToks b)) = true
  cases h : lexLt itemOrd (keyToks b) (keyToks a) with
  | false => rfl
  | true =>
    cases h2 : lexLt itemOrd (keyToks a) (keyToks b) with
    | false => rfl
    | true =>
      have := lex_trans (O := itemOrd) _ _ _ h h2
      rw [lex_irrefl] at this
      cases this
theorem rising_list {ds : List PyData} (h : Cmp ds) : M_is_rising [.list ds] = some (.bool (rB ds)) := by
  refine r_eq rfl (r_ret (d := .bool (rB ds)) (x_ag (ds := zipD ds (ds.drop 1)) ?_ ?_) rfl)
  · show some (zipD ds (LB.cutD ds (some 1) none)) = _
    rw [cut_tail]
  · rw [x_agGo ltZ _ fun d hd => ?_, zip_all]
    obtain ⟨a, ha, b, hb, rfl⟩ := zip_mem hd
    exact ⟨[.val (.list ds), .val a, .val b], rfl, rfl, x_op rfl rfl (h a ha b (List.mem_of_mem_drop hb))⟩
structure PB (top : Int) (J : List RJ) (L : List RT) : Prop where
  n1 : 1 ≤ J.length + L.length
  n8 : J.length + L.length ≤ 8
  jg : ∀ j ∈ J, bwB 0 99 j.g = true ∧ bwB 0 99 j.r = true
  lf : ∀ t ∈ L, bwB 0 99 t.f = true ∧ ctB top t.f t.c = true
  nd : (jn J ++ ln L).Nodup
end K04.Q
namespace K04.Q
open PySem PySem.Spec PySem.W PyProof.Rows L2 LB PM
theorem pair_ltG {e f : Str × Str} {l l' : List PyData} {t t' : List (Int ⊕ List Nat)} (hl : keyToksAll l = tok4 e ++ t) (hl' : keyToksAll l' = tok4 f ++ t') (ne : e ≠ f) (h : dataLe false id (.tuple l) (.tuple l') = true) : ltV (pkT e) (pkT f) = true := by
  have h : (!dataLt (.tuple l') (.tuple l)) = true := h
  rw [dataLt_tuple, hl, hl', Bool.not_eq_true'] at h
  have h1 : lexLt itemOrd (tok4 f) (tok4 e) = false := by
    cases z : lexLt itemOrd (tok4 f) (tok4 e) with
    | false => rfl
    | true =>
      rw [lex_app (p := tok4 f) (p' := tok4 e) rfl z] at h
      cases h
  have h2 : lexLt itemOrd (tok4 e) (tok4 f) = true := by
    cases z : lexLt itemOrd (tok4 e) (tok4 f) with
    | true => rfl
    | false => exact absurd (tok4_inj (lex_total (O := itemOrd) _ _ z h1)) ne
  have hc : oLtX (pkT e) (pkT f) = some (.bool (dataLt (pkT e) (pkT f))) := by
    unfold oLtX pkT
    exact if_pos ⟨rfl, rfl, rfl, Nat.le_of_ble_eq_true rfl⟩
  unfold ltV
  rw [hc]
  show dataLt (pkT e) (pkT f) = true
  unfold pkT
  rw [dataLt_tuple, toks2, toks2]
  exact lex_app rfl h2
theorem toksS (e : Str × Str) (s : Int) : keyToksAll [.str e.1, .str e.2, .int s] = tok4 e ++ [.inl 1, .inl s, .inl 0] := by
  simp [keyToksAll, keyToks, tok4]
def tq : PyData → Str × Str
  | .tuple (.str a :: .str b :: _) => (a, b)
  | _ => ("", "")
/-- rows that begin with two names, sorted -/
theorem rs_sort {l : List PyData} (hf : ∀ d ∈ l, ∃ r t, d = .tuple r ∧ keyToksAll r = tok4 (tq d) ++ t) (nd : (l.map tq).Nodup) : ((sortD l).map tq).Pairwise fun e f => ltV (pkT e) (pkT f) = true := by
  have pw : (sortD l).Pairwise fun a b => dataLe false id a b = true := List.pairwise_mergeSort le_tr le_tot l
  have nd2 : ((sortD l).map tq).Nodup := ((sortD_perm l).map tq).nodup_iff.mpr nd
  have np := List.pairwise_map.mp (List.nodup_iff_pairwise_ne.mp nd2)
  refine List.pairwise_map.mpr ((pw.and np).imp_of_mem fun {a b} ha hb h => ?_)
  obtain ⟨r, t, ea, ka⟩ := hf a ((sortD_perm l).mem_iff.mp ha)
  obtain ⟨r', t', eb, kb⟩ := hf b ((sortD_perm l).mem_iff.mp hb)
  have h1 := h.1
  have h2 := h.2
  rw [ea, eb] at h1
  exact pair_ltG ka kb h2 h1
end K04.Q
namespace K04
open PySem PySem.Spec PyProof.Rows L2 LB PM
/-! ### what is drawn -/
theorem cell_ok (ns : List Int) {j : Nat} (hj : j ≤ 1000) : ∃ n, M_L_cell [.list (ns.map .int), .int (j : Int)] = some (.int n) := by
  by_cases hl : j < ns.length
  · refine ⟨ns[j], x_fn (q := .rt (.int ns[j])) rfl (x_ret (x_ifT (x_qv ?_) (x_rt ?_))) rfl⟩
    · show some (PyData.bool (decide ((j : Int) < (((ns.map PyData.int).length : Nat) : Int)))) = _
      rw [decide_eq_true (by rw [List.length_map]; omega)]
    · refine x_op rfl rfl (ix_l (atI_nat ?_))
      rw [List.getElem?_map, List.getElem?_eq_getElem hl] <;> rfl
  · obtain ⟨ρ', h1, z, kv, rfl, _⟩ := x_for (mi := iS (mSl (mW 0) pNo (pSo (mC (.int 3))))) (gm := gN 3) (mb := mSet 2 (mOp oMod (mOp oAdd (mOp oMul (mW 2) (mC (.int 69621))) (mW 3)) (mC (.int 2147483647))))
      (ρ := [.val (.list (ns.map PyData.int)), .val (.int (j : Int)), .val (.int ((48271 * ((j : Int) * (j : Int) + 7 * (j : Int) + 11)).fmod 2147483647)), .no]) (ds := LB.cutD (ns.map PyData.int) none (some 3))
      (fun i ρ => ∃ (z : Int) (kv : Sl), ρ = [.val (.list (ns.map PyData.int)), .val (.int (j : Int)), .val (.int z), kv] ∧ 0 ≤ z ∧ z < 2147483647) rfl ⟨_, _, rfl, fm _ (by decide)⟩ (by
        rintro i d ρ hd ⟨z, kv, rfl, z0, z1⟩
        obtain ⟨c, _, rfl⟩ := List.mem_map.mp (cut_mem (List.mem_of_getElem? hd))
        exact ⟨_, _, rfl, x_set (x_op (x_op (x_op rfl rfl (mul_ii (by omega) (by omega))) rfl rfl) rfl rfl), _, _, rfl, fm _ (by decide)⟩)
    have jj : (j : Int) * (j : Int) ≤ 1000 * 1000 := Int.mul_le_mul (by omega) (by omega) (by omega) (by omega)
    have j0 : (0 : Int) ≤ (j : Int) * (j : Int) := Int.mul_nonneg (by omega) (by omega)
    refine ⟨z, x_fn (q := .rt (.int z)) rfl (x_seq (x_ifF (x_qv ?_) rfl) (x_seq (x_set (x_op (x_op rfl (x_op (x_op (x_op rfl rfl (mul_ii (by omega) (by omega))) (x_op rfl rfl (mul_ii (by omega) (by omega))) rfl) rfl rfl) (mul_ii (by omega) (by omega))) rfl rfl)) (x_seq h1 (x_rt rfl)))) rfl⟩
    show some (PyData.bool (decide ((j : Int) < (((ns.map PyData.int).length : Nat) : Int)))) = _
    rw [decide_eq_false (by rw [List.length_map]; omega)]
theorem nums_ok (c : Int) {m : Nat} (hm : m ≤ 1000) : ∃ xs, NumsOk m xs ∧ M_L_numbers [.int c, .int (m : Int)] = some (.list (xs.map .int)) := by
  have c1 := fm c (b := 1999999973) (by decide)
  have mid : ∃ dg : Int, 0 ≤ dg ∧ mIfS (qOr (qV (mOp oLt (mW 0) (mC (.int 0)))) (qV (mOp oGe (mW 0) (mOp oPow (mC (.int 10)) (mC (.int 18)))))) (mSet 4 (mCb oAbs (aCons (mW 0) aNil))) mNx [.val (.int c), .val (.int (m : Int)), .own (.list []), .val (.int (((c.fmod 1999999973 + 31) * 765432101).fmod 1999999973)), .val (.int 0), .no] = some (.nx [.val (.int c), .val (.int (m : Int)), .own (.list []), .val (.int (((c.fmod 1999999973 + 31) * 765432101).fmod 1999999973)), .val (.int dg), .no]) := by
    have ab : 0 ≤ (if c < 0 then -c else c) := by split <;> omega
    have p1 : ∀ b : Bool, decide (c < 0) = b → qV (mOp oLt (mW 0) (mC (.int 0))) [.val (.int c), .val (.int (m : Int)), .own (.list []), .val (.int (((c.fmod 1999999973 + 31) * 765432101).fmod 1999999973)), .val (.int 0), .no] = some b := fun b h => x_qv (x_op rfl rfl (by show some (PyData.bool (decide (c < 0))) = _; rw [h]))
    have p2 : ∀ b : Bool, decide ((10 : Int) ^ (18 : Int).toNat ≤ c) = b → qV (mOp oGe (mW 0) (mOp oPow (mC (.int 10)) (mC (.int 18)))) [.val (.int c), .val (.int (m : Int)), .own (.list []), .val (.int (((c.fmod 1999999973 + 31) * 765432101).fmod 1999999973)), .val (.int 0), .no] = some b := fun b h => x_qv (x_op rfl (x_op rfl rfl rfl) (by show some (PyData.bool (decide ((10 : Int) ^ (18 : Int).toNat ≤ c))) = _; rw [h]))
    by_cases h1 : c < 0
    · exact ⟨_, ab, x_ifT (x_orT (p1 true (decide_eq_true h1))) (x_set rfl)⟩
    · by_cases h2 : (10 : Int) ^ (18 : Int).toNat ≤ c
      · exact ⟨_, ab, x_ifT (x_orF (p1 false (decide_eq_false h1)) (p2 true (decide_eq_true h2))) (x_set rfl)⟩
      · exact ⟨0, Int.le_refl _, x_ifF (x_orF (p1 false (decide_eq_false h1)) (p2 false (decide_eq_false h2))) rfl⟩
  obtain ⟨dg, dg0, hmid⟩ := mid
  obtain ⟨ρ', h1, xs, st, dg', kv, rfl, hl, hb, _⟩ := x_for (mi := iR (aCons (mV 1) aNil)) (gm := gN 5) (mb := mSeq (mSet 3 (mOp oMod (mOp oAdd (mOp oAdd (mOp oMul (mW 3) (mOp oAdd (mOp oMod (mW 3) (mC (.int 65521))) (mC (.int 40487)))) (mOp oMul (mC (.int 7)) (mW 5))) (mC (.int 5))) (mC (.int 1999999973))))
    (mSeq (mApp 2 (mOp oIx (mLst (aCons (mV 3) (aCons (mOp oMod (mW 4) (mC (.int 1000000))) aNil))) (mCb oInt (aCons (mOp oGt (mW 4) (mC (.int 0))) aNil)))) (mSet 4 (mOp oFdv (mW 4) (mC (.int 1000000))))))
    (ρ := [.val (.int c), .val (.int (m : Int)), .own (.list []), .val (.int (((c.fmod 1999999973 + 31) * 765432101).fmod 1999999973)), .val (.int dg), .no]) (ds := rngD m)
    (fun i ρ => ∃ (xs : List Int) (st dg : Int) (kv : Sl), ρ = [.val (.int c), .val (.int (m : Int)), .own (.list (xs.map PyData.int)), .val (.int st), .val (.int dg), kv] ∧ xs.length = i ∧ (∀ x ∈ xs, 0 ≤ x ∧ x < 2000000000) ∧ 0 ≤ st ∧ st < 1999999973 ∧ 0 ≤ dg)
    (x_rng rfl (by omega)) ⟨[], _, dg, .no, rfl, rfl, fun x hx => (List.not_mem_nil hx).elim, (fm _ (by decide)).1, (fm _ (by decide)).2, dg0⟩ (by
      rintro i d ρ hd ⟨xs, st, dg, kv, rfl, hl, hb, s0, s1, d0⟩
      obtain ⟨i', hi', rfl⟩ := List.mem_map.mp (List.mem_of_getElem? hd)
      have hi2 := List.mem_range.mp hi'
      have il : i < m := by
        have := (List.getElem?_eq_some_iff.mp hd).1
        rw [rngD_length] at this
        exact this
      have f1 := fm st (b := 65521) (by decide)
      have ev : ∀ b : Bool, ∃ v : Int, atI [PyData.int ((st * (st.fmod 65521 + 40487) + 7 * (i' : Int) + 5).fmod 1999999973), PyData.int (dg.fmod 1000000)] (if b = true then 1 else 0) = some (.int v) ∧ 0 ≤ v ∧ v < 2000000000 := fun b => by
        have g1 := fm dg (b := 1000000) (by decide)
        have g2 := fm (st * (st.fmod 65521 + 40487) + 7 * (i' : Int) + 5) (b := 1999999973) (by decide)
        cases b
        · exact ⟨_, at0, g2.1, by omega⟩
        · exact ⟨_, at1, g1.1, by omega⟩
      obtain ⟨v, hv, v0, v1⟩ := ev (decide (0 < dg))
      refine ⟨_, _, rfl, x_seq (x_set (x_op (x_op (x_op (x_op rfl (x_op (x_op rfl rfl rfl) rfl rfl) (mul_ii (by omega) (by omega))) (x_op rfl rfl (mul_ii (by omega) (by omega))) rfl) rfl rfl) rfl rfl)) (x_seq (x_app (d := .int v) (x_op rfl rfl (ix_l hv)) rfl (by rw [List.length_map]; omega)) (x_set rfl)), xs ++ [v], _, _, _, by rw [List.map_append]; rfl, by rw [List.length_append, hl]; rfl, ?_, (fm _ (by decide)).1, (fm _ (by decide)).2, ?_⟩
      · intro x hx
        rcases List.mem_append.mp hx with h | h
        · exact hb x h
        · rw [List.mem_singleton.mp h]
          exact ⟨v0, v1⟩
      · rw [Int.fdiv_eq_ediv_of_nonneg _ (by decide)]
        exact Int.ediv_nonneg d0 (by decide))
  rw [rngD_length] at hl
  exact ⟨xs, ⟨hl, hb⟩, x_fn (q := .rf (.list (xs.map .int))) rfl (x_seq (x_setO rfl) (x_seq (x_set (x_op (x_op (x_op (x_op rfl rfl rfl) rfl rfl) rfl (mul_ii (by omega) (by omega))) rfl rfl)) (x_seq (x_set rfl) (x_seq hmid (x_seq h1 rfl))))) rfl⟩
def wd8 : List Str := ["top", "tie", "place", "none", "at", "to", "cut", "drain"]
def nmW (x0 x1 x2 x3 : Int) (i : Nat) : Str := if x1.fmod 8 = 6 then wd8.getD (((i : Int) + x3).fmod 8).toNat "" else nmOf x0 x1 x2 x3 i
theorem wd8_at {k : Int} (h0 : 0 ≤ k) (h8 : k < 8) : atI [PyData.str "top", .str "tie", .str "place", .str "none", .str "at", .str "to", .str "cut", .str "drain"] k = some (.str (wd8.getD k.toNat "")) := by
  obtain ⟨n, rfl⟩ : ∃ n : Nat, k = (n : Int) := ⟨k.toNat, by omega⟩
  refine atI_nat ?_
  rcases (show n = 0 ∨ n = 1 ∨ n = 2 ∨ n = 3 ∨ n = 4 ∨ n = 5 ∨ n = 6 ∨ n = 7 by omega) with rfl | rfl | rfl | rfl | rfl | rfl | rfl | rfl <;> rfl
def wdB : Bool := (List.range 8).all fun k => decide (1 ≤ (wd8.getD k "").length) && decide ((wd8.getD k "").length ≤ 8) && (wd8.getD k "").cps.toList.all (fun c => decide (97 ≤ c) && decide (c ≤ 122)) && (List.range 8).all fun j => decide (wd8.getD k "" = wd8.getD j "" → k = j)
theorem wdB_true : wdB = true := by decide +kernel
theorem wd_facts {k : Nat} (h : k < 8) : NameOk (wd8.getD k "") ∧ ∀ j < 8, wd8.getD k "" = wd8.getD j "" → k = j := by
  have h1 := List.all_eq_true.mp wdB_true k (List.mem_range.mpr h)
  simp only [Bool.and_eq_true, decide_eq_true_eq, List.all_eq_true] at h1
  obtain ⟨⟨⟨a, b⟩, c⟩, d⟩ := h1
  exact ⟨⟨a, b, c⟩, fun j hj => d j (List.mem_range.mpr hj)⟩
theorem nmW_inj (x0 x1 x2 x3 : Int) {a b : Nat} (ha : a < 8) (hb : b < 8) (e : nmW x0 x1 x2 x3 a = nmW x0 x1 x2 x3 b) : a = b := by
  unfold nmW at e
  by_cases h : x1.fmod 8 = 6
  · rw [if_pos h, if_pos h] at e
    have fa := fm ((a : Int) + x3) (b := 8) (by decide)
    have fb := fm ((b : Int) + x3) (b := 8) (by decide)
    have := (wd_facts (k := (((a : Int) + x3).fmod 8).toNat) (by omega)).2 _ (by omega) e
    rw [Int.fmod_eq_emod_of_nonneg _ (by decide)] at this fa
    rw [Int.fmod_eq_emod_of_nonneg _ (by decide)] at this fb
    omega
  · rw [if_neg h, if_neg h] at e
    exact nm_inj x0 x1 x2 x3 ha hb e
theorem nmW_ok (x0 x1 x2 x3 : Int) {i : Nat} (h8 : i < 8) : NameOk (nmW x0 x1 x2 x3 i) := by
  unfold nmW
  by_cases h : x1.fmod 8 = 6
  · rw [if_pos h]
    have fa := fm ((i : Int) + x3) (b := 8) (by decide)
    exact (wd_facts (by omega)).1
  · rw [if_neg h]
    exact nm_ok x0 x1 x2 x3 h8
theorem names_ok {xs : List Int} {n m : Nat} (hx : NumsOk n xs) (hn : 4 ≤ n) (m1 : 1 ≤ m) (m8 : m ≤ 8) : ∃ ns, NamesOk m ns ∧ M_L_names [.list (xs.map .int), .int (m : Int)] = some (.list (ns.map .str)) := by
  obtain ⟨hl, hb⟩ := hx
  match xs, hl, hb with
  | [], hl, _ => simp at hl; omega
  | [_], hl, _ => simp at hl; omega
  | [_, _], hl, _ => simp at hl; omega
  | [_, _, _], hl, _ => simp at hl; omega
  | x0 :: x1 :: x2 :: x3 :: r, hl, hb =>
  have key : ∃ d, M_L_names [.list ((x0 :: x1 :: x2 :: x3 :: r).map .int), .int (m : Int)] = some d ∧ ∃ ns, NamesOk m ns ∧ d = .list (ns.map .str) := by
    refine r_fn rfl (r_seq (x_set rfl) (r_seq (x_setO rfl) (r_for (ds := rngD m) (fun i ρ => ∃ kv nv mv, ρ = [.val (.list ((x0 :: x1 :: x2 :: x3 :: r).map .int)), .val (.int (m : Int)), .val (.str abc), .own (.list (((List.range i).map (nmW x0 x1 x2 x3)).map .str)), kv, nv, mv]) (x_rng rfl (by omega)) ⟨_, _, _, rfl⟩ ?_ ?_)))
    · rintro i d ρ hd ⟨kv, nv, mv, rfl⟩
      obtain ⟨hi, rfl⟩ := rng_at hd
      have f3 := fm x3 (b := 2) (by decide)
      have pw : atI [PyData.int 1, PyData.int 5] (x3.fmod 2) = some (.int (if x3.fmod 2 = 1 then 5 else 1)) := by
        by_cases h : x3.fmod 2 = 1
        · rw [if_pos h, h]
          exact at1
        · have h0 : x3.fmod 2 = 0 := by omega
          rw [if_neg h, h0]
          exact at0
      have wp : 0 < (if x3.fmod 2 = 1 then (5 : Int) else 1) := by split <;> decide
      have fw := fm (x2 + 3 * (i : Int)) wp
      have w5 : (if x3.fmod 2 = 1 then (5 : Int) else 1) ≤ 5 := by split <;> decide
      have f8 := fm x3 (b := 8) (by decide)
      refine ⟨_, rfl, r_seq (x_set (d := .str (repS (ch (lt26 (x0 + 7 * (i : Int)))) (1 + ((x2 + 3 * (i : Int)).fmod (if x3.fmod 2 = 1 then 5 else 1)).toNat))) (x_op (x_op rfl (x_op (x_op (x_op rfl rfl (ix_l at0)) (x_op rfl rfl (mul_ii (by omega) (by omega))) rfl) rfl (mod_ii (by decide))) (ix_s abc_len (abc_at (fm _ (by decide)).1 (fm _ (by decide)).2)))
        (x_op rfl (x_op (x_op (x_op rfl rfl (ix_l at2)) (x_op rfl rfl (mul_ii (by omega) (by omega))) rfl) (x_op rfl (x_op (x_op rfl rfl (ix_l at3)) rfl (mod_ii (by decide))) (ix_l pw)) (mod_ii (by omega))) rfl) (mul_sk (by omega) (by omega) (by show 1 ≤ 1000; decide)))) ?_⟩
      have te : ∀ (k : Int) (s : Sl) (q : Sl), qV (mOp oEq (mOp oMod (mOp oIx (mW 0) (mC (.int 1))) (mC (.int 4))) (mC (.int k))) [.val (.list ((x0 :: x1 :: x2 :: x3 :: r).map .int)), .val (.int (m : Int)), .val (.str abc), .own (.list (((List.range i).map (nmW x0 x1 x2 x3)).map .str)), .val (.int (i : Int)), s, q] = some (decide (x1.fmod 4 = k)) := fun k s q => x_qv (x_op (x_op (x_op rfl rfl (ix_l at1)) rfl (mod_ii (by decide))) rfl (eq_ii _ _))
      refine r_mid (fun ρ => ρ = [.val (.list ((x0 :: x1 :: x2 :: x3 :: r).map .int)), .val (.int (m : Int)), .val (.str abc), .own (.list (((List.range i).map (nmW x0 x1 x2 x3)).map .str)), .val (.int (i : Int)), .val (.str (if x1.fmod 4 = 1 then ch (97 + i) ++ repS (ch (lt26 x2)) (x3.fmod 8).toNat else repS (ch (lt26 (x0 + 7 * (i : Int)))) (1 + ((x2 + 3 * (i : Int)).fmod (if x3.fmod 2 = 1 then 5 else 1)).toNat))), mv]) (r_if (te 1 _ _) (fun h => ?_) (fun h => ?_)) ?_
      · refine r_end (x_set (x_op (x_op rfl rfl (ix_s abch_len (abch_at (by omega)))) (x_op (x_op rfl (x_op (x_op rfl rfl (ix_l at2)) rfl (mod_ii (by decide))) (ix_s abc_len (abc_at (fm _ (by decide)).1 (fm _ (by decide)).2))) (x_op (x_op rfl rfl (ix_l at3)) rfl (mod_ii (by decide))) (mul_sk (n := (x3.fmod 8).toNat) (by omega) (by omega) (by show 1 ≤ 1000; decide))) (add_ss (by
          rw [show (⟨#[97 + (x2.fmod 26).toNat]⟩ : Str) = ch (lt26 x2) from rfl, rep_length]
          show 1 + _ ≤ 10000
          omega)))) ?_
        show _ = _
        rw [if_pos (of_decide_eq_true h)]
        rfl
      · refine r_end rfl ?_
        show _ = _
        rw [if_neg (of_decide_eq_false h)]
        rfl
      rintro ρ rfl
      refine r_mid (fun ρ => ρ = [.val (.list ((x0 :: x1 :: x2 :: x3 :: r).map .int)), .val (.int (m : Int)), .val (.str abc), .own (.list (((List.range i).map (nmW x0 x1 x2 x3)).map .str)), .val (.int (i : Int)), .val (.str (if x1.fmod 4 = 2 then repS (ch (lt26 x2)) (1 + i) else (if x1.fmod 4 = 1 then ch (97 + i) ++ repS (ch (lt26 x2)) (x3.fmod 8).toNat else repS (ch (lt26 (x0 + 7 * (i : Int)))) (1 + ((x2 + 3 * (i : Int)).fmod (if x3.fmod 2 = 1 then 5 else 1)).toNat)))), mv]) (r_if (te 2 _ _) (fun h => ?_) (fun h => ?_)) ?_
      · refine r_end (x_set (x_op (x_op rfl (x_op (x_op rfl rfl (ix_l at2)) rfl (mod_ii (by decide))) (ix_s abc_len (abc_at (fm _ (by decide)).1 (fm _ (by decide)).2))) (x_op rfl rfl rfl) (mul_sk (n := 1 + i) (by omega) (by omega) (by show 1 ≤ 1000; decide)))) ?_
        show _ = _
        rw [if_pos (of_decide_eq_true h)]
        rfl
      · refine r_end rfl ?_
        show _ = _
        rw [if_neg (of_decide_eq_false h)]
      rintro ρ rfl
      refine r_mid (fun ρ => ∃ mv', ρ = [.val (.list ((x0 :: x1 :: x2 :: x3 :: r).map .int)), .val (.int (m : Int)), .val (.str abc), .own (.list (((List.range i).map (nmW x0 x1 x2 x3)).map .str)), .val (.int (i : Int)), .val (.str (nmOf x0 x1 x2 x3 i)), mv']) (r_if (te 3 _ _) (fun h => ?_) (fun h => ?_)) ?_
      · refine r_seq (x_set (x_op rfl (x_op (x_op (x_op rfl rfl (ix_l at3)) (x_op rfl rfl (mul_ii (by omega) (by omega))) rfl) rfl (mod_ii (by decide))) (ix_s abc_len (abc_at (fm _ (by decide)).1 (fm _ (by decide)).2)))) (r_end (x_set (x_op (x_op (x_op rfl (x_op (x_op rfl rfl (ix_l at2)) rfl (mod_ii (by decide))) (ix_s abc_len (abc_at (fm _ (by decide)).1 (fm _ (by decide)).2))) rfl (add_ss (by show 1 + 1 ≤ 10000; decide)))
          (x_op rfl (x_op (x_op rfl rfl (ix_l at0)) rfl (mod_ii (by decide))) (ix_s abc_len (abc_at (fm _ (by decide)).1 (fm _ (by decide)).2))) (add_ss (by rw [app_length]; show 1 + 1 + 1 ≤ 10000; decide)))) ⟨.val (.str (ch (lt26 (x3 + 5 * (i : Int))))), ?_⟩)
        unfold nmOf
        rw [if_pos (of_decide_eq_true h)]
        rfl
      · refine r_end rfl ⟨mv, ?_⟩
        unfold nmOf
        rw [if_neg (of_decide_eq_false h)]
      rintro ρ ⟨mv', rfl⟩
      have e8 : qV (mOp oEq (mOp oMod (mOp oIx (mW 0) (mC (.int 1))) (mC (.int 8))) (mC (.int 6))) [.val (.list ((x0 :: x1 :: x2 :: x3 :: r).map .int)), .val (.int (m : Int)), .val (.str abc), .own (.list (((List.range i).map (nmW x0 x1 x2 x3)).map .str)), .val (.int (i : Int)), .val (.str (nmOf x0 x1 x2 x3 i)), mv'] = some (decide (x1.fmod 8 = 6)) := x_qv (x_op (x_op (x_op rfl rfl (ix_l at1)) rfl (mod_ii (by decide))) rfl (eq_ii _ _))
      have fa := fm ((i : Int) + x3) (b := 8) (by decide)
      refine r_mid (fun ρ => ρ = [.val (.list ((x0 :: x1 :: x2 :: x3 :: r).map .int)), .val (.int (m : Int)), .val (.str abc), .own (.list (((List.range i).map (nmW x0 x1 x2 x3)).map .str)), .val (.int (i : Int)), .val (.str (nmW x0 x1 x2 x3 i)), mv']) (r_if e8 (fun h => ?_) (fun h => ?_)) ?_
      · refine r_end (x_set (x_op rfl (x_op (x_op rfl (x_op rfl rfl (ix_l at3)) rfl) rfl (mod_ii (by decide))) (ix_l (wd8_at fa.1 fa.2)))) ?_
        show _ = _
        unfold nmW
        rw [if_pos (of_decide_eq_true h)]
        rfl
      · refine r_end rfl ?_
        show _ = _
        unfold nmW
        rw [if_neg (of_decide_eq_false h)]
      rintro ρ rfl
      refine r_end (x_app rfl rfl (by rw [List.length_map, List.length_map, List.length_range]; omega)) ⟨.val (.int (i : Int)), .val (.str (nmW x0 x1 x2 x3 i)), mv', ?_⟩
      rw [List.range_succ, List.map_append, List.map_append]
      rfl
    · rintro ρ ⟨kv, nv, mv, rfl⟩
      rw [rngD_length]
      have nd : ((List.range m).map (nmW x0 x1 x2 x3)).Nodup := by
        rw [List.nodup_iff_pairwise_ne, List.pairwise_map]
        refine List.Pairwise.imp_of_mem (fun {a b} ha hb hab => ?_) (List.nodup_iff_pairwise_ne.mp List.nodup_range)
        have ha := List.mem_range.mp ha
        have hb := List.mem_range.mp hb
        exact fun e => hab (nmW_inj x0 x1 x2 x3 (by omega) (by omega) e)
      refine r_ret (d := .list ((((List.range m).map (nmW x0 x1 x2 x3)).mergeSort leS).map .str)) (x_cb rfl ?_) ⟨_, rfl, ((List.range m).map (nmW x0 x1 x2 x3)).mergeSort leS, ⟨?_, rise_sort nd, fun x hx => ?_⟩, rfl⟩
      · rw [x_sorted (srt_strs (by rw [List.length_map, List.length_range]; omega)), sort_strs]
      · rw [List.length_mergeSort, List.length_map, List.length_range]
      · have := (List.mergeSort_perm _ leS).mem_iff.mp hx
        obtain ⟨i, hi, rfl⟩ := List.mem_map.mp this
        have := List.mem_range.mp hi
        exact nmW_ok x0 x1 x2 x3 (by omega)
  obtain ⟨d, h1, ns, h2, rfl⟩ := key
  exact ⟨ns, h2, h1⟩
theorem place_ok {x : Str} {xs : List Int} {n : Nat} {top : Int} {w : Nat} (hx : NumsOk n xs) (hn : 5 ≤ n) (t1 : 1 ≤ top) (t9 : top ≤ 9) (hw : w < 4) : ∃ d, PlaceOk top x d ∧ M_L_place [.str x, .list (xs.map .int), .int top, .int (w : Int)] = some d := by
  obtain ⟨hl, hb⟩ := hx
  match xs, hl, hb with
  | [], hl, _ => simp at hl; omega
  | [_], hl, _ => simp at hl; omega
  | [_, _], hl, _ => simp at hl; omega
  | [_, _, _], hl, _ => simp at hl; omega
  | [_, _, _, _], hl, _ => simp at hl; omega
  | x0 :: x1 :: x2 :: x3 :: x4 :: r, hl, hb =>
  have key : ∃ d, M_L_place [.str x, .list ((x0 :: x1 :: x2 :: x3 :: x4 :: r).map .int), .int top, .int (w : Int)] = some d ∧ PlaceOk top x d := by
    have p1 := pk4_in (p := 4) (q := 10) (r := 100) (s := 100) (lo := 1) (hi := 100) hw (by decide) (by decide) (by decide) (by decide)
    have p2 := pk4_in (p := 3) (q := 5) (r := 100) (s := 100) (lo := 1) (hi := 100) hw (by decide) (by decide) (by decide) (by decide)
    have p3 := pk4_in (p := 2) (q := 4) (r := 100) (s := 100) (lo := 1) (hi := 100) hw (by decide) (by decide) (by decide) (by decide)
    have p4 := pk4_in (p := 5) (q := 20) (r := 100) (s := 100) (lo := 1) (hi := 100) hw (by decide) (by decide) (by decide) (by decide)
    have p5 := pk4_in (p := 5) (q := 20) (r := 1000) (s := 1000) (lo := 1) (hi := 1000) hw (by decide) (by decide) (by decide) (by decide)
    have f0 := fm x0 (b := pk4 4 10 100 100 w) (by omega)
    have f1 := fm x1 (b := pk4 3 5 100 100 w) (by omega)
    have f2 := fm x2 (b := pk4 2 4 100 100 w) (by omega)
    have f3 := fm x3 (b := pk4 5 20 100 100 w) (by omega)
    have f4 := fm x3 (b := pk4 5 20 1000 1000 w) (by omega)
    have c0 : x2.fmod (pk4 2 4 100 100 w) * top ≤ 99 * 9 := Int.mul_le_mul (by omega) t9 (by omega) (by omega)
    have f83 := fm (x1.fdiv 8) (b := 3) (by decide)
    refine r_fn rfl (r_seq (x_set (x_op rfl rfl (ix_l (pk4_at hw)))) (r_seq (x_set (x_op (x_op rfl rfl (ix_l at0)) rfl (mod_ii (by omega)))) (r_seq (x_set (x_op (x_op rfl rfl (ix_l at1)) (x_op rfl rfl (ix_l (pk4_at hw))) (mod_ii (by omega))))
      (r_seq (x_set (x_op (x_op rfl rfl (ix_l at2)) (x_op rfl rfl (ix_l (pk4_at hw))) (mod_ii (by omega)))) (r_seq (x_set (x_op (x_op rfl rfl (mul_ii (by omega) (by omega))) (x_op (x_op rfl rfl (ix_l at3)) (x_op rfl rfl (ix_l (pk4_at hw))) (mod_ii (by omega))) rfl)) ?_)))))
    refine r_mid (fun ρ => ∃ a b : Int, ρ = [.val (.str x), .val (.list ((x0 :: x1 :: x2 :: x3 :: x4 :: r).map .int)), .val (.int top), .val (.int (w : Int)), .val (.int (pk4 4 10 100 100 w)), .val (.int a), .val (.int b), .val (.int (x2.fmod (pk4 2 4 100 100 w))), .val (.int (x2.fmod (pk4 2 4 100 100 w) * top + x3.fmod (pk4 5 20 100 100 w)))] ∧ (0 ≤ a ∧ a < 100) ∧ (0 ≤ b ∧ b < 100))
      (r_if (x_qv (x_op (x_op (x_op rfl rfl (ix_l at4)) rfl (mod_ii (by decide))) rfl (eq_ii _ _))) (fun h => r_end (x_par (x_cons rfl (x_cons (x_op (x_op (x_op rfl rfl (ix_l at1)) rfl rfl) rfl (mod_ii (by decide))) rfl))) ⟨0, (x1.fdiv 8).fmod 3, rfl, by decide, by omega⟩) (fun h => r_end rfl ⟨_, _, rfl, by omega, by omega⟩)) ?_
    rintro ρ ⟨a, b, rfl, ha, hb'⟩
    refine r_mid (fun ρ => ∃ e c : Int, ρ = [.val (.str x), .val (.list ((x0 :: x1 :: x2 :: x3 :: x4 :: r).map .int)), .val (.int top), .val (.int (w : Int)), .val (.int (pk4 4 10 100 100 w)), .val (.int a), .val (.int b), .val (.int e), .val (.int c)] ∧ (0 ≤ e ∧ e < 100) ∧ e * top ≤ c ∧ c ≤ 999)
      (r_if (x_qv (x_op (x_op (x_op rfl rfl (ix_l at4)) rfl (mod_ii (by decide))) rfl (eq_ii _ _))) (fun h => r_seq (x_set rfl) (r_end (x_set (x_op (x_op rfl rfl (ix_l at3)) (x_op rfl rfl (ix_l (pk4_at hw))) (mod_ii (by omega)))) ⟨_, _, rfl, by decide, by omega, by omega⟩)) (fun h => r_end rfl ⟨_, _, rfl, by omega, by omega, by omega⟩)) ?_
    rintro ρ ⟨e, c, rfl, he, hc1, hc2⟩
    exact r_ret rfl ⟨_, rfl, a, b, c, e, rfl, ha, hb', he, hc1, hc2⟩
  obtain ⟨d, h1, h2⟩ := key
  exact ⟨d, h2, h1⟩
/-- the names of a tie, or of its key -/
def tk : PyData → Str × Str
  | .tuple (.str a :: .str b :: _) => (a, b)
  | _ => ("", "")
def TieNd (ts : List PyData) : Prop := (ts.map tk).Nodup
/-- the ties rise by their names -/
def TieRs (ts : List PyData) : Prop := (ts.map tk).Pairwise fun e f => Q.ltV (Q.pkT e) (Q.pkT f) = true
def TieNR (ts : List PyData) : Prop := TieNd ts ∧ TieRs ts
theorem tk_tq : tk = Q.tq := by
  funext d
  unfold tk Q.tq
  rfl
theorem rs_keys {l : List PyData} (h : ∀ d ∈ l, ∃ a b : Str, d = .tuple [.str a, .str b]) (nd : (l.map tk).Nodup) : ((sortD l).map tk).Pairwise fun e f => Q.ltV (Q.pkT e) (Q.pkT f) = true := by
  rw [tk_tq] at nd ⊢
  exact Q.rs_sort (fun d hd => by
    obtain ⟨a, b, rfl⟩ := h d hd
    exact ⟨_, _, rfl, Q.toks2 (a, b)⟩) nd
theorem rs_ties {l : List PyData} (h : ∀ d ∈ l, ∃ (a b : Str) (s : Int), d = .tuple [.str a, .str b, .int s]) (nd : (l.map tk).Nodup) : ((sortD l).map tk).Pairwise fun e f => Q.ltV (Q.pkT e) (Q.pkT f) = true := by
  rw [tk_tq] at nd ⊢
  exact Q.rs_sort (fun d hd => by
    obtain ⟨a, b, s, rfl⟩ := h d hd
    exact ⟨_, _, rfl, Q.toksS (a, b) s⟩) nd
def TD (ns : List Str) (kvs : List (PyData × PyData)) : Prop := (kvs.map fun e => tk e.1).Nodup ∧ ∀ e ∈ kvs, ∃ (a b : Str) (s : Int), e = (.tuple [.str a, .str b], .int s) ∧ a ∈ ns ∧ b ∈ ns ∧ a ≠ b ∧ 1 ≤ s ∧ s ≤ 999
theorem TD.put {ns : List Str} {kvs : List (PyData × PyData)} (h : TD ns kvs) {a b : Str} {s : Int} (ha : a ∈ ns) (hb : b ∈ ns) (hn : a ≠ b) (h1 : 1 ≤ s) (h9 : s ≤ 999) : TD ns (putD kvs [.inr a, .inr b] (.int s)) := by
  refine ⟨?_, ?_⟩
  · have key : ∀ e ∈ kvs, (keyL e.1 = some [.inr a, .inr b] ↔ tk e.1 = (a, b)) := fun e he => by
      obtain ⟨a', b', s', rfl, _⟩ := h.2 e he
      show (some [Sum.inr a', Sum.inr b'] = some [Sum.inr a, Sum.inr b]) ↔ (a', b') = (a, b)
      simp
    unfold putD
    split
    · rw [List.map_map]
      refine (List.map_congr_left fun e he => ?_ : kvs.map _ = kvs.map fun e => tk e.1) ▸ h.1
      show tk (if keyL e.1 = some [.inr a, .inr b] then (e.1, PyData.int s) else e).1 = tk e.1
      split <;> rfl
    · rename_i hn
      rw [List.map_append]
      refine List.nodup_append.mpr ⟨h.1, List.nodup_cons.mpr ⟨List.not_mem_nil, List.Pairwise.nil⟩, fun x hx y hy z => hn ?_⟩
      obtain ⟨e, he, rfl⟩ := List.mem_map.mp hx
      have hy : y = (a, b) := List.mem_singleton.mp hy
      exact List.any_eq_true.mpr ⟨e, he, decide_eq_true ((key e he).mpr (by rw [z, hy]))⟩
  intro e he
  unfold putD at he
  split at he
  · obtain ⟨kv, hk, rfl⟩ := List.mem_map.mp he
    obtain ⟨a', b', s', rfl, k1, k2, k3, k4, k5⟩ := h.2 kv hk
    dsimp only
    split
    · exact ⟨a', b', s, rfl, k1, k2, k3, h1, h9⟩
    · exact ⟨a', b', s', rfl, k1, k2, k3, k4, k5⟩
  · rcases List.mem_append.mp he with h' | h'
    · exact h.2 e h'
    · rw [List.mem_singleton.mp h']
      exact ⟨a, b, s, rfl, ha, hb, hn, h1, h9⟩
theorem putD_len (kvs : List (PyData × PyData)) (k : List Key) (v : PyData) : (putD kvs k v).length ≤ kvs.length + 1 := by
  unfold putD
  split <;> simp
theorem TD.srt {ns : List Str} {kvs : List (PyData × PyData)} (h : TD ns kvs) (hl : kvs.length ≤ 1000) : Srt (kvs.map (·.1)) ∧ PySem.W.Sortable (kvs.map (·.1)) := by
  have key : ∀ d ∈ kvs.map (·.1), ∃ a b : Str, d = .tuple [.str a, .str b] := fun d hd => by
    obtain ⟨p, hp, rfl⟩ := List.mem_map.mp hd
    obtain ⟨a, b, s, rfl, _⟩ := h.2 p hp
    exact ⟨a, b, rfl⟩
  have ok : PySem.W.Sortable (kvs.map (·.1)) := .inl fun d hd => by
    obtain ⟨a, b, rfl⟩ := key d hd
    exact ⟨_, _, rfl⟩
  refine ⟨⟨fun d hd d' hd' => ?_, .inl ok, fun d hd => ?_, by rw [List.length_map]; omega⟩, ok⟩
  · obtain ⟨a, b, rfl⟩ := key d hd
    obtain ⟨a', b', rfl⟩ := key d' hd'
    rfl
  · obtain ⟨a, b, rfl⟩ := key d hd
    exact Nat.le_of_ble_eq_true rfl
theorem TD.get {ns : List Str} {kvs : List (PyData × PyData)} (h : TD ns kvs) {d : PyData} (hd : d ∈ kvs.map (·.1)) : ∃ (a b : Str) (s : Int), d = .tuple [.str a, .str b] ∧ getD kvs [.inr a, .inr b] = some (.int s) ∧ a ∈ ns ∧ b ∈ ns ∧ a ≠ b ∧ 1 ≤ s ∧ s ≤ 999 := by
  obtain ⟨p, hp, rfl⟩ := List.mem_map.mp hd
  obtain ⟨a, b, s, rfl, _⟩ := h.2 p hp
  cases hf : kvs.find? (fun e => decide (keyL e.1 = some [.inr a, .inr b])) with
  | none =>
    have := List.find?_eq_none.mp hf _ hp
    simp [keyL, keysK, keyK] at this
  | some q =>
    have hq := List.mem_of_find?_eq_some hf
    have hk : keyL q.1 = some [.inr a, .inr b] := by simpa using List.find?_some hf
    obtain ⟨a', b', s', e, h1, h2, h3, h4, h5⟩ := h.2 q hq
    rw [e] at hk
    simp [keyL, keysK, keyK] at hk
    obtain ⟨rfl, rfl⟩ := hk
    refine ⟨a', b', s', rfl, ?_, h1, h2, h3, h4, h5⟩
    unfold getD
    rw [hf, e] <;> rfl
theorem tieGo_ok {ns : List Str} {kvs : List (PyData × PyData)} (h : TD ns kvs) : ∀ (l : List PyData), (∀ d ∈ l, d ∈ kvs.map (·.1)) → ∃ ts, tieGo kvs l = some ts ∧ ts.length = l.length ∧ (∀ t ∈ ts, TieOk ns t) ∧ ts.map tk = l.map tk
  | [], _ => ⟨[], rfl, rfl, fun t ht => (List.not_mem_nil ht).elim, rfl⟩
  | d :: l, hd => by
    obtain ⟨ts, h1, h2, h3, h9⟩ := tieGo_ok h l fun x hx => hd x (List.mem_cons_of_mem _ hx)
    obtain ⟨a, b, s, rfl, hg, ha, hb, hn, h4, h5⟩ := h.get (hd d List.mem_cons_self)
    refine ⟨.tuple [.str a, .str b, .int s] :: ts, ?_, by simp [h2], fun t ht => ?_, by rw [List.map_cons, List.map_cons, h9]; rfl⟩
    · show (getD kvs [.inr a, .inr b]).bind _ = _
      rw [hg]
      show (tieGo kvs l).map _ = _
      rw [h1]
      rfl
    · rcases List.mem_cons.mp ht with rfl | ht
      · exact ⟨a, b, s, rfl, ha, hb, hn, h4, h5⟩
      · exact h3 t ht
theorem x_dput {j : Nat} {as : MA} {v : ME} {ρ : Ev} {dv : PyData} {kd : List PyData} {ks : List Key} {kvs : List (PyData × PyData)} (h1 : v ρ = some dv) (h2 : as ρ = some kd) (h3 : keysK kd = some ks) (h4 : ρ[j]? = some (.own (.dict kvs))) (h5 : kvs.length < 1000) (h6 : kd.length ≤ 1000) : mDput j as v ρ = some (.nx (ρ.set j (.own (.dict (putD kvs ks dv))))) := by
  unfold mDput
  rw [h1]
  show (as ρ).bind _ = _
  rw [h2]
  show (keysK kd).bind _ = _
  rw [h3, h4]
  show (if kvs.length < 1000 ∧ kd.length ≤ 1000 then _ else none) = _
  rw [if_pos ⟨h5, h6⟩]
theorem ties_ok {ns : List Str} {script : List Int} {at' many w : Nat} (nd : ns.Nodup) (n1 : 1 ≤ ns.length) (n8 : ns.length ≤ 8) (ha : at' ≤ 100) (hm : many ≤ 20) (hw : w < 4) :
    ∃ ts, ts.length ≤ 16 ∧ (∀ t ∈ ts, TieOk ns t) ∧ TieNR ts ∧ M_L_ties [.list (ns.map .str), .list (script.map .int), .int (at' : Int), .int (many : Int), .int (w : Int)] = some (.tuple ts) := by
  have L : ((ns.map PyData.str).length : Int) = (ns.length : Int) := by rw [List.length_map]
  have key : ∃ d, M_L_ties [.list (ns.map .str), .list (script.map .int), .int (at' : Int), .int (many : Int), .int (w : Int)] = some d ∧ ∃ ts, ts.length ≤ 16 ∧ (∀ t ∈ ts, TieOk ns t) ∧ TieNR ts ∧ d = .tuple ts := by
    refine r_fn rfl (r_seq (x_setO rfl) (r_for (ds := rngD many) (fun i ρ => ∃ kvs kv xv ov tv sv pv, ρ = [.val (.list (ns.map .str)), .val (.list (script.map .int)), .val (.int (at' : Int)), .val (.int (many : Int)), .val (.int (w : Int)), .own (.dict kvs), kv, xv, ov, tv, sv, pv] ∧ TD ns kvs ∧ kvs.length ≤ 2 * i) (x_rng rfl (by omega)) ⟨[], _, _, _, _, _, _, rfl, ⟨List.Pairwise.nil, fun e he => absurd he List.not_mem_nil⟩, Nat.zero_le _⟩ ?_ ?_))
    · rintro i d ρ hd ⟨kvs, kv, xv, ov, tv, sv, pv, rfl, td, hl⟩
      obtain ⟨hi, rfl⟩ := rng_at hd
      obtain ⟨n, hcell⟩ := cell_ok script (j := at' + i) (by omega)
      obtain ⟨xs, ⟨hlx, hbx⟩, hnums⟩ := nums_ok n (m := 5) (by decide)
      match xs, hlx, hnums with
      | [x0, x1, x2, x3, x4], _, hnums =>
      have f1 := fm x0 (b := (ns.length : Int)) (by omega)
      have mp : (0 : Int) < (if (ns.length : Int) - 1 > 1 then (ns.length : Int) - 1 else 1) := by split <;> omega
      refine ⟨_, rfl, r_seq (x_set (x_cb (x_cons (x_cb (x_cons rfl (x_cons (x_op rfl rfl rfl) rfl)) hcell) rfl) hnums)) (r_seq (x_set (d := .int (((x0.fmod (ns.length : Int)).toNat : Nat) : Int)) (x_op (x_op rfl rfl (ix_l at0)) rfl ?_)) ?_)⟩
      · show oMod (.int x0) (.int (((ns.map PyData.str).length : Nat) : Int)) = _
        rw [L, mod_ii (by omega)]
        congr 2
        omega
      generalize ha1 : (x0.fmod (ns.length : Int)).toNat = a1
      have a1n : a1 < ns.length := by omega
      have f2 := fm (((a1 : Nat) : Int) + 1 + x1.fmod (if (ns.length : Int) - 1 > 1 then (ns.length : Int) - 1 else 1)) (b := (ns.length : Int)) (by omega)
      refine r_seq (x_set (d := .int ((((((a1 : Nat) : Int) + 1 + x1.fmod (if (ns.length : Int) - 1 > 1 then (ns.length : Int) - 1 else 1)).fmod (ns.length : Int)).toNat : Nat) : Int)) (x_op (x_op (x_op rfl rfl rfl) (x_op (x_op rfl rfl (ix_l at1)) (d := .int (x1.fmod (if (ns.length : Int) - 1 > 1 then (ns.length : Int) - 1 else 1))) (y := .int (if (ns.length : Int) - 1 > 1 then (ns.length : Int) - 1 else 1)) ?_ (mod_ii (by omega))) rfl) rfl ?_)) ?_
      · show some (PyData.int (if (((ns.map PyData.str).length : Nat) : Int) - 1 > 1 then (((ns.map PyData.str).length : Nat) : Int) - 1 else 1)) = _
        rw [L]
      · show oMod _ (.int (((ns.map PyData.str).length : Nat) : Int)) = _
        rw [L, mod_ii (by omega)]
        congr 2
        omega
      generalize ha2 : ((((a1 : Nat) : Int) + 1 + x1.fmod (if (ns.length : Int) - 1 > 1 then (ns.length : Int) - 1 else 1)).fmod (ns.length : Int)).toNat = a2
      have a2n : a2 < ns.length := by omega
      have q4 := fm x2 (b := 4) (by decide)
      have q30 := fm x2 (b := 30) (by decide)
      have q999 := fm x2 (b := 999) (by decide)
      refine r_seq (x_set (x_op rfl rfl (ix_l (pk4_at hw)))) ?_
      have sb := pk4_in (p := 1 + x2.fmod 4) (q := 1 + x2.fmod 30) (r := 1 + x2.fmod 999) (s := 1 + x2.fmod 999) (lo := 1) (hi := 999) hw (by omega) (by omega) (by omega) (by omega)
      generalize hsz : pk4 (1 + x2.fmod 4) (1 + x2.fmod 30) (1 + x2.fmod 999) (1 + x2.fmod 999) w = sz1 at sb
      have q9 := fm x4 (b := 9) (by decide)
      refine r_if (x_qv (x_op rfl rfl (ne_ii _ _))) (fun h => ?_) (fun h => r_end rfl ⟨kvs, _, _, _, _, _, _, rfl, td, by omega⟩)
      have ne : a1 ≠ a2 := fun z => by
        rw [z] at h
        simp at h
      have nn : ns[a1] ≠ ns[a2] := fun z => ne ((List.getElem_inj nd).mp z)
      have tk2 := td.put (List.getElem_mem a1n) (List.getElem_mem a2n) nn sb.1 sb.2
      have l2 := putD_len kvs [.inr ns[a1], .inr ns[a2]] (.int sz1)
      refine r_seq (x_dput (kvs := kvs) (ks := [.inr ns[a1], .inr ns[a2]]) (dv := .int sz1) (kd := [.str ns[a1], .str ns[a2]]) rfl (x_cons (x_op rfl rfl (ix_l (str_at a1n))) (x_cons (x_op rfl rfl (ix_l (str_at a2n))) rfl)) rfl rfl (by omega) (by show 2 ≤ 1000; decide)) ?_
      have tst : ∀ c : Bool, ∃ c', qAnd (qV (mOp oEq (mOp oMod (mOp oIx (mW 7) (mC (.int 3))) (mC (.int 3))) (mC (.int 1)))) (qV (mOp oLt (mLenD 5) (mC (.int 16)))) [.val (.list (ns.map .str)), .val (.list (script.map .int)), .val (.int (at' : Int)), .val (.int (many : Int)), .val (.int (w : Int)), .own (.dict (putD kvs [.inr ns[a1], .inr ns[a2]] (.int sz1))), .val (.int (i : Int)), .val (.list ([x0, x1, x2, x3, x4].map .int)), .val (.int (a1 : Int)), .val (.int (a2 : Int)), .val (.int sz1), pv] = some c' := fun _ => by
        have e1 : qV (mOp oEq (mOp oMod (mOp oIx (mW 7) (mC (.int 3))) (mC (.int 3))) (mC (.int 1))) [.val (.list (ns.map .str)), .val (.list (script.map .int)), .val (.int (at' : Int)), .val (.int (many : Int)), .val (.int (w : Int)), .own (.dict (putD kvs [.inr ns[a1], .inr ns[a2]] (.int sz1))), .val (.int (i : Int)), .val (.list ([x0, x1, x2, x3, x4].map .int)), .val (.int (a1 : Int)), .val (.int (a2 : Int)), .val (.int sz1), pv] = some (decide (x3.fmod 3 = 1)) := x_qv (x_op (x_op (x_op rfl rfl (ix_l at3)) rfl (mod_ii (by decide))) rfl (eq_ii _ _))
        by_cases z : x3.fmod 3 = 1
        · rw [decide_eq_true z] at e1
          exact ⟨_, x_andT e1 (x_qv (x_op rfl rfl rfl))⟩
        · rw [decide_eq_false z] at e1
          exact ⟨_, x_andF e1⟩
      obtain ⟨c', hc'⟩ := tst true
      refine r_if hc' (fun h => ?_) (fun h => r_end rfl ⟨_, _, _, _, _, _, _, rfl, tk2, by omega⟩)
      have l3 := putD_len (putD kvs [.inr ns[a1], .inr ns[a2]] (.int sz1)) [.inr ns[a2], .inr ns[a1]] (.int (1 + x4.fmod 9))
      exact r_end (x_dput (kvs := putD kvs [.inr ns[a1], .inr ns[a2]] (.int sz1)) (ks := [.inr ns[a2], .inr ns[a1]]) (dv := .int (1 + x4.fmod 9)) (kd := [.str ns[a2], .str ns[a1]]) (x_op rfl (x_op (x_op rfl rfl (ix_l at4)) rfl (mod_ii (by decide))) rfl) (x_cons (x_op rfl rfl (ix_l (str_at a2n))) (x_cons (x_op rfl rfl (ix_l (str_at a1n))) rfl)) rfl rfl (by omega) (by show 2 ≤ 1000; decide)) ⟨_, _, _, _, _, _, _, rfl, tk2.put (List.getElem_mem a2n) (List.getElem_mem a1n) (Ne.symm nn) (by omega) (by omega), by omega⟩
    · rintro ρ ⟨kvs, kv, xv, ov, tv, sv, pv, rfl, td, hl⟩
      rw [rngD_length] at hl
      obtain ⟨S, ok⟩ := td.srt (by omega)
      obtain ⟨ts, h1, h2, h3, h9⟩ := tieGo_ok td (sortD (kvs.map (·.1))) fun d hd => (sortD_perm _).mem_iff.mp hd
      have et : mTies 11 5 [.val (.list (ns.map .str)), .val (.list (script.map .int)), .val (.int (at' : Int)), .val (.int (many : Int)), .val (.int (w : Int)), .own (.dict kvs), kv, xv, ov, tv, sv, pv] = some (.list ts) := by
        refine x_ties rfl (by show 11 < 12; decide) S ok (fun e he ks hk => ?_) h1
        obtain ⟨a, b, s, rfl, _⟩ := td.2 e he
        have : some [Sum.inr a, Sum.inr b] = some ks := hk
        cases this
        exact ⟨by simp, by simp⟩
      refine r_ret (d := .tuple (LB.cutD ts none (some 16))) (x_cb (x_cons (d := .list (LB.cutD ts none (some 16))) ?_ rfl) rfl) ⟨_, rfl, _, ?_, fun t ht => h3 t (cut_mem ht), ?_, rfl⟩
      · unfold mSl
        rw [et]
        rfl
      · unfold LB.cutD
        rw [List.length_take]
        have : HT.sIx ts.length ts.length (some 16) ≤ 16 := by
          show HT.sIx _ _ (some ((16 : Nat) : Int)) ≤ 16
          rw [HT.sIx_nat]
          exact Nat.min_le_left _ _
        omega
      · have kn : ((kvs.map (·.1)).map tk).Nodup := by
          rw [List.map_map]
          exact td.1
        have nd9 : (ts.map tk).Nodup := by
          rw [h9]
          exact ((sortD_perm _).map tk).nodup_iff.mpr kn
        have rs9 : (ts.map tk).Pairwise fun e f => Q.ltV (Q.pkT e) (Q.pkT f) = true := by
          rw [h9]
          refine rs_keys (fun d hd => ?_) kn
          obtain ⟨e, he, rfl⟩ := List.mem_map.mp hd
          obtain ⟨a, b, s, rfl, _⟩ := td.2 e he
          exact ⟨a, b, rfl⟩
        have sb : ((LB.cutD ts none (some 16)).map tk).Sublist (ts.map tk) := by
          refine List.Sublist.map tk ?_
          unfold LB.cutD
          first
            | exact (List.drop_sublist _ _).trans (List.take_sublist _ _)
            | exact (List.take_sublist _ _).trans (List.drop_sublist _ _)
        exact ⟨List.Nodup.sublist sb nd9, List.Pairwise.sublist sb rs9⟩
  obtain ⟨d, h1, ts, h2, h3, h9, rfl⟩ := key
  exact ⟨ts, h2, h3, h9, h1⟩
theorem twelve {xs : List Int} (h : xs.length = 12) : ∃ x0 x1 x2 x3 x4 x5 x6 x7 x8 x9 x10 x11, xs = [x0, x1, x2, x3, x4, x5, x6, x7, x8, x9, x10, x11] := by
  match xs, h with
  | [x0, x1, x2, x3, x4, x5, x6, x7, x8, x9, x10, x11], _ => exact ⟨x0, x1, x2, x3, x4, x5, x6, x7, x8, x9, x10, x11, rfl⟩
theorem each_snoc {α β : Type} {R : α → β → Prop} : ∀ {as : List α} {bs : List β} {a : α} {b : β}, PySem.W.EachIs R as bs → R a b → PySem.W.EachIs R (as ++ [a]) (bs ++ [b])
  | _, _, _, _, .nil, h => .cons h .nil
  | _, _, _, _, .cons h t, h' => .cons h (each_snoc t h')
theorem web_ok {script : List Int} {at' most : Nat} (ha : at' ≤ 50) (m1 : 1 ≤ most) (m8 : most ≤ 8) : ∃ top ns ps ts, WebOk top ns ps ts ∧ TieNR ts ∧ M_L_web [.list (script.map .int), .int (at' : Int), .int (most : Int)] = some (webD top ps ts) := by
  have key : ∃ d, M_L_web [.list (script.map .int), .int (at' : Int), .int (most : Int)] = some d ∧ ∃ top ns ps ts, WebOk top ns ps ts ∧ TieNR ts ∧ d = webD top ps ts := by
    obtain ⟨n, hcell⟩ := cell_ok script (j := at') (by omega)
    obtain ⟨xs, hx, hnums⟩ := nums_ok n (m := 12) (by decide)
    have hx' := hx
    obtain ⟨x0, x1, x2, x3, x4, x5, x6, x7, x8, x9, x10, x11, rfl⟩ := twelve hx.1
    have f4 := fm x4 (b := 9) (by decide)
    have f5 := fm x5 (b := (most : Int)) (by omega)
    have f6 := fm x6 (b := 5) (by decide)
    have ew : ∃ w : Nat, w < 4 ∧ atI [PyData.int 0, PyData.int 1, PyData.int 0, PyData.int 1, PyData.int 2] (x6.fmod 5) = some (.int (w : Int)) := by
      rcases (show x6.fmod 5 = 0 ∨ x6.fmod 5 = 1 ∨ x6.fmod 5 = 2 ∨ x6.fmod 5 = 3 ∨ x6.fmod 5 = 4 by omega) with e | e | e | e | e
      · exact ⟨0, by decide, by rw [e]; exact at0⟩
      · exact ⟨1, by decide, by rw [e]; exact at1⟩
      · exact ⟨0, by decide, by rw [e]; exact at2⟩
      · exact ⟨1, by decide, by rw [e]; exact at3⟩
      · exact ⟨2, by decide, by rw [e]; exact at4⟩
    obtain ⟨w, hw, hwa⟩ := ew
    obtain ⟨m, hm⟩ : ∃ m : Nat, 1 + x5.fmod (most : Int) = (m : Int) := ⟨(1 + x5.fmod (most : Int)).toNat, by omega⟩
    have hm1 : 1 ≤ m := by omega
    have hm8 : m ≤ 8 := by omega
    obtain ⟨ns, hns, hnames⟩ := names_ok hx' (by decide) hm1 hm8
    have nd : ns.Nodup := List.nodup_iff_pairwise_ne.mpr (hns.rise.imp fun h e => by
      rw [e] at h
      exact absurd h (List.lt_irrefl _))
    refine r_fn rfl (r_seq (x_set (x_cb (x_cons (x_cb rfl hcell) rfl) hnums)) (r_seq (x_set (x_op rfl (x_op (x_op rfl rfl (ix_l at4)) rfl (mod_ii (by decide))) rfl)) (r_seq (x_set (d := .int (m : Int)) (x_op rfl (x_op (x_op rfl rfl (ix_l at5)) rfl (mod_ii (by omega))) (by rw [← hm]; rfl)))
      (r_seq (x_set (x_op rfl (x_op (x_op rfl rfl (ix_l at6)) rfl (mod_ii (by decide))) (ix_l hwa))) (r_seq (x_set (x_cb rfl hnames)) (r_seq (x_setO rfl) (r_for (ds := rngD m) (fun i ρ => ∃ ps kv, ρ = [.val (.list (script.map .int)), .val (.int (at' : Int)), .val (.int (most : Int)), .val (.list ([x0, x1, x2, x3, x4, x5, x6, x7, x8, x9, x10, x11].map .int)), .val (.int (1 + x4.fmod 9)), .val (.int (m : Int)), .val (.int (w : Int)), .val (.list (ns.map .str)), .own (.list ps), kv, .no] ∧ PySem.W.EachIs (PlaceOk (1 + x4.fmod 9)) (ns.take i) ps ∧ i ≤ ns.length) (x_rng rfl (by omega)) ⟨[], _, rfl, by rw [List.take_zero]; exact .nil, Nat.zero_le _⟩ ?_ ?_)))))))
    · rintro i d ρ hd ⟨ps, kv, rfl, he, hi'⟩
      obtain ⟨hi, rfl⟩ := rng_at hd
      have hin : i < ns.length := by rw [hns.len]; exact hi
      obtain ⟨n', hcell'⟩ := cell_ok script (j := at' + 1 + i) (by omega)
      obtain ⟨ys, hy, hnums'⟩ := nums_ok n' (m := 5) (by decide)
      obtain ⟨dp, hdp, hpl⟩ := place_ok (x := ns[i]) (top := 1 + x4.fmod 9) (w := w) hy (by decide) (by omega) (by omega) hw
      have lp : ps.length = i := by
        have := he.length
        rw [List.length_take] at this
        omega
      refine ⟨_, rfl, r_end (x_app (x_cb (x_cons (x_op rfl rfl (ix_l (str_at hin))) (x_cons (x_cb (x_cons (x_cb (x_cons rfl (x_cons (x_op (x_op rfl rfl rfl) rfl rfl) rfl)) hcell') rfl) hnums') rfl)) hpl) rfl (by omega)) ⟨ps ++ [dp], _, rfl, ?_, hin⟩⟩
      rw [List.take_succ_eq_append_getElem hin]
      exact each_snoc he hdp
    · rintro ρ ⟨ps, kv, rfl, he, hi'⟩
      rw [rngD_length, ← hns.len, List.take_length] at he
      have f7 := fm x7 (b := 2 * (m : Int) + 1) (by omega)
      obtain ⟨mt, hmt⟩ : ∃ k : Nat, x7.fmod (2 * (m : Int) + 1) = (k : Int) := ⟨(x7.fmod (2 * (m : Int) + 1)).toNat, by omega⟩
      have hl8 : ns.length = m := hns.len
      obtain ⟨ts, t1, t2, t9, hties⟩ := ties_ok (script := script) (at' := at' + 1 + m) (many := mt) (w := w) nd (by omega) (by omega) (by omega) (by omega) hw
      refine r_seq (x_set (x_cb (x_cons rfl (x_cons rfl (x_cons (x_op (x_op rfl rfl rfl) rfl rfl) (x_cons (d := .int (mt : Int)) (x_op (x_op rfl rfl (ix_l at7)) (x_op (x_op rfl rfl (mul_ii (by omega) (by omega))) rfl rfl) (by rw [← hmt]; exact mod_ii (by omega))) (x_cons rfl rfl))))) hties)) (r_ret (d := webD (1 + x4.fmod 9) ps ts) rfl ⟨_, rfl, _, ns, ps, ts, ⟨by omega, by omega, by omega, by omega, hns.rise, hns.each, he, t1, t2⟩, t9, rfl⟩)
  obtain ⟨d, h1, top, ns, ps, ts, h2, h9, rfl⟩ := key
  exact ⟨top, ns, ps, ts, h2, h9, h1⟩
theorem eight : ∀ {xs : List Int}, 8 ≤ xs.length → ∃ x0 x1 x2 x3 x4 x5 x6 x7 r, xs = x0 :: x1 :: x2 :: x3 :: x4 :: x5 :: x6 :: x7 :: r
  | x0 :: x1 :: x2 :: x3 :: x4 :: x5 :: x6 :: x7 :: r, _ => ⟨x0, x1, x2, x3, x4, x5, x6, x7, r, rfl⟩
/-- a chain of places -/
theorem chain_ok {xs : List Int} {n m : Nat} (hx : NumsOk n xs) (hn : 8 ≤ n) (m1 : 1 ≤ m) (m8 : m ≤ 8) : ∃ top ns ps ts, WebOk top ns ps ts ∧ TieNR ts ∧ M_L_chain [.list (xs.map .int), .int (m : Int)] = some (webD top ps ts) := by
  obtain ⟨ns, hns, hnames⟩ := names_ok hx (by omega) m1 m8
  have nd : ns.Nodup := List.nodup_iff_pairwise_ne.mpr (hns.rise.imp fun h e => by
    rw [e] at h
    exact absurd h (List.lt_irrefl _))
  have hln := hns.len
  obtain ⟨hl, hb⟩ := hx
  obtain ⟨x0, x1, x2, x3, x4, x5, x6, x7, r, rfl⟩ := eight (xs := xs) (by omega)
  have f4 := fm x4 (b := 9) (by decide)
  have f5 := fm x5 (b := 9) (by decide)
  have key : ∃ d, M_L_chain [.list ((x0 :: x1 :: x2 :: x3 :: x4 :: x5 :: x6 :: x7 :: r).map .int), .int (m : Int)] = some d ∧ ∃ top ns ps ts, WebOk top ns ps ts ∧ TieNR ts ∧ d = webD top ps ts := by
    refine r_fn rfl (r_seq (x_set (x_cb rfl hnames)) (r_seq (x_set (x_op rfl (x_op (x_op rfl rfl (ix_l at4)) rfl (mod_ii (by decide))) rfl)) (r_seq (x_setO rfl) (r_for (ds := rngD m) (fun i ρ => ∃ ps kv bv, ρ = [.val (.list ((x0 :: x1 :: x2 :: x3 :: x4 :: x5 :: x6 :: x7 :: r).map .int)), .val (.int (m : Int)), .val (.list (ns.map .str)), .val (.int (1 + x4.fmod 9)), .own (.list ps), kv, .no, .no, bv] ∧ PySem.W.EachIs (PlaceOk (1 + x4.fmod 9)) (ns.take i) ps ∧ i ≤ ns.length) (x_rng rfl (by omega)) ⟨[], _, _, rfl, by rw [List.take_zero]; exact .nil, Nat.zero_le _⟩ ?_ ?_))))
    · rintro i d ρ hd ⟨ps, kv, bv, rfl, he, hi'⟩
      obtain ⟨hi, rfl⟩ := rng_at hd
      have hin : i < ns.length := by omega
      have lp : ps.length = i := by
        have := he.length
        rw [List.length_take] at this
        omega
      have e2 : ∀ (u v : Int) (t : Bool), atI [PyData.int u, PyData.int v] (if t = true then 1 else 0) = some (.int (if t = true then v else u)) := fun u v t => by
        cases t
        · exact at0
        · exact at1
      refine ⟨_, rfl, r_seq (x_set (x_op (x_op rfl (x_op (x_op rfl rfl (ix_l at5)) rfl (mod_ii (by decide))) rfl) (x_cb (x_cons (x_op rfl rfl (eq_ii _ _)) rfl) rfl) (mul_ii (by omega) (by split <;> decide)))) (r_end (x_app (x_tup (x_cons (x_op rfl rfl (ix_l (str_at hin))) (x_cons rfl (x_cons rfl (x_cons (x_op (x_lst (x_cons rfl (x_cons (x_op rfl rfl (mul_ii (by omega) (by decide))) rfl)) (by show 2 ≤ 100000; decide)) (x_cb (x_cons (x_op rfl rfl (eq_ii _ _)) rfl) rfl) (ix_l (e2 _ _ _))) rfl)))) (by show 5 ≤ 100000; decide)) rfl (by omega)) ⟨ps ++ [_], .val (.int (i : Int)), _, rfl, ?_, hin⟩)⟩
      rw [List.take_succ_eq_append_getElem hin]
      refine each_snoc he ⟨_, _, _, _, rfl, by decide, ?_, by decide, ?_, ?_⟩
      · split <;> omega
      · split <;> omega
      · split <;> omega
    · rintro ρ ⟨ps, kv, bv, rfl, he, hi'⟩
      rw [rngD_length, ← hln, List.take_length] at he
      refine r_seq (x_set (d := .list (rngD m)) ?_) (r_mid (fun ρ => ∃ ord : List Nat, ord.Nodup ∧ (∀ k ∈ ord, k < m) ∧ ord.length = m ∧ (∀ k (h : k + 1 < ord.length), ord[k] < m ∧ ord[k + 1] < m ∧ ord[k] ≠ ord[k + 1]) ∧ ρ = [.val (.list ((x0 :: x1 :: x2 :: x3 :: x4 :: x5 :: x6 :: x7 :: r).map .int)), .val (.int (m : Int)), .val (.list (ns.map .str)), .val (.int (1 + x4.fmod 9)), .own (.list ps), kv, .val (.list (ord.map fun (k : Nat) => PyData.int (k : Int))), .no, bv]) (r_if (x_qv (x_op (x_op (x_op rfl rfl (ix_l at6)) rfl (mod_ii (by decide))) rfl (eq_ii _ _))) (fun h => r_end (x_set rfl) ⟨(List.range m).reverse, (List.reverse_perm _).nodup_iff.mpr List.nodup_range, fun k hk => List.mem_range.mp (List.mem_reverse.mp hk), by simp, fun k h => ?_, ?_⟩) (fun h => r_end rfl ⟨List.range m, List.nodup_range, fun k hk => List.mem_range.mp hk, by simp, fun k h => ?_, rfl⟩)) ?_)
      · show oLrg (.int (m : Int)) = _
        show (if 0 ≤ (m : Int) ∧ (m : Int) ≤ 100000 then some (PyData.list (rngD (m : Int).toNat)) else none) = _
        rw [if_pos ⟨by omega, by omega⟩, Int.toNat_natCast]
      · simp at h ⊢
        omega
      · unfold rngD
        rw [List.map_reverse]
        rfl
      · simp at h ⊢
        omega
      rintro ρ ⟨ord, ond, olt, ol, oo, rfl⟩
      refine r_seq (x_setO rfl) (r_for (ds := rngD (m - 1)) (fun i ρ => ∃ ts kv', ρ = [.val (.list ((x0 :: x1 :: x2 :: x3 :: x4 :: x5 :: x6 :: x7 :: r).map .int)), .val (.int (m : Int)), .val (.list (ns.map .str)), .val (.int (1 + x4.fmod 9)), .own (.list ps), kv', .val (.list (ord.map fun (k : Nat) => PyData.int (k : Int))), .own (.list ts), bv] ∧ ts.length = i ∧ (∀ t ∈ ts, TieOk ns t) ∧ ts.map (fun t => some (tk t).1) = (ord.take i).map fun k => ns[k]?) (x_rng (n := m - 1) ?_ (by omega)) ⟨[], _, rfl, rfl, fun t ht => (List.not_mem_nil ht).elim, rfl⟩ ?_ ?_)
      · show some [PyData.int ((m : Int) - 1)] = some [.int ((m - 1 : Nat) : Int)]
        rw [show (m : Int) - 1 = ((m - 1 : Nat) : Int) by omega]
      · rintro i d ρ hd ⟨ts, kv', rfl, lt, ht, htk⟩
        obtain ⟨hi, rfl⟩ := rng_at hd
        obtain ⟨o1, o2, o3⟩ := oo i (by omega)
        have g1 : atI (ord.map fun (k : Nat) => PyData.int (k : Int)) (i : Int) = some (.int ((ord[i]'(by omega) : Nat) : Int)) := atI_nat (by rw [List.getElem?_map, List.getElem?_eq_getElem (by omega)]; rfl)
        have g2 : atI (ord.map fun (k : Nat) => PyData.int (k : Int)) ((i : Int) + 1) = some (.int ((ord[i + 1]'(by omega) : Nat) : Int)) := by
          rw [show (i : Int) + 1 = ((i + 1 : Nat) : Int) by omega]
          exact atI_nat (by rw [List.getElem?_map, List.getElem?_eq_getElem (by omega)]; rfl)
        have f7 := fm (x7 + 3 * (i : Int)) (b := 20) (by decide)
        have b7 := hb x7 (by simp)
        refine ⟨_, rfl, r_end (x_app (x_tup (x_cons (x_op rfl (x_op rfl rfl (ix_l g1)) (ix_l (str_at (by omega)))) (x_cons (x_op rfl (x_op rfl (x_op rfl rfl rfl) (ix_l g2)) (ix_l (str_at (by omega)))) (x_cons (x_op rfl (x_op (x_op (x_op rfl rfl (ix_l at7)) (x_op rfl rfl (mul_ii (by decide) (by omega))) rfl) rfl (mod_ii (by decide))) rfl) rfl))) (by show 3 ≤ 100000; decide)) rfl (by omega)) ⟨ts ++ [_], .val (.int (i : Int)), rfl, by rw [List.length_append, lt]; rfl, fun t h => ?_, ?_⟩⟩
        rotate_left
        · rw [List.map_append, htk, List.take_succ_eq_append_getElem (show i < ord.length by omega), List.map_append]
          refine congrArg (fun z => List.map (fun k => ns[k]?) (ord.take i) ++ z) ?_
          show [some ns[ord[i]]] = [ns[ord[i]]?]
          rw [List.getElem?_eq_getElem (by omega)]
        rcases List.mem_append.mp h with h | h
        · exact ht t h
        · rw [List.mem_singleton.mp h]
          exact ⟨_, _, _, rfl, List.getElem_mem _, List.getElem_mem _, fun z => o3 ((List.getElem_inj nd).mp z), by omega, by omega⟩
      · rintro ρ ⟨ts, kv', rfl, lt, ht, htk⟩
        rw [rngD_length] at lt htk
        have tnd : TieNd ts := by
          have h1 : (ts.map fun t => some (tk t).1).Nodup := by
            rw [htk]
            refine List.nodup_iff_pairwise_ne.mpr (List.pairwise_map.mpr ((List.nodup_iff_pairwise_ne.mp ((List.take_sublist _ _).nodup ond)).imp_of_mem fun {a b} ha hb hab z => ?_))
            have la := olt a (List.mem_of_mem_take ha)
            have lb := olt b (List.mem_of_mem_take hb)
            rw [List.getElem?_eq_getElem (by omega), List.getElem?_eq_getElem (by omega)] at z
            exact hab ((List.getElem_inj nd).mp (Option.some.inj z))
          have h2 : (ts.map fun t => some (tk t).1) = (ts.map tk).map fun z => some z.1 := by
            rw [List.map_map]
            rfl
          rw [h2] at h1
          exact List.nodup_iff_pairwise_ne.mpr ((List.pairwise_map.mp (List.nodup_iff_pairwise_ne.mp h1)).imp fun h z => h (by rw [z]))
        have snd : TieNR (sortD ts) := ⟨((sortD_perm _).map tk).nodup_iff.mpr tnd, rs_ties (fun d hd => by
          obtain ⟨a, b, s, e, _⟩ := ht d hd
          exact ⟨a, b, s, e⟩) tnd⟩
        have S : Srt ts := by
          have key : ∀ d ∈ ts, ∃ (a b : Str) (s : Int), d = .tuple [.str a, .str b, .int s] := fun d hd => by
            obtain ⟨a, b, s, rfl, _⟩ := ht d hd
            exact ⟨a, b, s, rfl⟩
          refine ⟨fun d hd d' hd' => ?_, .inl (.inl fun d hd => ?_), fun d hd => ?_, by omega⟩
          · obtain ⟨a, b, s, rfl⟩ := key d hd
            obtain ⟨a', b', s', rfl⟩ := key d' hd'
            rfl
          · obtain ⟨a, b, s, rfl⟩ := key d hd
            exact ⟨_, _, rfl⟩
          · obtain ⟨a, b, s, rfl⟩ := key d hd
            exact Nat.le_of_ble_eq_true rfl
        refine r_ret (d := webD (1 + x4.fmod 9) ps (sortD ts)) (x_tup (x_cons rfl (x_cons rfl (x_cons (x_cb (x_cons (x_cb rfl (x_sorted S)) rfl) rfl) rfl))) (by show 3 ≤ 100000; decide)) ⟨_, rfl, _, ns, ps, sortD ts, ⟨by omega, by omega, by omega, by omega, hns.rise, hns.each, he, ?_, fun t h => ht t ((sortD_perm _).mem_iff.mp h)⟩, snd, rfl⟩
        rw [(sortD_perm _).length_eq]
        omega
  obtain ⟨d, h1, top, ns, ps, ts, h2, h9, rfl⟩ := key
  exact ⟨top, ns, ps, ts, h2, h9, h1⟩
end K04
namespace K04
open PySem PySem.Spec PyProof.Rows L2 LB PM
section
variable {top : Int} {ns : List Str} {ps ts : List PyData}
theorem few_ps (W : WebOk top ns ps ts) : ps.length ≤ 8 := by
  rw [← W.pl.length]
  exact W.n8
theorem map_true {f : PyData → PyData} (l : List PyData) : (l.filter fun _ => true).map f = l.map f := by rw [List.filter_eq_self.mpr fun _ _ => rfl]
theorem names_of_ok (W : WebOk top ns ps ts) : M_names_of [webD top ps ts] = some (.tuple (ns.map .str)) := by
  refine r_eq rfl (r_ret (d := .tuple (ns.map .str)) (x_tg (ds := ps) rfl (by have := few_ps W; omega) ?_) rfl)
  rw [x_lcGo (fun _ => true) nmD ps fun d hd => ?_, map_true, nmD_all W.pl]
  obtain ⟨x, a, b, c, e, hx, rfl, _⟩ := nmD_at W.pl d hd
  exact ⟨_, rfl, rfl, fun _ => rfl⟩
def nmS : PyData → Str
  | .tuple (.str x :: _) => x
  | _ => ""
theorem nmS_all (W : WebOk top ns ps ts) : ps.map nmS = ns := by
  have h := nmD_all W.pl
  have : ∀ {ns : List Str} {ps : List PyData}, PySem.W.EachIs (PlaceOk top) ns ps → ps.map nmS = ns := by
    intro ns ps h
    induction h with
    | nil => rfl
    | cons r _ ih =>
      obtain ⟨a, b, c, e, rfl, _⟩ := r
      rw [List.map_cons, ih]
      rfl
  exact this W.pl
theorem pl_all (W : WebOk top ns ps ts) {d : PyData} (hd : d ∈ ps) : ∃ (x : Str) (a b c e : Int), x ∈ ns ∧ d = .tuple [.str x, .int a, .int b, .int c, .int e] ∧ (0 ≤ a ∧ a < 100) ∧ (0 ≤ b ∧ b < 100) ∧ (0 ≤ e ∧ e < 100) ∧ e * top ≤ c ∧ c ≤ 999 := nmD_at W.pl d hd
theorem name_lay {x : Str} (h : NameOk x) : PyData.strOk x = true := by
  have h := h.2.2
  unfold PyData.strOk
  rw [← Array.all_toList, List.all_eq_true]
  intro c hc
  have := h c hc
  exact decide_eq_true (by omega)
theorem row_any (d : PyData) (n : Nat) : M_is_row [d, .int (n : Int)] = some (.bool (match d with | .tuple l => decide (l.length = n) | _ => false)) := by
  cases d with
  | tuple xs =>
    refine r_eq rfl (r_ret (x_mandT rfl (x_op (x_cb rfl rfl) rfl ((eq_ii _ _).trans ?_))) rfl)
    exact congrArg (fun z => some (PyData.bool z)) (decide_eq_decide.mpr (by
      show ((xs.length : Nat) : Int) = (n : Int) ↔ _
      omega))
  | _ => exact r_eq rfl (r_ret (d := .bool false) (x_mandF rfl) rfl)
end
end K04
namespace K04
open PySem PySem.Spec PyProof.Rows L2 LB PM
section
variable {top : Int} {ns : List Str} {ps ts : List PyData}
/-! ### the drawn web is one by the program -/
theorem tie_isS {a b : Str} {s : Int} (ha : NameOk a) (hb : NameOk b) (ma : a ∈ ns) (mb : b ∈ ns) (ne : a ≠ b) (s1 : 1 ≤ s) (s9 : s ≤ 999) : M_is_tie [.tuple (ns.map .str), .tuple [.str a, .str b, .int s]] = some (.bool true) := by
  have short : ∀ {x : Str}, NameOk x → M_is_name [.str x] = some (.bool true) := fun {x} hx => by
    have hn := Q.name_is (d := .str x) fun z e => by
      injection e with e
      subst e
      have := hx.2.1
      omega
    rwa [(Q.nmB_iff x).mpr hx] at hn
  have sh : ∀ {x : Str}, NameOk x → SeqAt.shaped (.str x) = true := fun {x} hx => by
    have hs : PyData.strOk x = true := name_lay hx
    have l : PyData.canLay0 (.str x) = true := by
      unfold PyData.canLay0
      exact hs
    unfold SeqAt.shaped
    rw [l]
    rfl
  have hr := Q.rowN_is 3 (.tuple [.str a, .str b, .int s])
  have hn : oNe (.str a) (.str b) = some (.bool true) := by
    rw [Q.ne_str (sh ha) (sh hb), decide_eq_false ne]
    rfl
  have hw : M_is_between [.int s, .int 1, .int 999] = some (.bool true) := by
    rw [Q.between_is 1 999 (.int s)]
    show some (PyData.bool (decide (1 ≤ s) && decide (s ≤ 999))) = _
    rw [decide_eq_true s1, decide_eq_true s9]
    rfl
  exact r_eq rfl (r_seq (x_ifF (x_not (c := true) (x_qv (x_cb rfl hr))) rfl) (r_seq (Q.x_asg rfl rfl) (r_seq (x_ifF (x_not (c := true) (x_andT (x_qv (x_cb rfl (short ha))) (x_andT (x_qv (x_cb rfl (short hb))) (x_qv (x_cb rfl hw))))) rfl) (r_ret (x_mandT (x_op rfl rfl ((in_strs rfl).trans (by rw [decide_eq_true ma]))) (x_mandT (x_op rfl rfl ((in_strs rfl).trans (by rw [decide_eq_true mb]))) (x_op rfl rfl hn))) rfl))))
theorem place_true (t1 : 1 ≤ top) (t9 : top ≤ 9) {x : Str} (hx : NameOk x) {a b c e : Int} (ha : 0 ≤ a ∧ a < 100) (hb : 0 ≤ b ∧ b < 100) (he : 0 ≤ e ∧ e < 100) (h1 : e * top ≤ c) (h2 : c ≤ 999) : M_is_place [.int top, .tuple [.str x, .int a, .int b, .int c, .int e]] = some (.bool true) := by
  rw [Q.place_is t1 t9 hx]
  have bw : ∀ {lo hi i : Int}, lo ≤ i → i ≤ hi → Q.bwB lo hi (.int i) = true := fun {lo hi i} h1 h2 => by
    show (decide (lo ≤ i) && decide (i ≤ hi)) = true
    rw [decide_eq_true h1, decide_eq_true h2]
    rfl
  have hc : Q.ctB top (.int e) (.int c) = true := bw h1 h2
  unfold Q.plB
  rw [bw (i := a) (lo := 0) (hi := 99) ha.1 (by omega), bw (i := b) (lo := 0) (hi := 99) hb.1 (by omega), bw (i := e) (lo := 0) (hi := 99) he.1 (by omega), hc]
  rfl
theorem places_true (W : WebOk top ns ps ts) : M_are_places [.int top, .tuple ps] = some (.bool true) := by
  have l8 := few_ps W
  have ln : ps.length = ns.length := by rw [← nmS_all W, List.length_map]
  have n1 := W.n1
  have e0 : qV (mIs "tuple" (mW 1)) [.val (.int top), .val (.tuple ps), .no] = some true := x_qv rfl
  have e1 : qV (mCh oLe oLe (mC (.int 1)) (mCb oLen (aCons (mW 1) aNil)) (mC (.int 8))) [.val (.int top), .val (.tuple ps), .no] = some true := by
    refine (x_qv (Q.ch3 (x_cb (x_cons rfl rfl) rfl))).trans ?_
    rw [decide_eq_true (show (1 : Int) ≤ ((ps.length : Nat) : Int) by omega), decide_eq_true (show ((ps.length : Nat) : Int) ≤ 8 by omega)]
    rfl
  have e2 : mAg (iS (mW 1)) [2] (gN 2) qT (mCb M_is_place (aCons (mV 0) (aCons (mV 2) aNil))) [.val (.int top), .val (.tuple ps), .no] = some (.bool (ps.all fun _ => true)) := x_ag (ds := ps) rfl (x_agGo (fun _ => true) _ fun d hd => by
    obtain ⟨x, a, b, c, e, hx, rfl, ha, hb, he, h1, h2⟩ := pl_all W hd
    exact ⟨_, rfl, rfl, x_cb rfl (place_true W.t1 W.t9 (W.each x hx) ha hb he h1 h2)⟩)
  rw [List.all_eq_true.mpr fun _ _ => rfl] at e2
  have e3 : mLc (iS (mW 1)) [2] (gN 2) qT (mOp oIx (mW 2) (mC (.int 0))) [.val (.int top), .val (.tuple ps), .no] = some (.list (ns.map .str)) := by
    refine x_lc (ds := ps) rfl (by omega) ?_
    have := Q.lc_fst (i := 2) (e := mOp oIx (mW 2) (mC (.int 0))) (ρ := wipeM [.val (.int top), .val (.tuple ps), .no] [2]) (fun d : PyData => d) nmS ps fun d hd => by
      obtain ⟨x, a, b, c, e, hx, rfl, _⟩ := pl_all W hd
      exact ⟨_, rfl, x_op rfl rfl (ix_t at0)⟩
    rw [List.map_id', nmS_all W] at this
    exact this
  have hr := Q.rising_strs ns
  rw [(Q.rB_iff ns).mpr W.rise] at hr
  exact r_eq rfl (r_seq (x_ifF (x_not (c := true) (x_andT e0 e1)) rfl) (r_ret (x_mandT e2 (x_cb (x_cons e3 rfl) hr)) rfl))
theorem ties_true (W : WebOk top ns ps ts) (rs : TieRs ts) : M_are_ties [.tuple (ns.map .str), .tuple ts] = some (.bool true) := by
  have t16 := W.tl
  have e0 : qV (mIs "tuple" (mW 1)) [.val (.tuple (ns.map .str)), .val (.tuple ts), .no] = some true := x_qv rfl
  have e1 : qV (mOp oLe (mCb oLen (aCons (mW 1) aNil)) (mC (.int 16))) [.val (.tuple (ns.map .str)), .val (.tuple ts), .no] = some true := by
    refine x_qv (x_op (x_cb (x_cons rfl rfl) rfl) rfl ?_)
    show some (PyData.bool (decide (((ts.length : Nat) : Int) ≤ 16))) = _
    rw [decide_eq_true (by omega)]
  have e2 : mAg (iS (mW 1)) [2] (gN 2) qT (mCb M_is_tie (aCons (mV 0) (aCons (mV 2) aNil))) [.val (.tuple (ns.map .str)), .val (.tuple ts), .no] = some (.bool (ts.all fun _ => true)) := x_ag (ds := ts) rfl (x_agGo (fun _ => true) _ fun d hd => by
    obtain ⟨a, b, s, rfl, ha, hb, hn, h1, h2⟩ := W.ti d hd
    exact ⟨_, rfl, rfl, x_cb rfl (tie_isS (W.each a ha) (W.each b hb) ha hb hn h1 h2)⟩)
  rw [List.all_eq_true.mpr fun _ _ => rfl] at e2
  have e3 : mLc (iS (mW 1)) [2] (gN 2) qT (mSl (mW 2) pNo (pSo (mC (.int 2)))) [.val (.tuple (ns.map .str)), .val (.tuple ts), .no] = some (.list ((ts.map tk).map Q.pkT)) := by
    refine x_lc (ds := ts) rfl (by omega) ?_
    have := x_lcGo (gm := gN 2) (mt := qT) (me := mSl (mW 2) pNo (pSo (mC (.int 2)))) (ρ := wipeM [.val (.tuple (ns.map .str)), .val (.tuple ts), .no] [2]) (fun _ => true) (fun d => Q.pkT (tk d)) ts fun d hd => by
      obtain ⟨a, b, s, rfl, _⟩ := W.ti d hd
      exact ⟨_, rfl, rfl, fun _ => rfl⟩
    rw [this, map_true, List.map_map]
    rfl
  have hc : Q.Cmp ((ts.map tk).map Q.pkT) := Q.cmp_pairs fun d hd => by
    obtain ⟨e, _, rfl⟩ := List.mem_map.mp hd
    rfl
  have hr := Q.rising_list hc
  rw [Q.rB_pairs (List.pairwise_map.mpr rs)] at hr
  exact r_eq rfl (r_seq (x_ifF (x_not (c := true) (x_andT e0 e1)) rfl) (r_ret (x_mandT e2 (x_cb (x_cons e3 rfl) hr)) rfl))
theorem web_true (W : WebOk top ns ps ts) (rs : TieRs ts) : M_is_web [webD top ps ts] = some (.bool true) := by
  have hr := row_any (webD top ps ts) 3
  have ht : M_is_top [.int top] = some (.bool true) := by
    refine r_eq rfl (r_ret (x_cb (x_cons rfl (x_cons rfl (x_cons rfl rfl))) (Q.between_is 1 9 (.int top))) ?_)
    show some (PyData.bool (decide (1 ≤ top) && decide (top ≤ 9))) = _
    rw [decide_eq_true W.t1, decide_eq_true W.t9]
    rfl
  exact r_eq rfl (r_seq (x_ifF (x_not (c := true) (x_qv (x_cb rfl hr))) rfl) (r_seq (ρ' := [.val (webD top ps ts), .val (.int top), .val (.tuple ps), .val (.tuple ts)]) rfl (r_ret (x_mandT (x_cb rfl ht) (x_mandT (x_cb rfl (places_true W)) (x_cb (x_cons (x_cb rfl (names_of_ok W)) (x_cons rfl rfl)) (ties_true W rs)))) rfl)))
end
end K04
namespace K04
open PySem PySem.Spec PyProof.Rows L2 LB PM
/-! ### split of what was joined -/
theorem app_inj {c : Nat} : ∀ {a b X Y : List Nat}, c ∉ a → c ∉ b → a ++ c :: X = b ++ c :: Y → a = b ∧ X = Y
  | [], [], _, _, _, _, e => ⟨rfl, (List.cons.inj e).2⟩
  | [], y :: b, _, _, _, hb, e => absurd (List.mem_cons.mpr (.inl (List.cons.inj e).1)) hb
  | x :: a, [], _, _, ha, _, e => absurd (List.mem_cons.mpr (.inl (List.cons.inj e).1.symm)) ha
  | x :: a, y :: b, _, _, ha, hb, e => by
    obtain ⟨e1, e2⟩ := List.cons.inj e
    obtain ⟨h1, h2⟩ := app_inj (fun z => ha (List.mem_cons_of_mem _ z)) (fun z => hb (List.mem_cons_of_mem _ z)) e2
    exact ⟨by rw [e1, h1], h2⟩
theorem str_ext {x y : Str} (h : x.cps.toList = y.cps.toList) : x = y := Str.ext' (Array.toList_inj.mp h)
theorem join_cons {c : Nat} {x y : Str} {r : List Str} : (Str.join ⟨#[c]⟩ (x :: y :: r)).cps.toList = x.cps.toList ++ c :: (Str.join ⟨#[c]⟩ (y :: r)).cps.toList := by
  show (x ++ ⟨#[c]⟩ ++ Str.join ⟨#[c]⟩ (y :: r)).cps.toList = _
  rw [PySem.W.KT.app_list, PySem.W.KT.app_list, List.append_assoc]
  rfl
theorem join_inj {c : Nat} : ∀ {as bs : List Str}, as ≠ [] → bs ≠ [] → (∀ p ∈ as, c ∉ p.cps.toList) → (∀ p ∈ bs, c ∉ p.cps.toList) → (Str.join ⟨#[c]⟩ as).cps.toList = (Str.join ⟨#[c]⟩ bs).cps.toList → as = bs
  | [], _, h, _, _, _, _ => absurd rfl h
  | _ :: _, [], _, h, _, _, _ => absurd rfl h
  | [a], [b], _, _, _, _, e => by
    have e : a.cps.toList = b.cps.toList := e
    rw [str_ext e]
  | [a], b :: b' :: r, _, _, ha, _, e => by
    rw [join_cons] at e
    have e : a.cps.toList = b.cps.toList ++ c :: (Str.join ⟨#[c]⟩ (b' :: r)).cps.toList := e
    exact absurd (by rw [e]; simp) (ha a List.mem_cons_self)
  | a :: a' :: r, [b], _, _, _, hb, e => by
    rw [join_cons] at e
    have e : a.cps.toList ++ c :: (Str.join ⟨#[c]⟩ (a' :: r)).cps.toList = b.cps.toList := e
    exact absurd (by rw [← e]; simp) (hb b List.mem_cons_self)
  | a :: a' :: r, b :: b' :: r', _, _, ha, hb, e => by
    rw [join_cons, join_cons] at e
    obtain ⟨h1, h2⟩ := app_inj (ha a List.mem_cons_self) (hb b List.mem_cons_self) e
    have := join_inj (as := a' :: r) (bs := b' :: r') (fun z => nomatch z) (fun z => nomatch z) (fun p hp => ha p (List.mem_cons_of_mem _ hp)) (fun p hp => hb p (List.mem_cons_of_mem _ hp)) h2
    rw [str_ext h1, this]
theorem split_join {c : Nat} {ps : List Str} (h0 : ps ≠ []) (h : ∀ p ∈ ps, c ∉ p.cps.toList) : Txt.split (Txt.join ⟨#[c]⟩ ps) ⟨#[c]⟩ = ps := by
  have ej : Txt.join ⟨#[c]⟩ ps = Str.join ⟨#[c]⟩ ps := StrLaws.glued_eq_join _ _
  refine join_inj (c := c) (fun z => ?_) h0 (StrLaws.split_free _ c) h ?_
  · have := split_pos (Txt.join ⟨#[c]⟩ ps) ⟨#[c]⟩
    rw [z] at this
    exact absurd this (by decide)
  · rw [StrLaws.join_split, ej]
/-! ### a number's text -/
def numT (n : Nat) : Str := toString (n : Int)
def numB (n : Nat) : Bool := decide (1 ≤ (numT n).length) && decide ((numT n).length ≤ 3) && (numT n).cps.toList.all (fun c => decide (48 ≤ c) && decide (c ≤ 57)) && (!(decide ((numT n).cps.toList.head? = some 48)) || decide (n = 0)) && decide (PySem.intText? (numT n) = some (n : Int))
theorem num_all : ∀ n : Nat, n < 1000 → numB n = true := by decide +kernel
end K04
namespace K04
open PySem PySem.Spec PyProof.Rows L2 LB PM
/-! ### a row's text -/
theorem x_fsC {p : ME} {ps : List ME} {acc z : Str} {ρ : Ev} {d : PyData} {o : Option PyData} (h : p ρ = some d) (hz : fmtD d = some z) (hl : (acc ++ z).length ≤ 10000) (h2 : fsGo ps (acc ++ z) ρ = o) : fsGo (p :: ps) acc ρ = o := by
  show ((p ρ).bind fun d => (fmtD d).bind fun z => if (acc ++ z).length ≤ 10000 then fsGo ps (acc ++ z) ρ else none) = o
  rw [h]
  show ((fmtD d).bind fun z => if (acc ++ z).length ≤ 10000 then fsGo ps (acc ++ z) ρ else none) = o
  rw [hz]
  show (if (acc ++ z).length ≤ 10000 then fsGo ps (acc ++ z) ρ else none) = o
  rw [if_pos hl]
  exact h2
def tS (i : Int) : Str := toString i
theorem num_facts {n : Nat} (h : n < 1000) : 1 ≤ (numT n).length ∧ (numT n).length ≤ 3 ∧ (∀ c ∈ (numT n).cps.toList, 48 ≤ c ∧ c ≤ 57) ∧ ((numT n).cps.toList.head? = some 48 → n = 0) ∧ PySem.intText? (numT n) = some (n : Int) := by
  have k := num_all n h
  unfold numB at k
  simp only [Bool.and_eq_true, Bool.or_eq_true, Bool.not_eq_true', decide_eq_true_eq, decide_eq_false_iff_not, List.all_eq_true] at k
  obtain ⟨⟨⟨⟨h1, h2⟩, h3⟩, h4⟩, h5⟩ := k
  exact ⟨h1, h2, h3, fun e => h4.resolve_left (fun z => z e), h5⟩
theorem ts_len {i : Int} (h0 : 0 ≤ i) (h : i ≤ 999) : (tS i).length ≤ 3 := by
  obtain ⟨n, rfl⟩ : ∃ n : Nat, i = (n : Int) := ⟨i.toNat, by omega⟩
  exact (num_facts (n := n) (by omega)).2.1
theorem log_i {i : Int} (h0 : 0 ≤ i) (h : i ≤ 999) : i.natAbs.log2 < 1920 := by
  obtain ⟨n, rfl⟩ : ∃ n : Nat, i = (n : Int) := ⟨i.toNat, by omega⟩
  rw [Int.natAbs_natCast n]
  by_cases z : n = 0
  · subst z
    decide
  · have := (Nat.log2_lt (k := 10) z).mpr (by omega)
    omega
theorem fmt_i {i : Int} (h0 : 0 ≤ i) (h : i ≤ 999) : fmtD (.int i) = some (tS i) := if_pos (log_i h0 h)
theorem str_i {i : Int} (h0 : 0 ≤ i) (h : i ≤ 999) : oStrI [.int i] = some (.str (tS i)) := if_pos (log_i h0 h)
theorem fmt_s {z : Str} (h : z.length ≤ 10000) : fmtD (.str z) = some z := if_pos h
def rowP : PyData → Str
  | .tuple [.str x, .int a, .int b, .int c, .int e] => x ++ " " ++ tS a ++ "+" ++ tS b ++ " " ++ tS c ++ "-" ++ tS e
  | _ => ""
def rowT : PyData → Str
  | .tuple [.str a, .str b, .int s] => a ++ " > " ++ b ++ " " ++ tS s
  | _ => ""
def rowsW (top : Int) (ps ts : List PyData) : List Str := ("top " ++ tS top) :: (ps.map rowP ++ ts.map rowT)
theorem la (x y : Str) : (x ++ y).length = x.length + y.length := PySem.Str.length_append ..
theorem l_sp : (" " : Str).length = 1 := by decide +kernel
theorem l_pl : ("+" : Str).length = 1 := by decide +kernel
theorem l_mi : ("-" : Str).length = 1 := by decide +kernel
theorem l_to : (" > " : Str).length = 3 := by decide +kernel
theorem l_tp : ("top " : Str).length = 4 := by decide +kernel
end K04
namespace K04
open PySem PySem.Spec PyProof.Rows L2 LB PM PySem.W
section
variable {top : Int} {ns : List Str} {ps ts : List PyData}
theorem x_asg {e : ME} {gm : MG} {ρ ρ' : Ev} {d : PyData} (h : e ρ = some d) (h2 : gm d ρ = some ρ') : mAsg e gm ρ = some (.nx ρ') := by
  unfold mAsg
  rw [h]
  show (gm d ρ).map _ = _
  rw [h2]
  rfl
theorem each_mem {α β : Type} {R : α → β → Prop} : ∀ {as : List α} {bs : List β}, EachIs R as bs → ∀ {b : β}, b ∈ bs → ∃ a ∈ as, R a b
  | _, _, .nil, b, h => absurd h List.not_mem_nil
  | a :: as, b' :: bs, .cons h t, b, hb => by
    rcases List.mem_cons.mp hb with rfl | hb
    · exact ⟨a, List.mem_cons_self, h⟩
    · obtain ⟨x, hx, r⟩ := each_mem t hb
      exact ⟨x, List.mem_cons_of_mem _ hx, r⟩
theorem empty_app (d : Str) : Str.empty ++ d = d := PySem.W.KT.empty_app d
theorem fs_place {x : Str} {a b c e : Int} {ρ : Ev} (hx : x.length ≤ 8) (ha : 0 ≤ a ∧ a ≤ 999) (hb : 0 ≤ b ∧ b ≤ 999) (hc : 0 ≤ c ∧ c ≤ 999) (he : 0 ≤ e ∧ e ≤ 999) (h5 : mV 5 ρ = some (.str x)) (h6 : mV 6 ρ = some (.int a)) (h7 : mV 7 ρ = some (.int b)) (h8 : mV 8 ρ = some (.int c)) (h9 : mV 9 ρ = some (.int e)) :
    mFs [(mV 5), (mC (.str " ")), (mV 6), (mC (.str "+")), (mV 7), (mC (.str " ")), (mV 8), (mC (.str "-")), (mV 9)] ρ = some (.str (rowP (.tuple [.str x, .int a, .int b, .int c, .int e]))) := by
  have la1 := ts_len ha.1 ha.2
  have lb1 := ts_len hb.1 hb.2
  have lc1 := ts_len hc.1 hc.2
  have le1 := ts_len he.1 he.2
  have s1 := l_sp
  have s2 := l_pl
  have s3 := l_mi
  unfold mFs
  refine x_fsC h5 (fmt_s (by omega)) (by rw [empty_app]; omega) ?_
  rw [empty_app]
  exact x_fsC rfl (fmt_s (by omega)) (by rw [la]; omega) (x_fsC h6 (fmt_i ha.1 ha.2) (by rw [la, la]; omega) (x_fsC rfl (fmt_s (by omega)) (by rw [la, la, la]; omega) (x_fsC h7 (fmt_i hb.1 hb.2) (by rw [la, la, la, la]; omega) (x_fsC rfl (fmt_s (by omega)) (by rw [la, la, la, la, la]; omega) (x_fsC h8 (fmt_i hc.1 hc.2) (by rw [la, la, la, la, la, la]; omega) (x_fsC rfl (fmt_s (by omega)) (by rw [la, la, la, la, la, la, la]; omega) (x_fsC h9 (fmt_i he.1 he.2) (by rw [la, la, la, la, la, la, la, la]; omega) rfl)))))))
theorem fs_tie {x y : Str} {s : Int} {ρ : Ev} (hx : x.length ≤ 8) (hy : y.length ≤ 8) (hs : 0 ≤ s ∧ s ≤ 999) (h1 : mV 10 ρ = some (.str x)) (h2 : mV 11 ρ = some (.str y)) (h3 : mV 12 ρ = some (.int s)) :
    mFs [(mV 10), (mC (.str " > ")), (mV 11), (mC (.str " ")), (mV 12)] ρ = some (.str (rowT (.tuple [.str x, .str y, .int s]))) := by
  have ls := ts_len hs.1 hs.2
  have s1 := l_sp
  have s2 := l_to
  unfold mFs
  refine x_fsC h1 (fmt_s (by omega)) (by rw [empty_app]; omega) ?_
  rw [empty_app]
  exact x_fsC rfl (fmt_s (by omega)) (by rw [la]; omega) (x_fsC h2 (fmt_s (by omega)) (by rw [la, la]; omega) (x_fsC rfl (fmt_s (by omega)) (by rw [la, la, la]; omega) (x_fsC h3 (fmt_i hs.1 hs.2) (by rw [la, la, la, la]; omega) rfl)))
theorem place_facts (W : WebOk top ns ps ts) {d : PyData} (hd : d ∈ ps) : ∃ (x : Str) (a b c e : Int), d = .tuple [.str x, .int a, .int b, .int c, .int e] ∧ x ∈ ns ∧ NameOk x ∧ (0 ≤ a ∧ a ≤ 999) ∧ (0 ≤ b ∧ b ≤ 999) ∧ (0 ≤ c ∧ c ≤ 999) ∧ (0 ≤ e ∧ e ≤ 999) := by
  obtain ⟨x, hx, a, b, c, e, rfl, ha, hb, he, hc1, hc2⟩ := each_mem W.pl hd
  have t1 := W.t1
  have : 0 ≤ e * top := Int.mul_nonneg he.1 (by omega)
  exact ⟨x, a, b, c, e, rfl, hx, W.each x hx, by omega, by omega, by omega, by omega⟩
theorem rowP_len (W : WebOk top ns ps ts) {d : PyData} (hd : d ∈ ps) : (rowP d).length ≤ 30 := by
  obtain ⟨x, a, b, c, e, rfl, _, hx, ha, hb, hc, he⟩ := place_facts W hd
  have la1 := ts_len ha.1 ha.2
  have lb1 := ts_len hb.1 hb.2
  have lc1 := ts_len hc.1 hc.2
  have le1 := ts_len he.1 he.2
  have s1 := l_sp
  have s2 := l_pl
  have s3 := l_mi
  have := hx.2.1
  show (x ++ " " ++ tS a ++ "+" ++ tS b ++ " " ++ tS c ++ "-" ++ tS e).length ≤ 30
  rw [la, la, la, la, la, la, la, la]
  omega
end
end K04
namespace K04
open PySem PySem.Spec PyProof.Rows L2 LB PM PySem.W
section
variable {top : Int} {ns : List Str} {ps ts : List PyData}
/-! ### a web's text -/
theorem tie_facts (W : WebOk top ns ps ts) {d : PyData} (hd : d ∈ ts) : ∃ (x y : Str) (s : Int), d = .tuple [.str x, .str y, .int s] ∧ x ∈ ns ∧ y ∈ ns ∧ NameOk x ∧ NameOk y ∧ (0 ≤ s ∧ s ≤ 999) := by
  obtain ⟨x, y, s, rfl, hx, hy, _, h1, h2⟩ := W.ti d hd
  exact ⟨x, y, s, rfl, hx, hy, W.each x hx, W.each y hy, by omega, h2⟩
theorem rowT_len (W : WebOk top ns ps ts) {d : PyData} (hd : d ∈ ts) : (rowT d).length ≤ 30 := by
  obtain ⟨x, y, s, rfl, _, _, hx, hy, hs⟩ := tie_facts W hd
  have ls := ts_len hs.1 hs.2
  have s1 := l_sp
  have s2 := l_to
  have := hx.2.1
  have := hy.2.1
  show (x ++ " > " ++ y ++ " " ++ tS s).length ≤ 30
  rw [la, la, la, la]
  omega
theorem head_len (W : WebOk top ns ps ts) : ("top " ++ tS top).length ≤ 30 := by
  have t1 := W.t1
  have t9 := W.t9
  have ls := ts_len (i := top) (by omega) (by omega)
  have s1 := l_tp
  rw [la]
  omega
theorem rows_len (W : WebOk top ns ps ts) : ∀ z ∈ rowsW top ps ts, z.length ≤ 30 := fun z hz => by
  rcases List.mem_cons.mp hz with rfl | hz
  · exact head_len W
  · rcases List.mem_append.mp hz with hz | hz
    · obtain ⟨d, hd, rfl⟩ := List.mem_map.mp hz
      exact rowP_len W hd
    · obtain ⟨d, hd, rfl⟩ := List.mem_map.mp hz
      exact rowT_len W hd
theorem rows_few (W : WebOk top ns ps ts) : (rowsW top ps ts).length ≤ 25 := by
  have := few_ps W
  have := W.tl
  show (ps.map rowP ++ ts.map rowT).length + 1 ≤ 25
  rw [List.length_append, List.length_map, List.length_map]
  omega
theorem sum_le {k : Nat} : ∀ {l : List Str}, (∀ z ∈ l, z.length ≤ k) → (l.map (·.length)).sum ≤ l.length * k
  | [], _ => Nat.zero_le _
  | z :: l, h => by
    have h1 := h z List.mem_cons_self
    have h2 := sum_le (l := l) fun y hy => h y (List.mem_cons_of_mem _ hy)
    show z.length + (l.map (·.length)).sum ≤ (l.length + 1) * k
    rw [Nat.succ_mul]
    omega
theorem l_nl : ("\n" : Str).length = 1 := by decide +kernel
theorem join_rows (W : WebOk top ns ps ts) : oJoin (.str "\n") (.list ((rowsW top ps ts).map .str)) = some (.str (Txt.join "\n" (rowsW top ps ts))) := by
  have h1 := sum_le (rows_len W)
  have h2 := rows_few W
  have h3 := l_nl
  unfold oJoin
  show (txD ((rowsW top ps ts).map .str)).bind _ = _
  rw [txD_strs]
  show (if _ then _ else _) = _
  rw [if_pos (by rw [h3]; omega)]
theorem map_snoc (A : Str) (P : List Str) (z : Str) : (A :: (P ++ [z])).map PyData.str = (A :: P).map PyData.str ++ [.str z] := by
  rw [List.map_cons, List.map_append]
  rfl
theorem show_ok (W : WebOk top ns ps ts) : M_show_web [webD top ps ts] = some (.str (Txt.join "\n" (rowsW top ps ts))) := by
  have t1 := W.t1
  have t9 := W.t9
  have p8 := few_ps W
  have t16 := W.tl
  have s1 := l_tp
  have lt := ts_len (i := top) (by omega) (by omega)
  have hd : ∀ {ρ : Ev}, mV 2 ρ = some (.int top) → mFs [(mC (.str "top ")), (mV 2)] ρ = some (.str ("top " ++ tS top)) := fun h => by
    unfold mFs
    refine x_fsC rfl (fmt_s (by omega)) (by rw [empty_app]; omega) ?_
    rw [empty_app]
    exact x_fsC h (fmt_i (by omega) (by omega)) (by rw [la]; omega) rfl
  refine r_eq rfl (r_seq (x_asg rfl rfl) (r_seq (x_setO (x_lst (x_cons (hd rfl) rfl) (Nat.le_of_ble_eq_true rfl))) (r_seq (x_augL (es := (ps.map rowP).map .str) (x_lc (ds := ps) rfl (by omega) ?_) rfl (by rw [List.length_map, List.length_map]; show 1 + _ ≤ _; omega)) (r_seq (x_augL (es := (ts.map rowT).map .str) (x_lc (ds := ts) rfl (by omega) ?_) rfl (by rw [List.length_append, List.length_map, List.length_map, List.length_map, List.length_map]; show 1 + _ + _ ≤ _; omega)) (r_ret (x_op rfl rfl ((congrArg (fun l => oJoin (.str "\n") (.list l)) ?_).trans (join_rows W))) rfl)))))
  · rw [x_lcGo (fun _ => true) (fun d => .str (rowP d)) _ fun d hd => ?_]
    · rw [List.filter_eq_self.mpr fun _ _ => rfl, List.map_map]
      rfl
    · obtain ⟨x, a, b, c, e, rfl, _, hx, ha, hb, hc, he⟩ := place_facts W hd
      exact ⟨_, rfl, rfl, fun _ => fs_place hx.2.1 ha hb hc he rfl rfl rfl rfl rfl⟩
  · rw [x_lcGo (fun _ => true) (fun d => .str (rowT d)) _ fun d hd => ?_]
    · rw [List.filter_eq_self.mpr fun _ _ => rfl, List.map_map]
      rfl
    · obtain ⟨x, y, s, rfl, _, _, hx, hy, hs⟩ := tie_facts W hd
      exact ⟨_, rfl, rfl, fun _ => fs_tie hx.2.1 hy.2.1 hs rfl rfl rfl⟩
  · show [PyData.str ("top " ++ tS top)] ++ (ps.map rowP).map .str ++ (ts.map rowT).map .str = (("top " ++ tS top) :: (ps.map rowP ++ ts.map rowT)).map PyData.str
    rw [List.map_cons, List.map_append]
    rfl
theorem web_rows_ok (W : WebOk top ns ps ts) : M_L_web_rows [webD top ps ts] = some (.list ((rowsW top ps ts).map .str)) := by
  have t1 := W.t1
  have t9 := W.t9
  have p8 := few_ps W
  have t16 := W.tl
  have s1 := l_sp
  have s2 := l_pl
  have s3 := l_mi
  have s4 := l_to
  have s5 := l_tp
  have lt := ts_len (i := top) (by omega) (by omega)
  refine r_eq rfl (r_seq (x_setO (x_lst (x_cons (x_op rfl (x_cb (x_cons (x_op rfl rfl (ix_t at0)) rfl) (str_i (by omega) (by omega))) (add_ss (by omega))) rfl) (Nat.le_of_ble_eq_true rfl))) (r_for (ds := ps) (fun i ρ => ∃ a2 a3 a4 a5 a6 a7 a8 a9, ρ = [.val (webD top ps ts), .own (.list ((("top " ++ tS top) :: (ps.take i).map rowP).map .str)), a2, a3, a4, a5, a6, a7, a8, a9] ∧ i ≤ ps.length) (by show ((mOp oIx (mW 0) (mC (.int 1))) _).bind seqD = _; rw [x_op rfl rfl (ix_t at1)]; rfl) ⟨_, _, _, _, _, _, _, _, rfl, Nat.zero_le _⟩ ?_ ?_))
  · rintro i d ρ hd ⟨a2, a3, a4, a5, a6, a7, a8, a9, rfl, hi⟩
    have hm := List.mem_of_getElem? hd
    obtain ⟨li, ei⟩ := List.getElem?_eq_some_iff.mp hd
    obtain ⟨x, a, b, c, e, rfl, _, hx, ha, hb, hc, he⟩ := place_facts W hm
    have la1 := ts_len ha.1 ha.2
    have lb1 := ts_len hb.1 hb.2
    have lc1 := ts_len hc.1 hc.2
    have le1 := ts_len he.1 he.2
    have lx := hx.2.1
    refine ⟨_, rfl, r_end (x_app (x_op (x_op (x_op (x_op (x_op (x_op (x_op (x_op rfl rfl (add_ss (by omega))) (x_cb (x_cons rfl rfl) (str_i ha.1 ha.2)) (add_ss (by rw [la]; omega))) rfl (add_ss (by rw [la, la]; omega))) (x_cb (x_cons rfl rfl) (str_i hb.1 hb.2)) (add_ss (by rw [la, la, la]; omega))) rfl (add_ss (by rw [la, la, la, la]; omega))) (x_cb (x_cons rfl rfl) (str_i hc.1 hc.2)) (add_ss (by rw [la, la, la, la, la]; omega))) rfl (add_ss (by rw [la, la, la, la, la, la]; omega))) (x_cb (x_cons rfl rfl) (str_i he.1 he.2)) (add_ss (by rw [la, la, la, la, la, la, la]; omega))) rfl (by rw [List.length_map, List.length_cons, List.length_map, List.length_take]; omega)) ⟨.val (.str x), .val (.int a), .val (.int b), .val (.int c), .val (.int e), a7, a8, a9, ?_, li⟩⟩
    rw [List.take_succ_eq_append_getElem li, List.map_append, ei]
    show _ = [Sl.val _, .own (.list ((("top " ++ tS top) :: ((ps.take i).map rowP ++ [rowP (.tuple [.str x, .int a, .int b, .int c, .int e])])).map .str)), _, _, _, _, _, _, _, _]
    rw [map_snoc]
    rfl
  · rintro ρ ⟨a2, a3, a4, a5, a6, a7, a8, a9, rfl, _⟩
    rw [List.take_length]
    refine r_for (ds := ts) (fun i ρ => ∃ a2 a3 a4 a5 a6 a7 a8 a9, ρ = [.val (webD top ps ts), .own (.list ((("top " ++ tS top) :: (ps.map rowP ++ (ts.take i).map rowT)).map .str)), a2, a3, a4, a5, a6, a7, a8, a9] ∧ i ≤ ts.length) (by show ((mOp oIx (mW 0) (mC (.int 2))) _).bind seqD = _; rw [x_op rfl rfl (ix_t at2)]; rfl) ⟨_, _, _, _, _, _, _, _, by rw [List.take_zero, List.map_nil, List.append_nil], Nat.zero_le _⟩ ?_ ?_
    · rintro i d ρ hd ⟨a2, a3, a4, a5, a6, a7, a8, a9, rfl, hi⟩
      have hm := List.mem_of_getElem? hd
      obtain ⟨li, ei⟩ := List.getElem?_eq_some_iff.mp hd
      obtain ⟨x, y, s, rfl, _, _, hx, hy, hs⟩ := tie_facts W hm
      have ls := ts_len hs.1 hs.2
      have lx := hx.2.1
      have ly := hy.2.1
      refine ⟨_, rfl, r_end (x_app (x_op (x_op (x_op (x_op rfl rfl (add_ss (by omega))) rfl (add_ss (by rw [la]; omega))) rfl (add_ss (by rw [la, la]; omega))) (x_cb (x_cons rfl rfl) (str_i hs.1 hs.2)) (add_ss (by rw [la, la, la]; omega))) rfl (by rw [List.length_map, List.length_cons, List.length_append, List.length_map, List.length_map, List.length_take]; omega)) ⟨a2, a3, a4, a5, a6, .val (.str x), .val (.str y), .val (.int s), ?_, li⟩⟩
      rw [List.take_succ_eq_append_getElem li, List.map_append, ei]
      show _ = [Sl.val _, .own (.list ((("top " ++ tS top) :: (ps.map rowP ++ ((ts.take i).map rowT ++ [rowT (.tuple [.str x, .str y, .int s])]))).map .str)), _, _, _, _, _, _, _, _]
      rw [← List.append_assoc, map_snoc]
      rfl
    · rintro ρ ⟨a2, a3, a4, a5, a6, a7, a8, a9, rfl, _⟩
      rw [List.take_length]
      exact ⟨_, rfl, rfl⟩
end
end K04
namespace K04
open PySem PySem.Spec PyProof.Rows L2 LB PM PySem.W
/-! ### a number read -/
theorem ch3w {e : ME} {ρ : Ev} {i c : Int} {m : ME} (h : e ρ = some (.int i)) (hm : m ρ = some (.int c)) : mCh oLe oLe (mC (.int 1)) e m ρ = some (.bool (decide (1 ≤ i) && decide (i ≤ c))) := by
  show ((e ρ).bind fun y => (oLe (.int 1) y).bind fun z => (asB z).bind fun k => if k = true then (m ρ).bind fun w => oLe y w else some (.bool false)) = _
  rw [h]
  show (if decide (1 ≤ i) = true then (m ρ).bind (fun w => oLe (.int i) w) else some (.bool false)) = _
  rw [hm]
  show (if decide (1 ≤ i) = true then some (PyData.bool (decide (i ≤ c))) else some (.bool false)) = _
  cases decide (1 ≤ i) <;> rfl
def dgB (c : Nat) : Bool := decide (c ∈ ("0123456789" : Str).cps.toList)
def dgD : PyData → Bool
  | .str x => match sg1 x with
    | some c => dgB c
    | none => false
  | _ => false
theorem dg_in {z : Str} {d : PyData} (h : d ∈ signsD z) : oInX d (.str "0123456789") = some (.bool (dgD d)) := by
  obtain ⟨c, _, rfl⟩ := List.mem_map.mp h
  rfl
theorem dg_all {z : Str} (h : ∀ c ∈ z.cps.toList, 48 ≤ c ∧ c ≤ 57) : (signsD z).all dgD = true := by
  unfold signsD
  rw [List.all_map, List.all_eq_true]
  intro c hc
  have ⟨h1, h2⟩ := h c hc
  have k : ∀ c, 48 ≤ c → c ≤ 57 → dgB c = true := by
    intro c h1 h2
    rcases (show c = 48 ∨ c = 49 ∨ c = 50 ∨ c = 51 ∨ c = 52 ∨ c = 53 ∨ c = 54 ∨ c = 55 ∨ c = 56 ∨ c = 57 by omega) with rfl | rfl | rfl | rfl | rfl | rfl | rfl | rfl | rfl | rfl <;> decide +kernel
  exact k c h1 h2
theorem sh_text {z : Str} (h : PyData.strOk z = true) : SeqAt.shaped (.str z) = true := by
  have l : PyData.canLay0 (.str z) = true := by
    unfold PyData.canLay0
    exact h
  unfold SeqAt.shaped
  rw [l]
  rfl
theorem strOk_of {z : Str} (h : ∀ c ∈ z.cps.toList, c < 0x110000) : PyData.strOk z = true := by
  show z.cps.all _ = true
  rw [← Array.all_toList, List.all_eq_true]
  exact fun c hc => decide_eq_true (h c hc)
theorem eq_txt {x y : Str} (hx : PyData.strOk x = true) (hy : PyData.strOk y = true) : oEq (.str x) (.str y) = some (.bool (decide (x = y))) := by
  unfold oEq
  rw [if_pos ⟨sh_text hx, sh_text hy⟩, eqv_str]
  rfl
theorem ne_txt {x y : Str} (hx : PyData.strOk x = true) (hy : PyData.strOk y = true) : oNe (.str x) (.str y) = some (.bool (!decide (x = y))) := by
  unfold oNe
  rw [if_pos ⟨sh_text hx, sh_text hy⟩, eqv_str]
  rfl
theorem zero_num : numT 0 = "0" := by decide +kernel
theorem number_ok {n : Nat} (h : n < 1000) : M_read_number [.str (numT n), .int 3] = some (.int (n : Int)) := by
  obtain ⟨h1, h2, h3, h4, h5⟩ := num_facts h
  have hl : oLen [.str (numT n)] = some (.int ((numT n).length : Int)) := if_pos (by omega)
  have ok : PyData.strOk (numT n) = true := strOk_of fun c hc => by
    have := h3 c hc
    omega
  have ok0 : PyData.strOk ("0" : Str) = true := by decide +kernel
  have q1 : mCh oLe oLe (mC (.int 1)) (mCb oLen (aCons (mW 0) aNil)) (mW 1) [.val (.str (numT n)), .val (.int 3), .no] = some (.bool true) := by
    rw [ch3w (x_cb rfl hl) rfl, decide_eq_true (by omega), decide_eq_true (by omega)]
    rfl
  have q2 : mAg (iS (mW 0)) [2] (gN 2) qT (mOp oInX (mW 2) (mC (.str "0123456789"))) [.val (.str (numT n)), .val (.int 3), .no] = some (.bool true) := by
    rw [← dg_all h3]
    exact x_ag (ds := signsD (numT n)) rfl (x_agGo dgD _ fun d hd => ⟨[.val (.str (numT n)), .val (.int 3), .val d], rfl, rfl, x_op rfl rfl (dg_in hd)⟩)
  obtain ⟨c, r, ec⟩ : ∃ c r, (numT n).cps.toList = c :: r := by
    cases e : (numT n).cps.toList with
    | nil =>
      have : (numT n).cps.toList.length = (numT n).length := Array.length_toList
      rw [e] at this
      have : 0 = (numT n).length := this
      omega
    | cons c r => exact ⟨c, r, rfl⟩
  have hc := h3 c (by rw [ec]; exact List.mem_cons_self)
  have i0 : oIx (.str (numT n)) (.int 0) = some (.str ⟨#[c]⟩) := ix_s (by omega) (by rw [ec]; exact at0)
  have okc : PyData.strOk (⟨#[c]⟩ : Str) = true := strOk_of fun x hx => by
    have : x = c := List.mem_singleton.mp hx
    omega
  have fin : oIntZ [.str (numT n)] = some (.int (n : Int)) := by
    show (if (numT n).length ≤ 640 then (PySem.intText? (numT n)).map PyData.int else none) = _
    rw [if_pos (by omega), h5]
    rfl
  have q3 : qAnd (qV (mOp oEq (mOp oIx (mW 0) (mC (.int 0))) (mC (.str "0")))) (qV (mOp oNe (mW 0) (mC (.str "0")))) [.val (.str (numT n)), .val (.int 3), .no] = some false := by
    have e1 : qV (mOp oEq (mOp oIx (mW 0) (mC (.int 0))) (mC (.str "0"))) [.val (.str (numT n)), .val (.int 3), .no] = some (decide ((⟨#[c]⟩ : Str) = "0")) := x_qv (x_op (x_op rfl rfl i0) rfl (eq_txt okc ok0))
    have e2 : qV (mOp oNe (mW 0) (mC (.str "0"))) [.val (.str (numT n)), .val (.int 3), .no] = some (!decide (numT n = "0")) := x_qv (x_op rfl rfl (ne_txt ok ok0))
    by_cases z : (⟨#[c]⟩ : Str) = "0"
    · rw [decide_eq_true z] at e1
      have c48 : c = 48 := by
        have e : ("0" : Str).cps.toList = [48] := by decide +kernel
        rw [← z] at e
        exact (List.cons.inj e).1
      have n0 : n = 0 := h4 (by rw [ec, c48]; rfl)
      have : numT n = "0" := by rw [n0]; exact zero_num
      rw [decide_eq_true this] at e2
      exact x_andT e1 e2
    · rw [decide_eq_false z] at e1
      exact x_andF e1
  exact r_eq rfl (r_seq (x_ifF (x_orF (x_not (c := true) (x_qv q1)) (x_not (c := true) (x_qv q2))) rfl) (r_seq (x_ifF q3 rfl) (r_ret (x_cb rfl fin) rfl)))
end K04
namespace K04
open PySem PySem.Spec PyProof.Rows L2 LB PM PySem.W
/-! ### rows parted -/
theorem sp_is : (" " : Str) = ⟨#[32]⟩ := by decide +kernel
theorem pl_is : ("+" : Str) = ⟨#[43]⟩ := by decide +kernel
theorem mi_is : ("-" : Str) = ⟨#[45]⟩ := by decide +kernel
theorem gt_is : (">" : Str) = ⟨#[62]⟩ := by decide +kernel
theorem app_ne {c : Nat} {x y : Str} (hx : c ∉ x.cps.toList) (hy : c ∉ y.cps.toList) : c ∉ (x ++ y).cps.toList := fun h => by
  rw [PySem.W.KT.app_list] at h
  exact (List.mem_append.mp h).elim hx hy
theorem name_no {x : Str} (h : NameOk x) {c : Nat} (hc : c < 97) : c ∉ x.cps.toList := fun z => by
  have := h.2.2 c z
  omega
theorem num_no {n : Nat} (h : n < 1000) {c : Nat} (hc : c < 48 ∨ 57 < c) : c ∉ (numT n).cps.toList := fun z => by
  have := (num_facts h).2.2.1 c z
  omega
theorem join2 {c : Nat} (x y : Str) : Txt.join ⟨#[c]⟩ [x, y] = x ++ ⟨#[c]⟩ ++ y := StrLaws.glued_eq_join _ _
theorem join3 {c : Nat} (x y z : Str) : Txt.join ⟨#[c]⟩ [x, y, z] = x ++ ⟨#[c]⟩ ++ (y ++ ⟨#[c]⟩ ++ z) := StrLaws.glued_eq_join _ _
theorem join4 {c : Nat} (x y z u : Str) : Txt.join ⟨#[c]⟩ [x, y, z, u] = x ++ ⟨#[c]⟩ ++ (y ++ ⟨#[c]⟩ ++ (z ++ ⟨#[c]⟩ ++ u)) := StrLaws.glued_eq_join _ _
theorem split2 {c : Nat} {x y : Str} (hx : c ∉ x.cps.toList) (hy : c ∉ y.cps.toList) : Txt.split (x ++ ⟨#[c]⟩ ++ y) ⟨#[c]⟩ = [x, y] := by
  rw [← join2]
  exact split_join (fun z => nomatch z) fun p hp => by
    simp only [List.mem_cons, List.not_mem_nil, or_false] at hp
    rcases hp with rfl | rfl
    · exact hx
    · exact hy
theorem split3 {c : Nat} {x y z : Str} (hx : c ∉ x.cps.toList) (hy : c ∉ y.cps.toList) (hz : c ∉ z.cps.toList) : Txt.split (x ++ ⟨#[c]⟩ ++ (y ++ ⟨#[c]⟩ ++ z)) ⟨#[c]⟩ = [x, y, z] := by
  rw [← join3]
  exact split_join (fun z => nomatch z) fun p hp => by
    simp only [List.mem_cons, List.not_mem_nil, or_false] at hp
    rcases hp with rfl | rfl | rfl
    · exact hx
    · exact hy
    · exact hz
theorem split4 {c : Nat} {x y z u : Str} (hx : c ∉ x.cps.toList) (hy : c ∉ y.cps.toList) (hz : c ∉ z.cps.toList) (hu : c ∉ u.cps.toList) : Txt.split (x ++ ⟨#[c]⟩ ++ (y ++ ⟨#[c]⟩ ++ (z ++ ⟨#[c]⟩ ++ u))) ⟨#[c]⟩ = [x, y, z, u] := by
  rw [← join4]
  exact split_join (fun z => nomatch z) fun p hp => by
    simp only [List.mem_cons, List.not_mem_nil, or_false] at hp
    rcases hp with rfl | rfl | rfl | rfl
    · exact hx
    · exact hy
    · exact hz
    · exact hu
/-! ### two numbers with a sign between -/
theorem x_split {a b : ME} {ρ : Ev} {x : Str} {c : Nat} {l : List Str} (ha : a ρ = some (.str x)) (hb : b ρ = some (.str ⟨#[c]⟩)) (hx : x.length ≤ 10000) (e : Txt.split x ⟨#[c]⟩ = l) : mOp oSplit a b ρ = some (.list (l.map .str)) := by
  refine x_op ha hb ?_
  subst e
  exact if_pos ⟨by show 1 ≠ 0; decide, hx⟩
theorem x_lcCons {gm : MG} {mt : MT} {me : ME} {ρ ρ1 : Ev} {d z : PyData} {ds zs : List PyData} (h1 : gm d ρ = some ρ1) (h2 : mt ρ1 = some true) (h3 : me ρ1 = some z) (h4 : lcGo gm mt me ρ ds = some zs) : lcGo gm mt me ρ (d :: ds) = some (z :: zs) := by
  show ((gm d ρ).bind fun ρ1 => (mt ρ1).bind fun b => if b = true then (me ρ1).bind fun x => (lcGo gm mt me ρ ds).map fun l => x :: l else lcGo gm mt me ρ ds) = _
  rw [h1]
  show ((mt ρ1).bind fun b => if b = true then (me ρ1).bind fun x => (lcGo gm mt me ρ ds).map fun l => x :: l else lcGo gm mt me ρ ds) = _
  rw [h2]
  show ((me ρ1).bind fun x => (lcGo gm mt me ρ ds).map fun l => x :: l) = _
  rw [h3]
  show ((lcGo gm mt me ρ ds).map fun l => z :: l) = _
  rw [h4]
  rfl
theorem two_ok {n m c : Nat} (hn : n < 1000) (hm : m < 1000) (hc : c < 48 ∨ 57 < c) : M_read_two [.str (numT n ++ ⟨#[c]⟩ ++ numT m), .str ⟨#[c]⟩, .int 3] = some (.list [.int (n : Int), .int (m : Int)]) := by
  have hs := split2 (c := c) (num_no hn hc) (num_no hm hc)
  have l1 := (num_facts hn).2.1
  have l2 := (num_facts hm).2.1
  have ll : (numT n ++ ⟨#[c]⟩ ++ numT m).length ≤ 10000 := by
    rw [la, la]
    show _ + 1 + _ ≤ _
    omega
  refine r_eq rfl (r_seq (x_set (d := .list [.int (n : Int), .int (m : Int)]) (x_lc (ds := [.str (numT n), .str (numT m)]) ?_ (by show 2 ≤ 100000; decide) ?_)) (r_seq (x_ifF (x_orF (c := false) (x_qv (c := false) (x_op (x_cb (x_cons rfl rfl) rfl) rfl rfl)) (x_qv (x_op rfl rfl rfl))) rfl) (r_ret rfl rfl)))
  · show (mOp oSplit (mV 0) (mV 1) _).bind seqD = _
    rw [x_split (l := [numT n, numT m]) rfl rfl ll hs]
    rfl
  · exact x_lcCons rfl rfl (x_cb (x_cons rfl (x_cons rfl rfl)) (number_ok hn)) (x_lcCons rfl rfl (x_cb (x_cons rfl (x_cons rfl rfl)) (number_ok hm)) rfl)
end K04
namespace K04
open PySem PySem.Spec PyProof.Rows L2 LB PM PySem.W
/-! ### rows read -/
theorem nat_of {i : Int} (h0 : 0 ≤ i) (h : i ≤ 999) : ∃ n : Nat, n < 1000 ∧ i = (n : Int) ∧ tS i = numT n := by
  obtain ⟨n, rfl⟩ : ∃ n : Nat, i = (n : Int) := ⟨i.toNat, by omega⟩
  exact ⟨n, by omega, rfl, rfl⟩
theorem rowP_is {x : Str} {a b c e : Int} : rowP (.tuple [.str x, .int a, .int b, .int c, .int e]) = x ++ ⟨#[32]⟩ ++ ((tS a ++ ⟨#[43]⟩ ++ tS b) ++ ⟨#[32]⟩ ++ (tS c ++ ⟨#[45]⟩ ++ tS e)) := by
  show x ++ " " ++ tS a ++ "+" ++ tS b ++ " " ++ tS c ++ "-" ++ tS e = _
  rw [sp_is, pl_is, mi_is]
  refine str_ext ?_
  simp only [PySem.W.KT.app_list, List.append_assoc]
theorem gt3_is : (" > " : Str) = ⟨#[32]⟩ ++ ⟨#[62]⟩ ++ ⟨#[32]⟩ := by decide +kernel
theorem rowT_is {x y : Str} {s : Int} : rowT (.tuple [.str x, .str y, .int s]) = x ++ ⟨#[32]⟩ ++ (⟨#[62]⟩ ++ ⟨#[32]⟩ ++ (y ++ ⟨#[32]⟩ ++ tS s)) := by
  show x ++ " > " ++ y ++ " " ++ tS s = _
  rw [gt3_is, sp_is]
  refine str_ext ?_
  simp only [PySem.W.KT.app_list, List.append_assoc]
theorem one_no {a c : Nat} (h : a ≠ c) : c ∉ (⟨#[a]⟩ : Str).cps.toList := fun z => h (List.mem_singleton.mp z).symm
theorem split_P {x : Str} {a b c e : Nat} (hx : NameOk x) (ha : a < 1000) (hb : b < 1000) (hc : c < 1000) (he : e < 1000) : Txt.split (x ++ ⟨#[32]⟩ ++ ((numT a ++ ⟨#[43]⟩ ++ numT b) ++ ⟨#[32]⟩ ++ (numT c ++ ⟨#[45]⟩ ++ numT e))) ⟨#[32]⟩ = [x, numT a ++ ⟨#[43]⟩ ++ numT b, numT c ++ ⟨#[45]⟩ ++ numT e] :=
  split3 (name_no hx (by decide)) (app_ne (app_ne (num_no ha (.inl (by decide))) (one_no (by decide))) (num_no hb (.inl (by decide)))) (app_ne (app_ne (num_no hc (.inl (by decide))) (one_no (by decide))) (num_no he (.inl (by decide))))
theorem split_T {x y : Str} {s : Nat} (hx : NameOk x) (hy : NameOk y) (hs : s < 1000) : Txt.split (x ++ ⟨#[32]⟩ ++ (⟨#[62]⟩ ++ ⟨#[32]⟩ ++ (y ++ ⟨#[32]⟩ ++ numT s))) ⟨#[32]⟩ = [x, ⟨#[62]⟩, y, numT s] :=
  split4 (name_no hx (by decide)) (one_no (by decide)) (name_no hy (by decide)) (num_no hs (.inl (by decide)))
theorem rdP_ok {x : Str} {a b c e : Int} (hx : NameOk x) (ha : 0 ≤ a ∧ a ≤ 999) (hb : 0 ≤ b ∧ b ≤ 999) (hc : 0 ≤ c ∧ c ≤ 999) (he : 0 ≤ e ∧ e ≤ 999) : M_read_place [.str (rowP (.tuple [.str x, .int a, .int b, .int c, .int e]))] = some (.tuple [.str x, .int a, .int b, .int c, .int e]) := by
  obtain ⟨a, la', rfl, ta⟩ := nat_of ha.1 ha.2
  obtain ⟨b, lb', rfl, tb⟩ := nat_of hb.1 hb.2
  obtain ⟨c, lc', rfl, tc⟩ := nat_of hc.1 hc.2
  obtain ⟨e, le', rfl, te⟩ := nat_of he.1 he.2
  have hl : (rowP (.tuple [.str x, .int (a : Int), .int (b : Int), .int (c : Int), .int (e : Int)])).length ≤ 10000 := by
    have l1 := ts_len ha.1 ha.2
    have l2 := ts_len hb.1 hb.2
    have l3 := ts_len hc.1 hc.2
    have l4 := ts_len he.1 he.2
    have s1 := l_sp
    have s2 := l_pl
    have s3 := l_mi
    have := hx.2.1
    show (x ++ " " ++ tS a ++ "+" ++ tS b ++ " " ++ tS c ++ "-" ++ tS e).length ≤ _
    rw [la, la, la, la, la, la, la, la]
    omega
  have hsp := split_P hx la' lb' lc' le'
  have er := rowP_is (x := x) (a := (a : Int)) (b := (b : Int)) (c := (c : Int)) (e := (e : Int))
  rw [ta, tb, tc, te] at er
  rw [← er] at hsp
  have t1 := two_ok la' lb' (c := 43) (.inl (by decide))
  have t2 := two_ok lc' le' (c := 45) (.inl (by decide))
  generalize rowP (.tuple [.str x, .int (a : Int), .int (b : Int), .int (c : Int), .int (e : Int)]) = R at *
  refine r_eq rfl (r_seq (x_set (x_split rfl (by show some (PyData.str (" " : Str)) = _; rw [sp_is]) hl hsp)) (r_seq (x_ifF (x_qv (c := false) (x_op (x_cb (x_cons rfl rfl) rfl) rfl rfl)) rfl) (r_seq (x_set (x_cb (x_cons (x_op rfl rfl (ix_l at1)) (x_cons (by show some (PyData.str ("+" : Str)) = _; rw [pl_is]) (x_cons rfl rfl))) t1)) (r_seq (x_set (x_cb (x_cons (x_op rfl rfl (ix_l at2)) (x_cons (by show some (PyData.str ("-" : Str)) = _; rw [mi_is]) (x_cons rfl rfl))) t2)) (r_seq (x_ifF (x_orF (x_qv (c := false) (x_op rfl rfl rfl)) (x_qv (x_op rfl rfl rfl))) rfl) (r_ret (x_tup (x_cons (x_op rfl rfl (ix_l at0)) rfl) (Nat.le_of_ble_eq_true rfl)) rfl))))))
end K04
namespace K04
open PySem PySem.Spec PyProof.Rows L2 LB PM PySem.W
theorem sp_c {ρ : Ev} : mC (.str " ") ρ = some (.str ⟨#[32]⟩) := by
  show some (PyData.str (" " : Str)) = _
  rw [sp_is]
theorem ok_gt : PyData.strOk (">" : Str) = true := by decide +kernel
theorem ok_top : PyData.strOk ("top" : Str) = true := by decide +kernel
theorem rdT_ok {x y : Str} {s : Int} (hx : NameOk x) (hy : NameOk y) (hs : 0 ≤ s ∧ s ≤ 999) : M_read_tie [.str (rowT (.tuple [.str x, .str y, .int s]))] = some (.tuple [.str x, .str y, .int s]) := by
  obtain ⟨s, ls, rfl, ts⟩ := nat_of hs.1 hs.2
  have hl : (rowT (.tuple [.str x, .str y, .int (s : Int)])).length ≤ 10000 := by
    have l1 := ts_len hs.1 hs.2
    have s1 := l_sp
    have s2 := l_to
    have := hx.2.1
    have := hy.2.1
    show (x ++ " > " ++ y ++ " " ++ tS s).length ≤ _
    rw [la, la, la, la]
    omega
  have hsp := split_T hx hy ls
  have er := rowT_is (x := x) (y := y) (s := (s : Int))
  rw [ts] at er
  rw [← er] at hsp
  generalize rowT (.tuple [.str x, .str y, .int (s : Int)]) = R at *
  have g : oNe (.str ⟨#[62]⟩) (.str ">") = some (.bool false) := by
    rw [← gt_is, ne_txt ok_gt ok_gt, decide_eq_true rfl]
    rfl
  exact r_eq rfl (r_seq (x_set (x_split rfl sp_c hl hsp)) (r_seq (x_ifF (x_orF (x_qv (c := false) (x_op (x_cb (x_cons rfl rfl) rfl) rfl rfl)) (x_qv (x_op (x_op rfl rfl (ix_l at1)) rfl g))) rfl) (r_seq (x_set (x_cb (x_cons (x_op rfl rfl (ix_l at3)) (x_cons rfl rfl)) (number_ok ls))) (r_seq (x_ifF (x_qv (x_op rfl rfl rfl)) rfl) (r_ret (x_tup (x_cons (x_op rfl rfl (ix_l at0)) (x_cons (x_op rfl rfl (ix_l at2)) (x_cons rfl rfl))) (Nat.le_of_ble_eq_true rfl)) rfl)))))
theorem top_is : ("top " : Str) = "top" ++ ⟨#[32]⟩ := by decide +kernel
theorem top_no : (32 : Nat) ∉ ("top" : Str).cps.toList := by decide +kernel
theorem top_ok {t : Int} (ht : 0 ≤ t ∧ t ≤ 999) : M_read_top [.str ("top " ++ tS t)] = some (.int t) := by
  obtain ⟨n, ln, rfl, tn⟩ := nat_of ht.1 ht.2
  have hsp := split2 (c := 32) top_no (num_no ln (.inl (by decide)))
  have hl : ("top " ++ tS (n : Int)).length ≤ 10000 := by
    have l1 := ts_len ht.1 ht.2
    have s1 := l_tp
    rw [la]
    omega
  rw [← top_is, ← tn] at hsp
  generalize ("top " ++ tS (n : Int)) = R at *
  have g : oNe (.str "top") (.str "top") = some (.bool false) := by
    rw [ne_txt ok_top ok_top, decide_eq_true rfl]
    rfl
  rw [tn] at hsp
  exact r_eq rfl (r_seq (x_set (x_split rfl sp_c hl hsp)) (r_seq (x_ifF (x_orF (x_qv (c := false) (x_op (x_cb (x_cons rfl rfl) rfl) rfl rfl)) (x_qv (x_op (x_op rfl rfl (ix_l at0)) rfl g))) rfl) (r_ret (x_cb (x_cons (x_op rfl rfl (ix_l at1)) (x_cons rfl rfl)) (number_ok ln)) rfl)))
/-! a tie's row is no place's -/
theorem no_place {x y : Str} {s : Int} (hx : NameOk x) (hy : NameOk y) (hs : 0 ≤ s ∧ s ≤ 999) : M_read_place [.str (rowT (.tuple [.str x, .str y, .int s]))] = some .none := by
  obtain ⟨s, ls, rfl, ts⟩ := nat_of hs.1 hs.2
  have hl : (rowT (.tuple [.str x, .str y, .int (s : Int)])).length ≤ 10000 := by
    have l1 := ts_len hs.1 hs.2
    have s1 := l_sp
    have s2 := l_to
    have := hx.2.1
    have := hy.2.1
    show (x ++ " > " ++ y ++ " " ++ tS s).length ≤ _
    rw [la, la, la, la]
    omega
  have hsp := split_T hx hy ls
  have er := rowT_is (x := x) (y := y) (s := (s : Int))
  rw [ts] at er
  rw [← er] at hsp
  generalize rowT (.tuple [.str x, .str y, .int (s : Int)]) = R at *
  exact r_eq rfl (r_seq (x_set (x_split rfl sp_c hl hsp)) ⟨_, x_ret (x_ifT (x_qv (c := true) (x_op (x_cb (x_cons rfl rfl) rfl) rfl rfl)) (x_rt rfl)), rfl⟩)
end K04
namespace K04
open PySem PySem.Spec PyProof.Rows L2 LB PM PySem.W
section
variable {top : Int} {ns : List Str} {ps ts : List PyData}
theorem star1 {a b : ME} {ρ : Ev} {l : List PyData} {d : PyData} (ha : a ρ = some (.tuple l)) (hb : b ρ = some d) : aStar a (aCons b aNil) ρ = some (l ++ [d]) := by
  unfold aStar aCons aNil
  rw [ha, hb]
  rfl
theorem with_place (W : WebOk top ns ps ts) {d : PyData} (hd : d ∈ ps) {qs : List PyData} (hq : qs.length ≤ 100) : M_with_row [webD top qs [], .str (rowP d)] = some (webD top (qs ++ [d]) []) := by
  obtain ⟨x, a, b, c, e, rfl, _, hx, ha, hb, hc, he⟩ := place_facts W hd
  have hp := rdP_ok hx ha hb hc he
  generalize rowP (.tuple [.str x, .int a, .int b, .int c, .int e]) = R at *
  exact r_eq rfl (r_seq (x_asg rfl rfl) (r_seq (x_set (x_cb rfl hp)) ⟨_, x_ret (x_ifT (x_andT (x_qv (c := true) (x_op rfl rfl rfl)) (x_qv (c := true) (x_op (x_cb (x_cons rfl rfl) rfl) rfl rfl))) (x_rt (x_tup (x_cons rfl (x_cons (x_tup (star1 rfl rfl) (by rw [List.length_append]; show _ + 1 ≤ _; omega)) (x_cons rfl rfl))) (Nat.le_of_ble_eq_true rfl)))), rfl⟩))
theorem with_tie (W : WebOk top ns ps ts) {d : PyData} (hd : d ∈ ts) {us : List PyData} (hu : us.length ≤ 100) : M_with_row [webD top ps us, .str (rowT d)] = some (webD top ps (us ++ [d])) := by
  obtain ⟨x, y, s, rfl, _, _, hx, hy, hs⟩ := tie_facts W hd
  have h0 := no_place hx hy hs
  have ht := rdT_ok hx hy hs
  generalize rowT (.tuple [.str x, .str y, .int s]) = R at *
  exact r_eq rfl (r_seq (x_asg rfl rfl) (r_seq (x_set (x_cb rfl h0)) (r_seq (x_ifF (x_andF (x_qv (c := false) (x_op rfl rfl rfl))) rfl) (r_seq (x_set (x_cb rfl ht)) ⟨_, x_ret (x_ifT (x_qv (c := true) (x_op rfl rfl rfl)) (x_rt (x_tup (x_cons rfl (x_cons rfl (x_cons (x_tup (star1 rfl rfl) (by rw [List.length_append]; show _ + 1 ≤ _; omega)) rfl))) (Nat.le_of_ble_eq_true rfl)))), rfl⟩))))
end
end K04
namespace K04
open PySem PySem.Spec PyProof.Rows L2 LB PM PySem.W
section
variable {top : Int} {ns : List Str} {ps ts : List PyData}
def webAt (top : Int) (ps ts : List PyData) (i : Nat) : PyData := webD top (ps.take i) (ts.take (i - ps.length))
theorem nl_is : ("\n" : Str) = ⟨#[10]⟩ := by decide +kernel
theorem lit_no {z : Str} (h : (z.cps.toList.all fun c => !decide (c = 10)) = true) : (10 : Nat) ∉ z.cps.toList := fun m => by
  have := List.all_eq_true.mp h 10 m
  simp at this
theorem ts_no {i : Int} (h0 : 0 ≤ i) (h : i ≤ 999) : (10 : Nat) ∉ (tS i).cps.toList := by
  obtain ⟨n, ln, rfl, e⟩ := nat_of h0 h
  rw [e]
  exact num_no ln (.inl (by decide))
theorem rows_no (W : WebOk top ns ps ts) : ∀ z ∈ rowsW top ps ts, (10 : Nat) ∉ z.cps.toList := fun z hz => by
  have n1 : (10 : Nat) ∉ (" " : Str).cps.toList := lit_no (by decide +kernel)
  have n2 : (10 : Nat) ∉ ("+" : Str).cps.toList := lit_no (by decide +kernel)
  have n3 : (10 : Nat) ∉ ("-" : Str).cps.toList := lit_no (by decide +kernel)
  have n4 : (10 : Nat) ∉ (" > " : Str).cps.toList := lit_no (by decide +kernel)
  have n5 : (10 : Nat) ∉ ("top " : Str).cps.toList := lit_no (by decide +kernel)
  have t1 := W.t1
  have t9 := W.t9
  rcases List.mem_cons.mp hz with rfl | hz
  · exact app_ne n5 (ts_no (by omega) (by omega))
  · rcases List.mem_append.mp hz with hz | hz
    · obtain ⟨d, hd, rfl⟩ := List.mem_map.mp hz
      obtain ⟨x, a, b, c, e, rfl, _, hx, ha, hb, hc, he⟩ := place_facts W hd
      exact app_ne (app_ne (app_ne (app_ne (app_ne (app_ne (app_ne (app_ne (name_no hx (by decide)) n1) (ts_no ha.1 ha.2)) n2) (ts_no hb.1 hb.2)) n1) (ts_no hc.1 hc.2)) n3) (ts_no he.1 he.2)
    · obtain ⟨d, hd, rfl⟩ := List.mem_map.mp hz
      obtain ⟨x, y, s, rfl, _, _, hx, hy, hs⟩ := tie_facts W hd
      exact app_ne (app_ne (app_ne (app_ne (name_no hx (by decide)) n4) (name_no hy (by decide))) n1) (ts_no hs.1 hs.2)
theorem split_rows (W : WebOk top ns ps ts) : Txt.split (Txt.join "\n" (rowsW top ps ts)) ⟨#[10]⟩ = rowsW top ps ts := by
  rw [nl_is]
  exact split_join (fun z => nomatch z) (rows_no W)
theorem with_row_ok (W : WebOk top ns ps ts) {i : Nat} {R : Str} (h : (ps.map rowP ++ ts.map rowT)[i]? = some R) : M_with_row [webAt top ps ts i, .str R] = some (webAt top ps ts (i + 1)) := by
  have p8 := few_ps W
  have t16 := W.tl
  by_cases hi : i < ps.length
  · rw [List.getElem?_append_left (by rw [List.length_map]; exact hi), List.getElem?_map, List.getElem?_eq_getElem hi] at h
    cases h
    unfold webAt
    rw [show i - ps.length = 0 by omega, show i + 1 - ps.length = 0 by omega, List.take_zero, List.take_succ_eq_append_getElem hi]
    exact with_place W (List.getElem_mem hi) (by rw [List.length_take]; omega)
  · rw [List.getElem?_append_right (by rw [List.length_map]; omega), List.getElem?_map, List.length_map] at h
    have hj : i - ps.length < ts.length := by
      rcases Nat.lt_or_ge (i - ps.length) ts.length with k | k
      · exact k
      · rw [List.getElem?_eq_none k] at h
        cases h
    rw [List.getElem?_eq_getElem hj] at h
    cases h
    have e1 : ps.take i = ps := List.take_of_length_le (by omega)
    have e2 : ps.take (i + 1) = ps := List.take_of_length_le (by omega)
    unfold webAt
    rw [e1, e2, show i + 1 - ps.length = (i - ps.length) + 1 by omega, List.take_succ_eq_append_getElem hj]
    exact with_tie W (List.getElem_mem hj) (by rw [List.length_take]; omega)
end
end K04
namespace K04
open PySem PySem.Spec PyProof.Rows L2 LB PM PySem.W
section
variable {top : Int} {ns : List Str} {ps ts : List PyData}
/-! ### a text read -/
theorem cut_from {α : Type} (l : List α) (n : Nat) : LB.cutD l (some (n : Int)) none = l.drop n := by
  unfold LB.cutD
  have e : HT.sIx l.length 0 (some (n : Int)) = min n l.length := HT.sIx_nat l.length 0 n
  rw [e, show HT.sIx l.length l.length none = l.length from rfl]
  by_cases h : n ≤ l.length
  · rw [Nat.min_eq_left h]
    exact List.take_of_length_le (by rw [List.length_drop]; exact Nat.le_refl _)
  · rw [Nat.min_eq_right (by omega), Nat.sub_self, List.take_zero, List.drop_eq_nil_of_le (by omega)]
theorem each_take {α β : Type} {R : α → β → Prop} : ∀ {as : List α} {bs : List β}, EachIs R as bs → ∀ n, EachIs R (as.take n) (bs.take n)
  | _, _, .nil, n => by
    rw [List.take_nil, List.take_nil]
    exact .nil
  | _, _, .cons h t, 0 => .nil
  | _, _, .cons h t, n + 1 => .cons h (each_take t n)
theorem first_web (W : WebOk top ns ps ts) {n : Nat} (h1 : 1 ≤ n) : WebOk top (ns.take n) (ps.take n) [] where
  t1 := W.t1
  t9 := W.t9
  n1 := by
    have := W.n1
    rw [List.length_take]
    omega
  n8 := by
    have := W.n8
    rw [List.length_take]
    omega
  rise := W.rise.sublist (List.take_sublist n ns)
  each := fun x hx => W.each x (List.mem_of_mem_take hx)
  pl := each_take W.pl n
  tl := Nat.zero_le _
  ti := fun t ht => nomatch ht
theorem few_ties (W : WebOk top ns ps ts) {us : List PyData} (h : us.Sublist ts) : WebOk top ns ps us where
  t1 := W.t1
  t9 := W.t9
  n1 := W.n1
  n8 := W.n8
  rise := W.rise
  each := W.each
  pl := W.pl
  tl := Nat.le_trans h.length_le W.tl
  ti := fun t ht => W.ti t (h.subset ht)
theorem rs_sub {us : List PyData} (rs : TieRs ts) (h : us.Sublist ts) : TieRs us := rs.sublist (h.map tk)
theorem at_true (W : WebOk top ns ps ts) (rs : TieRs ts) {i : Nat} (h1 : 1 ≤ i) : M_is_web [webAt top ps ts i] = some (.bool true) := by
  have ln : ps.length = ns.length := W.pl.length.symm
  unfold webAt
  by_cases h : i ≤ ps.length
  · rw [show i - ps.length = 0 by omega, List.take_zero]
    exact web_true (first_web W h1) .nil
  · rw [List.take_of_length_le (show ps.length ≤ i by omega)]
    exact web_true (few_ties W (List.take_sublist _ _)) (rs_sub rs (List.take_sublist _ _))
theorem at_all (W : WebOk top ns ps ts) : webAt top ps ts (ps.length + ts.length) = webD top ps ts := by
  unfold webAt
  rw [List.take_of_length_le (by omega), List.take_of_length_le (by omega)]
theorem join_le {c : Nat} : ∀ l : List Str, (Str.join ⟨#[c]⟩ l).length ≤ (l.map (·.length)).sum + l.length
  | [] => Nat.zero_le _
  | [x] => by
    show x.length ≤ _
    simp
  | x :: y :: r => by
    have := join_le (c := c) (y :: r)
    show (x ++ ⟨#[c]⟩ ++ Str.join ⟨#[c]⟩ (y :: r)).length ≤ x.length + ((y :: r).map (·.length)).sum + ((y :: r).length + 1)
    rw [la, la]
    show x.length + 1 + _ ≤ _
    omega
theorem text_len (W : WebOk top ns ps ts) : (Txt.join "\n" (rowsW top ps ts)).length ≤ 800 := by
  have h1 := sum_le (rows_len W)
  have h2 := rows_few W
  have h4 := join_le (c := 10) (rowsW top ps ts)
  have ej : Txt.join "\n" (rowsW top ps ts) = Str.join ⟨#[10]⟩ (rowsW top ps ts) := by
    rw [nl_is]
    exact StrLaws.glued_eq_join _ _
  rw [ej]
  omega
theorem read_ok (W : WebOk top ns ps ts) (rs : TieRs ts) : M_read_web [.str (Txt.join "\n" (rowsW top ps ts))] = some (webD top ps ts) := by
  have t1 := W.t1
  have t9 := W.t9
  have n1 := W.n1
  have ln : ps.length = ns.length := W.pl.length.symm
  have hsp := split_rows W
  have hl : (Txt.join "\n" (rowsW top ps ts)).length ≤ 10000 := by
    have := text_len W
    omega
  have htop := top_ok (t := top) (by omega)
  have hrow : ∀ i R, (ps.map rowP ++ ts.map rowT)[i]? = some R → M_with_row [webAt top ps ts i, .str R] = some (webAt top ps ts (i + 1)) := fun i R h => with_row_ok W h
  have hlen : (ps.map rowP ++ ts.map rowT).length = ps.length + ts.length := by rw [List.length_append, List.length_map, List.length_map]
  generalize Txt.join "\n" (rowsW top ps ts) = T at *
  have cl : LB.cutD ((rowsW top ps ts).map PyData.str) (some 1) none = (ps.map rowP ++ ts.map rowT).map .str := (cut_from _ 1).trans rfl
  have it : M_is_top [.int top] = some (.bool true) := by
    refine r_eq rfl (r_ret (x_cb (x_cons rfl (x_cons rfl (x_cons rfl rfl))) (Q.between_is 1 9 (.int top))) ?_)
    show some (PyData.bool (decide (1 ≤ top) && decide (top ≤ 9))) = _
    rw [decide_eq_true t1, decide_eq_true t9]
    rfl
  have el : qV (mOp oEq (mCb oLen (aCons (mW 1) aNil)) (mC (.int 1))) [.val (.str T), .val (.list ((rowsW top ps ts).map .str)), .val (.int top), .no, .no, .no] = some false := by
    refine x_qv (x_op (x_cb (x_cons rfl rfl) rfl) rfl ((eq_ii _ _).trans ?_))
    refine congrArg (fun z => some (PyData.bool z)) (decide_eq_false ?_)
    show ((((rowsW top ps ts).map PyData.str).length : Nat) : Int) ≠ 1
    have : ((rowsW top ps ts).map PyData.str).length = (ps.length + ts.length) + 1 := by
      rw [List.length_map, ← hlen]
      rfl
    omega
  refine r_eq rfl (r_seq (x_ifF (x_not (c := true) (x_qv rfl)) rfl) (r_seq (x_set (x_split rfl (by show some (PyData.str ("\n" : Str)) = _; rw [nl_is]) hl hsp)) (r_seq (x_set (x_cb (x_cons (x_op rfl rfl (ix_l at0)) rfl) htop)) (r_seq (x_ifF (x_orF el (x_not (c := true) (x_qv (x_cb rfl it)))) rfl) (r_seq (x_set (d := webAt top ps ts 0) ?_) (r_for (ds := enumS 1 ((ps.map rowP ++ ts.map rowT).map .str)) (fun i ρ => ∃ s4 s5, ρ = [.val (.str T), .val (.list ((rowsW top ps ts).map .str)), .val (.int top), .val (webAt top ps ts i), s4, s5]) ?_ ⟨_, _, rfl⟩ ?_ ?_))))))
  · show some (PyData.tuple [.int top, .tuple [], .tuple []]) = _
    unfold webAt
    rw [List.take_zero, show 0 - ps.length = 0 by omega, List.take_zero]
    rfl
  · show ((aCons (mSl (mW 1) (pSo (mC (.int 1))) pNo) aNil _).bind (oEnumS 1)) = _
    have e : mSl (mW 1) (pSo (mC (.int 1))) pNo [.val (.str T), .val (.list ((rowsW top ps ts).map .str)), .val (.int top), .val (webAt top ps ts 0), .no, .no] = some (.list ((ps.map rowP ++ ts.map rowT).map .str)) := congrArg (fun l => some (PyData.list l)) cl
    exact (congrArg (fun o => Option.bind o (oEnumS 1)) (x_cons e (ds := []) rfl)).trans rfl
  · rintro i d ρ hd ⟨s4, s5, rfl⟩
    have hi' : i < (ps.map rowP ++ ts.map rowT).length := by
      have := (List.getElem?_eq_some_iff.mp hd).1
      rw [enumS_len, List.length_map] at this
      exact this
    have hR : (ps.map rowP ++ ts.map rowT)[i]? = some ((ps.map rowP ++ ts.map rowT)[i]) := List.getElem?_eq_getElem hi'
    generalize (ps.map rowP ++ ts.map rowT)[i] = R at hR
    rw [enumS_at (d := .str R) (by rw [List.getElem?_map, hR]; rfl)] at hd
    cases hd
    have hw := hrow i R hR
    have hi := at_true W rs (i := i + 1) (by omega)
    exact ⟨_, rfl, r_seq (x_set (x_cb rfl hw)) (r_end (x_ifF (x_not (c := true) (x_qv (x_cb rfl hi))) rfl) ⟨_, _, rfl⟩)⟩
  · rintro ρ ⟨s4, s5, rfl⟩
    refine r_ret rfl ?_
    show some (webAt top ps ts (enumS 1 ((ps.map rowP ++ ts.map rowT).map PyData.str)).length) = _
    have : (enumS 1 ((ps.map rowP ++ ts.map rowT).map PyData.str)).length = ps.length + ts.length := by
      rw [enumS_len, List.length_map, hlen]
    rw [this, at_all W]
end
end K04
namespace K04
open PySem PySem.Spec PyProof.Rows L2 LB PM PySem.W
section
variable {top : Int} {ns : List Str} {ps ts : List PyData}
/-! ### tuples throughout -/
def Tp : Nat → PyData → Prop
  | 0, d => PyData.canLay0 d = true ∧ PyData.depth d ≤ 0 ∧ isL d = false ∧ isU d = false
  | k + 1, d => PyData.canLay0 d = true ∧ PyData.depth d ≤ k + 1 ∧ isL d = false ∧ ∀ l, d = .tuple l → l.length ≤ 100 ∧ ∀ x ∈ l, Tp k x
theorem Tp.lay : ∀ {k : Nat} {d : PyData}, Tp k d → PyData.canLay0 d = true ∧ PyData.depth d ≤ k
  | 0, _, h => ⟨h.1, h.2.1⟩
  | _ + 1, _, h => ⟨h.1, h.2.1⟩
theorem Tp.no_list : ∀ {k : Nat} {d : PyData}, Tp k d → isL d = false
  | 0, _, h => h.2.2.1
  | _ + 1, _, h => h.2.2.1
theorem Tp.shaped {k : Nat} {d : PyData} (h : Tp k d) (hk : k ≤ 64) : SeqAt.shaped d = true := by
  obtain ⟨h1, h2⟩ := h.lay
  unfold SeqAt.shaped
  rw [h1, Bool.true_and]
  exact decide_eq_true (by omega)
theorem lay_all {k : Nat} : ∀ {l : List PyData}, (∀ x ∈ l, PyData.canLay0 x = true ∧ PyData.depth x ≤ k) → PyData.canLayAll0 l = true ∧ PyData.depthAll l ≤ k
  | [], _ => ⟨rfl, Nat.zero_le _⟩
  | x :: l, h => by
    obtain ⟨h1, h2⟩ := lay_all (l := l) fun y hy => h y (List.mem_cons_of_mem _ hy)
    obtain ⟨k1, k2⟩ := h x List.mem_cons_self
    constructor
    · show (PyData.canLay0 x && PyData.canLayAll0 l) = true
      rw [k1, h1]
      rfl
    · show max (PyData.depth x) (PyData.depthAll l) ≤ k
      omega
theorem tp_tup {k : Nat} {l : List PyData} (h20 : l.length ≤ 100) (h : ∀ x ∈ l, Tp k x) : Tp (k + 1) (.tuple l) := by
  obtain ⟨h1, h2⟩ := lay_all (l := l) fun x hx => (h x hx).lay
  refine ⟨?_, ?_, rfl, fun m e => ?_⟩
  · unfold PyData.canLay0
    exact h1
  · show PyData.depth (.tuple l) ≤ k + 1
    unfold PyData.depth
    omega
  · injection e with e
    subst e
    exact ⟨h20, h⟩
theorem tp_str {k : Nat} {x : Str} (h : NameOk x) : Tp k (.str x) := by
  have hs : PyData.canLay0 (.str x) = true := by
    unfold PyData.canLay0
    exact Q.name_lay h
  cases k with
  | zero => exact ⟨hs, Nat.le_refl _, rfl, rfl⟩
  | succ k => exact ⟨hs, Nat.zero_le _, rfl, fun l e => nomatch e⟩
theorem tp_int {k : Nat} {i : Int} : Tp k (.int i) := by
  have hs : PyData.canLay0 (.int i) = true := by
    unfold PyData.canLay0
    rfl
  cases k with
  | zero => exact ⟨hs, Nat.le_refl _, rfl, rfl⟩
  | succ k => exact ⟨hs, Nat.zero_le _, rfl, fun l e => nomatch e⟩
theorem web_tp (W : WebOk top ns ps ts) : Tp 3 (webD top ps ts) := by
  have hp : Tp 2 (.tuple ps) := by
    refine tp_tup (by have := few_ps W; omega) fun d hd => ?_
    obtain ⟨x, a, b, c, e, hx, rfl, _⟩ := pl_all W hd
    refine tp_tup (Nat.le_of_ble_eq_true rfl) fun y hy => ?_
    simp only [List.mem_cons, List.not_mem_nil, or_false] at hy
    rcases hy with rfl | rfl | rfl | rfl | rfl
    · exact tp_str (W.each x hx)
    all_goals exact tp_int
  have ht : Tp 2 (.tuple ts) := by
    refine tp_tup (by have := W.tl; omega) fun d hd => ?_
    obtain ⟨a, b, s, rfl, ha, hb, _⟩ := W.ti d hd
    refine tp_tup (Nat.le_of_ble_eq_true rfl) fun y hy => ?_
    simp only [List.mem_cons, List.not_mem_nil, or_false] at hy
    rcases hy with rfl | rfl | rfl
    · exact tp_str (W.each a ha)
    · exact tp_str (W.each b hb)
    · exact tp_int
  refine tp_tup (Nat.le_of_ble_eq_true rfl) fun y hy => ?_
  simp only [List.mem_cons, List.not_mem_nil, or_false] at hy
  rcases hy with rfl | rfl | rfl
  · exact tp_int
  · exact hp
  · exact ht
theorem isL_is (d : PyData) {ρ : Ev} {i : Nat} (h : ρ[i]? = some (.val d)) : mIs "list" (mW i) ρ = some (.bool (isL d)) := by
  rw [Q.is_ty "list" d h, kit_list]
  rfl
theorem bls_true : ∀ {es : List PyData}, (∀ d ∈ es, d = .bool true) → ∃ l, bls es = some l ∧ l.all id = true
  | [], _ => ⟨[], rfl, rfl⟩
  | d :: es, h => by
    obtain ⟨l, e, t⟩ := bls_true fun d hd => h d (List.mem_cons_of_mem _ hd)
    refine ⟨true :: l, ?_, t⟩
    rw [h d List.mem_cons_self]
    show (bls es).map _ = _
    rw [e]
    rfl
theorem all_true {es : List PyData} (h : ∀ d ∈ es, d = .bool true) : oAll [.list es] = some (.bool true) := by
  obtain ⟨l, e, t⟩ := bls_true h
  show (bls es).map _ = _
  rw [e]
  show some (PyData.bool (l.all id)) = _
  rw [t]
theorem x_mnot {e : ME} {ρ : Ev} {c : Bool} (h : e ρ = some (.bool c)) : mNot e ρ = some (.bool (!c)) := by
  unfold mNot
  rw [h]
  rfl
theorem x_morT {e f : ME} {ρ : Ev} (h : e ρ = some (.bool true)) : mOr e f ρ = some (.bool true) := by
  unfold mOr
  rw [h]
  rfl
theorem x_morF {e f : ME} {ρ : Ev} {d : PyData} (h : e ρ = some (.bool false)) (h2 : f ρ = some d) : mOr e f ρ = some d := by
  unfold mOr
  rw [h]
  exact h2
theorem tuples_ok : ∀ (n k : Nat) (d : PyData), k < n → Tp k d → MR_L_tuples n [d] = some (.bool true)
  | 0, k, d, h, _ => absurd h (Nat.not_lt_zero k)
  | n + 1, k, d, h, hd => by
    have hL := isL_is d (ρ := [.val d, .no]) (i := 0) rfl
    rw [hd.no_list] at hL
    have hU := Q.isU_is d (ρ := [.val d, .no]) (i := 0) rfl
    show fnM 1 2 (m_L_tuples (MR_L_tuples n)) [d] = _
    cases hu : isU d with
    | false =>
      rw [hu] at hU
      refine r_eq rfl (r_seq (x_ifF (x_qv hL) rfl) (r_ret (d := .bool true) ?_ rfl))
      exact x_morT (x_mnot hU)
    | true =>
      rw [hu] at hU
      obtain ⟨l, rfl⟩ : ∃ l, d = .tuple l := by
        cases d with
        | tuple l => exact ⟨l, rfl⟩
        | _ => cases hu
      cases k with
      | zero => exact absurd hd.2.2.2 (by rw [hu]; exact fun z => nomatch z)
      | succ k =>
        obtain ⟨l100, hl⟩ := hd.2.2.2 l rfl
        refine r_eq rfl (r_seq (x_ifF (x_qv hL) rfl) (r_ret (d := .bool true) ?_ rfl))
        have e2 : mCb oAll (aCons (mLc (iS (mW 0)) [1] (gN 1) qT (mCb (MR_L_tuples n) (aCons (mV 1) aNil))) aNil) [.val (.tuple l), .no] = some (.bool true) := by
          refine x_cb (x_cons (x_lc (ds := l) (es := l.map fun _ => PyData.bool true) rfl (by omega) ?_) rfl) (all_true fun d hd => by
            obtain ⟨_, _, rfl⟩ := List.mem_map.mp hd
            rfl)
          rw [x_lcGo (fun _ => true) (fun _ => PyData.bool true) _ fun x hx => ?_]
          · rw [List.filter_eq_self.mpr fun _ _ => rfl]
          · exact ⟨_, rfl, rfl, fun _ => x_cb (x_cons rfl rfl) (tuples_ok n k x (by omega) (hl x hx))⟩
        exact x_morF (x_mnot hU) e2
/-! ### a web's text and back -/
theorem eq_self {k : Nat} {d : PyData} (h : Tp k d) (hk : k ≤ 64) : oEq d d = some (.bool true) := by
  have s := h.shaped hk
  unfold oEq
  rw [if_pos ⟨s, s⟩, PySem.SeqAt.eqv_refl _ (SeqAt.canLay_of_shaped s)]
theorem text_ok (W : WebOk top ns ps ts) : PyData.strOk (Txt.join "\n" (rowsW top ps ts)) = true := by
  refine strOk_of fun c hc => ?_
  have ej : Txt.join "\n" (rowsW top ps ts) = Str.join ⟨#[10]⟩ (rowsW top ps ts) := by
    rw [nl_is]
    exact StrLaws.glued_eq_join _ _
  rw [ej] at hc
  have key : ∀ l : List Str, (∀ z ∈ l, ∀ c ∈ z.cps.toList, c < 0x110000) → ∀ c ∈ (Str.join ⟨#[10]⟩ l).cps.toList, c < 0x110000 := by
    intro l
    induction l with
    | nil => exact fun _ c hc => nomatch hc
    | cons x r ih =>
      intro h c hc
      cases r with
      | nil => exact h x List.mem_cons_self c hc
      | cons y r =>
        rw [join_cons] at hc
        rcases List.mem_append.mp hc with hc | hc
        · exact h x List.mem_cons_self c hc
        · rcases List.mem_cons.mp hc with rfl | hc
          · decide
          · exact ih (fun z hz => h z (List.mem_cons_of_mem _ hz)) c hc
  refine key _ (fun z hz => ?_) c hc
  have lit : ∀ {z : Str}, (z.cps.toList.all fun c => decide (c < 0x110000)) = true → ∀ c ∈ z.cps.toList, c < 0x110000 := fun {z} h c hc => of_decide_eq_true (List.all_eq_true.mp h c hc)
  have n1 := lit (z := " ") (by decide +kernel)
  have n2 := lit (z := "+") (by decide +kernel)
  have n3 := lit (z := "-") (by decide +kernel)
  have n4 := lit (z := " > ") (by decide +kernel)
  have n5 := lit (z := "top ") (by decide +kernel)
  have app : ∀ {x y : Str}, (∀ c ∈ x.cps.toList, c < 0x110000) → (∀ c ∈ y.cps.toList, c < 0x110000) → ∀ c ∈ (x ++ y).cps.toList, c < 0x110000 := fun {x y} hx hy c hc => by
    rw [PySem.W.KT.app_list] at hc
    exact (List.mem_append.mp hc).elim (hx c) (hy c)
  have num : ∀ {i : Int}, 0 ≤ i → i ≤ 999 → ∀ c ∈ (tS i).cps.toList, c < 0x110000 := fun {i} h0 h c hc => by
    obtain ⟨n, ln, rfl, e⟩ := nat_of h0 h
    rw [e] at hc
    have := (num_facts ln).2.2.1 c hc
    omega
  have nam : ∀ {x : Str}, NameOk x → ∀ c ∈ x.cps.toList, c < 0x110000 := fun {x} h c hc => by
    have := h.2.2 c hc
    omega
  have t1 := W.t1
  have t9 := W.t9
  rcases List.mem_cons.mp hz with rfl | hz
  · exact app n5 (num (by omega) (by omega))
  · rcases List.mem_append.mp hz with hz | hz
    · obtain ⟨d, hd, rfl⟩ := List.mem_map.mp hz
      obtain ⟨x, a, b, c, e, rfl, _, hx, ha, hb, hc, he⟩ := place_facts W hd
      exact app (app (app (app (app (app (app (app (nam hx) n1) (num ha.1 ha.2)) n2) (num hb.1 hb.2)) n1) (num hc.1 hc.2)) n3) (num he.1 he.2)
    · obtain ⟨d, hd, rfl⟩ := List.mem_map.mp hz
      obtain ⟨x, y, s, rfl, _, _, hx, hy, hs⟩ := tie_facts W hd
      exact app (app (app (app (nam hx) n4) (nam hy)) n1) (num hs.1 hs.2)
theorem right_ok (W : WebOk top ns ps ts) (rs : TieRs ts) : M_L_right [webD top ps ts] = some (.bool true) := by
  have h1 := web_rows_ok W
  have h2 := show_ok W
  have h3 := read_ok W rs
  have h4 := join_rows W
  have h5 := text_ok W
  have h6 := web_true W rs
  have h7 : M_L_tuples [webD top ps ts] = some (.bool true) := tuples_ok 8 3 _ (by decide) (web_tp W)
  have h8 := eq_self (web_tp W) (by decide)
  generalize Txt.join "\n" (rowsW top ps ts) = T at *
  have n : oNe (.str T) (.str T) = some (.bool false) := by
    rw [ne_txt h5 h5, decide_eq_true rfl]
    rfl
  have e : oEq (.str T) (.str T) = some (.bool true) := by
    rw [eq_txt h5 h5, decide_eq_true rfl]
  exact r_eq rfl (r_seq (x_set (x_op rfl (x_cb (x_cons rfl rfl) h1) h4)) (r_seq (x_set (x_cb (x_cons rfl rfl) h2)) (r_seq (x_ifF (x_orF (x_not (c := true) (x_qv rfl)) (x_qv (x_op rfl rfl n))) rfl) (r_seq (x_set (x_cb (x_cons rfl rfl) h3)) (r_ret (x_mandT (x_op rfl rfl h8) (x_mandT (x_cb (x_cons rfl rfl) h7) (x_mandT (x_cb (x_cons rfl rfl) h6) (x_op (x_cb (x_cons rfl rfl) h2) rfl e)))) rfl)))))
end
end K04
namespace K04
open PySem PySem.Spec PyProof.Rows L2 LB PM PySem.W
section
variable {top : Int} {ns : List Str} {ps ts : List PyData}
/-! ### the law -/
theorem drawn_ok (script : List Int) : ∃ top ns ps ts, WebOk top ns ps ts ∧ TieRs ts ∧ M_L_drawn [.list (script.map .int)] = some (webD top ps ts) := by
  have key : ∃ d, M_L_drawn [.list (script.map .int)] = some d ∧ ∃ top ns ps ts, WebOk top ns ps ts ∧ TieRs ts ∧ d = webD top ps ts := by
    obtain ⟨n, hcell⟩ := cell_ok script (j := 0) (by omega)
    obtain ⟨xs, hx, hnums⟩ := nums_ok n (m := 24) (by decide)
    have hl := hx.1
    refine r_fn rfl (r_seq (x_set (x_cb (x_cons (x_cb rfl hcell) rfl) hnums)) ?_)
    have ix : ∀ {i : Nat} (h : i < xs.length), oIx (.list (xs.map .int)) (.int (i : Int)) = some (.int xs[i]) := fun {i} h => ix_l (atI_nat (by rw [List.getElem?_map, List.getElem?_eq_getElem h]; rfl))
    have ek : ∀ k : Int, mOp oEq (mOp oMod (mOp oIx (mW 1) (mC (.int 12))) (mC (.int 8))) (mC (.int k)) [.val (.list (script.map .int)), .val (.list (xs.map .int))] = some (.bool (decide ((xs[12]'(by omega)).fmod 8 = k))) := fun k => x_op (x_op (x_op rfl rfl (ix (i := 12) (by omega))) rfl (mod_ii (by decide))) rfl (eq_ii _ _)
    have hd : NumsOk 11 (xs.drop 13) := ⟨by rw [List.length_drop]; omega, fun x hx' => hx.2 x (List.mem_of_mem_drop hx')⟩
    have f7 := fm ((xs[12]'(by omega)).fdiv 8) (b := 7) (by decide)
    obtain ⟨m, hm⟩ : ∃ m : Nat, 2 + ((xs[12]'(by omega)).fdiv 8).fmod 7 = (m : Int) := ⟨(2 + ((xs[12]'(by omega)).fdiv 8).fmod 7).toNat, by omega⟩
    obtain ⟨t3, n3, p3, u3, W3, R3, hc⟩ := chain_ok (m := m) hd (by decide) (by omega) (by omega)
    obtain ⟨t4, n4, p4, u4, W4, R4, h8⟩ := web_ok (script := script) (at' := 1) (most := 8) (by decide) (by decide) (by decide)
    obtain ⟨t5, n5, p5, u5, W5, R5, h6⟩ := web_ok (script := script) (at' := 1) (most := 6) (by decide) (by decide) (by decide)
    by_cases h1 : (xs[12]'(by omega)).fmod 8 = 1
    · have e3 := ek 1
      rw [decide_eq_true h1] at e3
      refine ⟨_, x_ret (x_ifT (x_qv e3) (x_rt (x_cb (x_cons (d := .list ((xs.drop 13).map .int)) ?_ (x_cons (d := .int (m : Int)) (x_op rfl (x_op (x_op (x_op rfl rfl (ix (i := 12) (by omega))) rfl (fdv_big (by decide) (by decide))) rfl (mod_ii (by decide))) (by rw [← hm]; rfl)) rfl)) hc))), _, rfl, t3, n3, p3, u3, W3, R3.2, rfl⟩
      show some (PyData.list (LB.cutD (xs.map PyData.int) (some ((13 : Nat) : Int)) none)) = _
      rw [cut_from, List.map_drop]
    · have e3 := ek 1
      rw [decide_eq_false h1] at e3
      refine r_seq (x_ifF (x_qv e3) rfl) ?_
      by_cases h2 : (xs[12]'(by omega)).fmod 8 = 2
      · have e5 := ek 2
        rw [decide_eq_true h2] at e5
        exact ⟨_, x_rt (x_cb (x_cons rfl (x_cons rfl (x_cons (x_op rfl (x_cb (x_cons e5 rfl) rfl) rfl) rfl))) h8), _, rfl, t4, n4, p4, u4, W4, R4.2, rfl⟩
      · have e5 := ek 2
        rw [decide_eq_false h2] at e5
        exact ⟨_, x_rt (x_cb (x_cons rfl (x_cons rfl (x_cons (x_op rfl (x_cb (x_cons e5 rfl) rfl) rfl) rfl))) h6), _, rfl, t5, n5, p5, u5, W5, R5.2, rfl⟩
  obtain ⟨d, hd, top, ns, ps, ts, W, R, rfl⟩ := key
  exact ⟨top, ns, ps, ts, W, R, hd⟩
theorem l_is {e : ME} {ρ : Ev} {l : List PyData} (h : e ρ = some (.list l)) : iS e ρ = some l := by
  show (e ρ).bind seqD = _
  rw [h]
  rfl
theorem slL {a : ME} {lo hi : Ev → Option (Option Int)} {ρ : Ev} {ds : List PyData} {l u : Option Int} (h : a ρ = some (.list ds)) (h1 : lo ρ = some l) (h2 : hi ρ = some u) : mSl a lo hi ρ = some (.list (LB.cutD ds l u)) := by
  unfold mSl
  rw [h, h1, h2]
  rfl
def pkL (l : List PyData) : PyData → PyData
  | .int k => l.getD k.toNat .none
  | _ => .none
theorem pk_all (l : List PyData) : (rngD l.length).map (pkL l) = l := by
  unfold rngD
  rw [List.map_map]
  refine List.ext_getElem (by simp) fun i h1 h2 => ?_
  rw [List.getElem_map, List.getElem_range]
  show l.getD ((i : Int)).toNat .none = _
  rw [Int.toNat_natCast, List.getD_eq_getElem?_getD, List.getElem?_eq_getElem h2]
  rfl
theorem pk_sub (l : List PyData) (p : PyData → Bool) : (((rngD l.length).filter p).map (pkL l)).Sublist l := by
  have h := (List.filter_sublist (p := p) (l := rngD l.length)).map (pkL l)
  rw [pk_all] at h
  exact h
theorem nms_each (W : WebOk top ns ps ts) : ∀ {qs : List PyData}, (∀ d ∈ qs, d ∈ ps) → EachIs (PlaceOk top) (qs.map nmS) qs
  | [], _ => .nil
  | q :: qs, h => by
    obtain ⟨x, a, b, c, e, _, rfl, h1⟩ := pl_all W (h q List.mem_cons_self)
    exact .cons ⟨a, b, c, e, rfl, h1⟩ (nms_each W fun d hd => h d (List.mem_cons_of_mem _ hd))
theorem sub_web (W : WebOk top ns ps ts) {qs us : List PyData} (hq : qs.Sublist ps) (h1 : qs ≠ []) (hu : us.Sublist ts) (hin : ∀ t ∈ us, (tk t).1 ∈ qs.map nmS ∧ (tk t).2 ∈ qs.map nmS) : WebOk top (qs.map nmS) qs us where
  t1 := W.t1
  t9 := W.t9
  n1 := by
    rw [List.length_map]
    exact List.length_pos_iff.mpr h1
  n8 := by
    have := few_ps W
    have := hq.length_le
    rw [List.length_map]
    omega
  rise := by
    have := hq.map nmS
    rw [nmS_all W] at this
    exact W.rise.sublist this
  each := fun x hx => by
    have := (hq.map nmS).subset hx
    rw [nmS_all W] at this
    exact W.each x this
  pl := nms_each W fun d hd => hq.subset hd
  tl := Nat.le_trans hu.length_le W.tl
  ti := fun t ht => by
    obtain ⟨a, b, s, rfl, _, _, h⟩ := W.ti t (hu.subset ht)
    obtain ⟨ha, hb⟩ := hin _ ht
    exact ⟨a, b, s, rfl, ha, hb, h⟩
theorem ps_tp (W : WebOk top ns ps ts) {qs : List PyData} (hq : qs.Sublist ps) : Tp 2 (.tuple qs) := by
  have := few_ps W
  have := hq.length_le
  refine tp_tup (by omega) fun d hd => ?_
  obtain ⟨x, a, b, c, e, hx, rfl, _⟩ := pl_all W (hq.subset hd)
  refine tp_tup (Nat.le_of_ble_eq_true rfl) fun y hy => ?_
  simp only [List.mem_cons, List.not_mem_nil, or_false] at hy
  rcases hy with rfl | rfl | rfl | rfl | rfl
  · exact tp_str (W.each x hx)
  all_goals exact tp_int
theorem ne_nil {qs : List PyData} (h : Tp 2 (.tuple qs)) : oNe (.tuple qs) (.tuple []) = some (.bool (!decide (qs = []))) := by
  have s := h.shaped (by decide)
  unfold oNe
  rw [if_pos ⟨s, rfl⟩]
  cases qs with
  | nil => rfl
  | cons q r =>
    rw [decide_eq_false (fun z => nomatch z)]
    have : PyData.eqv (.tuple (q :: r)) (.tuple []) = false := by simp [PyData.eqv, PyData.eqvAll]
    rw [this]
/-- what the numbers pick -/
def kpB (xs : List Int) (o : Nat) : PyData → Bool
  | .int k => decide (0 < (xs.getD (o + k.toNat) 0).fmod 3)
  | _ => false
def inB (l : List Str) (d : PyData) : Bool := decide ((tk d).1 ∈ l) && decide ((tk d).2 ∈ l)
theorem law_ok (script : List Int) (hs : script.length ≤ 63) : M_law [.list (script.map .int)] = some (.bool true) := by
  obtain ⟨top, ns, ps, ts, W, rs, hdr⟩ := drawn_ok script
  obtain ⟨n, hcell⟩ := cell_ok script (j := 30) (by omega)
  have hcell : M_L_cell [.list (script.map .int), .int 30] = some (.int n) := hcell
  have hcl := cut_len (script.map PyData.int) (some 31) (some 36)
  rw [List.length_map] at hcl
  have p8 := few_ps W
  have t16 := W.tl
  have r0 := right_ok W rs
  have r1 : M_L_right [webD top ps []] = some (.bool true) := right_ok (few_ties W (List.nil_sublist ts)) .nil
  refine r_eq rfl (r_seq (x_set (x_cb rfl hdr)) (r_seq (x_ifF (x_orF (x_not (c := true) (x_qv (x_cb rfl r0))) (x_not (c := true) (x_qv (x_cb (x_cons (d := webD top ps []) ?_ rfl) r1)))) rfl) (r_for (ds := [.int n] ++ LB.cutD (script.map PyData.int) (some 31) (some 36)) (fun _ ρ => ∃ s2 s3 s4 s5 s6 s7 s8 s9 s10, ρ = [.val (.list (script.map .int)), .val (webD top ps ts), s2, s3, s4, s5, s6, s7, s8, s9, s10]) ?_ ⟨_, _, _, _, _, _, _, _, _, rfl⟩ ?_ ?_)))
  · exact x_tup (x_cons (x_op rfl rfl (ix_t at0)) (x_cons (x_op rfl rfl (ix_t at1)) rfl)) (Nat.le_of_ble_eq_true rfl)
  · exact l_is (x_op (x_lst (x_cons (x_cb rfl hcell) rfl) (Nat.le_of_ble_eq_true rfl)) (slL rfl rfl rfl) (add_ll (by rw [List.length_singleton]; omega)))
  · rintro i d ρ hd ⟨s2, s3, s4, s5, s6, s7, s8, s9, s10, rfl⟩
    obtain ⟨c, rfl⟩ : ∃ c, d = .int c := by
      rcases List.mem_append.mp (List.mem_of_getElem? hd) with h | h
      · exact ⟨n, List.mem_singleton.mp h⟩
      · obtain ⟨x, _, rfl⟩ := List.mem_map.mp (cut_mem h)
        exact ⟨x, rfl⟩
    obtain ⟨xs, hx, hnums⟩ := nums_ok c (m := 24) (by decide)
    have hnums : M_L_numbers [.int c, .int 24] = some (.list (xs.map .int)) := hnums
    have hl := hx.1
    have ix : ∀ {i : Nat} (h : i < xs.length), oIx (.list (xs.map .int)) (.int (i : Int)) = some (.int (xs.getD i 0)) := fun {i} h => ix_l (atI_nat (by rw [List.getElem?_map, List.getD_eq_getElem?_getD, List.getElem?_eq_getElem h]; rfl))
    have lcP : ∀ (l : List PyData) (o : Nat) (mt : MT) (me : ME) (ρ : Ev), l.length + o ≤ 24 → (∀ k : Nat, k < l.length → ∃ ρ1, gN 9 (.int (k : Int)) (wipeM ρ [9]) = some ρ1 ∧ mt ρ1 = some (decide (0 < (xs.getD (o + k) 0).fmod 3)) ∧ me ρ1 = some (l.getD k .none)) → lcGo (gN 9) mt me (wipeM ρ [9]) (rngD l.length) = some (((rngD l.length).filter (kpB xs o)).map (pkL l)) := fun l o mt me ρ hlo h => by
      refine x_lcGo (kpB xs o) (pkL l) _ fun d hd => ?_
      obtain ⟨k, hk, rfl⟩ := List.mem_map.mp hd
      obtain ⟨ρ1, e1, e2, e3⟩ := h k (List.mem_range.mp hk)
      refine ⟨ρ1, e1, ?_, fun _ => ?_⟩
      · show mt ρ1 = some (decide (0 < (xs.getD (o + ((k : Int)).toNat) 0).fmod 3))
        rw [Int.toNat_natCast]
        exact e2
      · show me ρ1 = some (l.getD ((k : Int)).toNat .none)
        rw [Int.toNat_natCast]
        exact e3
    have ixT : ∀ (l : List PyData) {k : Nat}, k < l.length → oIx (.tuple l) (.int (k : Int)) = some (l.getD k .none) := fun l k h => ix_t (atI_nat (by rw [List.getD_eq_getElem?_getD, List.getElem?_eq_getElem h]; rfl))
    generalize hus : ((rngD ts.length).filter (kpB xs 0)).map (pkL ts) = us
    have su : us.Sublist ts := hus ▸ pk_sub ts _
    generalize hqs : ((rngD ps.length).filter (kpB xs 16)).map (pkL ps) = qs
    have sq : qs.Sublist ps := hqs ▸ pk_sub ps _
    have r2 := right_ok (few_ties W su) (rs_sub rs su)
    have lq := sq.length_le
    have htq := ps_tp W sq
    generalize hvs : ts.filter (inB (qs.map nmS)) = vs
    have sv : vs.Sublist ts := hvs ▸ List.filter_sublist
    refine ⟨_, rfl, r_seq (x_set (x_cb rfl hnums)) (r_seq (x_set (d := .tuple us) (x_cb (x_cons (x_lc (ds := rngD ts.length) (x_rng rfl (by omega)) (by rw [rngD_length]; omega) ((lcP ts 0 _ _ _ (by omega) fun k hk => ⟨_, rfl, ?_, ?_⟩).trans (by rw [hus]))) rfl) rfl)) (r_seq (x_ifF (x_not (c := true) (x_qv (x_cb (x_cons (d := webD top ps us) (x_tup (x_cons (x_op rfl rfl (ix_t at0)) (x_cons (x_op rfl rfl (ix_t at1)) (x_cons rfl rfl))) (Nat.le_of_ble_eq_true rfl)) rfl) r2))) rfl) (r_seq (x_set (d := .tuple qs) (x_cb (x_cons (x_lc (ds := rngD ps.length) (x_rng rfl (by omega)) (by rw [rngD_length]; omega) ((lcP ps 16 _ _ _ (by omega) fun k hk => ⟨_, rfl, ?_, ?_⟩).trans (by rw [hqs]))) rfl) rfl)) (r_seq (x_set (d := .list ((qs.map nmS).map .str)) (x_lc (ds := qs) rfl (by omega) ?_)) (r_seq (x_set (d := .tuple vs) (x_cb (x_cons (x_lc (ds := ts) (by show (mOp oIx (mW 1) (mC (.int 2)) _).bind seqD = _; rw [x_op rfl rfl (ix_t at2)]; rfl) (by omega) ?_) rfl) rfl)) (r_end (x_ifF ?_ rfl) ⟨_, _, _, _, _, _, _, _, _, rfl⟩))))))⟩
    · have e0 := ix (i := k) (by omega)
      rw [Nat.zero_add]
      exact x_qv (x_op (x_op (x_op rfl rfl e0) rfl (mod_ii (by decide))) rfl rfl)
    · exact x_op (x_op rfl rfl (ix_t at2)) rfl (ixT ts hk)
    · have e0 := ix (i := 16 + k) (by omega)
      exact x_qv (x_op (x_op (x_op rfl (x_op rfl rfl rfl) e0) rfl (mod_ii (by decide))) rfl rfl)
    · exact x_op (x_op rfl rfl (ix_t at1)) rfl (ixT ps hk)
    · rw [x_lcGo (fun _ => true) (fun d => .str (nmS d)) _ fun d hd => ?_]
      · rw [List.filter_eq_self.mpr fun _ _ => rfl, List.map_map]
        rfl
      · obtain ⟨x, a, b, c, e, _, rfl, _⟩ := pl_all W (sq.subset hd)
        exact ⟨_, rfl, rfl, fun _ => x_op rfl rfl (ix_t at0)⟩
    · rw [x_lcGo (inB (qs.map nmS)) id _ fun d hd => ?_]
      · rw [List.map_id, hvs]
      · obtain ⟨x, y, s, rfl, _⟩ := W.ti d hd
        refine ⟨_, rfl, ?_, fun _ => rfl⟩
        have q1 : ∀ {ρ : Ev}, mW 10 ρ = some (.tuple [.str x, .str y, .int s]) → mW 6 ρ = some (.list ((qs.map nmS).map .str)) → qV (mOp oIn (mOp oIx (mW 10) (mC (.int 0))) (mW 6)) ρ = some (decide (x ∈ qs.map nmS)) := fun h1 h2 => x_qv (x_op (x_op h1 rfl (ix_t at0)) h2 (in_strs rfl))
        have q2 : ∀ {ρ : Ev}, mW 10 ρ = some (.tuple [.str x, .str y, .int s]) → mW 6 ρ = some (.list ((qs.map nmS).map .str)) → qV (mOp oIn (mOp oIx (mW 10) (mC (.int 1))) (mW 6)) ρ = some (decide (y ∈ qs.map nmS)) := fun h1 h2 => x_qv (x_op (x_op h1 rfl (ix_t at1)) h2 (in_strs rfl))
        show qAnd _ _ _ = some (decide (x ∈ qs.map nmS) && decide (y ∈ qs.map nmS))
        cases hx1 : decide (x ∈ qs.map nmS) with
        | false => exact x_andF ((q1 rfl rfl).trans (by rw [hx1]))
        | true => exact x_andT ((q1 rfl rfl).trans (by rw [hx1])) (q2 rfl rfl)
    · have nn := ne_nil htq
      by_cases hq0 : qs = []
      · rw [decide_eq_true hq0] at nn
        exact x_andF (x_qv (x_op rfl (x_tup rfl (Nat.le_of_ble_eq_true rfl)) nn))
      · rw [decide_eq_false hq0] at nn
        have r3 := right_ok (sub_web W sq hq0 sv fun t ht => by
          rw [← hvs] at ht
          have h := (List.mem_filter.mp ht).2
          unfold inB at h
          rw [Bool.and_eq_true, decide_eq_true_eq, decide_eq_true_eq] at h
          exact h) (rs_sub rs sv)
        exact x_andT (x_qv (x_op rfl (x_tup rfl (Nat.le_of_ble_eq_true rfl)) nn)) (x_not (c := true) (x_qv (x_cb (x_cons (d := webD top qs vs) (x_tup (x_cons (x_op rfl rfl (ix_t at0)) (x_cons rfl (x_cons rfl rfl))) (Nat.le_of_ble_eq_true rfl)) rfl) r3)))
  · rintro ρ ⟨s2, s3, s4, s5, s6, s7, s8, s9, s10, rfl⟩
    exact r_ret rfl rfl
end
end K04
set_option maxHeartbeats 0
namespace K04
open PySem PySem.Spec PyProof.Rows L2
def d_is_whole : He.DefD := ⟨("is_whole", none), "is_whole", "is_whole", defArgs s_is_whole, defBody s_is_whole, defScope s_is_whole, [], []⟩
def d_is_between : He.DefD := ⟨("is_between", none), "is_between", "is_between", defArgs s_is_between, defBody s_is_between, defScope s_is_between, [], []⟩
def d_is_row : He.DefD := ⟨("is_row", none), "is_row", "is_row", defArgs s_is_row, defBody s_is_row, defScope s_is_row, [], []⟩
def d_is_name : He.DefD := ⟨("is_name", none), "is_name", "is_name", defArgs s_is_name, defBody s_is_name, defScope s_is_name, [], []⟩
def d_is_rising : He.DefD := ⟨("is_rising", none), "is_rising", "is_rising", defArgs s_is_rising, defBody s_is_rising, defScope s_is_rising, [], []⟩
def d_is_top : He.DefD := ⟨("is_top", none), "is_top", "is_top", defArgs s_is_top, defBody s_is_top, defScope s_is_top, [], []⟩
def d_is_place : He.DefD := ⟨("is_place", none), "is_place", "is_place", defArgs s_is_place, defBody s_is_place, defScope s_is_place, [], []⟩
def d_is_tie : He.DefD := ⟨("is_tie", none), "is_tie", "is_tie", defArgs s_is_tie, defBody s_is_tie, defScope s_is_tie, [], []⟩
def d_are_places : He.DefD := ⟨("are_places", none), "are_places", "are_places", defArgs s_are_places, defBody s_are_places, defScope s_are_places, [], []⟩
def d_are_ties : He.DefD := ⟨("are_ties", none), "are_ties", "are_ties", defArgs s_are_ties, defBody s_are_ties, defScope s_are_ties, [], []⟩
def d_is_web : He.DefD := ⟨("is_web", none), "is_web", "is_web", defArgs s_is_web, defBody s_is_web, defScope s_is_web, [], []⟩
def d_names_of : He.DefD := ⟨("names_of", none), "names_of", "names_of", defArgs s_names_of, defBody s_names_of, defScope s_names_of, [], []⟩
def d_show_web : He.DefD := ⟨("show_web", none), "show_web", "show_web", defArgs s_show_web, defBody s_show_web, defScope s_show_web, [], []⟩
def d_read_number : He.DefD := ⟨("read_number", none), "read_number", "read_number", defArgs s_read_number, defBody s_read_number, defScope s_read_number, [], []⟩
def d_read_two : He.DefD := ⟨("read_two", none), "read_two", "read_two", defArgs s_read_two, defBody s_read_two, defScope s_read_two, [], []⟩
def d_read_top : He.DefD := ⟨("read_top", none), "read_top", "read_top", defArgs s_read_top, defBody s_read_top, defScope s_read_top, [], []⟩
def d_read_place : He.DefD := ⟨("read_place", none), "read_place", "read_place", defArgs s_read_place, defBody s_read_place, defScope s_read_place, [], []⟩
def d_read_tie : He.DefD := ⟨("read_tie", none), "read_tie", "read_tie", defArgs s_read_tie, defBody s_read_tie, defScope s_read_tie, [], []⟩
def d_with_row : He.DefD := ⟨("with_row", none), "with_row", "with_row", defArgs s_with_row, defBody s_with_row, defScope s_with_row, [], []⟩
def d_read_web : He.DefD := ⟨("read_web", none), "read_web", "read_web", defArgs s_read_web, defBody s_read_web, defScope s_read_web, [], []⟩
def d_L_cell : He.DefD := ⟨("_law_cell", none), "_law_cell", "_law_cell", defArgs s_L_cell, defBody s_L_cell, defScope s_L_cell, [], []⟩
def d_L_numbers : He.DefD := ⟨("_law_numbers", none), "_law_numbers", "_law_numbers", defArgs s_L_numbers, defBody s_L_numbers, defScope s_L_numbers, [], []⟩
def d_L_names : He.DefD := ⟨("_law_names", none), "_law_names", "_law_names", defArgs s_L_names, defBody s_L_names, defScope s_L_names, [], []⟩
def d_L_place : He.DefD := ⟨("_law_place", none), "_law_place", "_law_place", defArgs s_L_place, defBody s_L_place, defScope s_L_place, [], []⟩
def d_L_ties : He.DefD := ⟨("_law_ties", none), "_law_ties", "_law_ties", defArgs s_L_ties, defBody s_L_ties, defScope s_L_ties, [], []⟩
def d_L_web : He.DefD := ⟨("_law_web", none), "_law_web", "_law_web", defArgs s_L_web, defBody s_L_web, defScope s_L_web, [], []⟩
def d_L_chain : He.DefD := ⟨("_law_chain", none), "_law_chain", "_law_chain", defArgs s_L_chain, defBody s_L_chain, defScope s_L_chain, [], []⟩
def d_L_drawn : He.DefD := ⟨("_law_drawn", none), "_law_drawn", "_law_drawn", defArgs s_L_drawn, defBody s_L_drawn, defScope s_L_drawn, [], []⟩
def d_L_web_rows : He.DefD := ⟨("_law_web_rows", none), "_law_web_rows", "_law_web_rows", defArgs s_L_web_rows, defBody s_L_web_rows, defScope s_L_web_rows, [], []⟩
def d_L_tuples : He.DefD := ⟨("_law_tuples", none), "_law_tuples", "_law_tuples", defArgs s_L_tuples, defBody s_L_tuples, defScope s_L_tuples, [], []⟩
def d_L_right : He.DefD := ⟨("_law_right", none), "_law_right", "_law_right", defArgs s_L_right, defBody s_L_right, defScope s_L_right, [], []⟩
def d_law : He.DefD := ⟨("law", none), "law", "law", defArgs s_law, defBody s_law, defScope s_law, [], []⟩
def fn : List He.DefD := [d_is_whole, d_is_between, d_is_row, d_is_name, d_is_rising, d_is_top, d_is_place, d_is_tie, d_are_places, d_are_ties, d_is_web, d_names_of, d_show_web, d_read_number, d_read_two, d_read_top, d_read_place, d_read_tie, d_with_row, d_read_web, d_L_cell, d_L_numbers, d_L_names, d_L_place, d_L_ties, d_L_web, d_L_chain, d_L_drawn, d_L_web_rows, d_L_tuples, d_L_right, d_law]
def fa0 : List He.Fa := [.glo "StairError", .glo "NoText", .glo "is_whole", .glo "is_between", .glo "is_row", .glo "is_name", .glo "is_rising", .glo "is_top", .glo "is_place", .glo "is_tie", .glo "are_places", .glo "are_ties", .glo "is_web", .glo "names_of", .glo "show_web", .glo "read_number", .glo "read_two", .glo "read_top", .glo "read_place", .glo "read_tie", .glo "with_row", .glo "read_web", .glo "_law_cell", .glo "_law_numbers", .glo "_law_names", .glo "_law_place", .glo "_law_ties", .glo "_law_web", .glo "_law_chain", .glo "_law_drawn"]
def fa1 : List He.Fa := [.glo "_law_web_rows", .glo "_law_tuples", .glo "_law_right", .glo "law", .free "ValueError", .free "abs", .free "all", .free "bool", .free "enumerate", .free "int", .free "isinstance", .free "len", .free "list", .free "max", .free "range", .free "sorted", .free "str", .free "super", .free "tuple", .free "zip", .str "LETTERS" "abcdefghijklmnopqrstuvwxyz", .str "FIGURES" "0123456789", .int "MOST_FIGURES" 3, .keep "StairError", .keep "NoText"]
def fa : List He.Fa := fa0 ++ fa1
def tf : List He.Defn := [("is_name", none), ("is_rising", none), ("are_places", none), ("are_ties", none), ("names_of", none), ("read_number", none)]
def loose0 : List Str := ["StairError", "NoText", "is_whole", "is_between", "is_row", "LETTERS", "is_name", "is_rising", "is_top", "is_place", "is_tie", "are_places", "are_ties", "is_web", "names_of", "FIGURES", "MOST_FIGURES", "show_web", "read_number", "read_two", "read_top", "read_place", "read_tie", "with_row", "read_web", "_law_cell", "_law_numbers", "_law_names", "_law_place", "_law_ties"]
def loose1 : List Str := ["_law_web", "_law_chain", "_law_drawn", "_law_web_rows", "_law_tuples", "_law_right"]
def loose : List Str := loose0 ++ loose1
end K04
namespace K04
open PySem PySem.Spec PyProof.Rows L2
abbrev R : PySem.W.OpenRow := PySem.W.OpenLaw.row PySem.Challenge.rw_cutstairs_k04_webs_as_texts
abbrev hk : PySem.W.Hook := He.hookX 2 fa fn [] tf ex
def ob (s : PySem.W.SharedT) : He.AlX := He.obsX 2 fa fn [] tf ex (HandSHeadRun.getT s)
theorem ob_eq (s : PySem.W.SharedT) : ob s = hk.obs s.abs := He.obsX_eq (HandSHeadRun.getT_eq s)
theorem run (w : World) : HandSHeadRun.RunEq R (PySem.W.view R.prog [41]) hk ob 20000 loose w := by
  intro os
  kernel_rfl
end K04
namespace K04
open PySem PySem.Spec PyProof.Rows L2 LB
theorem txt_of {K : PySem.W.Frag} {w : World} {h : Heap} {mg : Str → Option Value} (X : K.In h) (G : h.Ns mainGlobals mg) (c : He.SaysX fa fn [] tf ex w h K) : Txt K mg where
  m_StairError := He.glo_ok X G (c.t.d.fact 0 (f := .glo "StairError") rfl)
  m_NoText := He.glo_ok X G (c.t.d.fact 1 (f := .glo "NoText") rfl)
  m_is_whole := He.glo_ok X G (c.t.d.fact 2 (f := .glo "is_whole") rfl)
  m_is_between := He.glo_ok X G (c.t.d.fact 3 (f := .glo "is_between") rfl)
  m_is_row := He.glo_ok X G (c.t.d.fact 4 (f := .glo "is_row") rfl)
  m_is_name := He.glo_ok X G (c.t.d.fact 5 (f := .glo "is_name") rfl)
  m_is_rising := He.glo_ok X G (c.t.d.fact 6 (f := .glo "is_rising") rfl)
  m_is_top := He.glo_ok X G (c.t.d.fact 7 (f := .glo "is_top") rfl)
  m_is_place := He.glo_ok X G (c.t.d.fact 8 (f := .glo "is_place") rfl)
  m_is_tie := He.glo_ok X G (c.t.d.fact 9 (f := .glo "is_tie") rfl)
  m_are_places := He.glo_ok X G (c.t.d.fact 10 (f := .glo "are_places") rfl)
  m_are_ties := He.glo_ok X G (c.t.d.fact 11 (f := .glo "are_ties") rfl)
  m_is_web := He.glo_ok X G (c.t.d.fact 12 (f := .glo "is_web") rfl)
  m_names_of := He.glo_ok X G (c.t.d.fact 13 (f := .glo "names_of") rfl)
  m_show_web := He.glo_ok X G (c.t.d.fact 14 (f := .glo "show_web") rfl)
  m_read_number := He.glo_ok X G (c.t.d.fact 15 (f := .glo "read_number") rfl)
  m_read_two := He.glo_ok X G (c.t.d.fact 16 (f := .glo "read_two") rfl)
  m_read_top := He.glo_ok X G (c.t.d.fact 17 (f := .glo "read_top") rfl)
  m_read_place := He.glo_ok X G (c.t.d.fact 18 (f := .glo "read_place") rfl)
  m_read_tie := He.glo_ok X G (c.t.d.fact 19 (f := .glo "read_tie") rfl)
  m_with_row := He.glo_ok X G (c.t.d.fact 20 (f := .glo "with_row") rfl)
  m_read_web := He.glo_ok X G (c.t.d.fact 21 (f := .glo "read_web") rfl)
  m_L_cell := He.glo_ok X G (c.t.d.fact 22 (f := .glo "_law_cell") rfl)
  m_L_numbers := He.glo_ok X G (c.t.d.fact 23 (f := .glo "_law_numbers") rfl)
  m_L_names := He.glo_ok X G (c.t.d.fact 24 (f := .glo "_law_names") rfl)
  m_L_place := He.glo_ok X G (c.t.d.fact 25 (f := .glo "_law_place") rfl)
  m_L_ties := He.glo_ok X G (c.t.d.fact 26 (f := .glo "_law_ties") rfl)
  m_L_web := He.glo_ok X G (c.t.d.fact 27 (f := .glo "_law_web") rfl)
  m_L_chain := He.glo_ok X G (c.t.d.fact 28 (f := .glo "_law_chain") rfl)
  m_L_drawn := He.glo_ok X G (c.t.d.fact 29 (f := .glo "_law_drawn") rfl)
  m_L_web_rows := He.glo_ok X G (c.t.d.fact 30 (f := .glo "_law_web_rows") rfl)
  m_L_tuples := He.glo_ok X G (c.t.d.fact 31 (f := .glo "_law_tuples") rfl)
  m_L_right := He.glo_ok X G (c.t.d.fact 32 (f := .glo "_law_right") rfl)
  m_law := He.glo_ok X G (c.t.d.fact 33 (f := .glo "law") rfl)
  f_ValueError := He.free_ok X G (c.t.d.fact 34 (f := .free "ValueError") rfl)
  f_abs := He.free_ok X G (c.t.d.fact 35 (f := .free "abs") rfl)
  f_all := He.free_ok X G (c.t.d.fact 36 (f := .free "all") rfl)
  f_bool := He.free_ok X G (c.t.d.fact 37 (f := .free "bool") rfl)
  f_enumerate := He.free_ok X G (c.t.d.fact 38 (f := .free "enumerate") rfl)
  f_int := He.free_ok X G (c.t.d.fact 39 (f := .free "int") rfl)
  f_isinstance := He.free_ok X G (c.t.d.fact 40 (f := .free "isinstance") rfl)
  f_len := He.free_ok X G (c.t.d.fact 41 (f := .free "len") rfl)
  f_list := He.free_ok X G (c.t.d.fact 42 (f := .free "list") rfl)
  f_max := He.free_ok X G (c.t.d.fact 43 (f := .free "max") rfl)
  f_range := He.free_ok X G (c.t.d.fact 44 (f := .free "range") rfl)
  f_sorted := He.free_ok X G (c.t.d.fact 45 (f := .free "sorted") rfl)
  f_str := He.free_ok X G (c.t.d.fact 46 (f := .free "str") rfl)
  f_super := He.free_ok X G (c.t.d.fact 47 (f := .free "super") rfl)
  f_tuple := He.free_ok X G (c.t.d.fact 48 (f := .free "tuple") rfl)
  f_zip := He.free_ok X G (c.t.d.fact 49 (f := .free "zip") rfl)
  c_LETTERS := He.str_ok X G (c.t.d.fact 50 (f := .str "LETTERS" "abcdefghijklmnopqrstuvwxyz") rfl)
  c_FIGURES := He.str_ok X G (c.t.d.fact 51 (f := .str "FIGURES" "0123456789") rfl)
  c_MOST_FIGURES := He.int_ok X G (c.t.d.fact 52 (f := .int "MOST_FIGURES" 3) rfl)
  k_StairError := He.keep_ok (c.t.d.fact 53 (f := .keep "StairError") rfl)
  k_NoText := He.keep_ok (c.t.d.fact 54 (f := .keep "NoText") rfl)
  D_is_whole := let ⟨fd, F⟩ := c.t.d.def_ 0 (d := d_is_whole) rfl; ⟨fd, F, He.glo_ok X G (c.t.d.fact 2 (f := .glo "is_whole") rfl)⟩
  D_is_between := let ⟨fd, F⟩ := c.t.d.def_ 1 (d := d_is_between) rfl; ⟨fd, F, He.glo_ok X G (c.t.d.fact 3 (f := .glo "is_between") rfl)⟩
  D_is_row := let ⟨fd, F⟩ := c.t.d.def_ 2 (d := d_is_row) rfl; ⟨fd, F, He.glo_ok X G (c.t.d.fact 4 (f := .glo "is_row") rfl)⟩
  D_is_name := let ⟨fd, F⟩ := c.t.d.def_ 3 (d := d_is_name) rfl; ⟨fd, F, He.glo_ok X G (c.t.d.fact 5 (f := .glo "is_name") rfl)⟩
  D_is_rising := let ⟨fd, F⟩ := c.t.d.def_ 4 (d := d_is_rising) rfl; ⟨fd, F, He.glo_ok X G (c.t.d.fact 6 (f := .glo "is_rising") rfl)⟩
  D_is_top := let ⟨fd, F⟩ := c.t.d.def_ 5 (d := d_is_top) rfl; ⟨fd, F, He.glo_ok X G (c.t.d.fact 7 (f := .glo "is_top") rfl)⟩
  D_is_place := let ⟨fd, F⟩ := c.t.d.def_ 6 (d := d_is_place) rfl; ⟨fd, F, He.glo_ok X G (c.t.d.fact 8 (f := .glo "is_place") rfl)⟩
  D_is_tie := let ⟨fd, F⟩ := c.t.d.def_ 7 (d := d_is_tie) rfl; ⟨fd, F, He.glo_ok X G (c.t.d.fact 9 (f := .glo "is_tie") rfl)⟩
  D_are_places := let ⟨fd, F⟩ := c.t.d.def_ 8 (d := d_are_places) rfl; ⟨fd, F, He.glo_ok X G (c.t.d.fact 10 (f := .glo "are_places") rfl)⟩
  D_are_ties := let ⟨fd, F⟩ := c.t.d.def_ 9 (d := d_are_ties) rfl; ⟨fd, F, He.glo_ok X G (c.t.d.fact 11 (f := .glo "are_ties") rfl)⟩
  D_is_web := let ⟨fd, F⟩ := c.t.d.def_ 10 (d := d_is_web) rfl; ⟨fd, F, He.glo_ok X G (c.t.d.fact 12 (f := .glo "is_web") rfl)⟩
  D_names_of := let ⟨fd, F⟩ := c.t.d.def_ 11 (d := d_names_of) rfl; ⟨fd, F, He.glo_ok X G (c.t.d.fact 13 (f := .glo "names_of") rfl)⟩
  D_show_web := let ⟨fd, F⟩ := c.t.d.def_ 12 (d := d_show_web) rfl; ⟨fd, F, He.glo_ok X G (c.t.d.fact 14 (f := .glo "show_web") rfl)⟩
  D_read_number := let ⟨fd, F⟩ := c.t.d.def_ 13 (d := d_read_number) rfl; ⟨fd, F, He.glo_ok X G (c.t.d.fact 15 (f := .glo "read_number") rfl)⟩
  D_read_two := let ⟨fd, F⟩ := c.t.d.def_ 14 (d := d_read_two) rfl; ⟨fd, F, He.glo_ok X G (c.t.d.fact 16 (f := .glo "read_two") rfl)⟩
  D_read_top := let ⟨fd, F⟩ := c.t.d.def_ 15 (d := d_read_top) rfl; ⟨fd, F, He.glo_ok X G (c.t.d.fact 17 (f := .glo "read_top") rfl)⟩
  D_read_place := let ⟨fd, F⟩ := c.t.d.def_ 16 (d := d_read_place) rfl; ⟨fd, F, He.glo_ok X G (c.t.d.fact 18 (f := .glo "read_place") rfl)⟩
  D_read_tie := let ⟨fd, F⟩ := c.t.d.def_ 17 (d := d_read_tie) rfl; ⟨fd, F, He.glo_ok X G (c.t.d.fact 19 (f := .glo "read_tie") rfl)⟩
  D_with_row := let ⟨fd, F⟩ := c.t.d.def_ 18 (d := d_with_row) rfl; ⟨fd, F, He.glo_ok X G (c.t.d.fact 20 (f := .glo "with_row") rfl)⟩
  D_read_web := let ⟨fd, F⟩ := c.t.d.def_ 19 (d := d_read_web) rfl; ⟨fd, F, He.glo_ok X G (c.t.d.fact 21 (f := .glo "read_web") rfl)⟩
  D_L_cell := let ⟨fd, F⟩ := c.t.d.def_ 20 (d := d_L_cell) rfl; ⟨fd, F, He.glo_ok X G (c.t.d.fact 22 (f := .glo "_law_cell") rfl)⟩
  D_L_numbers := let ⟨fd, F⟩ := c.t.d.def_ 21 (d := d_L_numbers) rfl; ⟨fd, F, He.glo_ok X G (c.t.d.fact 23 (f := .glo "_law_numbers") rfl)⟩
  D_L_names := let ⟨fd, F⟩ := c.t.d.def_ 22 (d := d_L_names) rfl; ⟨fd, F, He.glo_ok X G (c.t.d.fact 24 (f := .glo "_law_names") rfl)⟩
  D_L_place := let ⟨fd, F⟩ := c.t.d.def_ 23 (d := d_L_place) rfl; ⟨fd, F, He.glo_ok X G (c.t.d.fact 25 (f := .glo "_law_place") rfl)⟩
  D_L_ties := let ⟨fd, F⟩ := c.t.d.def_ 24 (d := d_L_ties) rfl; ⟨fd, F, He.glo_ok X G (c.t.d.fact 26 (f := .glo "_law_ties") rfl)⟩
  D_L_web := let ⟨fd, F⟩ := c.t.d.def_ 25 (d := d_L_web) rfl; ⟨fd, F, He.glo_ok X G (c.t.d.fact 27 (f := .glo "_law_web") rfl)⟩
  D_L_chain := let ⟨fd, F⟩ := c.t.d.def_ 26 (d := d_L_chain) rfl; ⟨fd, F, He.glo_ok X G (c.t.d.fact 28 (f := .glo "_law_chain") rfl)⟩
  D_L_drawn := let ⟨fd, F⟩ := c.t.d.def_ 27 (d := d_L_drawn) rfl; ⟨fd, F, He.glo_ok X G (c.t.d.fact 29 (f := .glo "_law_drawn") rfl)⟩
  D_L_web_rows := let ⟨fd, F⟩ := c.t.d.def_ 28 (d := d_L_web_rows) rfl; ⟨fd, F, He.glo_ok X G (c.t.d.fact 30 (f := .glo "_law_web_rows") rfl)⟩
  D_L_tuples := let ⟨fd, F⟩ := c.t.d.def_ 29 (d := d_L_tuples) rfl; ⟨fd, F, He.glo_ok X G (c.t.d.fact 31 (f := .glo "_law_tuples") rfl)⟩
  D_L_right := let ⟨fd, F⟩ := c.t.d.def_ 30 (d := d_L_right) rfl; ⟨fd, F, He.glo_ok X G (c.t.d.fact 32 (f := .glo "_law_right") rfl)⟩
  D_law := let ⟨fd, F⟩ := c.t.d.def_ 31 (d := d_law) rfl; ⟨fd, F, He.glo_ok X G (c.t.d.fact 33 (f := .glo "law") rfl)⟩
end K04
namespace K04
open PySem PySem.Spec PyProof.Rows L2 LB PM
theorem tf_mem {x : Str} (h : x ∈ gens) : (x, none) ∈ tf := List.mem_map_of_mem (f := fun x : Str => ((x, none) : He.Defn)) h
theorem law_at {w : World} {K : PySem.W.Frag} {h : Heap} {mg : Str → Option Value} {f : Addr} (X : K.In h) (G : h.Ns mainGlobals mg) (hfa : mg ("law" : Str) = some (.ref f)) (c : He.SaysX fa fn [] tf ex w h K) :
    LamX.LawAtS PySem.Challenge.rw_cutstairs_k04_webs_as_texts w K (L2.CX (PySem.Challenge.rw_cutstairs_k04_webs_as_texts).prog w) 11 63 "_law_script" mg f h := by
  have T := txt_of X G c
  have Y := ext_of c.more
  obtain ⟨fd, F, hm⟩ := T.D_law
  have e := hfa.symm.trans hm
  cases e
  have b := FunD.bindsA (ps := ["_law_script"]) F fun _ _ _ _ _ _ us hl => match us, hl with | [_], _ => rfl
  refine ⟨fd, tf.map (He.cT K), spM K (tabs K) M_law, fun p hp => ?_, fun p hp => ?_, fun p hp => ?_, fun s u => b s [u] rfl, fun H a ns hn _ hT hS => ?_, fun base _ _ TB => ?_⟩
  · obtain ⟨q, hq, rfl⟩ := List.mem_map.mp hp
    exact c.empty q hq
  · obtain ⟨q, hq, rfl⟩ := List.mem_map.mp hp
    exact c.out q hq
  · obtain ⟨q, hq, rfl⟩ := List.mem_map.mp hp
    exact PySem.W.codeHd_of_K X (c.hd q hq)
  · have t : LamX.Tabs (tabs K) H := fun p hp => by
      obtain ⟨x, hx, rfl⟩ := List.mem_map.mp hp
      exact LamX.TabS.nil (hT _ (List.mem_map.mpr ⟨(x, none), tf_mem hx, rfl⟩))
    obtain ⟨P, rfl, hs⟩ := start_pr t hS
    refine ⟨P, [.list (ns.map .int)], .bool true, rfl, .cons (.lst hs (rp_ints ns)) .nil, law_ok ns hn, fun v P' _ r => ?_⟩
    cases r
    rfl
  · obtain ⟨oc, od, dV, kV, doc, pm, an, cdv, ct, osl, rfl, lk, _⟩ := F.ex
    exact (all_ok T Y fun x hx => TB _ (List.mem_map.mpr ⟨(x, none), tf_mem hx, rfl⟩)).at hm lk
end K04
open PySem PySem.W PySem.Calls PyProof.Rows
theorem PySem.Challenge.cw_cutstairs_k04_webs_as_texts_holds : PySem.Challenge.rw_cutstairs_k04_webs_as_texts.Holds := by
  w_on; o_law
  refine HandSHeadRun.head_any (r := OpenLaw.row PySem.Challenge.rw_cutstairs_k04_webs_as_texts) (q := view (OpenLaw.row PySem.Challenge.rw_cutstairs_k04_webs_as_texts).prog [41]) (H := K04.hk) (ob := K04.ob) (M := 20000) (loose := K04.loose) (d := HandSHeadRun.topDef (OpenLaw.row PySem.Challenge.rw_cutstairs_k04_webs_as_texts).prog 41) (kwd := []) K04.ob_eq
    (by kernel_rfl) (fun s => by kernel_rfl) K04.run (by kernel_rfl) (by kernel_rfl) (by kernel_rfl) (by rfl) (by first | assumption | decide +kernel) (by decide +kernel) ⟨rfl, rfl, rfl, rfl, rfl, by decide +kernel⟩ ?hw ?hc
  case hw => w_witness2
  case hc =>
    refine LamX.walk_ofTsE (l := PySem.Challenge.rw_cutstairs_k04_webs_as_texts) (n := 63) (k := 11) (x := "_law_script") (CX := fun w => L2.CX (PySem.Challenge.rw_cutstairs_k04_webs_as_texts).prog w) rfl (by decide) (by kernel_rfl) ⟨rfl, by decide, by decide⟩ ?F (fun _ _ _ _ _ z => ?z)
    case z =>
      obtain ⟨_, _, _, _, _, _, _, _, _, _, _, _, z⟩ := z
      exact z
    case F =>
      intro w mg fa h Y G hmg0
      obtain ⟨K, KX, c⟩ := Y
      have hmg : mg ("law" : PySem.Str) = some (.ref fa) := by
        have e : (HandSHeadRun.topDef (OpenLaw.row PySem.Challenge.rw_cutstairs_k04_webs_as_texts).prog 41).name = ("law" : PySem.Str) := by kernel_rfl
        rw [← e]
        exact hmg0
      exact ⟨K, KX, K04.law_at KX G hmg c⟩
