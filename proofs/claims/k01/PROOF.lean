import PyProof.Rows.All
import Wide.All
import OpenK.AllK
import Wide.FinOn
import PyProof.EqAt
import PyProof.EqKinds
import PyProof.TupleCall
import KE.KLam
import KE.KStateDown
import HandS.ForMost
import HandS.Exc
import HandS.TryOnly
import HandS.ExcOwn
import HandS.WordsExc
import HandS.Codes
import HandS.Lambda
import HandS.EndTab
import HandS.IsInst
import HandS.ExcIs
import HandS.Wide
import HandS.Flow
import HandS.Style
import HandS.Defaults
import HandS.HeadHook4
import HandS.HeadWalk
import HandS.Base
import HandS.Call
import HandS.Ends
import HandS.More
import HandS.Words
import HandS.Head0
import HandS.Head1
import HandS.Head2
import HandS.HeadEnd
import HandS.HeadHook1
import HandS.HeadHook2
import HandS.HeadHook3
import PySem.Challenge.RW_cutstairs_k01_fractions_reckoned
set_option Elab.async false
set_option linter.all false
set_option maxRecDepth 100000
set_option maxHeartbeats 4000000
set_option maxHeartbeats 4000000
/-! ### general words of my own -/
namespace LB
open PySem PySem.Spec PyProof.Rows L2
/-- // by any divisor but 0, below 2 ^ 9000 in size -/
def CDivG (_ j : Int) : Prop := j ≠ 0 ∧ j.natAbs.log2 < 9000
theorem op_fdivG {X : Cx} : OpR X (binaryOp .FloorDiv) (rI CDivG fun i j => .int (i.fdiv j)) := opI fun i j _ _ _ _ _ hc q => floordiv_int hc.1 q (.inl (PyProof.noPylong_of_log2 hc.2))
theorem divG {i j : Int} {b : Nat} (h : j ≠ 0) (hb : j.natAbs < 2 ^ b) (h0 : 0 < b) (h9 : b ≤ 9000) : CDivG i j := ⟨h, Nat.lt_of_lt_of_le (PySem.Flt.log2_lt_of h0 hb) h9⟩
/-! ### defs by name -/
/-- the module's name x is a def that keeps sp -/
structure OwnFn (P : Program) (w : World) (K : PySem.W.Frag) (mg : Str → Option Value) (base : Heap) (k : Nat) (x : Str) (ps : List Str) (sp : Sp) : Prop where
  fn : ∃ (f : Addr) (fd : FuncData), FnOk P w K mg base (L2.CX P w) k f fd ps sp ∧ mg x = some (.ref f) ∧ PySem.W.keepIn K (.ref f) = true ∧ Binds K fd ps [] ∧ ∃ oc od osl, K.lookup f = some ⟨oc, od, .func fd, osl⟩
theorem pe_own {X : Cx} {k j : Nat} {x : Str} {ps : List Str} {sp : Sp} {E : XK} {e : Expr} {es : List Expr} {t : TA} {p pos : Pos} (F : OwnFn X.prog X.w X.K X.mg X.base k x ps sp) (hr : Room j X.A) (hx : Passes (L2.CX X.prog X.w) X E) (ha : PA X (e :: es) t)
    (hk : k ≤ j := by decide) (hg : Gl X x := by rfl) (hdb : (x == ("__debug__" : Str)) = false := by decide) (he : starEach (e :: es) X.env = (false, eval e X.env) :: starEach es X.env := by rfl) (hpl : (backTo pos (starEach es X.env)).any (·.1) = false := by rfl) :
    PE X (.Call (.Name x p) (e :: es) [] pos) (tCall sp [] E t) := by
  obtain ⟨f, fd, G, hm, kp, b, _⟩ := F.fn
  exact pe_call G (hr.mono hk) hg hm kp b .nil hx ha hdb he hpl
/-- a def of the text, behind the top -/
def Df (K : PySem.W.Frag) (mg : Str → Option Value) (x : Str) (st : Stmt) : Prop := ∃ fd, FunD K x x (defArgs st) (defBody st) (defScope st) [] [] (He.ga K x) fd ∧ mg x = some (.ref (He.ga K x))
theorem own_ok {P : Program} {w : World} {K : PySem.W.Frag} {mg : Str → Option Value} {base : Heap} {x : Str} {st : Stmt} {N ps : List Str} {k : Nat} {sp : Sp} (F : Df K mg x st) (S : FnScope N ps (defScope st))
    (hb : ∀ (kV doc pm : Value) (an : Option Addr) (cdv ct : Value) (us : List Value), us.length = ps.length → bindArgs (PySem.W.fnOf x x (defArgs st) (defBody st) (defScope st) .none kV doc pm an cdv ct) ⟨us, []⟩ = pure (ps.zip us))
    (len : ∀ vs H Q E, sp vs H Q E → vs.length = ps.length)
    (hbody : ∀ (cdv : Value) (A : Around) (outer : List Env) (s : Shared) (H : Hp) (vs : List V) (Q : VK) (E : XK), Room k (A.deeper (envOfC x (defScope st) s.heap.objs.size (He.ga K x) cdv)) → sp vs H Q E →
      ∃ t, PSs (cxOf (L2.CX P w) P w K mg base N x (defScope st) (He.ga K x) cdv A outer s H E) (defBody st) t ∧ t { nx := fun _ H' => Q .non H', rt := Q } (start N vs) H) : OwnFn P w K mg base (k + 1) x ps sp := by
  obtain ⟨fd, F, hm⟩ := F
  refine ⟨He.ga K x, fd, F.ok S len hbody, hm, F.kp, F.bindsN hb, ?_⟩
  obtain ⟨oc, od, dV, kV, doc, pm, an, cdv, ct, osl, rfl, lk, _⟩ := F.ex
  exact ⟨oc, od, osl, lk⟩
/-- the promise of the function object that stands at x -/
theorem OwnFn.at {P : Program} {w : World} {K : PySem.W.Frag} {mg : Str → Option Value} {base : Heap} {k : Nat} {x : Str} {ps : List Str} {sp : Sp} {f : Addr} {fd : FuncData} {oc : Value} {od : Option Addr} {osl : Array (Option Value)} (F : OwnFn P w K mg base k x ps sp)
    (hm : mg x = some (.ref f)) (lk : K.lookup f = some ⟨oc, od, .func fd, osl⟩) : FnOk P w K mg base (L2.CX P w) k f fd ps sp := by
  obtain ⟨f', fd', G, hm', _, _, oc', od', osl', lk'⟩ := F.fn
  rw [hm] at hm'
  cases hm'
  rw [lk] at lk'
  cases lk'
  exact G
/-- what is raised goes on to the caller -/
theorem passE {P : Program} {w : World} {K : PySem.W.Frag} {mg : Str → Option Value} {base : Heap} {N : List Str} {q : Str} {sc : Scope} {f : Addr} {cd : Value} {A : Around} {outer : List Env} {s : Shared} {H : Hp} {E : XK} :
    Passes (L2.CX P w) (cxOf (L2.CX P w) P w K mg base N q sc f cd A outer s H E) E := passes_call (takes_of rfl rfl rfl rfl) fun _ _ _ _ h => h
/-! ### data of any kind -/
mutual
inductive Rp (K : PySem.W.Frag) (H : Hp) : V → PyData → Prop
  | non : Rp K H .non .none
  | bl (b : Bool) : Rp K H (.bl b) (.bool b)
  | int (i : Int) : Rp K H (.int i) (.int i)
  | str (x : Str) : Rp K H (.str x) (.str x)
  | lst {a : Addr} {xs : List V} {ds : List PyData} : SqL K H a xs → RpAll K H xs ds → Rp K H (.ref a) (.list ds)
  | tup {a : Addr} {xs : List V} {ds : List PyData} : SqT K H a xs → RpAll K H xs ds → Rp K H (.ref a) (.tuple ds)
  | dct {a : Addr} {kvs : List (Key × V)} {ds : List (PyData × PyData)} : H a = some (.dK kvs) → Rp K H (.ref a) (.dict ds)
inductive RpAll (K : PySem.W.Frag) (H : Hp) : List V → List PyData → Prop
  | nil : RpAll K H [] []
  | cons {v : V} {vs : List V} {d : PyData} {ds : List PyData} : Rp K H v d → RpAll K H vs ds → RpAll K H (v :: vs) (d :: ds)
end
/-- the name of a datum's class -/
def tyN : PyData → String
  | .none => "NoneType"
  | .bool _ => "bool"
  | .int _ => "int"
  | .str _ => "str"
  | .list _ => "list"
  | .tuple _ => "tuple"
  | .dict _ => "dict"
theorem sqL_ty {K : PySem.W.Frag} {H : Hp} {a : Addr} {xs : List V} (h : SqL K H a xs) : TyX K H (.ref a) (.type "list") := by
  rcases h with (h | ⟨o, h⟩) | ⟨o, its, n, hk, hc, _⟩
  · exact .base (.lst h)
  · exact .base (.frz h)
  · exact .kList hk hc
theorem sqT_ty {K : PySem.W.Frag} {H : Hp} {a : Addr} {xs : List V} (h : SqT K H a xs) : TyX K H (.ref a) (.type "tuple") := by
  rcases h with (h | ⟨o, h⟩) | ⟨o, its, n, hk, hc, _⟩
  · exact .base (.tup h)
  · exact .fTuple h
  · exact .kTuple hk hc
theorem Rp.ty {K : PySem.W.Frag} {H : Hp} {v : V} {d : PyData} (h : Rp K H v d) : TyX K H v (.type (tyN d)) := by
  cases h with
  | non => exact .base .non
  | bl b => exact .base (.bl b)
  | int i => exact .base (.int i)
  | str x => exact .base (.str x)
  | lst h _ => exact sqL_ty h
  | tup h _ => exact sqT_ty h
  | dct h => exact .base (.dK h)
/-- H' holds what H held, but tables -/
abbrev Ex (H H' : Hp) : Prop := LamX.ExtN H H'
theorem ex_refl (H : Hp) : Ex H H := LamX.ExtN.refl H
theorem ex_new {H : Hp} {p : Addr} {o : HO} (h : H p = none) : Ex H (upd H p o) := fun b u e _ => by
  rw [upd_ne (ne_of_none e h)]
  exact e
theorem ex_rd {H H' : Hp} {a : Addr} {u : HO} (e : Ex H H') (h : Rd H a u) (hu : ∀ ps, u ≠ .tbl ps) : Rd H' a u := by
  rcases h with h | ⟨o, h⟩
  · exact Or.inl (e a _ h hu)
  · exact Or.inr ⟨o, e a _ h fun _ z => nomatch z⟩
theorem ex_l {K : PySem.W.Frag} {H H' : Hp} {a : Addr} {xs : List V} (e : Ex H H') (h : SqL K H a xs) : SqL K H' a xs := by
  rcases h with h | h
  · exact Or.inl (ex_rd e h fun _ z => nomatch z)
  · exact Or.inr h
theorem ex_t {K : PySem.W.Frag} {H H' : Hp} {a : Addr} {xs : List V} (e : Ex H H') (h : SqT K H a xs) : SqT K H' a xs := by
  rcases h with h | h
  · exact Or.inl (ex_rd e h fun _ z => nomatch z)
  · exact Or.inr h
mutual
theorem Rp.ext {K : PySem.W.Frag} {H H' : Hp} (e : Ex H H') : ∀ {v : V} {d : PyData}, Rp K H v d → Rp K H' v d
  | _, _, .non => .non
  | _, _, .bl b => .bl b
  | _, _, .int i => .int i
  | _, _, .str x => .str x
  | _, _, .lst h r => .lst (ex_l e h) (RpAll.ext e r)
  | _, _, .tup h r => .tup (ex_t e h) (RpAll.ext e r)
  | _, _, .dct h => .dct (e _ _ h fun _ z => nomatch z)
theorem RpAll.ext {K : PySem.W.Frag} {H H' : Hp} (e : Ex H H') : ∀ {vs : List V} {ds : List PyData}, RpAll K H vs ds → RpAll K H' vs ds
  | _, _, .nil => .nil
  | _, _, .cons h r => .cons (Rp.ext e h) (RpAll.ext e r)
end
theorem RpAll.length {K : PySem.W.Frag} {H : Hp} : ∀ {vs : List V} {ds : List PyData}, RpAll K H vs ds → vs.length = ds.length
  | _, _, .nil => rfl
  | _, _, .cons _ r => congrArg Nat.succ (RpAll.length r)
theorem RpAll.get {K : PySem.W.Frag} {H : Hp} : ∀ {vs : List V} {ds : List PyData} {i : Nat} {v : V}, RpAll K H vs ds → vs[i]? = some v → ∃ d, ds[i]? = some d ∧ Rp K H v d
  | _, _, _, _, .nil, e => by simp at e
  | _, _, 0, _, .cons h _, e => by
    have e' := Option.some.inj e
    subst e'
    exact ⟨_, rfl, h⟩
  | _, _, i + 1, v, .cons _ r, e => by
    obtain ⟨d, h1, h2⟩ := RpAll.get (i := i) (v := v) r e
    exact ⟨d, h1, h2⟩
/-! ### a caught error of an own class: isinstance with a tuple of classes -/
def rIsET (K : PySem.W.Frag) (D a : Addr) : List V → Hp → VK → Prop := fun xs H Q => ∃ (tp : Addr) (cs : List V) (us : List Value) (b : Bool), xs = [.ref a, .ref tp] ∧ H tp = some (.tup cs) ∧ Paired ClsV cs us ∧ PySem.W.kitAny K (.ref D) us = some b ∧ Q (.bl b) H
theorem call_isET {X : Cx} {a D : Addr} {oe : Obj} {pn : List (Addr × Obj)} (C : ExcC X.K D) (hz : Zc (.ref D) none oe) (hf : ∃ vs, oe.data = .fields vs) : CallR (X.suite a ((a, oe) :: pn)) (.builtin "isinstance") (rIsET X.K D a) := by
  intro pins s σ H xs us Q I r h
  obtain ⟨tp, cs, ws, b, rfl, hT, k, e, q⟩ := h
  obtain ⟨u1, u2, rfl, r1, r2⟩ := vals2 r
  cases (show u2 = Value.ref tp from r2)
  cases (show u1 = Value.ref a from r1)
  obtain ⟨hget, _⟩ := I.pin (a, oe) (List.mem_append.mpr (.inl List.mem_cons_self))
  obtain ⟨vs, hv⟩ := hf
  have J : PySem.W.InstAt s.heap a oe D none := by
    obtain ⟨oc, od, oda, osl⟩ := oe
    obtain ⟨h1, h2⟩ := hz
    dsimp only at h1 h2 hv
    subst h1 h2 hv
    exact ⟨hget, rfl, rfl, trivial⟩
  obtain ⟨_, its, rv, o, h1, h2, n, h3⟩ := (show ObjOk X.prog X.w H s.heap tp (.tup cs) from I.hok tp _ hT)
  have e3 := ClsV.all k rv
  subst e3
  obtain ⟨oc, od, dt, sl⟩ := o
  simp only at h2 h3
  subst h2 h3
  exact PySem.W.kia_tup (PySem.W.handS_kitx_exc C.hg C.hk C.hs C.hd C.ha C.hn C.ht C.hm) I.kIn J h1 e (fun z => nomatch z) fun tk => ⟨.bl b, H, I.kept (t' := tk) fun _ _ z => z, rfl, q⟩
/-- the class facts, checked in the top's run -/
def excCB (K : PySem.W.Frag) (D : Addr) : Bool :=
  He.eqO (PySem.W.findIn K (.ref D) "__getattribute__") (some (some (.builtin "BaseException.__getattribute__"))) && (He.eqO (PySem.W.findIn K (.ref D) "__getattr__") (some none) &&
  (decide (PySem.W.subIn K (.ref D) (.type "BaseException") = some true) && (PySem.W.hasDictIn K D && (He.eqO (PySem.W.findIn K (.ref D) "__class__") (some (some (.builtin "object.__class__"))) &&
  (He.eqO (PySem.W.specialIn K (.builtin "object.__class__") "__get__") (some (some (.builtin "getset_descriptor.__get__"))) && (decide (PySem.W.takesIn K (.builtin "object.__class__") = some true) && decide (PySem.W.mroIn K D (.type "object") = some true)))))))
theorem excCB_ok {K : PySem.W.Frag} {D : Addr} (h : excCB K D = true) : ExcC K D := by
  obtain ⟨h1, h⟩ := He.ba h
  obtain ⟨h2, h⟩ := He.ba h
  obtain ⟨h3, h⟩ := He.ba h
  obtain ⟨h4, h⟩ := He.ba h
  obtain ⟨h5, h⟩ := He.ba h
  obtain ⟨h6, h⟩ := He.ba h
  obtain ⟨h7, h8⟩ := He.ba h
  exact ⟨He.eqO_ok h1, He.eqO_ok h2, of_decide_eq_true h3, h4, He.eqO_ok h5, He.eqO_ok h6, of_decide_eq_true h7, of_decide_eq_true h8⟩
def refs (K : PySem.W.Frag) (l : List Str) : List Value := l.map fun x => .ref (He.ga K x)
theorem refs_cls (K : PySem.W.Frag) : ∀ l : List Str, Paired ClsV (l.map fun x => V.ref (He.ga K x)) (refs K l)
  | [] => .nil
  | _ :: l => .cons (.own _) (refs_cls K l)
end LB

namespace LB
open PySem PySem.Spec PyProof.Rows L2
/-! ### heaps that grow: what is no table stays, the tables T stay told -/
def Gw (T : List (Addr × Str)) (H H' : Hp) : Prop := Ex H H' ∧ (LamX.Tabs T H → LamX.Tabs T H')
theorem Gw.refl (T : List (Addr × Str)) (H : Hp) : Gw T H H := ⟨ex_refl H, id⟩
theorem Gw.trans {T : List (Addr × Str)} {H H1 H2 : Hp} (a : Gw T H H1) (b : Gw T H1 H2) : Gw T H H2 := ⟨a.1.trans b.1, fun t => b.2 (a.2 t)⟩
theorem gw_same {T : List (Addr × Str)} {H H' : Hp} (s : Same H H') : Gw T H H' := ⟨fun b o e _ => s b o e, fun t => t.ext s⟩
theorem same_new {H : Hp} {p : Addr} {o : HO} (h : H p = none) : Same H (upd H p o) := fun b u e => by
  rw [upd_ne (ne_of_none e h)]
  exact e
theorem gw_new {T : List (Addr × Str)} {H : Hp} {p : Addr} {o : HO} (h : H p = none) : Gw T H (upd H p o) := gw_same (same_new h)
theorem Gw.lst {T : List (Addr × Str)} {H H' : Hp} (g : Gw T H H') {p : Addr} {xs : List V} (h : H p = some (.lst xs)) : H' p = some (.lst xs) := g.1 _ _ h fun _ z => nomatch z
theorem Gw.tup {T : List (Addr × Str)} {H H' : Hp} (g : Gw T H H') {p : Addr} {xs : List V} (h : H p = some (.tup xs)) : H' p = some (.tup xs) := g.1 _ _ h fun _ z => nomatch z
theorem Gw.l {T : List (Addr × Str)} {K : PySem.W.Frag} {H H' : Hp} {a : Addr} {xs : List V} (g : Gw T H H') (h : SqL K H a xs) : SqL K H' a xs := ex_l g.1 h
theorem Gw.t {T : List (Addr × Str)} {K : PySem.W.Frag} {H H' : Hp} {a : Addr} {xs : List V} (g : Gw T H H') (h : SqT K H a xs) : SqT K H' a xs := ex_t g.1 h
theorem Gw.rp {T : List (Addr × Str)} {K : PySem.W.Frag} {H H' : Hp} {v : V} {d : PyData} (g : Gw T H H') (h : Rp K H v d) : Rp K H' v d := h.ext g.1
theorem Gw.rpAll {T : List (Addr × Str)} {K : PySem.W.Frag} {H H' : Hp} {v : List V} {d : List PyData} (g : Gw T H H') (h : RpAll K H v d) : RpAll K H' v d := h.ext g.1
/-! ### readings that give data -/
section
variable (K : PySem.W.Frag) (T : List (Addr × Str))
def Gv (te : TE) (σ : L2.St) (H : Hp) (d : PyData) : Prop := ∀ H1, Gw T H H1 → ∀ Q : VK, (∀ v H2, Gw T H1 H2 → Rp K H2 v d → Q v H2) → te σ H1 Q
def GvA (ta : TA) (σ : L2.St) (H : Hp) (ds : List PyData) : Prop := ∀ H1, Gw T H H1 → ∀ Q : List V → Hp → Prop, (∀ vs H2, Gw T H1 H2 → RpAll K H2 vs ds → Q vs H2) → ta σ H1 Q
/-- a new list of data -/
def GvL (te : TE) (σ : L2.St) (H : Hp) (ds : List PyData) : Prop := ∀ H1, Gw T H H1 → ∀ Q : VK, (∀ p xs H2, Gw T H1 H2 → H2 p = some (.lst xs) → RpAll K H2 xs ds → Q (.ref p) H2) → te σ H1 Q
end
section
variable {K : PySem.W.Frag} {T : List (Addr × Str)} {σ : L2.St} {H : Hp} {te ta tb : TE} {d : PyData} {ds : List PyData}
theorem gv_int {i : Int} : Gv K T (tC (.int i)) σ H (.int i) := fun H1 _ _ q => q _ H1 (Gw.refl T H1) (.int i)
theorem gv_str {x : Str} : Gv K T (tC (.str x)) σ H (.str x) := fun H1 _ _ q => q _ H1 (Gw.refl T H1) (.str x)
theorem gv_bl {b : Bool} : Gv K T (tC (.bl b)) σ H (.bool b) := fun H1 _ _ q => q _ H1 (Gw.refl T H1) (.bl b)
theorem gv_non : Gv K T (tC .non) σ H .none := fun H1 _ _ q => q _ H1 (Gw.refl T H1) .non
theorem gv_var {i : Nat} {v : V} (h : σ[i]? = some (some v)) (r : Rp K H v d) : Gv K T (tVar i) σ H d := fun H1 g _ q => ⟨v, h, q v H1 (Gw.refl T H1) (g.rp r)⟩
theorem gva_nil : GvA K T tNil σ H [] := fun H1 _ _ q => q [] H1 (Gw.refl T H1) .nil
theorem gva_cons {tr : TA} (h : Gv K T te σ H d) (hr : GvA K T tr σ H ds) : GvA K T (tCons te tr) σ H (d :: ds) := fun H1 g Q q =>
  h H1 g _ fun v H2 g2 r2 => hr H2 (g.trans g2) _ fun vs H3 g3 r3 => q (v :: vs) H3 (g2.trans g3) (.cons (g3.rp r2) r3)
theorem gv_tup {tr : TA} (h : GvA K T tr σ H ds) (hl : ds.length ≤ 100000) : Gv K T (tTup tr) σ H (.tuple ds) := fun H1 g Q q =>
  h H1 g _ fun vs H2 g2 r2 => ⟨Nat.le_trans (by rw [r2.length]; exact hl) (by decide), fun p hp => q _ _ (g2.trans (gw_new hp)) (.tup (SqT.of upd_same) ((gw_new (T := T) hp).rpAll r2))⟩
theorem gv_lst {tr : TA} (h : GvA K T tr σ H ds) (hl : ds.length ≤ 100000) : Gv K T (tLst tr) σ H (.list ds) := fun H1 g Q q =>
  h H1 g _ fun vs H2 g2 r2 => ⟨Nat.le_trans (by rw [r2.length]; exact hl) (by decide), fun p hp => q _ _ (g2.trans (gw_new hp)) (.lst (SqL.of upd_same) ((gw_new (T := T) hp).rpAll r2))⟩
theorem gv_opI {C : Int → Int → Prop} {g : Int → Int → Int} {i j : Int} (ha : Gv K T ta σ H (.int i)) (hb : Gv K T tb σ H (.int j)) (hc : C i j) : Gv K T (tOp (rI C fun i j => .int (g i j)) ta tb) σ H (.int (g i j)) := fun H1 e Q q =>
  ha H1 e _ fun v H2 e2 r2 => hb H2 (e.trans e2) _ fun u H3 e3 r3 => by
    cases r2
    cases r3
    exact ⟨i, j, rfl, rfl, hc, q _ H3 (e2.trans e3) (.int _)⟩
theorem gv_opI0 {g : Int → Int → Int} {i j : Int} (ha : Gv K T ta σ H (.int i)) (hb : Gv K T tb σ H (.int j)) : Gv K T (tOp (rI0 fun i j => .int (g i j)) ta tb) σ H (.int (g i j)) := fun H1 e Q q =>
  ha H1 e _ fun v H2 e2 r2 => hb H2 (e.trans e2) _ fun u H3 e3 r3 => by
    cases r2
    cases r3
    exact ⟨i, j, rfl, rfl, q _ H3 (e2.trans e3) (.int _)⟩
theorem gv_cmpI0 {g : Int → Int → Bool} {i j : Int} (ha : Gv K T ta σ H (.int i)) (hb : Gv K T tb σ H (.int j)) : Gv K T (tOp (rI0 fun i j => .bl (g i j)) ta tb) σ H (.bool (g i j)) := fun H1 e Q q =>
  ha H1 e _ fun v H2 e2 r2 => hb H2 (e.trans e2) _ fun u H3 e3 r3 => by
    cases r2
    cases r3
    exact ⟨i, j, rfl, rfl, q _ H3 (e2.trans e3) (.bl _)⟩
theorem gv_neg {i : Int} (ha : Gv K T ta σ H (.int i)) : Gv K T (tUn (rU fun i => .int (-i)) ta) σ H (.int (-i)) := fun H1 e Q q =>
  ha H1 e _ fun v H2 e2 r2 => by
    cases r2
    exact ⟨i, rfl, q _ H2 e2 (.int _)⟩
theorem rpAll_at {xs : List V} (r : RpAll K H xs ds) {i : Int} (h : atI ds i = some d) : ∃ v, atI xs i = some v ∧ Rp K H v d := by
  have hl := r.length
  unfold atI at h ⊢
  rw [hl]
  cases e : ixN ds.length i with
  | none =>
    rw [e] at h
    cases h
  | some j =>
    rw [e] at h
    have h' : ds[j]? = some d := h
    have hj : j < xs.length := by
      have := (List.getElem?_eq_some_iff.mp h').1
      omega
    obtain ⟨d', e1, e2⟩ := r.get (List.getElem?_eq_getElem hj)
    rw [h'] at e1
    cases e1
    exact ⟨_, List.getElem?_eq_getElem hj, e2⟩
theorem gv_ixT {i : Int} (ha : Gv K T ta σ H (.tuple ds)) (hb : Gv K T tb σ H (.int i)) (hd : atI ds i = some d) : Gv K T (tOp (rIxT K) ta tb) σ H d := fun H1 e Q q =>
  ha H1 e _ fun v H2 e2 r2 => hb H2 (e.trans e2) _ fun u H3 e3 r3 => by
    cases r3
    cases r2 with
    | tup hs ra =>
      obtain ⟨v, hv, rv⟩ := rpAll_at ra hd
      exact ⟨_, _, i, v, rfl, rfl, e3.t hs, hv, q _ H3 (e2.trans e3) (e3.rp rv)⟩
theorem gv_ixL {i : Int} (ha : Gv K T ta σ H (.list ds)) (hb : Gv K T tb σ H (.int i)) (hd : atI ds i = some d) : Gv K T (tOp (rIxL K) ta tb) σ H d := fun H1 e Q q =>
  ha H1 e _ fun v H2 e2 r2 => hb H2 (e.trans e2) _ fun u H3 e3 r3 => by
    cases r3
    cases r2 with
    | lst hs ra =>
      obtain ⟨v, hv, rv⟩ := rpAll_at ra hd
      exact ⟨_, _, i, v, rfl, rfl, e3.l hs, hv, q _ H3 (e2.trans e3) (e3.rp rv)⟩
theorem gvl_lst {tr : TA} (h : GvA K T tr σ H ds) (hl : ds.length ≤ 100000) : GvL K T (tLst tr) σ H ds := fun H1 g Q q =>
  h H1 g _ fun vs H2 g2 r2 => ⟨Nat.le_trans (by rw [r2.length]; exact hl) (by decide), fun p hp => q _ _ _ (g2.trans (gw_new hp)) upd_same ((gw_new (T := T) hp).rpAll r2)⟩
theorem gvl_var {i : Nat} {p : Addr} {xs : List V} (h : σ[i]? = some (some (.ref p))) (hp : H p = some (.lst xs)) (r : RpAll K H xs ds) : GvL K T (tVar i) σ H ds := fun H1 g _ q => ⟨_, h, q p xs H1 (Gw.refl T H1) (g.lst hp) (g.rpAll r)⟩
theorem RpAll.append {H : Hp} : ∀ {xs ys : List V} {ds es : List PyData}, RpAll K H xs ds → RpAll K H ys es → RpAll K H (xs ++ ys) (ds ++ es)
  | _, _, _, _, .nil, s => s
  | _, _, _, _, .cons h r, s => .cons h (RpAll.append r s)
theorem gvl_cat {es : List PyData} (ha : GvL K T ta σ H ds) (hb : GvL K T tb σ H es) (hl : ds.length + es.length ≤ 100000) : GvL K T (tOp rCat ta tb) σ H (ds ++ es) := fun H1 g Q q =>
  ha H1 g _ fun p xs H2 g2 hp r2 => hb H2 (g.trans g2) _ fun p2 ys H3 g3 hp2 r3 =>
    ⟨p, p2, xs, ys, rfl, rfl, g3.lst hp, hp2, Nat.le_trans (by rw [r2.length, r3.length]; exact hl) (by decide), fun l hl' => q l _ _ ((g2.trans g3).trans (gw_new hl')) upd_same (RpAll.append ((g3.trans (gw_new hl')).rpAll r2) ((gw_new (T := T) hl').rpAll r3))⟩
theorem GvL.gv (h : GvL K T te σ H ds) : Gv K T te σ H (.list ds) := fun H1 g Q q => h H1 g _ fun p xs H2 g2 hp r => q _ H2 g2 (.lst (SqL.of hp) r)
theorem gv_use {Q : VK} (h : Gv K T te σ H d) (q : ∀ v H2, Gw T H H2 → Rp K H2 v d → Q v H2) : te σ H Q := h H (Gw.refl T H) Q q
theorem gvl_use {Q : VK} (h : GvL K T te σ H ds) (q : ∀ p xs H2, Gw T H H2 → H2 p = some (.lst xs) → RpAll K H2 xs ds → Q (.ref p) H2) : te σ H Q := h H (Gw.refl T H) Q q
theorem s_seq {t u : TS} {D : Ends} {σ : L2.St} {H : Hp} (h : t { D with nx := u D } σ H) : tSeq t u D σ H := h
theorem s_asgL {D : Ends} {i : Nat} (h : GvL K T te σ H ds) (k : ∀ p xs H2, Gw T H H2 → H2 p = some (.lst xs) → RpAll K H2 xs ds → D.nx (σ.set i (some (.ref p))) H2) : tAsg te (gName i) D σ H := h H (Gw.refl T H) _ k
theorem s_asg {D : Ends} {i : Nat} (h : Gv K T te σ H d) (k : ∀ v H2, Gw T H H2 → Rp K H2 v d → D.nx (σ.set i (some v)) H2) : tAsg te (gName i) D σ H := h H (Gw.refl T H) _ k
theorem s_ret {D : Ends} (h : Gv K T te σ H d) (k : ∀ v H2, Gw T H H2 → Rp K H2 v d → D.rt v H2) : tRet te D σ H := h H (Gw.refl T H) _ k
theorem sq_asgL {u : TS} {D : Ends} {i : Nat} (h : GvL K T te σ H ds) (k : ∀ p xs H2, Gw T H H2 → H2 p = some (.lst xs) → RpAll K H2 xs ds → u D (σ.set i (some (.ref p))) H2) : tSeq (tAsg te (gName i)) u D σ H := h H (Gw.refl T H) _ k
theorem sq_asg {u : TS} {D : Ends} {i : Nat} (h : Gv K T te σ H d) (k : ∀ v H2, Gw T H H2 → Rp K H2 v d → u D (σ.set i (some v)) H2) : tSeq (tAsg te (gName i)) u D σ H := h H (Gw.refl T H) _ k
theorem sq_forG {g : TG} {tb u : TS} {D : Ends} (h : GvL K T te σ H ds) (Ps : Nat → L2.St → Prop) (h0 : Ps 0 σ)
    (hs : ∀ H1, Gw T H H1 → ∀ i v d σ' H', Gw T H1 H' → ds[i]? = some d → Rp K H' v d → Ps i σ' → g v σ' H' fun σ2 H2 => tb { nx := fun σ3 H3 => Gw T H1 H3 ∧ Ps (i + 1) σ3, rt := D.rt, bk := u D, ct := fun σ3 H3 => Gw T H1 H3 ∧ Ps (i + 1) σ3 } σ2 H2)
    (hd : ∀ σ' H', Gw T H H' → Ps ds.length σ' → u D σ' H') : tSeq (tFor (iList K te) g tb) u D σ H := h H (Gw.refl T H) _ fun p xs H1 g1 hp r1 =>
  ⟨p, rfl, ⟨xs, SqL.of hp⟩, for_list (K := K) (a := p) (xs := xs) (fun i σ' H' => Gw T H1 H' ∧ Ps i σ') ⟨Gw.refl T H1, h0⟩ (fun i σ' H' _ h => SqL.of (h.1.lst hp)) (fun i x σ' H' hx ⟨g2, ps⟩ => by
    obtain ⟨d, hd, rd⟩ := r1.get hx
    exact hs H1 g1 i x d σ' H' g2 hd (g2.rp rd) ps) (fun σ' H' ⟨g2, ps⟩ => hd σ' H' (g1.trans g2) (by rw [← r1.length]; exact ps))⟩
/-- list(t) of a tuple -/
theorem gv_listT (ha : Gv K T ta σ H (.tuple ds)) : Gv K T (tCB (fun xs H Q => ∃ p ys, xs = [.ref p] ∧ (SqL K H p ys ∨ SqT K H p ys) ∧ ∀ l, H l = none → Q (.ref l) (upd H l (.lst ys))) (tCons ta tNil)) σ H (.list ds) := fun H1 e Q q =>
  ha H1 e _ fun v H2 e2 r2 => by
    cases r2 with
    | tup hs ra => exact ⟨_, _, rfl, .inr hs, fun l hl => q _ _ (e2.trans (gw_new hl)) (.lst (SqL.of upd_same) ((gw_new (T := T) hl).rpAll ra))⟩
theorem gv_dnew : Gv K T tDNewK σ H (.dict []) := fun H1 e Q q => fun p hp => q _ _ (gw_new hp) (.dct upd_same)
theorem take_more {α : Type} : ∀ {l : List α} {i : Nat} {x : α}, l[i]? = some x → l.take (i + 1) = l.take i ++ [x]
  | [], i, x, h => by simp at h
  | a :: l, 0, x, h => by
    have e : a = x := Option.some.inj h
    subst e
    rfl
  | a :: l, i + 1, x, h => by
    have ih := take_more (l := l) (i := i) (x := x) h
    show a :: l.take (i + 1) = a :: l.take i ++ [x]
    rw [ih]
    rfl
end
/-! ### a def whose code object's table is told; a lambda handed to a def -/
theorem own_okC {P : Program} {w : World} {K : PySem.W.Frag} {mg : Str → Option Value} {base : Heap} {x : Str} {st : Stmt} {N ps : List Str} {k : Nat} {sp : Sp} (F : Df K mg x st) (S : FnScope N ps (defScope st))
    (hb : ∀ (kV doc pm : Value) (an : Option Addr) (cdv ct : Value) (us : List Value), us.length = ps.length → bindArgs (PySem.W.fnOf x x (defArgs st) (defBody st) (defScope st) .none kV doc pm an cdv ct) ⟨us, []⟩ = pure (ps.zip us))
    (len : ∀ vs H Q E, sp vs H Q E → vs.length = ps.length)
    (hbody : ∀ (cdv : Value) (A : Around) (outer : List Env) (s : Shared) (H : Hp) (vs : List V) (Q : VK) (E : XK), cdv = .ref (He.codeOf K (x, none)) → Room k (A.deeper (envOfC x (defScope st) s.heap.objs.size (He.ga K x) cdv)) → sp vs H Q E →
      ∃ t, PSs (cxOf (L2.CX P w) P w K mg base N x (defScope st) (He.ga K x) cdv A outer s H E) (defBody st) t ∧ t { nx := fun _ H' => Q .non H', rt := Q } (start N vs) H) : OwnFn P w K mg base (k + 1) x ps sp := by
  obtain ⟨fd, F, hm⟩ := F
  have kp := F.kp
  have bb := F.bindsN hb
  obtain ⟨oc, od, dV, kV, doc, pm, an, cdv, ct, osl, rfl, lk, hcd, _, _⟩ := F.ex
  refine ⟨He.ga K x, _, ?_, hm, kp, bb, oc, od, osl, lk⟩
  refine fn_of lk hcd S len fun A outer s H vs Q E hr hsp => hbody cdv A outer s H vs Q E ?_ hr hsp
  obtain ⟨c, rfl⟩ := He.codeIn_ref hcd
  have e : He.codeOf K (x, none) = c := He.codeOf_eq (p := (x, none)) lk rfl
  rw [e]
theorem pss_pre {X : Cx} {st : List Stmt} {t : TS} {C : Prop} (h : C → PSs X st t) : PSs X st (fun D σ H => C ∧ t D σ H) := ⟨fun pins s σ H D I hh => (h hh.1).run pins s σ H D I hh.2⟩
theorem takes_len {X : Cx} {W : WX} (tk : Takes X W) : Takes X (fun cls d σ H => σ.length = X.N.length → W cls d σ H) := fun u s' ⟨a, B, sI, pins, σ, H, cls, d, e, I, nb, up, sky, na, os, ag, w⟩ => tk u s' ⟨a, B, sI, pins, σ, H, cls, d, e, I, nb, up, sky, na, os, ag, w I.len⟩
theorem passM {X : Cx} {A : Around} {outer : List Env} {s : Shared} {H : Hp} {E : XK} {scope : Scope} {f c : Addr} : Passes (L2.CX (LamX.lamCx X A outer s H E scope f c).prog (LamX.lamCx X A outer s H E scope f c).w) (LamX.lamCx X A outer s H E scope f c) E := passes_call (takes_of rfl rfl rfl rfl) fun _ _ _ _ h => h
theorem pe_lam1 {X : Cx} {T : List (Addr × Str)} {TT : (XK → Hp → VK → Prop) → Hp → VK → Prop} {x a : Str} {st : Stmt} {c P : Addr} {k : Nat} {Ng : List Str} {params : Arguments} {body : Expr} {scope : Scope} {t : XK → TE} {p lpos pos : Pos}
    (F : Df X.K X.mg x st) (Sg : FnScope Ng [a] (defScope st)) (hb : ∀ (kV doc pm : Value) (an : Option Addr) (cdv ct : Value) (us : List Value), us.length = [a].length → bindArgs (PySem.W.fnOf x x (defArgs st) (defBody st) (defScope st) .none kV doc pm an cdv ct) ⟨us, []⟩ = pure ([a].zip us))
    (hG : ∀ cdv, LamX.GivesTo X Ng x (defScope st) (He.ga X.K x) cdv (defBody st) a (X.env.qual ++ "<lambda>") TT)
    (TB : LamX.TabB X.base X.mg c P) (hcode : X.env.code = .ref c) (hmT : (P, X.env.qual ++ "<lambda>") ∈ T) (hu : ∀ p ∈ T, p.1 = P → p.2 = X.env.qual ++ "<lambda>") (hr : Room (k + 2) X.A) (L : LamX.LamS X.env.scope scope)
    (hbody : ∀ (A : Around) (outer : List Env) (s : Shared) (H : Hp) (E : XK) (f c' : Addr), Room k (A.deeper (LamX.lamEnv X scope s.heap.objs.size f c')) → PE (LamX.lamCx X A outer s H E scope f c') body (t E))
    (hg : Gl X x := by rfl) (hNg : Ng[0]? = some a := by rfl) (hva : Vis (defScope st) a := by exact Or.inl rfl) (hdef : defaultsOf params X.env = ([], []) := by rfl)
    (hbind : ∀ (q : Str) (cl : List (Str × Addr)) (pm cv ctv : Value), bindArgs (PySem.W.kla_fn "<lambda>" q params body scope cl pm cv ctv) ⟨[], []⟩ = pure [] := by intros; rfl)
    (hdb : (x == ("__debug__" : Str)) = false := by decide) (hd : (a == ("__debug__" : Str)) = false := by decide) (hcd : (a == ("__classdict__" : Str)) = false := by decide) :
    PE X (.Call (.Name x p) [.Lambda params body scope lpos] [] pos) (LamX.tLam T TT t) := by
  obtain ⟨fd, F, hm⟩ := F
  obtain ⟨oc, od, dV, kV, doc, pm, an, cdv, ct, osl, rfl, lk, hcd', _, _⟩ := F.ex
  exact LamX.pe_lamcall hg hm F.kp lk hcd' (F.bindsN hb) Sg hNg hva (hG cdv) TB hcode hmT hu hr L hdef hbind hbody hdb hd hcd
end LB

namespace K01
/-- the loop of rests -/
theorem gcd_fmod (a b : Int) : Int.gcd b (a.fmod b) = Int.gcd a b := by
  have h : a.fmod b = a - b * a.fdiv b := by
    have := Int.mul_fdiv_add_fmod a b
    omega
  rw [h]
  rw [Int.gcd_comm a b]
  apply Nat.dvd_antisymm
  · apply Int.dvd_gcd (Int.gcd_dvd_left _ _)
    have h1 : (↑(Int.gcd b (a - b * a.fdiv b)) : Int) ∣ b := Int.gcd_dvd_left _ _
    have h2 : (↑(Int.gcd b (a - b * a.fdiv b)) : Int) ∣ (a - b * a.fdiv b) := Int.gcd_dvd_right _ _
    have h3 := Int.dvd_add h2 (Int.dvd_mul_of_dvd_left (c := a.fdiv b) h1)
    rwa [Int.sub_add_cancel] at h3
  · apply Int.dvd_gcd (Int.gcd_dvd_left _ _)
    have h1 : (↑(Int.gcd b a) : Int) ∣ b := Int.gcd_dvd_left _ _
    have h2 : (↑(Int.gcd b a) : Int) ∣ a := Int.gcd_dvd_right _ _
    exact Int.dvd_sub h2 (Int.dvd_mul_of_dvd_left (c := a.fdiv b) h1)
theorem fmod_small (a b : Int) (hb : b ≠ 0) : (a.fmod b).natAbs < b.natAbs := by
  rcases Int.lt_or_lt_of_ne hb with h | h
  · have e := Int.fmod_eq_emod (a := a) (b := b)
    have h1 := Int.emod_nonneg a hb
    have h2 := Int.emod_lt a hb
    split at e
    · rename_i q
      rcases q with q | q
      · omega
      · have := Int.emod_eq_zero_of_dvd q
        omega
    · rename_i q
      have h3 : a % b ≠ 0 := fun z => q (Or.inr (Int.dvd_of_emod_eq_zero z))
      omega
  · have h1 := Int.fmod_nonneg_of_pos a h
    have h2 := Int.fmod_lt_of_pos a h
    omega
/-- the divisor with the bottom's sign -/
def dvs (t b : Int) : Int := if b < 0 then -(Int.gcd t b : Int) else (Int.gcd t b : Int)
def lowT (t b : Int) : Int := t.fdiv (dvs t b)
def lowB (t b : Int) : Int := b.fdiv (dvs t b)
theorem gcd_pos (t : Int) {b : Int} (hb : b ≠ 0) : 0 < Int.gcd t b := Int.gcd_pos_iff.mpr (Or.inr hb)
theorem dvs_ne (t : Int) {b : Int} (hb : b ≠ 0) : dvs t b ≠ 0 := by
  have := gcd_pos t hb
  unfold dvs
  split <;> omega
theorem dvs_nat (t b : Int) : (dvs t b).natAbs = Int.gcd t b := by
  unfold dvs
  split <;> omega
theorem gcd_le (t : Int) {b : Int} (hb : b ≠ 0) : Int.gcd t b ≤ b.natAbs := by
  have h : (Int.gcd t b) ∣ b.natAbs := Int.natAbs_dvd_natAbs.mpr (Int.gcd_dvd_right t b)
  exact Nat.le_of_dvd (by omega) h
theorem dvs_dvd_b (t b : Int) : dvs t b ∣ b := by
  unfold dvs
  split
  · exact Int.neg_dvd.mpr (Int.gcd_dvd_right t b)
  · exact Int.gcd_dvd_right t b
theorem dvs_dvd_t (t b : Int) : dvs t b ∣ t := by
  unfold dvs
  split
  · exact Int.neg_dvd.mpr (Int.gcd_dvd_left t b)
  · exact Int.gcd_dvd_left t b
theorem lowB_mul (t b : Int) : lowB t b * dvs t b = b := by
  unfold lowB
  rw [Int.fdiv_eq_ediv_of_dvd (dvs_dvd_b t b)]
  exact Int.ediv_mul_cancel (dvs_dvd_b t b)
theorem lowT_mul (t b : Int) : lowT t b * dvs t b = t := by
  unfold lowT
  rw [Int.fdiv_eq_ediv_of_dvd (dvs_dvd_t t b)]
  exact Int.ediv_mul_cancel (dvs_dvd_t t b)
theorem lowB_pos (t : Int) {b : Int} (hb : b ≠ 0) : 0 < lowB t b := by
  have e := lowB_mul t b
  have g := gcd_pos t hb
  unfold dvs at e
  split at e
  · rename_i h
    apply Int.not_le.mp
    intro z
    have h2 : 0 ≤ lowB t b * -(Int.gcd t b : Int) := Int.mul_nonneg_of_nonpos_of_nonpos z (by omega)
    omega
  · rename_i h
    apply Int.not_le.mp
    intro z
    have h2 : lowB t b * (Int.gcd t b : Int) ≤ 0 := Int.mul_nonpos_of_nonpos_of_nonneg z (by omega)
    omega
theorem low_gcd (t : Int) {b : Int} (hb : b ≠ 0) : Int.gcd (lowT t b) (lowB t b) = 1 := by
  have g := gcd_pos t hb
  have h1 : Int.gcd (lowT t b * dvs t b) (lowB t b * dvs t b) = Int.gcd (lowT t b) (lowB t b) * (dvs t b).natAbs := Int.gcd_mul_right ..
  rw [lowT_mul, lowB_mul, dvs_nat] at h1
  have h2 : 1 * Int.gcd t b = Int.gcd (lowT t b) (lowB t b) * Int.gcd t b := by omega
  exact (Nat.eq_of_mul_eq_mul_right g h2).symm
theorem low_id {t b : Int} (hb : 0 < b) : (lowT t b = t ∧ lowB t b = b) ↔ Int.gcd t b = 1 := by
  constructor
  · intro ⟨_, h⟩
    have e := lowB_mul t b
    rw [h] at e
    have e2 : b * dvs t b = b * 1 := by omega
    have e3 : dvs t b = 1 := Int.eq_of_mul_eq_mul_left (by omega) e2
    have := dvs_nat t b
    omega
  · intro h
    have e : dvs t b = 1 := by
      unfold dvs
      rw [if_neg (by omega), h]
      rfl
    unfold lowT lowB
    rw [e, Int.fdiv_one, Int.fdiv_one]
    exact ⟨rfl, rfl⟩
theorem low_natAbs_t (t : Int) {b : Int} (hb : b ≠ 0) : (lowT t b).natAbs ≤ t.natAbs := by
  have e := congrArg Int.natAbs (lowT_mul t b)
  rw [Int.natAbs_mul, dvs_nat] at e
  have g := gcd_pos t hb
  rw [← e]
  exact Nat.le_mul_of_pos_right _ g
theorem low_natAbs_b (t : Int) {b : Int} (hb : b ≠ 0) : (lowB t b).natAbs ≤ b.natAbs := by
  have e := congrArg Int.natAbs (lowB_mul t b)
  rw [Int.natAbs_mul, dvs_nat] at e
  have g := gcd_pos t hb
  rw [← e]
  exact Nat.le_mul_of_pos_right _ g
end K01

namespace K01
open PySem PySem.Spec PyProof.Rows L2
def top (i : Nat) : Stmt := PySem.Challenge.pw_cutstairs_k01_fractions_reckoned.main.body.getD i (.Pass ⟨0, 0, 0, 0⟩)
abbrev s_is_whole : Stmt := top 18
abbrev s_is_row : Stmt := top 19
abbrev s_common_divisor : Stmt := top 20
abbrev s_is_fraction : Stmt := top 21
abbrev s_fraction : Stmt := top 22
abbrev s_plus : Stmt := top 23
abbrev s_minus : Stmt := top 24
abbrev s_times : Stmt := top 25
abbrev s_over : Stmt := top 26
abbrev s_below : Stmt := top 27
abbrev s_L_cell : Stmt := top 29
abbrev s_L_numbers : Stmt := top 30
abbrev s_L_low : Stmt := top 31
abbrev s_L_is_whole : Stmt := top 32
abbrev s_L_is_fraction : Stmt := top 33
abbrev s_L_caught : Stmt := top 34
abbrev s_L_told : Stmt := top 35
abbrev s_L_number : Stmt := top 36
abbrev s_L_pair_right : Stmt := top 37
abbrev s_L_kinds_right : Stmt := top 38
abbrev s_L_made_right : Stmt := top 39
abbrev s_law : Stmt := top 40
end K01
namespace K01
open PySem PySem.Spec PyProof.Rows L2 LB
/-- what the top has left -/
structure Txt (K : PySem.W.Frag) (mg : Str → Option Value) : Prop where
  m_StairError : mg "StairError" = some (.ref (He.ga K "StairError"))
  m_NoText : mg "NoText" = some (.ref (He.ga K "NoText"))
  m_NoNumber : mg "NoNumber" = some (.ref (He.ga K "NoNumber"))
  m_NoCut : mg "NoCut" = some (.ref (He.ga K "NoCut"))
  m_NoPrice : mg "NoPrice" = some (.ref (He.ga K "NoPrice"))
  m_NoStream : mg "NoStream" = some (.ref (He.ga K "NoStream"))
  m_NoName : mg "NoName" = some (.ref (He.ga K "NoName"))
  m_NoFall : mg "NoFall" = some (.ref (He.ga K "NoFall"))
  m_NoShare : mg "NoShare" = some (.ref (He.ga K "NoShare"))
  m_NoPart : mg "NoPart" = some (.ref (He.ga K "NoPart"))
  m_NoTop : mg "NoTop" = some (.ref (He.ga K "NoTop"))
  m_NoPlace : mg "NoPlace" = some (.ref (He.ga K "NoPlace"))
  m_NoTie : mg "NoTie" = some (.ref (He.ga K "NoTie"))
  m_NoUndo : mg "NoUndo" = some (.ref (He.ga K "NoUndo"))
  m_NoWeb : mg "NoWeb" = some (.ref (He.ga K "NoWeb"))
  m_NoRow : mg "NoRow" = some (.ref (He.ga K "NoRow"))
  m_is_whole : mg "is_whole" = some (.ref (He.ga K "is_whole"))
  m_is_row : mg "is_row" = some (.ref (He.ga K "is_row"))
  m_common_divisor : mg "common_divisor" = some (.ref (He.ga K "common_divisor"))
  m_is_fraction : mg "is_fraction" = some (.ref (He.ga K "is_fraction"))
  m_fraction : mg "fraction" = some (.ref (He.ga K "fraction"))
  m_plus : mg "plus" = some (.ref (He.ga K "plus"))
  m_minus : mg "minus" = some (.ref (He.ga K "minus"))
  m_times : mg "times" = some (.ref (He.ga K "times"))
  m_over : mg "over" = some (.ref (He.ga K "over"))
  m_below : mg "below" = some (.ref (He.ga K "below"))
  m_L_cell : mg "_law_cell" = some (.ref (He.ga K "_law_cell"))
  m_L_numbers : mg "_law_numbers" = some (.ref (He.ga K "_law_numbers"))
  m_L_low : mg "_law_low" = some (.ref (He.ga K "_law_low"))
  m_L_is_whole : mg "_law_is_whole" = some (.ref (He.ga K "_law_is_whole"))
  m_L_is_fraction : mg "_law_is_fraction" = some (.ref (He.ga K "_law_is_fraction"))
  m_L_caught : mg "_law_caught" = some (.ref (He.ga K "_law_caught"))
  m_L_told : mg "_law_told" = some (.ref (He.ga K "_law_told"))
  m_L_number : mg "_law_number" = some (.ref (He.ga K "_law_number"))
  m_L_pair_right : mg "_law_pair_right" = some (.ref (He.ga K "_law_pair_right"))
  m_L_kinds_right : mg "_law_kinds_right" = some (.ref (He.ga K "_law_kinds_right"))
  m_L_made_right : mg "_law_made_right" = some (.ref (He.ga K "_law_made_right"))
  m_law : mg "law" = some (.ref (He.ga K "law"))
  f_ValueError : mg "ValueError" = none
  f_abs : mg "abs" = none
  f_all : mg "all" = none
  f_bool : mg "bool" = none
  f_int : mg "int" = none
  f_isinstance : mg "isinstance" = none
  f_len : mg "len" = none
  f_list : mg "list" = none
  f_range : mg "range" = none
  f_super : mg "super" = none
  f_tuple : mg "tuple" = none
  k_StairError : PySem.W.keepIn K (.ref (He.ga K "StairError")) = true
  k_NoText : PySem.W.keepIn K (.ref (He.ga K "NoText")) = true
  k_NoNumber : PySem.W.keepIn K (.ref (He.ga K "NoNumber")) = true
  k_NoCut : PySem.W.keepIn K (.ref (He.ga K "NoCut")) = true
  k_NoPrice : PySem.W.keepIn K (.ref (He.ga K "NoPrice")) = true
  k_NoStream : PySem.W.keepIn K (.ref (He.ga K "NoStream")) = true
  k_NoName : PySem.W.keepIn K (.ref (He.ga K "NoName")) = true
  k_NoFall : PySem.W.keepIn K (.ref (He.ga K "NoFall")) = true
  k_NoShare : PySem.W.keepIn K (.ref (He.ga K "NoShare")) = true
  k_NoPart : PySem.W.keepIn K (.ref (He.ga K "NoPart")) = true
  k_NoTop : PySem.W.keepIn K (.ref (He.ga K "NoTop")) = true
  k_NoPlace : PySem.W.keepIn K (.ref (He.ga K "NoPlace")) = true
  k_NoTie : PySem.W.keepIn K (.ref (He.ga K "NoTie")) = true
  k_NoUndo : PySem.W.keepIn K (.ref (He.ga K "NoUndo")) = true
  k_NoWeb : PySem.W.keepIn K (.ref (He.ga K "NoWeb")) = true
  k_NoRow : PySem.W.keepIn K (.ref (He.ga K "NoRow")) = true
  x_NoNumber : PySem.W.excIn K (He.ga K "NoNumber") He.veBase "ValueError.__new__" = true
  b_NoNumber : PySem.W.subIn K (.ref (He.ga K "NoNumber")) (.type "BaseException") = some true
  t_NoNumber : PySem.W.typeIn K (.ref (He.ga K "NoNumber")) = some (.type "type")
  e_NoNumber : PySem.W.exmOne K (.ref (He.ga K "NoNumber")) (.ref (He.ga K "StairError")) = some true
  D_is_whole : Df K mg "is_whole" s_is_whole
  D_is_row : Df K mg "is_row" s_is_row
  D_common_divisor : Df K mg "common_divisor" s_common_divisor
  D_is_fraction : Df K mg "is_fraction" s_is_fraction
  D_fraction : Df K mg "fraction" s_fraction
  D_plus : Df K mg "plus" s_plus
  D_minus : Df K mg "minus" s_minus
  D_times : Df K mg "times" s_times
  D_over : Df K mg "over" s_over
  D_below : Df K mg "below" s_below
  D_L_cell : Df K mg "_law_cell" s_L_cell
  D_L_numbers : Df K mg "_law_numbers" s_L_numbers
  D_L_low : Df K mg "_law_low" s_L_low
  D_L_is_whole : Df K mg "_law_is_whole" s_L_is_whole
  D_L_is_fraction : Df K mg "_law_is_fraction" s_L_is_fraction
  D_L_caught : Df K mg "_law_caught" s_L_caught
  D_L_told : Df K mg "_law_told" s_L_told
  D_L_number : Df K mg "_law_number" s_L_number
  D_L_pair_right : Df K mg "_law_pair_right" s_L_pair_right
  D_L_kinds_right : Df K mg "_law_kinds_right" s_L_kinds_right
  D_L_made_right : Df K mg "_law_made_right" s_L_made_right
  D_law : Df K mg "law" s_law
end K01

namespace K01
open PySem PySem.Spec PyProof.Rows L2 LB
def cls1 : List Str := ["NoCut", "NoFall", "NoName", "NoPart", "NoPlace", "NoPrice", "NoRow", "NoShare", "NoStream", "NoText"]
def cls2 : List Str := ["NoTie", "NoTop", "NoUndo", "NoWeb"]
def ex (K : PySem.W.Frag) : Bool :=
  excCB K (He.ga K "NoNumber") && (decide (PySem.W.kitAny K (.ref (He.ga K "NoNumber")) (refs K cls1) = some false) &&
  (decide (PySem.W.kitAny K (.ref (He.ga K "NoNumber")) (refs K cls2) = some false) &&
  (decide (PySem.W.kitOne K (.ref (He.ga K "NoNumber")) (.type "ValueError") = some true) && (decide (PySem.W.kitOne K (.ref (He.ga K "NoNumber")) (.ref (He.ga K "NoNumber")) = some true) &&
  decide ((He.cT K ("_law_pair_right", none)).2 ≠ (He.cT K ("_law_made_right", none)).2)))))
/-- what ex tells -/
structure Ext (K : PySem.W.Frag) : Prop where
  ec : ExcC K (He.ga K "NoNumber")
  k1 : PySem.W.kitAny K (.ref (He.ga K "NoNumber")) (refs K cls1) = some false
  k2 : PySem.W.kitAny K (.ref (He.ga K "NoNumber")) (refs K cls2) = some false
  k3 : PySem.W.kitOne K (.ref (He.ga K "NoNumber")) (.type "ValueError") = some true
  k4 : PySem.W.kitOne K (.ref (He.ga K "NoNumber")) (.ref (He.ga K "NoNumber")) = some true
  ne : (He.cT K ("_law_pair_right", none)).2 ≠ (He.cT K ("_law_made_right", none)).2
theorem ext_of {K : PySem.W.Frag} (h : ex K = true) : Ext K := by
  obtain ⟨h1, h⟩ := He.ba h
  obtain ⟨h2, h⟩ := He.ba h
  obtain ⟨h3, h⟩ := He.ba h
  obtain ⟨h4, h⟩ := He.ba h
  obtain ⟨h5, h6⟩ := He.ba h
  exact ⟨excCB_ok h1, of_decide_eq_true h2, of_decide_eq_true h3, of_decide_eq_true h4, of_decide_eq_true h5, of_decide_eq_true h6⟩
end K01

namespace K01
open PySem PySem.Spec PyProof.Rows L2 LB
abbrev N_is_whole : List Str := ["thing"]
theorem sc_is_whole : FnScope N_is_whole ["thing"] (defScope s_is_whole) := ⟨rfl, rfl, rfl, by decide +kernel, rfl, by decide +kernel, by decide +kernel⟩
abbrev N_is_row : List Str := ["thing", "many"]
theorem sc_is_row : FnScope N_is_row ["thing", "many"] (defScope s_is_row) := ⟨rfl, rfl, rfl, by decide +kernel, rfl, by decide +kernel, by decide +kernel⟩
abbrev N_common_divisor : List Str := ["one", "other"]
theorem sc_common_divisor : FnScope N_common_divisor ["one", "other"] (defScope s_common_divisor) := ⟨rfl, rfl, rfl, by decide +kernel, rfl, by decide +kernel, by decide +kernel⟩
abbrev N_is_fraction : List Str := ["thing", "top", "bottom"]
theorem sc_is_fraction : FnScope N_is_fraction ["thing"] (defScope s_is_fraction) := ⟨rfl, rfl, rfl, by decide +kernel, rfl, by decide +kernel, by decide +kernel⟩
abbrev N_fraction : List Str := ["top", "bottom", "divisor"]
theorem sc_fraction : FnScope N_fraction ["top", "bottom"] (defScope s_fraction) := ⟨rfl, rfl, rfl, by decide +kernel, rfl, by decide +kernel, by decide +kernel⟩
abbrev N_plus : List Str := ["a", "b"]
theorem sc_plus : FnScope N_plus ["a", "b"] (defScope s_plus) := ⟨rfl, rfl, rfl, by decide +kernel, rfl, by decide +kernel, by decide +kernel⟩
abbrev N_minus : List Str := ["a", "b"]
theorem sc_minus : FnScope N_minus ["a", "b"] (defScope s_minus) := ⟨rfl, rfl, rfl, by decide +kernel, rfl, by decide +kernel, by decide +kernel⟩
abbrev N_times : List Str := ["a", "b"]
theorem sc_times : FnScope N_times ["a", "b"] (defScope s_times) := ⟨rfl, rfl, rfl, by decide +kernel, rfl, by decide +kernel, by decide +kernel⟩
abbrev N_over : List Str := ["a", "b"]
theorem sc_over : FnScope N_over ["a", "b"] (defScope s_over) := ⟨rfl, rfl, rfl, by decide +kernel, rfl, by decide +kernel, by decide +kernel⟩
abbrev N_below : List Str := ["a", "b"]
theorem sc_below : FnScope N_below ["a", "b"] (defScope s_below) := ⟨rfl, rfl, rfl, by decide +kernel, rfl, by decide +kernel, by decide +kernel⟩
/-! ### kinds -/
def isI : PyData → Bool
  | .int _ => true
  | .bool _ => true
  | _ => false
def isB : PyData → Bool
  | .bool _ => true
  | _ => false
def isU : PyData → Bool
  | .tuple _ => true
  | _ => false
def isW : PyData → Bool
  | .int _ => true
  | _ => false
theorem kit_int : ∀ d : PyData, kitB (tyN d) "int" = some (isI d)
  | .none => (by decide +kernel : kitB "NoneType" "int" = some false)
  | .bool _ => (by decide +kernel : kitB "bool" "int" = some true)
  | .int _ => (by decide +kernel : kitB "int" "int" = some true)
  | .str _ => (by decide +kernel : kitB "str" "int" = some false)
  | .list _ => (by decide +kernel : kitB "list" "int" = some false)
  | .tuple _ => (by decide +kernel : kitB "tuple" "int" = some false)
  | .dict _ => (by decide +kernel : kitB "dict" "int" = some false)
theorem kit_bool : ∀ d : PyData, kitB (tyN d) "bool" = some (isB d)
  | .none => (by decide +kernel : kitB "NoneType" "bool" = some false)
  | .bool _ => (by decide +kernel : kitB "bool" "bool" = some true)
  | .int _ => (by decide +kernel : kitB "int" "bool" = some false)
  | .str _ => (by decide +kernel : kitB "str" "bool" = some false)
  | .list _ => (by decide +kernel : kitB "list" "bool" = some false)
  | .tuple _ => (by decide +kernel : kitB "tuple" "bool" = some false)
  | .dict _ => (by decide +kernel : kitB "dict" "bool" = some false)
theorem kit_tuple : ∀ d : PyData, kitB (tyN d) "tuple" = some (isU d)
  | .none => (by decide +kernel : kitB "NoneType" "tuple" = some false)
  | .bool _ => (by decide +kernel : kitB "bool" "tuple" = some false)
  | .int _ => (by decide +kernel : kitB "int" "tuple" = some false)
  | .str _ => (by decide +kernel : kitB "str" "tuple" = some false)
  | .list _ => (by decide +kernel : kitB "list" "tuple" = some false)
  | .tuple _ => (by decide +kernel : kitB "tuple" "tuple" = some true)
  | .dict _ => (by decide +kernel : kitB "dict" "tuple" = some false)
theorem isW_of (d : PyData) : isW d = (isI d && !isB d) := by cases d <;> rfl
def isRow : PyData → Int → Bool
  | .tuple l, n => decide ((l.length : Int) = n)
  | _, _ => false
/-- a fraction among data -/
def isFr : PyData → Bool
  | .tuple [.int t, .int b] => decide (1 ≤ b) && decide (Int.gcd t b = 1)
  | _ => false
/-! ### promises -/
def spIsWhole (K : PySem.W.Frag) : Sp := fun vs H Q _ => ∃ v d, vs = [v] ∧ Rp K H v d ∧ Q (.bl (isW d)) H
def spIsRow (K : PySem.W.Frag) : Sp := fun vs H Q _ => ∃ v d n, vs = [v, .int n] ∧ Rp K H v d ∧ Q (.bl (isRow d n)) H
def spGcd : Sp := fun vs H Q _ => ∃ a b : Int, vs = [.int a, .int b] ∧ Q (.int (Int.gcd a b : Nat)) H
def spIsFr (K : PySem.W.Frag) : Sp := fun vs H Q _ => ∃ v d, vs = [v] ∧ Rp K H v d ∧ Q (.bl (isFr d)) H
/-- a new fraction, or the refusal -/
def frTo (K : PySem.W.Frag) (t b : Int) (H : Hp) (Q : VK) (E : XK) : Prop := (b = 0 → E (.ref (He.ga K "NoNumber")) none H) ∧ (b ≠ 0 → ∀ p, H p = none → Q (.ref p) (upd H p (.tup [.int (lowT t b), .int (lowB t b)])))
def spFrac (K : PySem.W.Frag) : Sp := fun vs H Q E => ∃ t b : Int, vs = [.int t, .int b] ∧ b.natAbs < 2 ^ 400 ∧ frTo K t b H Q E
def sp2 (K : PySem.W.Frag) (ft fb : Int → Int → Int → Int → Int) : Sp := fun vs H Q E => ∃ (p q : Addr) (a0 a1 b0 b1 : Int), vs = [.ref p, .ref q] ∧ SqT K H p [.int a0, .int a1] ∧ SqT K H q [.int b0, .int b1] ∧
  (a0.natAbs < 2 ^ 100 ∧ a1.natAbs < 2 ^ 100 ∧ b0.natAbs < 2 ^ 100 ∧ b1.natAbs < 2 ^ 100) ∧ frTo K (ft a0 a1 b0 b1) (fb a0 a1 b0 b1) H Q E
def spBelow (K : PySem.W.Frag) : Sp := fun vs H Q _ => ∃ (p q : Addr) (a0 a1 b0 b1 : Int), vs = [.ref p, .ref q] ∧ SqT K H p [.int a0, .int a1] ∧ SqT K H q [.int b0, .int b1] ∧
  (a0.natAbs < 2 ^ 100 ∧ a1.natAbs < 2 ^ 100 ∧ b0.natAbs < 2 ^ 100 ∧ b1.natAbs < 2 ^ 100) ∧ Q (.bl (decide (a0 * b1 < b0 * a1))) H
theorem up400 {n : Nat} (h : n < 2 ^ 100) : n < 2 ^ 400 := Nat.lt_of_lt_of_le h (Nat.pow_le_pow_right (Nat.le_succ 1) (show 100 ≤ 400 by decide))
theorem mulW {i j : Int} (hi : i.natAbs < 2 ^ 100) (hj : j.natAbs < 2 ^ 100) : CMulW i j := wide_mul hi hj (by decide) (by decide) (by decide)
theorem at0 {α : Type} {x : α} {l : List α} : atI (x :: l) 0 = some x := atI_nat (j := 0) rfl
theorem at1 {α : Type} {x y : α} {l : List α} : atI (x :: y :: l) 1 = some y := atI_nat (j := 1) rfl
section
variable {P : Program} {w : World} {K : PySem.W.Frag} {mg : Str → Option Value} {base : Heap}
theorem ok_is_whole (T : Txt K mg) : OwnFn P w K mg base 1 "is_whole" ["thing"] (spIsWhole K) := by
  refine own_ok (k := 0) T.D_is_whole sc_is_whole (fun _ _ _ _ _ _ us hl => match us, hl with | [_], _ => rfl) (fun vs H Q E h => ?_) (fun cdv A outer s H vs Q E hr h => ⟨_, PSs.nox (pss_one (ps_ret (pe_and (pe_callB call_isi (by rfl) T.f_isinstance (by decide +kernel) (pa_cons (pv 0) (pa_cons (pe_bltn (v := .ty "int") rfl T.f_int (by decide +kernel) rfl) pa_nil))) (pe_one (pe_not (pe_callB call_isi (by rfl) T.f_isinstance (by decide +kernel) (pa_cons (pv 0) (pa_cons (pe_bltn (v := .ty "bool") rfl T.f_bool (by decide +kernel) rfl) pa_nil)))))))), ?_⟩)
  · obtain ⟨v, d, rfl, _⟩ := h
    rfl
  · obtain ⟨v, d, rfl, h, q⟩ := h
    rw [isW_of] at q
    refine ⟨_, rfl, _, _, _, _, _, rfl, .ty "int", h.ty, kit_ty (kit_int d), _, rfl, ?_⟩
    cases e : isI d with
    | false =>
      rw [e] at q
      exact iteF q
    | true =>
      rw [e] at q
      exact iteT ⟨_, rfl, _, _, _, _, _, rfl, .ty "bool", h.ty, kit_ty (kit_bool d), _, rfl, q⟩
theorem ok_is_row (T : Txt K mg) : OwnFn P w K mg base 1 "is_row" ["thing", "many"] (spIsRow K) := by
  refine own_ok (k := 0) T.D_is_row sc_is_row (fun _ _ _ _ _ _ us hl => match us, hl with | [_, _], _ => rfl) (fun vs H Q E h => ?_) (fun cdv A outer s H vs Q E hr h => ⟨_, PSs.nox (pss_one (ps_ret (pe_and (pe_callB call_isi (by rfl) T.f_isinstance (by decide +kernel) (pa_cons (pv 0) (pa_cons (pe_bltn (v := .ty "tuple") rfl T.f_tuple (by decide +kernel) rfl) pa_nil))) (pe_one (pe_cmpR op_eq (pe_callB call_len (by rfl) T.f_len (by decide +kernel) (pa_cons (pv 0) pa_nil)) (pv 1) (nomark _)))))), ?_⟩)
  · obtain ⟨v, d, n, rfl, _⟩ := h
    rfl
  · obtain ⟨v, d, n, rfl, h, q⟩ := h
    refine ⟨_, rfl, _, _, _, _, _, rfl, .ty "tuple", h.ty, kit_ty (kit_tuple d), _, rfl, ?_⟩
    cases h with
    | tup hs ha =>
      refine iteT ⟨_, rfl, _, _, rfl, .inr ⟨_, hs, rfl⟩, _, rfl, rfl, ?_⟩
      rw [ha.length]
      have e : ∀ i j : Int, decide (V.int i = V.int j) = decide (i = j) := fun i j => by rw [dec_int, Bool.beq_eq_decide_eq]
      rw [e]
      exact q
    | _ => exact iteF q
theorem ok_common_divisor (T : Txt K mg) : OwnFn P w K mg base 1 "common_divisor" ["one", "other"] spGcd := by
  refine own_ok (k := 0) T.D_common_divisor sc_common_divisor (fun _ _ _ _ _ _ us hl => match us, hl with | [_, _], _ => rfl) (fun vs H Q E h => ?_) (fun cdv A outer s H vs Q E hr h => ⟨_, PSs.nox (pss_cons (ps_while PassesOwn.never (pt_cmpR op_ne (pv 1) pe_int (nomark _))
   (pss_one (ps_par (i := 0) (j := 1) rfl sc_common_divisor.nd rfl rfl (by decide) rfl rfl (pa_cons (pv 1) (pa_cons (pe_op op_modN (pv 0) (pv 1)) pa_nil)) (by rfl))))
  (pss_one (ps_ret (pe_callB call_abs (by rfl) T.f_abs (by decide +kernel) (pa_cons (pv 0) pa_nil))))), ?_⟩)
  · obtain ⟨a, b, rfl, _⟩ := h
    rfl
  · obtain ⟨a, b, rfl, q⟩ := h
    refine ⟨fun m σ H' => H' = H ∧ ∃ x y : Int, σ = [some (.int x), some (.int y)] ∧ m = y.natAbs ∧ Int.gcd x y = Int.gcd a b, ⟨b.natAbs, rfl, a, b, rfl, rfl, rfl⟩, ?_⟩
    rintro m σ H' ⟨rfl, x, y, rfl, rfl, hg⟩
    refine ⟨_, rfl, rfl, _, rfl, ?_⟩
    by_cases hy : y = 0
    · subst hy
      refine iteF ⟨_, rfl, _, rfl, ?_⟩
      rw [Int.gcd_zero_right] at hg
      have e : (if x < 0 then -x else x) = ((Int.gcd a b : Nat) : Int) := by
        rw [← hg]
        split <;> omega
      rw [e]
      exact q
    · have hd : (!decide (V.int y = V.int 0)) = true := by
        rw [decide_eq_false (fun z => hy (V.int.inj z))] <;> rfl
      rw [hd]
      refine iteT ⟨fun σ' H'' => H'' = H' ∧ σ' = [some (.int y), some (.int (x.fmod y))], ?_, ?_⟩
      · rintro σ' H'' ⟨rfl, rfl⟩
        exact ⟨_, fmod_small x y hy, rfl, _, _, rfl, rfl, by rw [gcd_fmod, hg]⟩
      · exact ⟨_, rfl, _, rfl, _, rfl, _, _, rfl, rfl, hy, _, _, rfl, rfl, rfl⟩
theorem ok_is_fraction (T : Txt K mg) (F_is_row : OwnFn P w K mg base 1 "is_row" ["thing", "many"] (spIsRow K)) (F_is_whole : OwnFn P w K mg base 1 "is_whole" ["thing"] (spIsWhole K)) (F_common_divisor : OwnFn P w K mg base 1 "common_divisor" ["one", "other"] spGcd) :
    OwnFn P w K mg base 2 "is_fraction" ["thing"] (spIsFr K) := by
  refine own_ok (k := 1) T.D_is_fraction sc_is_fraction (fun _ _ _ _ _ _ us hl => match us, hl with | [_], _ => rfl) (fun vs H Q E h => ?_) (fun cdv A outer s H vs Q E hr h => ⟨_, PSs.nox (pss_cons (ps_if (pt_not (pt_val (pe_own F_is_row hr passL (pa_cons (pv 0) (pa_cons pe_int pa_nil))))) (pss_one (ps_ret pe_bl)) pss_nil)
  (pss_cons (ps_asg (pv 0) (pg_tup rfl (pgs_cons (pg_name (i := 1) sc_is_fraction.nd rfl (Or.inl rfl)) (pgs_cons (pg_name (i := 2) sc_is_fraction.nd rfl (Or.inl rfl)) pgs_nil))))
  (pss_one (ps_ret (pe_and (pe_own F_is_whole hr passL (pa_cons (pv 1) pa_nil)) (pe_and (pe_own F_is_whole hr passL (pa_cons (pv 2) pa_nil)) (pe_and (pe_cmpR op_ge (pv 2) pe_int (nomark _)) (pe_one (pe_cmpR op_eq (pe_own F_common_divisor hr passL (pa_cons (pv 1) (pa_cons (pv 2) pa_nil))) pe_int (nomark _)))))))))), ?_⟩)
  · obtain ⟨v, d, rfl, _⟩ := h
    rfl
  · obtain ⟨v, d, rfl, h, q⟩ := h
    refine ⟨_, rfl, v, d, 2, rfl, h, _, rfl, ?_⟩
    cases e : isRow d 2 with
    | false =>
      refine iteT ?_
      have e2 : isFr d = false := by
        unfold isFr
        split
        · exact absurd e (by simp [isRow])
        · rfl
      rw [e2] at q
      exact q
    | true =>
      refine iteF ?_
      cases h with
      | tup hs ha =>
        rename_i a xs ds
        have hl : ds.length = 2 := by
          have := of_decide_eq_true e
          omega
        obtain ⟨d1, d2, rfl⟩ : ∃ d1 d2, ds = [d1, d2] := by
          match ds, hl with
          | [d1, d2], _ => exact ⟨d1, d2, rfl⟩
        cases ha with
        | cons h1 hr1 =>
          cases hr1 with
          | cons h2 hr2 =>
            cases hr2
            rename_i v1 v2
            refine ⟨_, rfl, a, _, rfl, hs, rfl, _, _, rfl, _, _, rfl, rfl, ?_⟩
            refine ⟨_, rfl, v1, d1, rfl, h1, _, rfl, ?_⟩
            cases h1 with
            | int t =>
              refine iteT ⟨_, rfl, v2, d2, rfl, h2, _, rfl, ?_⟩
              cases h2 with
              | int b =>
                refine iteT ⟨_, rfl, _, _, rfl, rfl, _, rfl, ?_⟩
                have e3 : isFr (.tuple [.int t, .int b]) = (decide (1 ≤ b) && decide (Int.gcd t b = 1)) := rfl
                rw [e3] at q
                by_cases hb : (1 : Int) ≤ b
                · have hd : decide ((1 : Int) ≤ b) = true := decide_eq_true hb
                  rw [hd] at q ⊢
                  refine iteT ⟨_, rfl, _, rfl, t, b, rfl, rfl, ?_⟩
                  have e4 : decide (V.int ((Int.gcd t b : Nat) : Int) = V.int 1) = decide (Int.gcd t b = 1) := by
                    rw [dec_int, Bool.beq_eq_decide_eq]
                    exact decide_eq_decide.mpr (by omega)
                  rw [e4]
                  exact q
                · have hd : decide ((1 : Int) ≤ b) = false := decide_eq_false hb
                  rw [hd] at q ⊢
                  exact iteF q
              | _ => exact iteF q
            | _ => exact iteF q
      | _ => cases e
theorem ok_fraction (T : Txt K mg) (F_common_divisor : OwnFn P w K mg base 1 "common_divisor" ["one", "other"] spGcd) : OwnFn P w K mg base 2 "fraction" ["top", "bottom"] (spFrac K) := by
  refine own_ok (k := 1) T.D_fraction sc_fraction (fun _ _ _ _ _ _ us hl => match us, hl with | [_, _], _ => rfl) (fun vs H Q E h => ?_) (fun cdv A outer s H vs Q E hr h => ⟨_, (pss_cons (ps_if (pt_cmpR op_eq (pv 1) pe_int (nomark _)) (pss_one (ps_raise rfl (takes_of rfl rfl rfl rfl) (pmk_own PySem.F.excBase_ValueError T.x_NoNumber T.m_NoNumber T.k_NoNumber (raises_own T.b_NoNumber T.t_NoNumber) rfl))) pss_nil)
  (pss_cons (ps_set (i := 2) sc_fraction.nd rfl (Or.inl rfl) (pe_own F_common_divisor hr passL (pa_cons (pv 0) (pa_cons (pv 1) pa_nil))))
  (C8.pss_cut (ps_if (pt_cmpR op_lt (pv 1) pe_int (nomark _)) (pss_one (ps_set (i := 2) sc_fraction.nd rfl (Or.inl rfl) (pe_un un_neg (pv 2)))) pss_nil)
  (pss_one (ps_ret (pe_tup (pa_cons (pe_op op_fdivG (pv 0) (pv 2)) (pa_cons (pe_op op_fdivG (pv 1) (pv 2)) pa_nil)))))))), ?_⟩)
  · obtain ⟨t, b, rfl, _⟩ := h
    rfl
  · obtain ⟨t, b, rfl, hb, k0, k1⟩ := h
    refine ⟨_, rfl, rfl, _, rfl, ?_⟩
    by_cases h0 : b = 0
    · rw [decide_eq_true (congrArg V.int h0)]
      exact iteT (k0 h0)
    · rw [decide_eq_false (fun z => h0 (V.int.inj z))]
      refine iteF ⟨_, rfl, _, rfl, t, b, rfl, ?_⟩
      refine ⟨fun σ H' => H' = H ∧ σ = [some (.int t), some (.int b), some (.int (dvs t b))], ?_, ?_⟩
      · refine ⟨_, rfl, _, _, rfl, rfl, _, rfl, ?_⟩
        by_cases hn : b < 0
        · rw [decide_eq_true hn]
          refine iteT ⟨_, rfl, _, rfl, rfl, ?_⟩
          unfold dvs
          rw [if_pos hn] <;> rfl
        · rw [decide_eq_false hn]
          refine iteF ⟨rfl, ?_⟩
          unfold dvs
          rw [if_neg hn] <;> rfl
      · rintro σ H' ⟨rfl, rfl⟩
        have hz := dvs_ne t h0
        have hs : (dvs t b).natAbs < 2 ^ 400 := by
          rw [dvs_nat]
          exact Nat.lt_of_le_of_lt (gcd_le t h0) hb
        refine ⟨_, rfl, _, rfl, _, _, rfl, rfl, divG hz hs (by decide) (by decide), _, rfl, _, rfl, _, _, rfl, rfl, divG hz hs (by decide) (by decide), ?_⟩
        exact ⟨by show 2 ≤ sizeLine; decide, fun p hp => k1 h0 p hp⟩
theorem ok_plus (T : Txt K mg) (F_fraction : OwnFn P w K mg base 2 "fraction" ["top", "bottom"] (spFrac K)) : OwnFn P w K mg base 3 "plus" ["a", "b"] (sp2 K (fun a0 a1 b0 b1 => a0 * b1 + b0 * a1) (fun a0 a1 b0 b1 => a1 * b1)) := by
  refine own_ok (k := 2) T.D_plus sc_plus (fun _ _ _ _ _ _ us hl => match us, hl with | [_, _], _ => rfl) (fun vs H Q E h => ?_) (fun cdv A outer s H vs Q E hr h => ⟨_, (pss_one (ps_ret (pe_own F_fraction hr passE (pa_cons (pe_op op_add (pe_op op_mulW (pe_ix ix_tup (pv 0) pe_int (fun _ _ => rfl)) (pe_ix ix_tup (pv 1) pe_int (fun _ _ => rfl))) (pe_op op_mulW (pe_ix ix_tup (pv 1) pe_int (fun _ _ => rfl)) (pe_ix ix_tup (pv 0) pe_int (fun _ _ => rfl)))) (pa_cons (pe_op op_mulW (pe_ix ix_tup (pv 0) pe_int (fun _ _ => rfl)) (pe_ix ix_tup (pv 1) pe_int (fun _ _ => rfl))) pa_nil))))), ?_⟩)
  · obtain ⟨p, q, a0, a1, b0, b1, rfl, _⟩ := h
    rfl
  · obtain ⟨p, q, a0, a1, b0, b1, rfl, hp, hq, ⟨h1, h2, h3, h4⟩, k⟩ := h
    exact ⟨_, rfl, p, _, _, _, rfl, rfl, hp, at0, _, rfl, q, _, _, _, rfl, rfl, hq, at1, _, _, rfl, rfl, mulW h1 h4, _, rfl, q, _, _, _, rfl, rfl, hq, at0, _, rfl, p, _, _, _, rfl, rfl, hp, at1, _, _, rfl, rfl, mulW h3 h2, _, _, rfl, rfl, _, rfl, p, _, _, _, rfl, rfl, hp, at1, _, rfl, q, _, _, _, rfl, rfl, hq, at1, _, _, rfl, rfl, mulW h2 h4, _, _, rfl, Nat.lt_of_lt_of_le (wide_lt h2 h4) (Nat.pow_le_pow_right (by decide) (by decide)), k⟩
theorem ok_minus (T : Txt K mg) (F_fraction : OwnFn P w K mg base 2 "fraction" ["top", "bottom"] (spFrac K)) : OwnFn P w K mg base 3 "minus" ["a", "b"] (sp2 K (fun a0 a1 b0 b1 => a0 * b1 - b0 * a1) (fun a0 a1 b0 b1 => a1 * b1)) := by
  refine own_ok (k := 2) T.D_minus sc_minus (fun _ _ _ _ _ _ us hl => match us, hl with | [_, _], _ => rfl) (fun vs H Q E h => ?_) (fun cdv A outer s H vs Q E hr h => ⟨_, (pss_one (ps_ret (pe_own F_fraction hr passE (pa_cons (pe_op op_sub (pe_op op_mulW (pe_ix ix_tup (pv 0) pe_int (fun _ _ => rfl)) (pe_ix ix_tup (pv 1) pe_int (fun _ _ => rfl))) (pe_op op_mulW (pe_ix ix_tup (pv 1) pe_int (fun _ _ => rfl)) (pe_ix ix_tup (pv 0) pe_int (fun _ _ => rfl)))) (pa_cons (pe_op op_mulW (pe_ix ix_tup (pv 0) pe_int (fun _ _ => rfl)) (pe_ix ix_tup (pv 1) pe_int (fun _ _ => rfl))) pa_nil))))), ?_⟩)
  · obtain ⟨p, q, a0, a1, b0, b1, rfl, _⟩ := h
    rfl
  · obtain ⟨p, q, a0, a1, b0, b1, rfl, hp, hq, ⟨h1, h2, h3, h4⟩, k⟩ := h
    exact ⟨_, rfl, p, _, _, _, rfl, rfl, hp, at0, _, rfl, q, _, _, _, rfl, rfl, hq, at1, _, _, rfl, rfl, mulW h1 h4, _, rfl, q, _, _, _, rfl, rfl, hq, at0, _, rfl, p, _, _, _, rfl, rfl, hp, at1, _, _, rfl, rfl, mulW h3 h2, _, _, rfl, rfl, _, rfl, p, _, _, _, rfl, rfl, hp, at1, _, rfl, q, _, _, _, rfl, rfl, hq, at1, _, _, rfl, rfl, mulW h2 h4, _, _, rfl, Nat.lt_of_lt_of_le (wide_lt h2 h4) (Nat.pow_le_pow_right (by decide) (by decide)), k⟩
theorem ok_times (T : Txt K mg) (F_fraction : OwnFn P w K mg base 2 "fraction" ["top", "bottom"] (spFrac K)) : OwnFn P w K mg base 3 "times" ["a", "b"] (sp2 K (fun a0 a1 b0 b1 => a0 * b0) (fun a0 a1 b0 b1 => a1 * b1)) := by
  refine own_ok (k := 2) T.D_times sc_times (fun _ _ _ _ _ _ us hl => match us, hl with | [_, _], _ => rfl) (fun vs H Q E h => ?_) (fun cdv A outer s H vs Q E hr h => ⟨_, (pss_one (ps_ret (pe_own F_fraction hr passE (pa_cons (pe_op op_mulW (pe_ix ix_tup (pv 0) pe_int (fun _ _ => rfl)) (pe_ix ix_tup (pv 1) pe_int (fun _ _ => rfl))) (pa_cons (pe_op op_mulW (pe_ix ix_tup (pv 0) pe_int (fun _ _ => rfl)) (pe_ix ix_tup (pv 1) pe_int (fun _ _ => rfl))) pa_nil))))), ?_⟩)
  · obtain ⟨p, q, a0, a1, b0, b1, rfl, _⟩ := h
    rfl
  · obtain ⟨p, q, a0, a1, b0, b1, rfl, hp, hq, ⟨h1, h2, h3, h4⟩, k⟩ := h
    exact ⟨_, rfl, p, _, _, _, rfl, rfl, hp, at0, _, rfl, q, _, _, _, rfl, rfl, hq, at0, _, _, rfl, rfl, mulW h1 h3, _, rfl, p, _, _, _, rfl, rfl, hp, at1, _, rfl, q, _, _, _, rfl, rfl, hq, at1, _, _, rfl, rfl, mulW h2 h4, _, _, rfl, Nat.lt_of_lt_of_le (wide_lt h2 h4) (Nat.pow_le_pow_right (by decide) (by decide)), k⟩
theorem ok_over (T : Txt K mg) (F_fraction : OwnFn P w K mg base 2 "fraction" ["top", "bottom"] (spFrac K)) : OwnFn P w K mg base 3 "over" ["a", "b"] (sp2 K (fun a0 a1 b0 b1 => a0 * b1) (fun a0 a1 b0 b1 => a1 * b0)) := by
  refine own_ok (k := 2) T.D_over sc_over (fun _ _ _ _ _ _ us hl => match us, hl with | [_, _], _ => rfl) (fun vs H Q E h => ?_) (fun cdv A outer s H vs Q E hr h => ⟨_, (pss_one (ps_ret (pe_own F_fraction hr passE (pa_cons (pe_op op_mulW (pe_ix ix_tup (pv 0) pe_int (fun _ _ => rfl)) (pe_ix ix_tup (pv 1) pe_int (fun _ _ => rfl))) (pa_cons (pe_op op_mulW (pe_ix ix_tup (pv 0) pe_int (fun _ _ => rfl)) (pe_ix ix_tup (pv 1) pe_int (fun _ _ => rfl))) pa_nil))))), ?_⟩)
  · obtain ⟨p, q, a0, a1, b0, b1, rfl, _⟩ := h
    rfl
  · obtain ⟨p, q, a0, a1, b0, b1, rfl, hp, hq, ⟨h1, h2, h3, h4⟩, k⟩ := h
    exact ⟨_, rfl, p, _, _, _, rfl, rfl, hp, at0, _, rfl, q, _, _, _, rfl, rfl, hq, at1, _, _, rfl, rfl, mulW h1 h4, _, rfl, p, _, _, _, rfl, rfl, hp, at1, _, rfl, q, _, _, _, rfl, rfl, hq, at0, _, _, rfl, rfl, mulW h2 h3, _, _, rfl, Nat.lt_of_lt_of_le (wide_lt h2 h3) (Nat.pow_le_pow_right (by decide) (by decide)), k⟩
theorem ok_below (T : Txt K mg) : OwnFn P w K mg base 1 "below" ["a", "b"] (spBelow K) := by
  refine own_ok (k := 0) T.D_below sc_below (fun _ _ _ _ _ _ us hl => match us, hl with | [_, _], _ => rfl) (fun vs H Q E h => ?_) (fun cdv A outer s H vs Q E hr h => ⟨_, PSs.nox (pss_one (ps_ret (pe_cmpR op_lt (pe_op op_mulW (pe_ix ix_tup (pv 0) pe_int (fun _ _ => rfl)) (pe_ix ix_tup (pv 1) pe_int (fun _ _ => rfl))) (pe_op op_mulW (pe_ix ix_tup (pv 1) pe_int (fun _ _ => rfl)) (pe_ix ix_tup (pv 0) pe_int (fun _ _ => rfl))) (nomark _)))), ?_⟩)
  · obtain ⟨p, q, a0, a1, b0, b1, rfl, _⟩ := h
    rfl
  · obtain ⟨p, q, a0, a1, b0, b1, rfl, hp, hq, ⟨h1, h2, h3, h4⟩, k⟩ := h
    exact ⟨_, rfl, p, _, _, _, rfl, rfl, hp, at0, _, rfl, q, _, _, _, rfl, rfl, hq, at1, _, _, rfl, rfl, mulW h1 h4, _, rfl, q, _, _, _, rfl, rfl, hq, at0, _, rfl, p, _, _, _, rfl, rfl, hp, at1, _, _, rfl, rfl, mulW h3 h2, _, _, rfl, rfl, k⟩
end
end K01


namespace K01
open PySem PySem.Spec PyProof.Rows L2 LB
abbrev N_L_cell : List Str := ["_law_script", "_law_k", "_law_state", "_law_cell_here"]
theorem sc_L_cell : FnScope N_L_cell ["_law_script", "_law_k"] (defScope s_L_cell) := ⟨rfl, rfl, rfl, by decide +kernel, rfl, by decide +kernel, by decide +kernel⟩
abbrev N_L_numbers : List Str := ["_law_cell_here", "_law_many", "_law_found", "_law_state", "_law_digits", "_law_k"]
theorem sc_L_numbers : FnScope N_L_numbers ["_law_cell_here", "_law_many"] (defScope s_L_numbers) := ⟨rfl, rfl, rfl, by decide +kernel, rfl, by decide +kernel, by decide +kernel⟩
abbrev N_L_low : List Str := ["_law_top", "_law_bottom", "_law_high", "_law_low_here"]
theorem sc_L_low : FnScope N_L_low ["_law_top", "_law_bottom"] (defScope s_L_low) := ⟨rfl, rfl, rfl, by decide +kernel, rfl, by decide +kernel, by decide +kernel⟩
abbrev N_L_is_whole : List Str := ["_law_thing"]
theorem sc_L_is_whole : FnScope N_L_is_whole ["_law_thing"] (defScope s_L_is_whole) := ⟨rfl, rfl, rfl, by decide +kernel, rfl, by decide +kernel, by decide +kernel⟩
abbrev N_L_is_fraction : List Str := ["_law_thing", "_law_part"]
theorem sc_L_is_fraction : FnScope N_L_is_fraction ["_law_thing"] (defScope s_L_is_fraction) := ⟨rfl, rfl, rfl, by decide +kernel, rfl, by decide +kernel, by decide +kernel⟩
abbrev N_L_caught : List Str := ["_law_deed", "e", "_law_others"]
theorem sc_L_caught : FnScope N_L_caught ["_law_deed"] (defScope s_L_caught) := ⟨rfl, rfl, rfl, by decide +kernel, rfl, by decide +kernel, by decide +kernel⟩
abbrev N_L_told : List Str := ["_law_found", "_law_top", "_law_bottom"]
theorem sc_L_told : FnScope N_L_told ["_law_found", "_law_top", "_law_bottom"] (defScope s_L_told) := ⟨rfl, rfl, rfl, by decide +kernel, rfl, by decide +kernel, by decide +kernel⟩
abbrev N_L_number : List Str := ["_law_x", "_law_y", "_law_wide"]
theorem sc_L_number : FnScope N_L_number ["_law_x", "_law_y", "_law_wide"] (defScope s_L_number) := ⟨rfl, rfl, rfl, by decide +kernel, rfl, by decide +kernel, by decide +kernel⟩
abbrev N_L_pair_right : List Str := ["_law_a", "_law_b", "_law_found"]
theorem sc_L_pair_right : FnScope N_L_pair_right ["_law_a", "_law_b"] (defScope s_L_pair_right) := ⟨rfl, rfl, rfl, by decide +kernel, rfl, by decide +kernel, by decide +kernel⟩
abbrev N_L_kinds_right : List Str := ["_law_a", "_law_odd", "_law_thing", "_law_found"]
theorem sc_L_kinds_right : FnScope N_L_kinds_right ["_law_a"] (defScope s_L_kinds_right) := ⟨rfl, rfl, rfl, by decide +kernel, rfl, by decide +kernel, by decide +kernel⟩
abbrev N_L_made_right : List Str := ["_law_top", "_law_bottom"]
theorem sc_L_made_right : FnScope N_L_made_right ["_law_top", "_law_bottom"] (defScope s_L_made_right) := ⟨rfl, rfl, rfl, by decide +kernel, rfl, by decide +kernel, by decide +kernel⟩
abbrev N_law : List Str := ["_law_script", "_law_cell_here", "_law_xs", "_law_great", "_law_bottom", "_law_a", "_law_b", "_law_top", "_law_other", "_law_one", "_law_two"]
theorem sc_law : FnScope N_law ["_law_script"] (defScope s_law) := ⟨rfl, rfl, rfl, by decide +kernel, rfl, by decide +kernel, by decide +kernel⟩
/-! ### small facts -/
theorem Same.toEx {H H' : Hp} (s : Same H H') : Ex H H' := fun b o e _ => s b o e
theorem Same.t {K : PySem.W.Frag} {H H' : Hp} {a : Addr} {xs : List V} (e : Same H H') (h : SqT K H a xs) : SqT K H' a xs := ex_t (Same.toEx e) h
theorem Same.l {K : PySem.W.Frag} {H H' : Hp} {a : Addr} {xs : List V} (e : Same H H') (h : SqL K H a xs) : SqL K H' a xs := ex_l (Same.toEx e) h
theorem cut_map (ns : List Int) (lo hi : Option Int) : ∃ ms : List Int, cutV (ns.map V.int) lo hi = ms.map V.int ∧ ms.length ≤ ns.length := by
  refine ⟨(ns.drop (HT.sIx ns.length 0 lo)).take (HT.sIx ns.length ns.length hi - HT.sIx ns.length 0 lo), ?_, ?_⟩
  · unfold cutV
    rw [List.length_map, List.map_take, List.map_drop]
  · rw [List.length_take, List.length_drop]
    omega
theorem int_at {ns : List Int} {i : Nat} {v : V} (h : (ns.map V.int)[i]? = some v) : ∃ z, ns[i]? = some z ∧ v = .int z := by
  rw [List.getElem?_map] at h
  cases e : ns[i]? with
  | none =>
    rw [e] at h
    cases h
  | some z =>
    rw [e] at h
    exact ⟨z, rfl, (Option.some.inj h).symm⟩
theorem fm (a : Int) {b : Int} (h : 0 < b) : 0 ≤ a.fmod b ∧ a.fmod b < b := ⟨Int.fmod_nonneg_of_pos a h, Int.fmod_lt_of_pos a h⟩
theorem mulS {i j : Int} (hi : i.natAbs < 2 ^ 200) (hj : j.natAbs < 2 ^ 200) : CMulW i j := wide_mul hi hj (by decide) (by decide) (by decide)
theorem nz {j : Int} (h : j ≠ 0) : j ≠ 0 := h
theorem sz {n : Nat} (h : n ≤ 100000) : n ≤ sizeLine := Nat.le_trans h (by decide)
theorem szl {n : Nat} (h : n < 100000) : n < sizeLine := Nat.lt_of_lt_of_le h (by decide)
/-- an item picked by a test -/
theorem pick2 {x y : V} (b : Bool) : atI [x, y] (if b = true then 1 else 0) = some (if b = true then y else x) := by
  cases b
  · exact at0
  · exact at1
/-- what is held by H' beyond H may be changed -/
theorem same_mut {H H' : Hp} {p : Addr} {o : HO} (s : Same H H') (h : H p = none) : Same H (upd H' p o) := fun b u e => by
  rw [upd_ne (ne_of_none e h)]
  exact s b u e
/-! ### promises -/
def spCell (K : PySem.W.Frag) : Sp := fun vs H Q _ => ∃ (a : Addr) (ns : List Int) (j : Nat), vs = [.ref a, .int (j : Int)] ∧ SqL K H a (ns.map V.int) ∧ j ≤ 1000 ∧ ∀ (n : Int) H', Same H H' → Q (.int n) H'
def spNums : Sp := fun vs H Q _ => ∃ (c : Int) (m : Nat), vs = [.int c, .int (m : Int)] ∧ m ≤ 1000 ∧ ∀ (xs : List Int) p H', xs.length = m → (∀ x ∈ xs, 0 ≤ x ∧ x < 2000000000) → Same H H' → H' p = some (.lst (xs.map V.int)) → Q (.ref p) H'
def spLow : Sp := fun vs H Q _ => ∃ t b : Int, vs = [.int t, .int b] ∧ b ≠ 0 ∧ b.natAbs < 2 ^ 400 ∧ ∀ p, H p = none → Q (.ref p) (upd H p (.tup [.int (lowT t b), .int (lowB t b)]))
/-- the bottom, if it is one, isn't too great -/
def bnd : PyData → Prop
  | .tuple [.int _, .int b] => b.natAbs < 2 ^ 400
  | _ => True
def spLFr (K : PySem.W.Frag) : Sp := fun vs H Q _ => ∃ v d, vs = [v] ∧ Rp K H v d ∧ bnd d ∧ ∀ H', Same H H' → Q (.bl (isFr d)) H'
def spNumber : Sp := fun vs H Q _ => ∃ x y z : Int, vs = [.int x, .int y, .int z] ∧ (0 ≤ x ∧ x < 2000000000) ∧ (0 ≤ y ∧ y < 2000000000) ∧ (0 ≤ z ∧ z < 2000000000) ∧ ∀ (n : Int) H', n.natAbs < 1000000000000 → Same H H' → Q (.int n) H'
section
variable {P : Program} {w : World} {K : PySem.W.Frag} {mg : Str → Option Value} {base : Heap}
theorem ok_L_cell (T : Txt K mg) : OwnFn P w K mg base 1 "_law_cell" ["_law_script", "_law_k"] (spCell K) := by
  refine own_ok (k := 0) T.D_L_cell sc_L_cell (fun _ _ _ _ _ _ us hl => match us, hl with | [_, _], _ => rfl) (fun vs H Q E h => ?_) (fun cdv A outer s H vs Q E hr h => ⟨_, PSs.nox (pss_cons (ps_if (pt_cmpR op_lt (pv 1) (pe_callB call_len (by rfl) T.f_len (by decide +kernel) (pa_cons (pv 0) pa_nil)) (nomark _)) (pss_one (ps_ret (pe_ix ix_list (pv 0) (pv 1) (fun _ _ => rfl)))) pss_nil)
  (pss_cons (ps_set (i := 2) sc_L_cell.nd rfl (Or.inl rfl) (pe_op op_modN (pe_op op_mulW pe_int (pe_op op_add (pe_op op_add (pe_op op_mulW (pv 1) (pv 1)) (pe_op op_mulW pe_int (pv 1))) pe_int)) pe_int))
  (pss_cons (ps_for PassesOwn.never rfl (pi_list (pe_slice sl_list (pv 0) po_none (po_some pe_int))) (pg_name (i := 3) sc_L_cell.nd rfl (Or.inl rfl))
   (pss_one (ps_set (i := 2) sc_L_cell.nd rfl (Or.inl rfl) (pe_op op_modN (pe_op op_add (pe_op op_mulW (pv 2) pe_int) (pv 3)) pe_int))))
  (pss_one (ps_ret (pv 2)))))), ?_⟩)
  · obtain ⟨a, ns, j, rfl, _⟩ := h
    rfl
  · obtain ⟨a, ns, j, rfl, hs, hj, q⟩ := h
    refine ⟨_, rfl, _, rfl, _, _, rfl, .inl ⟨_, hs, rfl⟩, _, _, rfl, rfl, _, rfl, ?_⟩
    by_cases hl : (j : Int) < ((ns.map V.int).length : Int)
    · rw [decide_eq_true hl]
      have hj2 : j < ns.length := by
        rw [List.length_map] at hl
        omega
      have hg : (ns.map V.int)[j]? = some (.int ns[j]) := by
        rw [List.getElem?_map, List.getElem?_eq_getElem hj2] <;> rfl
      exact iteT ⟨_, rfl, _, rfl, a, _, _, _, rfl, rfl, hs, atI_nat hg, q _ H (Same.refl H)⟩
    · rw [decide_eq_false hl]
      refine iteF ?_
      refine ⟨_, rfl, _, rfl, _, _, rfl, rfl, mulS (by omega) (by omega), _, rfl, _, _, rfl, rfl, mulS (by omega) (by omega), _, _, rfl, rfl, _, _, rfl, rfl, _, _, rfl, rfl, ?_, _, _, rfl, rfl, nz (by decide), ?_⟩
      · refine wide_mul (a := 20) (b := 40) (by decide) ?_ (by decide) (by decide) (by decide)
        have h2 : (j : Int) * (j : Int) ≤ 1000 * 1000 := Int.mul_le_mul (by omega) (by omega) (by omega) (by omega)
        have h3 : (0 : Int) ≤ (j : Int) * (j : Int) := Int.mul_nonneg (by omega) (by omega)
        omega
      · obtain ⟨ms, em, _⟩ := cut_map ns none (some 3)
        refine ⟨_, rfl, _, rfl, a, _, rfl, hs, fun p hp => ?_⟩
        refine ⟨p, rfl, ⟨_, SqL.of upd_same⟩, for_list (K := K) (a := p) (xs := cutV (ns.map V.int) none (some 3)) (fun i σ H' => Same (upd H p (.lst (cutV (ns.map V.int) none (some 3)))) H' ∧ ∃ (z : Int) (kv : Option V), σ = [some (.ref a), some (.int (j : Int)), some (.int z), kv] ∧ 0 ≤ z ∧ z < 2147483647)
          ⟨Same.refl _, _, none, rfl, (fm _ (by decide)).1, (fm _ (by decide)).2⟩ (fun i σ H' _ ⟨sm, _⟩ => SqL.of (sm _ _ upd_same)) ?_ ?_⟩
        · rintro i x σ H' hx ⟨sm, z, kv, rfl, z0, z1⟩
          rw [em] at hx
          obtain ⟨c, _, rfl⟩ := int_at hx
          exact ⟨_, rfl, _, _, rfl, rfl, mulS (by omega) (by decide), _, rfl, _, _, rfl, rfl, _, _, rfl, rfl, nz (by decide), sm, _, _, rfl, (fm _ (by decide)).1, (fm _ (by decide)).2⟩
        · rintro σ H' ⟨sm, z, kv, rfl, _⟩
          exact ⟨_, rfl, q z H' ((same_new hp).trans sm)⟩
theorem ok_L_numbers (T : Txt K mg) : OwnFn P w K mg base 1 "_law_numbers" ["_law_cell_here", "_law_many"] spNums := by
  refine own_ok (k := 0) T.D_L_numbers sc_L_numbers (fun _ _ _ _ _ _ us hl => match us, hl with | [_, _], _ => rfl) (fun vs H Q E h => ?_) (fun cdv A outer s H vs Q E hr h => ⟨_, PSs.nox (pss_cons (ps_set (i := 2) sc_L_numbers.nd rfl (Or.inl rfl) (pe_lst pa_nil))
  (pss_cons (ps_set (i := 3) sc_L_numbers.nd rfl (Or.inl rfl) (pe_op op_modN (pe_op op_mulW (pe_op op_add (pe_op op_modN (pv 0) pe_int) pe_int) pe_int) pe_int))
  (pss_cons (ps_set (i := 4) sc_L_numbers.nd rfl (Or.inl rfl) pe_int)
  (C8.pss_cut (ps_if (PW.pt (pw_or (pt_cmpR op_lt (pv 0) pe_int (nomark _)) (pw_or1 (pt_cmpR op_ge (pv 0) (pe_op op_pow pe_int pe_int) (nomark _))))) (pss_one (ps_set (i := 4) sc_L_numbers.nd rfl (Or.inl rfl) (pe_callB call_abs (by rfl) T.f_abs (by decide +kernel) (pa_cons (pv 0) pa_nil)))) pss_nil)
  (pss_cons (ps_for PassesOwn.never rfl (pi_range1 (by rfl) T.f_range (pa_cons (pv 1) pa_nil)) (pg_name (i := 5) sc_L_numbers.nd rfl (Or.inl rfl))
   (pss_cons (ps_set (i := 3) sc_L_numbers.nd rfl (Or.inl rfl) (pe_op op_modN (pe_op op_add (pe_op op_add (pe_op op_mulW (pv 3) (pe_op op_add (pe_op op_modN (pv 3) pe_int) pe_int)) (pe_op op_mulW pe_int (pv 5))) pe_int) pe_int))
  (pss_cons (ps_expr (pe_bm PySem.F.plainAttrs_list PySem.F.slot_list_append PySem.F.type_list_append mt_append (pv 2) (pa_cons (pe_ix ix_list (pe_lst (pa_cons (pv 3) (pa_cons (pe_op op_modN (pv 4) pe_int) pa_nil))) (pe_callTy call_int1 (by rfl) T.f_int (by decide +kernel) (pa_cons (pe_cmpR op_gt (pv 4) pe_int (nomark _)) pa_nil)) (fun _ _ => rfl)) pa_nil)))
  (pss_one (ps_set (i := 4) sc_L_numbers.nd rfl (Or.inl rfl) (pe_op op_fdivG (pv 4) pe_int))))))
  (pss_one (ps_ret (pv 2)))))))), ?_⟩)
  · obtain ⟨c, m, rfl, _⟩ := h
    rfl
  · obtain ⟨c, m, rfl, hm, q⟩ := h
    refine ⟨by show 0 ≤ sizeLine; decide, fun p hp => ?_⟩
    have c1 := fm c (b := 1999999973) (by decide)
    refine ⟨_, rfl, _, _, rfl, rfl, nz (by decide), _, _, rfl, rfl, _, _, rfl, rfl, mulS (by omega) (by decide), _, _, rfl, rfl, nz (by decide), ?_⟩
    refine ⟨fun σ H' => H' = upd H p (.lst []) ∧ ∃ st dg : Int, σ = [some (.int c), some (.int (m : Int)), some (.ref p), some (.int st), some (.int dg), none] ∧ 0 ≤ st ∧ st < 1999999973 ∧ 0 ≤ dg, ?_, ?_⟩
    · refine ⟨_, rfl, _, _, rfl, rfl, _, rfl, ?_⟩
      have ab : 0 ≤ (if c < 0 then -c else c) := by split <;> omega
      by_cases h1 : c < 0
      · rw [decide_eq_true h1]
        exact iteT ⟨_, rfl, _, rfl, rfl, _, _, rfl, (fm _ (by decide)).1, (fm _ (by decide)).2, ab⟩
      · rw [decide_eq_false h1]
        refine iteF ⟨_, rfl, _, _, rfl, rfl, ⟨by decide, by decide, by decide⟩, _, _, rfl, rfl, _, rfl, ?_⟩
        by_cases h2 : (10 : Int) ^ (18 : Int).toNat ≤ c
        · rw [decide_eq_true h2]
          exact iteT ⟨_, rfl, _, rfl, rfl, _, _, rfl, (fm _ (by decide)).1, (fm _ (by decide)).2, ab⟩
        · rw [decide_eq_false h2]
          exact iteF ⟨rfl, _, _, rfl, (fm _ (by decide)).1, (fm _ (by decide)).2, by decide⟩
    · rintro σ H0 ⟨rfl, st, dg, rfl, s0, s1, d0⟩
      refine ⟨_, rfl, (m : Int), rfl, by omega, by omega, for_range (lo := 0) (n := (m : Int).toNat) (fun i σ H' => ∃ (xs : List Int) (st dg : Int) (kv : Option V), σ = [some (.int c), some (.int (m : Int)), some (.ref p), some (.int st), some (.int dg), kv] ∧ xs.length = i ∧ (∀ x ∈ xs, 0 ≤ x ∧ x < 2000000000) ∧ 0 ≤ st ∧ st < 1999999973 ∧ 0 ≤ dg ∧ Same H H' ∧ H' p = some (.lst (xs.map V.int)))
        ⟨[], st, dg, none, rfl, rfl, fun x hx => (List.not_mem_nil hx).elim, s0, s1, d0, same_new hp, upd_same⟩ ?_ ?_⟩
      · rintro i σ H' hi ⟨xs, st, dg, kv, rfl, hl, ha, s0, s1, d0, sm, hx⟩
        have f1 := fm st (b := 65521) (by decide)
        refine ⟨_, rfl, _, rfl, _, _, rfl, rfl, nz (by decide), _, _, rfl, rfl, _, _, rfl, rfl, mulS (by omega) (by omega), _, rfl, _, _, rfl, rfl, mulS (by decide) (by omega), _, _, rfl, rfl, _, _, rfl, rfl, _, _, rfl, rfl, nz (by decide), ?_⟩
        refine ⟨_, rfl, .inl ⟨rfl, _, SqL.of hx⟩, _, rfl, _, rfl, _, _, rfl, rfl, nz (by decide), by show 2 ≤ sizeLine; decide, fun p2 hp2 => ?_⟩
        refine ⟨_, rfl, _, _, rfl, rfl, .inr ⟨_, rfl, p2, _, _, _, rfl, rfl, SqL.of upd_same, pick2 _, ?_⟩⟩
        have n2 : p ≠ p2 := ne_of_none hx hp2
        have ev : ∀ b : Bool, ∃ v : Int, (if b = true then V.int (dg.fmod 1000000) else V.int ((st * (st.fmod 65521 + 40487) + 7 * (0 + (i : Int)) + 5).fmod 1999999973)) = .int v ∧ 0 ≤ v ∧ v < 2000000000 := fun b => by
          have g1 := fm dg (b := 1000000) (by decide)
          have g2 := fm (st * (st.fmod 65521 + 40487) + 7 * (0 + (i : Int)) + 5) (b := 1999999973) (by decide)
          cases b
          · exact ⟨_, rfl, g2.1, by omega⟩
          · exact ⟨_, rfl, g1.1, by omega⟩
        obtain ⟨v, e, v0, v1⟩ := ev (decide (0 < dg))
        rw [e]
        refine ⟨p, xs.map V.int, .int v, rfl, rfl, by rw [upd_ne n2]; exact hx, szl (by rw [List.length_map, hl]; omega), ?_⟩
        refine ⟨_, rfl, _, _, rfl, rfl, ⟨by decide, by decide +kernel⟩, xs ++ [v], _, _, _, rfl, by simp [hl], ?_, (fm _ (by decide)).1, (fm _ (by decide)).2, ?_, ?_, ?_⟩
        · intro x hx
          rcases List.mem_append.mp hx with h | h
          · exact ha x h
          · have e : x = v := by simpa using h
            rw [e]
            exact ⟨v0, v1⟩
        · rw [Int.fdiv_eq_ediv_of_nonneg _ (by decide)]
          exact Int.ediv_nonneg d0 (by decide)
        · exact same_mut (sm.trans (same_new hp2)) hp
        · rw [upd_same, List.map_append] <;> rfl
      · rintro σ H' ⟨xs, st, dg, kv, rfl, hl, ha, _, _, _, sm, hx⟩
        exact ⟨_, rfl, q xs p H' (by omega) ha sm hx⟩
theorem ok_L_low (T : Txt K mg) : OwnFn P w K mg base 1 "_law_low" ["_law_top", "_law_bottom"] spLow := by
  refine own_ok (k := 0) T.D_L_low sc_L_low (fun _ _ _ _ _ _ us hl => match us, hl with | [_, _], _ => rfl) (fun vs H Q E h => ?_) (fun cdv A outer s H vs Q E hr h => ⟨_, PSs.nox (pss_cons (ps_par (i := 2) (j := 3) rfl sc_L_low.nd rfl rfl (by decide) rfl rfl (pa_cons (pe_callB call_abs (by rfl) T.f_abs (by decide +kernel) (pa_cons (pv 0) pa_nil)) (pa_cons (pe_callB call_abs (by rfl) T.f_abs (by decide +kernel) (pa_cons (pv 1) pa_nil)) pa_nil)) (by rfl))
  (pss_cons (ps_while PassesOwn.never (pt_cmpR op_gt (pv 3) pe_int (nomark _))
   (pss_one (ps_par (i := 2) (j := 3) rfl sc_L_low.nd rfl rfl (by decide) rfl rfl (pa_cons (pv 3) (pa_cons (pe_op op_modN (pv 2) (pv 3)) pa_nil)) (by rfl))))
  (C8.pss_cut (ps_if (pt_cmpR op_lt (pv 1) pe_int (nomark _)) (pss_one (ps_set (i := 2) sc_L_low.nd rfl (Or.inl rfl) (pe_op op_sub pe_int (pv 2)))) pss_nil)
  (pss_one (ps_ret (pe_tup (pa_cons (pe_op op_fdivG (pv 0) (pv 2)) (pa_cons (pe_op op_fdivG (pv 1) (pv 2)) pa_nil)))))))), ?_⟩)
  · obtain ⟨t, b, rfl, _⟩ := h
    rfl
  · obtain ⟨t, b, rfl, h0, hb, q⟩ := h
    refine ⟨_, rfl, _, rfl, _, rfl, _, rfl, _, _, rfl, ?_⟩
    have e1 : ∀ z : Int, (if z < 0 then -z else z) = ((z.natAbs : Nat) : Int) := fun z => by split <;> omega
    refine ⟨fun m σ H' => H' = H ∧ ∃ x y : Nat, σ = [some (.int t), some (.int b), some (.int (x : Int)), some (.int (y : Int))] ∧ m = y ∧ Nat.gcd x y = Int.gcd t b, ⟨b.natAbs, rfl, t.natAbs, b.natAbs, ?_, rfl, rfl⟩, ?_⟩
    · show [some (V.int t), some (V.int b), some (V.int (if t < 0 then -t else t)), some (V.int (if b < 0 then -b else b))] = _
      rw [e1, e1]
    rintro y σ H' ⟨rfl, x, _, rfl, rfl, hg⟩
    refine ⟨_, rfl, _, _, rfl, rfl, _, rfl, ?_⟩
    by_cases hy : (0 : Int) < (y : Int)
    · rw [decide_eq_true hy]
      refine iteT ⟨fun σ' H'' => H'' = H' ∧ σ' = [some (.int t), some (.int b), some (.int (y : Int)), some (.int ((x : Int).fmod (y : Int)))], ?_, ?_⟩
      · rintro σ' H'' ⟨rfl, rfl⟩
        have e2 : (x : Int).fmod (y : Int) = ((x % y : Nat) : Int) := by
          rw [Int.fmod_eq_emod_of_nonneg _ (by omega)]
          exact (Int.natCast_emod x y).symm
        refine ⟨x % y, Nat.mod_lt _ (by omega), rfl, y, x % y, by rw [e2], rfl, ?_⟩
        rw [← hg, Nat.gcd_comm y (x % y), ← Nat.gcd_rec, Nat.gcd_comm]
      · exact ⟨_, rfl, _, rfl, _, rfl, _, _, rfl, rfl, nz (by omega), _, _, rfl, rfl, rfl⟩
    · rw [decide_eq_false hy]
      have y0 : y = 0 := by omega
      subst y0
      rw [Nat.gcd_zero_right] at hg
      subst hg
      refine iteF ⟨fun σ H'' => H'' = H' ∧ σ = [some (.int t), some (.int b), some (.int (dvs t b)), some (.int 0)], ?_, ?_⟩
      · refine ⟨_, rfl, _, _, rfl, rfl, _, rfl, ?_⟩
        by_cases hn : b < 0
        · rw [decide_eq_true hn]
          refine iteT ⟨_, rfl, _, _, rfl, rfl, rfl, ?_⟩
          unfold dvs
          rw [if_pos hn, ← Int.zero_sub] <;> rfl
        · rw [decide_eq_false hn]
          refine iteF ⟨rfl, ?_⟩
          unfold dvs
          rw [if_neg hn] <;> rfl
      · rintro σ H2 ⟨rfl, rfl⟩
        have hz := dvs_ne t h0
        have hs : (dvs t b).natAbs < 2 ^ 400 := by
          rw [dvs_nat]
          exact Nat.lt_of_le_of_lt (gcd_le t h0) hb
        refine ⟨_, rfl, _, rfl, _, _, rfl, rfl, divG hz hs (by decide) (by decide), _, rfl, _, rfl, _, _, rfl, rfl, divG hz hs (by decide) (by decide), ?_⟩
        exact ⟨by show 2 ≤ sizeLine; decide, fun p hp => q p hp⟩
theorem ok_L_is_whole (T : Txt K mg) : OwnFn P w K mg base 1 "_law_is_whole" ["_law_thing"] (spIsWhole K) := by
  refine own_ok (k := 0) T.D_L_is_whole sc_L_is_whole (fun _ _ _ _ _ _ us hl => match us, hl with | [_], _ => rfl) (fun vs H Q E h => ?_) (fun cdv A outer s H vs Q E hr h => ⟨_, PSs.nox (pss_one (ps_ret (pe_and (pe_callB call_isi (by rfl) T.f_isinstance (by decide +kernel) (pa_cons (pv 0) (pa_cons (pe_bltn (v := .ty "int") rfl T.f_int (by decide +kernel) rfl) pa_nil))) (pe_one (pe_not (pe_callB call_isi (by rfl) T.f_isinstance (by decide +kernel) (pa_cons (pv 0) (pa_cons (pe_bltn (v := .ty "bool") rfl T.f_bool (by decide +kernel) rfl) pa_nil)))))))), ?_⟩)
  · obtain ⟨v, d, rfl, _⟩ := h
    rfl
  · obtain ⟨v, d, rfl, h, q⟩ := h
    rw [isW_of] at q
    refine ⟨_, rfl, _, _, _, _, _, rfl, .ty "int", h.ty, kit_ty (kit_int d), _, rfl, ?_⟩
    cases e : isI d with
    | false =>
      rw [e] at q
      exact iteF q
    | true =>
      rw [e] at q
      exact iteT ⟨_, rfl, _, _, _, _, _, rfl, .ty "bool", h.ty, kit_ty (kit_bool d), _, rfl, q⟩
theorem ok_L_number (T : Txt K mg) : OwnFn P w K mg base 1 "_law_number" ["_law_x", "_law_y", "_law_wide"] spNumber := by
  refine own_ok (k := 0) T.D_L_number sc_L_number (fun _ _ _ _ _ _ us hl => match us, hl with | [_, _, _], _ => rfl) (fun vs H Q E h => ?_) (fun cdv A outer s H vs Q E hr h => ⟨_, PSs.nox (pss_cons (ps_if (pt_cmpR op_eq (pe_op op_modN (pv 2) pe_int) pe_int (nomark _)) (pss_one (ps_ret (pe_op op_mulW (pe_op op_modN (pe_op op_add (pe_op op_mulW (pv 0) pe_int) (pv 1)) pe_int) (pe_op op_sub pe_int (pe_op op_mulW pe_int (pe_op op_modN (pv 0) pe_int)))))) pss_nil)
  (pss_one (ps_ret (pe_ix ix_list (pe_lst (pa_cons (pe_op op_sub (pe_op op_modN (pv 0) pe_int) pe_int) (pa_cons (pe_op op_sub (pe_op op_modN (pv 0) pe_int) pe_int) pa_nil))) (pe_op op_modN (pv 2) pe_int) (fun _ _ => rfl))))), ?_⟩)
  · obtain ⟨x, y, z, rfl, _⟩ := h
    rfl
  · obtain ⟨x, y, z, rfl, ⟨x0, x1⟩, ⟨y0, y1⟩, ⟨z0, z1⟩, q⟩ := h
    refine ⟨_, rfl, _, _, rfl, rfl, nz (by decide), rfl, _, rfl, ?_⟩
    refine ite2 (fun _ => ?_) (fun _ => ?_)
    · have f1 := fm (x * 1000003 + y) (b := 999999999989) (by decide)
      have f2 := fm x (b := 2) (by decide)
      refine ⟨_, rfl, _, _, rfl, rfl, mulS (by omega) (by decide), _, rfl, _, _, rfl, rfl, _, _, rfl, rfl, nz (by decide), _, rfl, _, _, rfl, rfl, nz (by decide), _, _, rfl, rfl, mulS (by decide) (by omega), _, _, rfl, rfl, _, _, rfl, rfl, mulS (by omega) (by omega), q _ H ?_ (Same.refl H)⟩
      rcases (show x.fmod 2 = 0 ∨ x.fmod 2 = 1 by omega) with e | e <;> rw [e] <;> omega
    · have f1 := fm x (b := 13) (by decide)
      have f2 := fm x (b := 2001) (by decide)
      have f3 := fm z (b := 2) (by decide)
      refine ⟨_, rfl, _, _, rfl, rfl, nz (by decide), _, _, rfl, rfl, _, rfl, _, _, rfl, rfl, nz (by decide), _, _, rfl, rfl, by show 2 ≤ sizeLine; decide, fun p hp => ?_⟩
      rcases (show z.fmod 2 = 0 ∨ z.fmod 2 = 1 by omega) with e | e
      · exact ⟨_, rfl, _, _, rfl, rfl, nz (by decide), p, _, _, _, rfl, rfl, SqL.of upd_same, by rw [e]; exact at0, q _ _ (by omega) (same_new hp)⟩
      · exact ⟨_, rfl, _, _, rfl, rfl, nz (by decide), p, _, _, _, rfl, rfl, SqL.of upd_same, by rw [e]; exact at1, q _ _ (by omega) (same_new hp)⟩
end
end K01


namespace K01
open PySem PySem.Spec PyProof.Rows L2 LB
/-! ### comparing fractions -/
theorem shaped2 (t b : Int) : SeqAt.shaped (.tuple [.int t, .int b]) = true := by rfl
theorem eqv2 (a b c d : Int) : PyData.eqv (.tuple [.int a, .int b]) (.tuple [.int c, .int d]) = (decide (a = c) && decide (b = d)) := by
  simp only [PyData.eqv, PyData.eqvAll, Bool.and_true, Bool.beq_eq_decide_eq]
theorem dp2 {K : PySem.W.Frag} {H : Hp} {p : Addr} {t b : Int} (h : SqT K H p [.int t, .int b]) : Dp K H (.ref p) (.tuple [.int t, .int b]) := .tup h (.cons (.int t) (.cons (.int b) .nil))
theorem rp2 {K : PySem.W.Frag} {H : Hp} {p : Addr} {t b : Int} (h : SqT K H p [.int t, .int b]) : Rp K H (.ref p) (.tuple [.int t, .int b]) := .tup h (.cons (.int t) (.cons (.int b) .nil))
theorem isFr_low {t b : Int} (hb : 0 < b) : (decide (lowT t b = t) && decide (lowB t b = b)) = isFr (.tuple [.int t, .int b]) := by
  have e : isFr (.tuple [.int t, .int b]) = (decide (1 ≤ b) && decide (Int.gcd t b = 1)) := rfl
  rw [e, decide_eq_true (show (1 : Int) ≤ b by omega), Bool.true_and, ← Bool.decide_and]
  exact decide_eq_decide.mpr (low_id hb)
theorem isFr_neg {t b : Int} (hb : ¬ 0 < b) : isFr (.tuple [.int t, .int b]) = false := by
  have e : isFr (.tuple [.int t, .int b]) = (decide (1 ≤ b) && decide (Int.gcd t b = 1)) := rfl
  rw [e, decide_eq_false (show ¬ (1 : Int) ≤ b by omega)] <;> rfl
theorem low_fr (t : Int) {b : Int} (hb : b ≠ 0) : isFr (.tuple [.int (lowT t b), .int (lowB t b)]) = true := by
  have e : isFr (.tuple [.int (lowT t b), .int (lowB t b)]) = (decide (1 ≤ lowB t b) && decide (Int.gcd (lowT t b) (lowB t b) = 1)) := rfl
  have h := lowB_pos t hb
  rw [e, decide_eq_true (show (1 : Int) ≤ lowB t b by omega), decide_eq_true (low_gcd t hb)] <;> rfl
theorem isFr_len {ds : List PyData} (h : ds.length ≠ 2) : isFr (.tuple ds) = false := by
  match ds with
  | [] => rfl
  | [d] => cases d <;> rfl
  | [_, _] => exact absurd rfl h
  | d :: e :: _ :: _ => cases d <;> first | rfl | (cases e <;> rfl)
theorem isFr_w {d1 d2 : PyData} (h : ([d1, d2].map isW).all id = false) : isFr (.tuple [d1, d2]) = false := by
  cases d1 with
  | int t => cases d2 with
    | int b => cases h
    | _ => rfl
  | _ => rfl
def spTold (K : PySem.W.Frag) : Sp := fun vs H Q _ => ∃ (p : Addr) (t b : Int), vs = [.ref p, .int t, .int b] ∧ b.natAbs < 2 ^ 400 ∧
  ((b = 0 ∧ SqT K H p [.str "refused", .bl true]) ∨ (b ≠ 0 ∧ ∃ q, SqT K H p [.str "told", .ref q] ∧ SqT K H q [.int (lowT t b), .int (lowB t b)])) ∧ ∀ H', Same H H' → Q (.bl true) H'
section
variable {P : Program} {w : World} {K : PySem.W.Frag} {mg : Str → Option Value} {base : Heap}
theorem ok_L_is_fraction (T : Txt K mg) (F_L_is_whole : OwnFn P w K mg base 1 "_law_is_whole" ["_law_thing"] (spIsWhole K)) (F_L_low : OwnFn P w K mg base 1 "_law_low" ["_law_top", "_law_bottom"] spLow) :
    OwnFn P w K mg base 2 "_law_is_fraction" ["_law_thing"] (spLFr K) := by
  refine own_ok (k := 1) T.D_L_is_fraction sc_L_is_fraction (fun _ _ _ _ _ _ us hl => match us, hl with | [_], _ => rfl) (fun vs H Q E h => ?_) (fun cdv A outer s H vs Q E hr h => ⟨_, PSs.nox (pss_cons (ps_if (PW.pt (pw_or (pt_not (pt_val (pe_callB call_isi (by rfl) T.f_isinstance (by decide +kernel) (pa_cons (pv 0) (pa_cons (pe_bltn (v := .ty "tuple") rfl T.f_tuple (by decide +kernel) rfl) pa_nil))))) (pw_or (pt_cmpR op_ne (pe_callB call_len (by rfl) T.f_len (by decide +kernel) (pa_cons (pv 0) pa_nil)) pe_int (nomark _)) (pw_or1 (pt_not (pt_val (pe_callB (cr_all rfl) (by rfl) T.f_all (by decide +kernel) (pa_cons (pe_lc (own := [("_law_part", 1)]) (g := gName 1) (by rfl) sc_L_is_fraction.nd (pi_tup (pv 0)) (blkOk_by (own := [("_law_part", 1)]) (N := N_L_is_fraction) (sc := defScope s_L_is_fraction) (by decide +kernel)) (fun _ _ _ _ _ => (pg_name (i := 1) sc_L_is_fraction.nd rfl (Or.inl rfl))) (fun _ _ _ _ _ => pts_nil) (fun _ _ _ _ _ => (pe_own F_L_is_whole hr passL (pa_cons (pv 1) pa_nil)))) pa_nil)))))))) (pss_one (ps_ret pe_bl)) pss_nil)
  (pss_one (ps_ret (pe_and (pe_cmpR op_gt (pe_ix ix_tup (pv 0) pe_int (fun _ _ => rfl)) pe_int (nomark _)) (pe_one (pe_cmpR (op_eqD hr.units) (pe_own F_L_low hr passL (pa_cons (pe_ix ix_tup (pv 0) pe_int (fun _ _ => rfl)) (pa_cons (pe_ix ix_tup (pv 0) pe_int (fun _ _ => rfl)) pa_nil))) (pv 0) (nomark _))))))), ?_⟩)
  · obtain ⟨v, d, rfl, _⟩ := h
    rfl
  · obtain ⟨v, d, rfl, h, hbd, q⟩ := h
    refine ⟨_, rfl, _, _, _, _, _, rfl, .ty "tuple", h.ty, kit_ty (kit_tuple d), _, rfl, ?_⟩
    cases h with
    | tup hs ha =>
      rename_i a xs ds
      refine iteF ⟨_, rfl, _, _, rfl, .inr ⟨_, hs, rfl⟩, rfl, _, rfl, ?_⟩
      rw [ha.length]
      by_cases hl : ds.length = 2
      · have hd : (!decide (V.int (ds.length : Int) = V.int 2)) = false := by
          rw [hl] <;> rfl
        rw [hd]
        refine iteF ⟨_, rfl, a, rfl, ⟨_, hs⟩, fun D hD => ?_⟩
        refine lc_tup (K := K) (a := a) (xs := xs) (fun i H' => Same H H' ∧ H' D = some (.lst (((ds.map isW).take i).map V.bl))) ⟨same_new hD, upd_same⟩ (fun i H' _ h => Same.t h.1 hs) ?_ ?_
        · rintro i x H' hx ⟨sm, hD'⟩
          obtain ⟨d', e1, r1⟩ := ha.get hx
          refine ⟨rfl, ?_⟩
          refine ⟨_, rfl, x, d', rfl, r1.ext (Same.toEx sm), _, hD', szl ?_, ?_, ?_⟩
          · rw [List.length_map, List.length_take, List.length_map]
            omega
          · exact same_mut sm hD
          · rw [upd_same, take_more (show (ds.map isW)[i]? = some (isW d') by rw [List.getElem?_map, e1]; rfl), List.map_append] <;> rfl
        · rintro H' ⟨sm, hD'⟩
          have e3 : (ds.map isW).take xs.length = ds.map isW := List.take_of_length_le (by rw [List.length_map, ha.length]; exact Nat.le_refl _)
          rw [e3] at hD'
          refine ⟨D, ds.map isW, rfl, SqL.of hD', _, rfl, ?_⟩
          obtain ⟨d1, d2, rfl⟩ : ∃ d1 d2, ds = [d1, d2] := by
            match ds, hl with
            | [d1, d2], _ => exact ⟨d1, d2, rfl⟩
          cases e4 : ([d1, d2].map isW).all id with
          | false =>
            rw [isFr_w e4] at q
            exact iteT (q H' sm)
          | true =>
            refine iteF ?_
            cases ha with
            | cons h1 hr1 =>
              cases hr1 with
              | cons h2 hr2 =>
                cases hr2
                cases h1 with
                | int t =>
                  cases h2 with
                  | int b =>
                    have hs' := Same.t sm hs
                    refine ⟨_, rfl, a, _, _, _, rfl, rfl, hs', at1, _, _, rfl, rfl, _, rfl, ?_⟩
                    by_cases hb : 0 < b
                    · rw [decide_eq_true hb]
                      refine iteT ⟨_, rfl, a, _, _, _, rfl, rfl, hs', at0, _, rfl, a, _, _, _, rfl, rfl, hs', at1, t, b, rfl, by omega, hbd, fun p hp => ?_⟩
                      refine ⟨_, rfl, _, _, dp2 (SqT.of upd_same), dp2 (Same.t (same_new hp) hs'), shaped2 _ _, shaped2 _ _, ?_⟩
                      rw [eqv2, isFr_low hb]
                      exact q _ (sm.trans (same_new hp))
                    · rw [decide_eq_false hb]
                      rw [isFr_neg hb] at q
                      exact iteF (q H' sm)
                  | _ => cases e4
                | _ => cases e4
      · have hd : (!decide (V.int (ds.length : Int) = V.int 2)) = true := by
          rw [decide_eq_false (fun z => hl (by have := V.int.inj z; omega))] <;> rfl
        rw [hd]
        rw [isFr_len hl] at q
        exact iteT (q H (Same.refl H))
    | _ => exact iteT (q H (Same.refl H))
theorem ok_L_told (T : Txt K mg) (F_L_is_fraction : OwnFn P w K mg base 2 "_law_is_fraction" ["_law_thing"] (spLFr K)) (F_is_fraction : OwnFn P w K mg base 2 "is_fraction" ["thing"] (spIsFr K)) (F_L_low : OwnFn P w K mg base 1 "_law_low" ["_law_top", "_law_bottom"] spLow) :
    OwnFn P w K mg base 3 "_law_told" ["_law_found", "_law_top", "_law_bottom"] (spTold K) := by
  refine own_ok (k := 2) T.D_L_told sc_L_told (fun _ _ _ _ _ _ us hl => match us, hl with | [_, _, _], _ => rfl) (fun vs H Q E h => ?_) (fun cdv A outer s H vs Q E hr h => ⟨_, PSs.nox (pss_cons (ps_if (pt_cmpR op_eq (pv 2) pe_int (nomark _)) (pss_one (ps_ret (pe_cmpR (op_eqD hr.units) (pv 0) (pe_tup (pa_cons pe_str (pa_cons pe_bl pa_nil))) (nomark _)))) pss_nil)
  (pss_cons (ps_if (PW.pt (pw_or (pt_cmpR op_ne (pe_ix ix_tup (pv 0) pe_int (fun _ _ => rfl)) pe_str (nomark _)) (pw_or1 (pt_cmpR (op_neD hr.units) (pe_ix ix_tup (pv 0) pe_int (fun _ _ => rfl)) (pe_own F_L_low hr passL (pa_cons (pv 1) (pa_cons (pv 2) pa_nil))) (nomark _))))) (pss_one (ps_ret pe_bl)) pss_nil)
  (pss_one (ps_ret (pe_and (pe_own F_L_is_fraction hr passL (pa_cons (pe_ix ix_tup (pv 0) pe_int (fun _ _ => rfl)) pa_nil)) (pe_one (pe_cmpR op_isBl (pe_own F_is_fraction hr passL (pa_cons (pe_ix ix_tup (pv 0) pe_int (fun _ _ => rfl)) pa_nil)) pe_bl (nomark _)))))))), ?_⟩)
  · obtain ⟨p, t, b, rfl, _⟩ := h
    rfl
  · obtain ⟨p, t, b, rfl, hb, hc, q⟩ := h
    refine ⟨_, rfl, rfl, _, rfl, ?_⟩
    rcases hc with ⟨h0, hp⟩ | ⟨h0, r, hp, hr1⟩
    · rw [decide_eq_true (congrArg V.int h0)]
      refine iteT ⟨_, rfl, by show 2 ≤ sizeLine; decide, fun p2 hp2 => ?_⟩
      refine ⟨.tuple [.str "refused", .bool true], .tuple [.str "refused", .bool true], .tup (Same.t (same_new hp2) hp) (.cons (.str _) (.cons (.bl _) .nil)), .tup (SqT.of upd_same) (.cons (.str _) (.cons (.bl _) .nil)), by decide +kernel, by decide +kernel, ?_⟩
      have e : PyData.eqv (.tuple [.str "refused", .bool true]) (.tuple [.str "refused", .bool true]) = true := by decide +kernel
      rw [e]
      exact q _ (same_new hp2)
    · rw [decide_eq_false (fun z => h0 (V.int.inj z))]
      refine iteF ⟨_, rfl, p, _, _, _, rfl, rfl, hp, at0, rfl, _, rfl, ?_⟩
      have e1 : (!decide (V.str "told" = V.str "told")) = false := by simp
      rw [e1]
      refine iteF ⟨_, rfl, p, _, _, _, rfl, rfl, hp, at1, _, rfl, _, rfl, t, b, rfl, h0, hb, fun p2 hp2 => ?_⟩
      have sm := same_new (o := .tup [.int (lowT t b), .int (lowB t b)]) hp2
      refine ⟨_, _, dp2 (Same.t sm hr1), dp2 (SqT.of upd_same), shaped2 _ _, shaped2 _ _, _, rfl, ?_⟩
      have e2 : (!PyData.eqv (.tuple [.int (lowT t b), .int (lowB t b)]) (.tuple [.int (lowT t b), .int (lowB t b)])) = false := by
        rw [eqv2]
        simp
      rw [e2]
      refine iteF ⟨_, rfl, p, _, _, _, rfl, rfl, Same.t sm hp, at1, _, _, rfl, rp2 (Same.t sm hr1), Nat.lt_of_le_of_lt (low_natAbs_b t h0) hb, fun H' sm' => ⟨_, rfl, ?_⟩⟩
      rw [low_fr t h0]
      refine iteT ⟨_, rfl, p, _, _, _, rfl, rfl, Same.t sm' (Same.t sm hp), at1, _, _, rfl, rp2 (Same.t sm' (Same.t sm hr1)), _, true, rfl, rfl, ?_⟩
      rw [low_fr t h0]
      exact q H' (sm.trans sm')
end
end K01


namespace K01
open PySem PySem.Spec PyProof.Rows L2 LB
/-- what _law_caught makes of the lambda's reading -/
def cTold (Q : VK) : VK := fun v H' => 2 ≤ sizeLine ∧ ∀ p, H' p = none → Q (.ref p) (upd H' p (.tup [.str "told", v]))
def cRef (K : PySem.W.Frag) (Q : VK) : XK := fun cls d H' => cls = .ref (He.ga K "NoNumber") ∧ d = none ∧ ∀ p H'', Same H' H'' → H'' p = some (.tup [.str "refused", .bl true]) → Q (.ref p) H''
def TCaught (K : PySem.W.Frag) : (XK → Hp → VK → Prop) → Hp → VK → Prop := fun tl H Q => tl (cRef K Q) H (cTold Q)
/-- the suite of its except clause -/
def tSuite (K : PySem.W.Frag) (a : Addr) : TS :=
  tSeq (tAsg (tCB (rIsET K (He.ga K "NoNumber") a) (tCons (tVar 1) (tCons (tTup (tCons (tC (.ref (He.ga K "NoCut"))) (tCons (tC (.ref (He.ga K "NoFall"))) (tCons (tC (.ref (He.ga K "NoName"))) (tCons (tC (.ref (He.ga K "NoPart"))) (tCons (tC (.ref (He.ga K "NoPlace"))) (tCons (tC (.ref (He.ga K "NoPrice"))) (tCons (tC (.ref (He.ga K "NoRow"))) (tCons (tC (.ref (He.ga K "NoShare"))) (tCons (tC (.ref (He.ga K "NoStream"))) (tCons (tC (.ref (He.ga K "NoText"))) tNil))))))))))) tNil))) (gName 2))
    (tSeq (tAsg (tOrV (tVar 2) (tOrV (tCB (rIsET K (He.ga K "NoNumber") a) (tCons (tVar 1) (tCons (tTup (tCons (tC (.ref (He.ga K "NoTie"))) (tCons (tC (.ref (He.ga K "NoTop"))) (tCons (tC (.ref (He.ga K "NoUndo"))) (tCons (tC (.ref (He.ga K "NoWeb"))) tNil))))) tNil))) (tNotV (tCB (rIsE K (He.ga K "NoNumber") a) (tCons (tVar 1) (tCons (tC (.ty "ValueError")) tNil)))))) (gName 2))
      (tRet (tTup (tCons (tC (.str "refused")) (tCons (tAndV (tCB (rIsE K (He.ga K "NoNumber") a) (tCons (tVar 1) (tCons (tC (.ref (He.ga K "NoNumber"))) tNil))) (tNotV (tVar 2))) tNil)))))
abbrev cxCaught (X : Cx) (cdv : Value) (s : Shared) (H : Hp) : Cx := (cxOf C8.CX0 X.prog X.w X.K X.mg X.base N_L_caught "_law_caught" (defScope s_L_caught) (He.ga X.K "_law_caught") cdv X.A X.stack s H C8.E0).nox
theorem caught_gives {X : Cx} {q : Str} {cdv : Value} (T : Txt X.K X.mg) (Y : Ext X.K) :
    LamX.GivesTo X N_L_caught "_law_caught" (defScope s_L_caught) (He.ga X.K "_law_caught") cdv (defBody s_L_caught) "_law_deed" q (TCaught X.K) := by
  intro f c' s H Q tl act hc h
  refine ⟨_, pss_one (ps_try_as (i := 1) (X := cxCaught X cdv s H) (c := .ref (He.ga X.K "StairError"))
      (tb := fun W D σ H => ∃ Ech : XK, (∀ cls d (σ' : L2.St) H', Ech cls d H' → σ'.length = 3 → W cls d σ' H') ∧ σ[0]? = some (some (.ref f)) ∧ H c' = some (LamX.CodeO c' q) ∧ tl Ech H (fun v H' => [V.str "told", v].length ≤ sizeLine ∧ ∀ p, H' p = none → D.rt (.ref p) (upd H' p (.tup [.str "told", v]))))
      (ts := fun a cls d D σ H => (cls = .ref (He.ga X.K "NoNumber") ∧ d = none) ∧ tSuite X.K a D σ H)
      rfl rfl sc_L_caught.nd rfl rfl ⟨rfl, by decide, .inl T.m_StairError⟩ LamX.takes0 (fun W pn xe tk _ => ?_) (fun a oe cls d pn hz hf => ?_)), ?_⟩
  · refine ⟨fun pins s' σ H' D I h' => ?_⟩
    obtain ⟨Ech, hW, h1, h2, h3⟩ := h'
    have hp := fun p1 p2 => act _ pn xe Ech p1 p2 (takes_len tk) hW
    exact (pss_one (ps_ret (pe_tup (pa_cons pe_str (pa_cons (hp _ _) pa_nil))))).run pins s' σ H' D I ⟨h1, h2, h3⟩
  · refine pss_pre fun ⟨e1, e2⟩ => ?_
    subst e1 e2
    exact (pss_cons (ps_set (i := 2) sc_L_caught.nd rfl (Or.inl rfl) (pe_callB (call_isET (X := cxCaught X cdv s H) Y.ec hz hf) (by rfl) T.f_isinstance (by decide +kernel) (pa_cons (pv 1) (pa_cons (pe_tup (pa_cons (pe_glob (v := .ref (He.ga _ "NoCut")) rfl T.m_NoCut rfl) (pa_cons (pe_glob (v := .ref (He.ga _ "NoFall")) rfl T.m_NoFall rfl) (pa_cons (pe_glob (v := .ref (He.ga _ "NoName")) rfl T.m_NoName rfl) (pa_cons (pe_glob (v := .ref (He.ga _ "NoPart")) rfl T.m_NoPart rfl) (pa_cons (pe_glob (v := .ref (He.ga _ "NoPlace")) rfl T.m_NoPlace rfl) (pa_cons (pe_glob (v := .ref (He.ga _ "NoPrice")) rfl T.m_NoPrice rfl) (pa_cons (pe_glob (v := .ref (He.ga _ "NoRow")) rfl T.m_NoRow rfl) (pa_cons (pe_glob (v := .ref (He.ga _ "NoShare")) rfl T.m_NoShare rfl) (pa_cons (pe_glob (v := .ref (He.ga _ "NoStream")) rfl T.m_NoStream rfl) (pa_cons (pe_glob (v := .ref (He.ga _ "NoText")) rfl T.m_NoText rfl) pa_nil))))))))))) pa_nil))))
  (pss_cons (ps_set (i := 2) sc_L_caught.nd rfl (Or.inl rfl) (pe_or (pv 2) (pe_or (pe_callB (call_isET (X := cxCaught X cdv s H) Y.ec hz hf) (by rfl) T.f_isinstance (by decide +kernel) (pa_cons (pv 1) (pa_cons (pe_tup (pa_cons (pe_glob (v := .ref (He.ga _ "NoTie")) rfl T.m_NoTie rfl) (pa_cons (pe_glob (v := .ref (He.ga _ "NoTop")) rfl T.m_NoTop rfl) (pa_cons (pe_glob (v := .ref (He.ga _ "NoUndo")) rfl T.m_NoUndo rfl) (pa_cons (pe_glob (v := .ref (He.ga _ "NoWeb")) rfl T.m_NoWeb rfl) pa_nil))))) pa_nil))) (pe_one (pe_not (pe_callB (call_isE (X := cxCaught X cdv s H) Y.ec hz hf) (by rfl) T.f_isinstance (by decide +kernel) (pa_cons (pv 1) (pa_cons (pe_bltn (v := .ty "ValueError") rfl T.f_ValueError (by decide +kernel) rfl) pa_nil))))))))
  (pss_one (ps_ret (pe_tup (pa_cons pe_str (pa_cons (pe_and (pe_callB (call_isE (X := cxCaught X cdv s H) Y.ec hz hf) (by rfl) T.f_isinstance (by decide +kernel) (pa_cons (pv 1) (pa_cons (pe_glob (v := .ref (He.ga _ "NoNumber")) rfl T.m_NoNumber rfl) pa_nil))) (pe_one (pe_not (pv 2)))) pa_nil)))))))
  · refine ⟨cRef X.K Q, fun cls d σ' H' ⟨e1, e2, k⟩ hl => ?_, rfl, hc, ?_⟩
    · subst e1 e2
      obtain ⟨x1, x2, x3, rfl⟩ : ∃ x1 x2 x3, σ' = [x1, x2, x3] := by
        match σ', hl with
        | [x1, x2, x3], _ => exact ⟨x1, x2, x3, rfl⟩
      refine ⟨true, T.e_NoNumber, fun _ a ha => ⟨⟨rfl, rfl⟩, ?_⟩, fun z => nomatch z⟩
      refine ⟨_, rfl, by show 10 ≤ sizeLine; decide, fun p1 hp1 => ?_⟩
      refine ⟨p1, _, _, false, rfl, upd_same, refs_cls X.K cls1, Y.k1, ?_⟩
      refine ⟨_, rfl, _, rfl, iteF ⟨_, rfl, by show 4 ≤ sizeLine; decide, fun p2 hp2 => ?_⟩⟩
      refine ⟨p2, _, _, false, rfl, upd_same, refs_cls X.K cls2, Y.k2, _, rfl, iteF ?_⟩
      refine ⟨_, rfl, _, _, true, rfl, fun u hu => hu, Y.k3, _, rfl, ?_⟩
      refine ⟨_, rfl, _, _, true, rfl, fun u hu => hu, Y.k4, _, rfl, iteT ⟨_, rfl, _, rfl, by show 2 ≤ sizeLine; decide, fun p3 hp3 => ?_⟩⟩
      exact k p3 _ ((same_new hp1).trans ((same_new hp2).trans (same_new hp3))) upd_same
    · exact h
end K01


namespace K01
open PySem PySem.Spec PyProof.Rows L2 LB
def qPair : Str := ("_law_pair_right" : Str) ++ ".<locals>." ++ "<lambda>"
def qMade : Str := ("_law_made_right" : Str) ++ ".<locals>." ++ "<lambda>"
/-- the tables of the defs that make lambdas -/
def tabs (K : PySem.W.Frag) : List (Addr × Str) := [((He.cT K ("_law_pair_right", none)).2, qPair), ((He.cT K ("_law_made_right", none)).2, qMade)]
theorem hu_pair {K : PySem.W.Frag} (Y : Ext K) : ∀ p ∈ tabs K, p.1 = (He.cT K ("_law_pair_right", none)).2 → p.2 = qPair := by
  intro p hp e
  rcases List.mem_cons.mp hp with rfl | hp
  · rfl
  · rcases List.mem_cons.mp hp with rfl | hp
    · exact absurd e.symm Y.ne
    · cases hp
theorem hu_made {K : PySem.W.Frag} (Y : Ext K) : ∀ p ∈ tabs K, p.1 = (He.cT K ("_law_made_right", none)).2 → p.2 = qMade := by
  intro p hp e
  rcases List.mem_cons.mp hp with rfl | hp
  · exact absurd e Y.ne
  · rcases List.mem_cons.mp hp with rfl | hp
    · rfl
    · cases hp
def spMade (K : PySem.W.Frag) : Sp := fun vs H Q _ => ∃ t b : Int, vs = [.int t, .int b] ∧ b.natAbs < 2 ^ 100 ∧ LamX.Tabs (tabs K) H ∧ ∀ H', Gw (tabs K) H H' → Q (.bl true) H'
def spPair (K : PySem.W.Frag) : Sp := fun vs H Q _ => ∃ (p q : Addr) (a0 a1 b0 b1 : Int), vs = [.ref p, .ref q] ∧ SqT K H p [.int a0, .int a1] ∧ SqT K H q [.int b0, .int b1] ∧
  (a0.natAbs < 2 ^ 100 ∧ a1.natAbs < 2 ^ 100 ∧ b0.natAbs < 2 ^ 100 ∧ b1.natAbs < 2 ^ 100) ∧ LamX.Tabs (tabs K) H ∧ ∀ H', Gw (tabs K) H H' → Q (.bl true) H'
/-- what is caught of a fraction made, and told of it -/
theorem caught_told {K : PySem.W.Frag} {t b : Int} {H H1 : Hp} {Q' : VK} (ex1 : LamX.ExtN H H1) (tb1 : LamX.Tabs (tabs K) H1) (hb : b.natAbs < 2 ^ 400)
    (k : ∀ p H2, Gw (tabs K) H H2 → ((b = 0 ∧ SqT K H2 p [.str "refused", .bl true]) ∨ (b ≠ 0 ∧ ∃ q, SqT K H2 p [.str "told", .ref q] ∧ SqT K H2 q [.int (lowT t b), .int (lowB t b)])) → Q' (.ref p) H2) :
    frTo K t b H1 (cTold Q') (cRef K Q') := by
  have g1 : Gw (tabs K) H H1 := ⟨ex1, fun _ => tb1⟩
  refine ⟨fun h0 => ⟨rfl, rfl, fun p H2 sm hp => ?_⟩, fun h0 p hp => ⟨by decide, fun p2 hp2 => ?_⟩⟩
  · exact k p H2 (g1.trans (gw_same sm)) (.inl ⟨h0, SqT.of hp⟩)
  · exact k p2 _ ((g1.trans (gw_new hp)).trans (gw_new hp2)) (.inr ⟨h0, p, SqT.of upd_same, SqT.of (by rw [upd_ne (ne_of_none upd_same hp2)]; exact upd_same)⟩)
section
variable {P : Program} {w : World} {K : PySem.W.Frag} {mg : Str → Option Value} {base : Heap}
theorem ok_L_made_right (T : Txt K mg) (Y : Ext K) (TB : LamX.TabB base mg (He.cT K ("_law_made_right", none)).1 (He.cT K ("_law_made_right", none)).2) (F_L_told : OwnFn P w K mg base 3 "_law_told" ["_law_found", "_law_top", "_law_bottom"] (spTold K)) (F_fraction : OwnFn P w K mg base 2 "fraction" ["top", "bottom"] (spFrac K)) :
    OwnFn P w K mg base 5 "_law_made_right" ["_law_top", "_law_bottom"] (spMade K) := by
  have hmT : ((He.cT K ("_law_made_right", none)).2, qMade) ∈ tabs K := List.mem_cons_of_mem _ List.mem_cons_self
  have hu := hu_made Y
  refine own_okC (k := 4) T.D_L_made_right sc_L_made_right (fun _ _ _ _ _ _ us hl => match us, hl with | [_, _], _ => rfl) (fun vs H Q E h => ?_) (fun cdv A outer s H vs Q E hcd hr h => ⟨_, PSs.nox (pss_one (ps_ret (pe_own F_L_told hr passL (pa_cons (pe_lam1 (T := tabs K) T.D_L_caught sc_L_caught (fun _ _ _ _ _ _ us hl => match us, hl with | [_], _ => rfl) (fun cdv => caught_gives T Y) TB hcd hmT hu hr (LamX.lamS_by (sc := defScope s_L_made_right) (by decide +kernel)) (fun A outer s H E f c' hr => (pe_own F_fraction hr passM (pa_cons (pv 0) (pa_cons (pv 1) pa_nil))))) (pa_cons (pv 0) (pa_cons (pv 1) pa_nil)))))), ?_⟩)
  · obtain ⟨t, b, rfl, _⟩ := h
    rfl
  · obtain ⟨t, b, rfl, hb, hT, q⟩ := h
    have hb' : b.natAbs < 2 ^ 400 := up400 hb
    refine ⟨hT, fun H1 ex1 tb1 => ⟨_, rfl, _, rfl, t, b, rfl, hb', caught_told ex1 tb1 hb' fun p H2 g2 hc => ?_⟩⟩
    exact ⟨_, rfl, _, rfl, p, t, b, rfl, hb', hc, fun H3 sm => q H3 (g2.trans (gw_same sm))⟩
theorem lt400 {x y : Int} (hx : x.natAbs < 2 ^ 100) (hy : y.natAbs < 2 ^ 100) : (x * y).natAbs < 2 ^ 400 := Nat.lt_of_lt_of_le (wide_lt hx hy) (Nat.pow_le_pow_right (Nat.le_succ 1) (show 100 + 100 ≤ 400 by decide))
theorem ok_L_pair_right (T : Txt K mg) (Y : Ext K) (TB : LamX.TabB base mg (He.cT K ("_law_pair_right", none)).1 (He.cT K ("_law_pair_right", none)).2) (F_L_told : OwnFn P w K mg base 3 "_law_told" ["_law_found", "_law_top", "_law_bottom"] (spTold K))
    (F_plus : OwnFn P w K mg base 3 "plus" ["a", "b"] (sp2 K (fun a0 a1 b0 b1 => a0 * b1 + b0 * a1) (fun a0 a1 b0 b1 => a1 * b1))) (F_minus : OwnFn P w K mg base 3 "minus" ["a", "b"] (sp2 K (fun a0 a1 b0 b1 => a0 * b1 - b0 * a1) (fun a0 a1 b0 b1 => a1 * b1))) (F_times : OwnFn P w K mg base 3 "times" ["a", "b"] (sp2 K (fun a0 a1 b0 b1 => a0 * b0) (fun a0 a1 b0 b1 => a1 * b1))) (F_over : OwnFn P w K mg base 3 "over" ["a", "b"] (sp2 K (fun a0 a1 b0 b1 => a0 * b1) (fun a0 a1 b0 b1 => a1 * b0))) (F_below : OwnFn P w K mg base 1 "below" ["a", "b"] (spBelow K)) :
    OwnFn P w K mg base 6 "_law_pair_right" ["_law_a", "_law_b"] (spPair K) := by
  have hmT : ((He.cT K ("_law_pair_right", none)).2, qPair) ∈ tabs K := List.mem_cons_self
  have hu := hu_pair Y
  refine own_okC (k := 5) T.D_L_pair_right sc_L_pair_right (fun _ _ _ _ _ _ us hl => match us, hl with | [_, _], _ => rfl) (fun vs H Q E h => ?_) (fun cdv A outer s H vs Q E hcd hr h => ⟨_, PSs.nox (pss_cons (ps_if (pt_not (pt_val (pe_own F_L_told hr passL (pa_cons (pe_lam1 (T := tabs K) T.D_L_caught sc_L_caught (fun _ _ _ _ _ _ us hl => match us, hl with | [_], _ => rfl) (fun cdv => caught_gives T Y) TB hcd hmT hu hr (LamX.lamS_by (sc := defScope s_L_pair_right) (by decide +kernel)) (fun A outer s H E f c' hr => (pe_own F_plus hr passM (pa_cons (pv 0) (pa_cons (pv 1) pa_nil))))) (pa_cons (pe_op op_add (pe_op op_mulW (pe_ix ix_tup (pv 0) pe_int (fun _ _ => rfl)) (pe_ix ix_tup (pv 1) pe_int (fun _ _ => rfl))) (pe_op op_mulW (pe_ix ix_tup (pv 1) pe_int (fun _ _ => rfl)) (pe_ix ix_tup (pv 0) pe_int (fun _ _ => rfl)))) (pa_cons (pe_op op_mulW (pe_ix ix_tup (pv 0) pe_int (fun _ _ => rfl)) (pe_ix ix_tup (pv 1) pe_int (fun _ _ => rfl))) pa_nil)))))) (pss_one (ps_ret pe_bl)) pss_nil)
  (pss_cons (ps_if (pt_not (pt_val (pe_own F_L_told hr passL (pa_cons (pe_lam1 (T := tabs K) T.D_L_caught sc_L_caught (fun _ _ _ _ _ _ us hl => match us, hl with | [_], _ => rfl) (fun cdv => caught_gives T Y) TB hcd hmT hu hr (LamX.lamS_by (sc := defScope s_L_pair_right) (by decide +kernel)) (fun A outer s H E f c' hr => (pe_own F_minus hr passM (pa_cons (pv 0) (pa_cons (pv 1) pa_nil))))) (pa_cons (pe_op op_sub (pe_op op_mulW (pe_ix ix_tup (pv 0) pe_int (fun _ _ => rfl)) (pe_ix ix_tup (pv 1) pe_int (fun _ _ => rfl))) (pe_op op_mulW (pe_ix ix_tup (pv 1) pe_int (fun _ _ => rfl)) (pe_ix ix_tup (pv 0) pe_int (fun _ _ => rfl)))) (pa_cons (pe_op op_mulW (pe_ix ix_tup (pv 0) pe_int (fun _ _ => rfl)) (pe_ix ix_tup (pv 1) pe_int (fun _ _ => rfl))) pa_nil)))))) (pss_one (ps_ret pe_bl)) pss_nil)
  (pss_cons (ps_if (pt_not (pt_val (pe_own F_L_told hr passL (pa_cons (pe_lam1 (T := tabs K) T.D_L_caught sc_L_caught (fun _ _ _ _ _ _ us hl => match us, hl with | [_], _ => rfl) (fun cdv => caught_gives T Y) TB hcd hmT hu hr (LamX.lamS_by (sc := defScope s_L_pair_right) (by decide +kernel)) (fun A outer s H E f c' hr => (pe_own F_times hr passM (pa_cons (pv 0) (pa_cons (pv 1) pa_nil))))) (pa_cons (pe_op op_mulW (pe_ix ix_tup (pv 0) pe_int (fun _ _ => rfl)) (pe_ix ix_tup (pv 1) pe_int (fun _ _ => rfl))) (pa_cons (pe_op op_mulW (pe_ix ix_tup (pv 0) pe_int (fun _ _ => rfl)) (pe_ix ix_tup (pv 1) pe_int (fun _ _ => rfl))) pa_nil)))))) (pss_one (ps_ret pe_bl)) pss_nil)
  (pss_cons (ps_if (pt_not (pt_val (pe_own F_L_told hr passL (pa_cons (pe_lam1 (T := tabs K) T.D_L_caught sc_L_caught (fun _ _ _ _ _ _ us hl => match us, hl with | [_], _ => rfl) (fun cdv => caught_gives T Y) TB hcd hmT hu hr (LamX.lamS_by (sc := defScope s_L_pair_right) (by decide +kernel)) (fun A outer s H E f c' hr => (pe_own F_over hr passM (pa_cons (pv 0) (pa_cons (pv 1) pa_nil))))) (pa_cons (pe_op op_mulW (pe_ix ix_tup (pv 0) pe_int (fun _ _ => rfl)) (pe_ix ix_tup (pv 1) pe_int (fun _ _ => rfl))) (pa_cons (pe_op op_mulW (pe_ix ix_tup (pv 0) pe_int (fun _ _ => rfl)) (pe_ix ix_tup (pv 1) pe_int (fun _ _ => rfl))) pa_nil)))))) (pss_one (ps_ret pe_bl)) pss_nil)
  (pss_cons (ps_set (i := 2) sc_L_pair_right.nd rfl (Or.inl rfl) (pe_own F_below hr passL (pa_cons (pv 0) (pa_cons (pv 1) pa_nil))))
  (pss_one (ps_ret (pe_and (pe_callB call_isi (by rfl) T.f_isinstance (by decide +kernel) (pa_cons (pv 2) (pa_cons (pe_bltn (v := .ty "bool") rfl T.f_bool (by decide +kernel) rfl) pa_nil))) (pe_one (pe_cmpR op_eq (pv 2) (pe_cmpR op_lt (pe_op op_mulW (pe_ix ix_tup (pv 0) pe_int (fun _ _ => rfl)) (pe_ix ix_tup (pv 1) pe_int (fun _ _ => rfl))) (pe_op op_mulW (pe_ix ix_tup (pv 1) pe_int (fun _ _ => rfl)) (pe_ix ix_tup (pv 0) pe_int (fun _ _ => rfl))) (nomark _)) (nomark _))))))))))), ?_⟩)
  · obtain ⟨p, q, a0, a1, b0, b1, rfl, _⟩ := h
    rfl
  · obtain ⟨p, q, a0, a1, b0, b1, rfl, hp, hq, ⟨h1, h2, h3, h4⟩, hT, k⟩ := h
    have g0 := Gw.refl (tabs K) H
    refine ⟨g0.2 hT, fun H1 ex1 tb1 => ?_⟩
    have w1 : (a1 * b1).natAbs < 2 ^ 400 := lt400 h2 h4
    refine ⟨_, rfl, _, rfl, p, q, a0, a1, b0, b1, rfl, ex_t ex1 (g0.t hp), ex_t ex1 (g0.t hq), ⟨h1, h2, h3, h4⟩, caught_told ex1 tb1 w1 fun r1 K1 e1 c1 => ?_⟩
    have f1 := g0.trans e1
    refine ⟨_, rfl, p, _, _, _, rfl, rfl, f1.t hp, at0, _, rfl, q, _, _, _, rfl, rfl, f1.t hq, at1, _, _, rfl, rfl, mulW h1 h4, _, rfl, q, _, _, _, rfl, rfl, f1.t hq, at0, _, rfl, p, _, _, _, rfl, rfl, f1.t hp, at1, _, _, rfl, rfl, mulW h3 h2, _, _, rfl, rfl, _, rfl, p, _, _, _, rfl, rfl, f1.t hp, at1, _, rfl, q, _, _, _, rfl, rfl, f1.t hq, at1, _, _, rfl, rfl, mulW h2 h4, r1, a0 * b1 + b0 * a1, a1 * b1, rfl, w1, c1, fun H1' sm1 => ⟨_, rfl, iteF ?_⟩⟩
    have g1 := f1.trans (gw_same (T := tabs K) sm1)
    refine ⟨g1.2 hT, fun H1 ex1 tb1 => ?_⟩
    have w2 : (a1 * b1).natAbs < 2 ^ 400 := lt400 h2 h4
    refine ⟨_, rfl, _, rfl, p, q, a0, a1, b0, b1, rfl, ex_t ex1 (g1.t hp), ex_t ex1 (g1.t hq), ⟨h1, h2, h3, h4⟩, caught_told ex1 tb1 w2 fun r2 K2 e2 c2 => ?_⟩
    have f2 := g1.trans e2
    refine ⟨_, rfl, p, _, _, _, rfl, rfl, f2.t hp, at0, _, rfl, q, _, _, _, rfl, rfl, f2.t hq, at1, _, _, rfl, rfl, mulW h1 h4, _, rfl, q, _, _, _, rfl, rfl, f2.t hq, at0, _, rfl, p, _, _, _, rfl, rfl, f2.t hp, at1, _, _, rfl, rfl, mulW h3 h2, _, _, rfl, rfl, _, rfl, p, _, _, _, rfl, rfl, f2.t hp, at1, _, rfl, q, _, _, _, rfl, rfl, f2.t hq, at1, _, _, rfl, rfl, mulW h2 h4, r2, a0 * b1 - b0 * a1, a1 * b1, rfl, w2, c2, fun H2' sm2 => ⟨_, rfl, iteF ?_⟩⟩
    have g2 := f2.trans (gw_same (T := tabs K) sm2)
    refine ⟨g2.2 hT, fun H1 ex1 tb1 => ?_⟩
    have w3 : (a1 * b1).natAbs < 2 ^ 400 := lt400 h2 h4
    refine ⟨_, rfl, _, rfl, p, q, a0, a1, b0, b1, rfl, ex_t ex1 (g2.t hp), ex_t ex1 (g2.t hq), ⟨h1, h2, h3, h4⟩, caught_told ex1 tb1 w3 fun r3 K3 e3 c3 => ?_⟩
    have f3 := g2.trans e3
    refine ⟨_, rfl, p, _, _, _, rfl, rfl, f3.t hp, at0, _, rfl, q, _, _, _, rfl, rfl, f3.t hq, at0, _, _, rfl, rfl, mulW h1 h3, _, rfl, p, _, _, _, rfl, rfl, f3.t hp, at1, _, rfl, q, _, _, _, rfl, rfl, f3.t hq, at1, _, _, rfl, rfl, mulW h2 h4, r3, a0 * b0, a1 * b1, rfl, w3, c3, fun H3' sm3 => ⟨_, rfl, iteF ?_⟩⟩
    have g3 := f3.trans (gw_same (T := tabs K) sm3)
    refine ⟨g3.2 hT, fun H1 ex1 tb1 => ?_⟩
    have w4 : (a1 * b0).natAbs < 2 ^ 400 := lt400 h2 h3
    refine ⟨_, rfl, _, rfl, p, q, a0, a1, b0, b1, rfl, ex_t ex1 (g3.t hp), ex_t ex1 (g3.t hq), ⟨h1, h2, h3, h4⟩, caught_told ex1 tb1 w4 fun r4 K4 e4 c4 => ?_⟩
    have f4 := g3.trans e4
    refine ⟨_, rfl, p, _, _, _, rfl, rfl, f4.t hp, at0, _, rfl, q, _, _, _, rfl, rfl, f4.t hq, at1, _, _, rfl, rfl, mulW h1 h4, _, rfl, p, _, _, _, rfl, rfl, f4.t hp, at1, _, rfl, q, _, _, _, rfl, rfl, f4.t hq, at0, _, _, rfl, rfl, mulW h2 h3, r4, a0 * b1, a1 * b0, rfl, w4, c4, fun H4' sm4 => ⟨_, rfl, iteF ?_⟩⟩
    have g4 := f4.trans (gw_same (T := tabs K) sm4)
    refine ⟨_, rfl, _, rfl, p, q, a0, a1, b0, b1, rfl, g4.t hp, g4.t hq, ⟨h1, h2, h3, h4⟩, ?_⟩
    refine ⟨_, rfl, _, _, _, _, _, rfl, .ty "bool", .base (.bl _), kit_ty (by decide +kernel), _, rfl, iteT ?_⟩
    refine ⟨_, rfl, _, rfl, p, _, _, _, rfl, rfl, g4.t hp, at0, _, rfl, q, _, _, _, rfl, rfl, g4.t hq, at1, _, _, rfl, rfl, mulW h1 h4, _, rfl, q, _, _, _, rfl, rfl, g4.t hq, at0, _, rfl, p, _, _, _, rfl, rfl, g4.t hp, at1, _, _, rfl, rfl, mulW h3 h2, _, _, rfl, rfl, rfl, ?_⟩
    rw [decide_eq_true rfl]
    exact k _ g4
end
end K01


namespace K01
open PySem PySem.Spec PyProof.Rows L2 LB
theorem lt100 {n : Nat} (h : n < 100000000000000) : n < 2 ^ 100 := Nat.lt_trans h (by decide)
theorem lt200 {n : Nat} (h : n < 100000000000000) : n < 2 ^ 200 := Nat.lt_trans h (by decide)
def spKinds (K : PySem.W.Frag) : Sp := fun vs H Q _ => ∃ (p : Addr) (t b : Int), vs = [.ref p] ∧ SqT K H p [.int t, .int b] ∧ t.natAbs < 10000000000000 ∧ b.natAbs < 10000000000000 ∧ ∀ H', Gw (tabs K) H H' → Q (.bl true) H'
/-- the things of other kinds -/
def odd (t b : Int) : List PyData :=
  [.none, .bool true, .int 0, .str "1", .str "", .tuple [.int 1], .tuple [.int 1, .int 2, .int 3], .list [.int 1, .int 2], .tuple [.bool true, .int 1]] ++
  [.tuple [.int 1, .bool true], .tuple [.str "1", .int 1], .tuple [.int 1, .int 0], .tuple [.int 1, .int (-1)], .tuple [.int 0, .int 2], .tuple [.int 2, .int 4]] ++
  [.tuple [.int (-2), .int 4], .tuple [.int 0, .int 1], .tuple [.int 3, .int 1], .tuple [.int (-7), .int 2], .dict [], .tuple [], .tuple [.none, .int 1]] ++
  [.tuple [.list [.int 1], .int 2], .tuple [.int t, .int (0 - b)], .tuple [.int (2 * t), .int (2 * b)], .tuple [.int t, .int b]] ++
  [.list [.int t, .int b], .tuple [.tuple [.int t, .int b]]]
theorem odd_bnd {t b : Int} (hb : b.natAbs < 10000000000000) : ∀ d ∈ odd t b, bnd d := by
  intro d hd
  unfold odd at hd
  simp only [List.cons_append, List.nil_append, List.mem_cons, List.not_mem_nil, or_false] at hd
  repeat
    (rcases hd with rfl | hd
     · first | exact True.intro | exact up400 (lt100 (by decide)) | exact up400 (lt100 (by omega)))
section
variable {P : Program} {w : World} {K : PySem.W.Frag} {mg : Str → Option Value} {base : Heap}
theorem ok_L_kinds_right (T : Txt K mg) (F_is_fraction : OwnFn P w K mg base 2 "is_fraction" ["thing"] (spIsFr K)) (F_L_is_fraction : OwnFn P w K mg base 2 "_law_is_fraction" ["_law_thing"] (spLFr K)) :
    OwnFn P w K mg base 3 "_law_kinds_right" ["_law_a"] (spKinds K) := by
  refine own_ok (k := 2) T.D_L_kinds_right sc_L_kinds_right (fun _ _ _ _ _ _ us hl => match us, hl with | [_], _ => rfl) (fun vs H Q E h => ?_) (fun cdv A outer s H vs Q E hr h => ⟨_, PSs.nox (pss_cons (ps_set (i := 1) sc_L_kinds_right.nd rfl (Or.inl rfl) (pe_lst (pa_cons pe_non (pa_cons pe_bl (pa_cons pe_int (pa_cons pe_str (pa_cons pe_str (pa_cons (pe_tup (pa_cons pe_int pa_nil)) (pa_cons (pe_tup (pa_cons pe_int (pa_cons pe_int (pa_cons pe_int pa_nil)))) (pa_cons (pe_lst (pa_cons pe_int (pa_cons pe_int pa_nil))) (pa_cons (pe_tup (pa_cons pe_bl (pa_cons pe_int pa_nil))) pa_nil)))))))))))
  (pss_cons (ps_set (i := 1) sc_L_kinds_right.nd rfl (Or.inl rfl) (pe_op op_cat (pv 1) (pe_lst (pa_cons (pe_tup (pa_cons pe_int (pa_cons pe_bl pa_nil))) (pa_cons (pe_tup (pa_cons pe_str (pa_cons pe_int pa_nil))) (pa_cons (pe_tup (pa_cons pe_int (pa_cons pe_int pa_nil))) (pa_cons (pe_tup (pa_cons pe_int (pa_cons (pe_un un_neg pe_int) pa_nil))) (pa_cons (pe_tup (pa_cons pe_int (pa_cons pe_int pa_nil))) (pa_cons (pe_tup (pa_cons pe_int (pa_cons pe_int pa_nil))) pa_nil)))))))))
  (pss_cons (ps_set (i := 1) sc_L_kinds_right.nd rfl (Or.inl rfl) (pe_op op_cat (pv 1) (pe_lst (pa_cons (pe_tup (pa_cons (pe_un un_neg pe_int) (pa_cons pe_int pa_nil))) (pa_cons (pe_tup (pa_cons pe_int (pa_cons pe_int pa_nil))) (pa_cons (pe_tup (pa_cons pe_int (pa_cons pe_int pa_nil))) (pa_cons (pe_tup (pa_cons (pe_un un_neg pe_int) (pa_cons pe_int pa_nil))) (pa_cons pe_dnewK (pa_cons (pe_tup pa_nil) (pa_cons (pe_tup (pa_cons pe_non (pa_cons pe_int pa_nil))) pa_nil))))))))))
  (pss_cons (ps_set (i := 1) sc_L_kinds_right.nd rfl (Or.inl rfl) (pe_op op_cat (pv 1) (pe_lst (pa_cons (pe_tup (pa_cons (pe_lst (pa_cons pe_int pa_nil)) (pa_cons pe_int pa_nil))) (pa_cons (pe_tup (pa_cons (pe_ix ix_tup (pv 0) pe_int (fun _ _ => rfl)) (pa_cons (pe_op op_sub pe_int (pe_ix ix_tup (pv 0) pe_int (fun _ _ => rfl))) pa_nil))) (pa_cons (pe_tup (pa_cons (pe_op op_mulW pe_int (pe_ix ix_tup (pv 0) pe_int (fun _ _ => rfl))) (pa_cons (pe_op op_mulW pe_int (pe_ix ix_tup (pv 0) pe_int (fun _ _ => rfl))) pa_nil))) (pa_cons (pv 0) pa_nil)))))))
  (pss_cons (ps_set (i := 1) sc_L_kinds_right.nd rfl (Or.inl rfl) (pe_op op_cat (pv 1) (pe_lst (pa_cons (pe_callTy call_list_of (by rfl) T.f_list (by decide +kernel) (pa_cons (pv 0) pa_nil)) (pa_cons (pe_tup (pa_cons (pv 0) pa_nil)) pa_nil)))))
  (pss_cons (ps_for PassesOwn.never rfl (pi_list (pv 1)) (pg_name (i := 2) sc_L_kinds_right.nd rfl (Or.inl rfl))
   (pss_cons (ps_set (i := 3) sc_L_kinds_right.nd rfl (Or.inl rfl) (pe_own F_is_fraction hr passL (pa_cons (pv 2) pa_nil)))
  (pss_one (ps_if (PW.pt (pw_or (pt_not (pt_val (pe_callB call_isi (by rfl) T.f_isinstance (by decide +kernel) (pa_cons (pv 3) (pa_cons (pe_bltn (v := .ty "bool") rfl T.f_bool (by decide +kernel) rfl) pa_nil))))) (pw_or1 (pt_cmpR op_ne (pv 3) (pe_own F_L_is_fraction hr passL (pa_cons (pv 2) pa_nil)) (nomark _))))) (pss_one (ps_ret pe_bl)) pss_nil))))
  (pss_one (ps_ret pe_bl)))))))), ?_⟩)
  · obtain ⟨p, t, b, rfl, _⟩ := h
    rfl
  · obtain ⟨p, t, b, rfl, hp, ht, hb, q⟩ := h
    have m2 : ∀ z : Int, z.natAbs < 10000000000000 → CMulW 2 z := fun z hz => mulS (by decide) (lt200 (by omega))
    have mt := m2 t ht
    have mb := m2 b hb
    refine sq_asgL (T := tabs K) (K := K) (gvl_lst (gva_cons gv_non (gva_cons gv_bl (gva_cons gv_int (gva_cons gv_str (gva_cons gv_str (gva_cons (gv_tup (gva_cons gv_int gva_nil) (by exact Nat.le_of_ble_eq_true rfl)) (gva_cons (gv_tup (gva_cons gv_int (gva_cons gv_int (gva_cons gv_int gva_nil))) (by exact Nat.le_of_ble_eq_true rfl)) (gva_cons (gv_lst (gva_cons gv_int (gva_cons gv_int gva_nil)) (by exact Nat.le_of_ble_eq_true rfl)) (gva_cons (gv_tup (gva_cons gv_bl (gva_cons gv_int gva_nil)) (by exact Nat.le_of_ble_eq_true rfl)) gva_nil))))))))) (by exact Nat.le_of_ble_eq_true rfl)) fun l1 x1 H1 g1 e1 r1 => ?_
    have hp := g1.t hp
    refine sq_asgL (T := tabs K) (K := K) (gvl_cat (gvl_var rfl e1 r1) (gvl_lst (gva_cons (gv_tup (gva_cons gv_int (gva_cons gv_bl gva_nil)) (by exact Nat.le_of_ble_eq_true rfl)) (gva_cons (gv_tup (gva_cons gv_str (gva_cons gv_int gva_nil)) (by exact Nat.le_of_ble_eq_true rfl)) (gva_cons (gv_tup (gva_cons gv_int (gva_cons gv_int gva_nil)) (by exact Nat.le_of_ble_eq_true rfl)) (gva_cons (gv_tup (gva_cons gv_int (gva_cons (gv_neg gv_int) gva_nil)) (by exact Nat.le_of_ble_eq_true rfl)) (gva_cons (gv_tup (gva_cons gv_int (gva_cons gv_int gva_nil)) (by exact Nat.le_of_ble_eq_true rfl)) (gva_cons (gv_tup (gva_cons gv_int (gva_cons gv_int gva_nil)) (by exact Nat.le_of_ble_eq_true rfl)) gva_nil)))))) (by exact Nat.le_of_ble_eq_true rfl)) (by exact Nat.le_of_ble_eq_true rfl)) fun l2 x2 H2 g2 e2 r2 => ?_
    have hp := g2.t hp
    refine sq_asgL (T := tabs K) (K := K) (gvl_cat (gvl_var rfl e2 r2) (gvl_lst (gva_cons (gv_tup (gva_cons (gv_neg gv_int) (gva_cons gv_int gva_nil)) (by exact Nat.le_of_ble_eq_true rfl)) (gva_cons (gv_tup (gva_cons gv_int (gva_cons gv_int gva_nil)) (by exact Nat.le_of_ble_eq_true rfl)) (gva_cons (gv_tup (gva_cons gv_int (gva_cons gv_int gva_nil)) (by exact Nat.le_of_ble_eq_true rfl)) (gva_cons (gv_tup (gva_cons (gv_neg gv_int) (gva_cons gv_int gva_nil)) (by exact Nat.le_of_ble_eq_true rfl)) (gva_cons gv_dnew (gva_cons (gv_tup gva_nil (by exact Nat.le_of_ble_eq_true rfl)) (gva_cons (gv_tup (gva_cons gv_non (gva_cons gv_int gva_nil)) (by exact Nat.le_of_ble_eq_true rfl)) gva_nil))))))) (by exact Nat.le_of_ble_eq_true rfl)) (by exact Nat.le_of_ble_eq_true rfl)) fun l3 x3 H3 g3 e3 r3 => ?_
    have hp := g3.t hp
    refine sq_asgL (T := tabs K) (K := K) (gvl_cat (gvl_var rfl e3 r3) (gvl_lst (gva_cons (gv_tup (gva_cons (gv_lst (gva_cons gv_int gva_nil) (by exact Nat.le_of_ble_eq_true rfl)) (gva_cons gv_int gva_nil)) (by exact Nat.le_of_ble_eq_true rfl)) (gva_cons (gv_tup (gva_cons (gv_ixT (gv_var rfl (rp2 (K := K) hp)) gv_int at0) (gva_cons (gv_opI0 gv_int (gv_ixT (gv_var rfl (rp2 (K := K) hp)) gv_int at1)) gva_nil)) (by exact Nat.le_of_ble_eq_true rfl)) (gva_cons (gv_tup (gva_cons (gv_opI gv_int (gv_ixT (gv_var rfl (rp2 (K := K) hp)) gv_int at0) (by assumption)) (gva_cons (gv_opI gv_int (gv_ixT (gv_var rfl (rp2 (K := K) hp)) gv_int at1) (by assumption)) gva_nil)) (by exact Nat.le_of_ble_eq_true rfl)) (gva_cons (gv_var rfl (rp2 (K := K) hp)) gva_nil)))) (by exact Nat.le_of_ble_eq_true rfl)) (by exact Nat.le_of_ble_eq_true rfl)) fun l4 x4 H4 g4 e4 r4 => ?_
    have hp := g4.t hp
    refine sq_asgL (T := tabs K) (K := K) (gvl_cat (gvl_var rfl e4 r4) (gvl_lst (gva_cons (gv_listT (gv_var rfl (rp2 (K := K) hp))) (gva_cons (gv_tup (gva_cons (gv_var rfl (rp2 (K := K) hp)) gva_nil) (by exact Nat.le_of_ble_eq_true rfl)) gva_nil)) (by exact Nat.le_of_ble_eq_true rfl)) (by exact Nat.le_of_ble_eq_true rfl)) fun l x5 H5 g5 e5 r5 => ?_
    have r5 : RpAll K H5 x5 (odd t b) := r5
    have g := (((g1.trans g2).trans g3).trans g4).trans g5
    refine ⟨_, rfl, l, rfl, ⟨_, SqL.of e5⟩, for_list (K := K) (a := l) (xs := x5) (fun i σ H' => Same H5 H' ∧ ∃ kv fv : Option V, σ = [some (.ref p), some (.ref l), kv, fv]) ⟨Same.refl _, none, none, rfl⟩ (fun i σ H' _ ⟨sm, _⟩ => SqL.of (sm _ _ e5)) ?_ ?_⟩
    · rintro i x σ H' hx ⟨sm, kv, fv, rfl⟩
      obtain ⟨d, hd, rd⟩ := r5.get hx
      have rd' := rd.ext (Same.toEx sm)
      refine ⟨_, rfl, x, d, rfl, rd', ?_⟩
      refine ⟨_, rfl, _, _, _, _, true, rfl, .ty "bool", .base (.bl _), kit_ty (by decide +kernel), _, rfl, iteF ⟨_, rfl, _, rfl, x, d, rfl, rd', odd_bnd hb d (List.mem_of_getElem? hd), fun H6 sm6 => ⟨rfl, _, rfl, ?_⟩⟩⟩
      have e : (!decide (V.bl (isFr d) = V.bl (isFr d))) = false := by simp
      rw [e]
      exact iteF ⟨sm.trans sm6, _, _, rfl⟩
    · rintro σ H' ⟨sm, kv, fv, rfl⟩
      exact q H' (g.trans (gw_same sm))
end
end K01


namespace K01
open PySem PySem.Spec PyProof.Rows L2 LB
def spLaw (K : PySem.W.Frag) : Sp := fun vs H Q _ => ∃ (a : Addr) (ns : List Int), vs = [.ref a] ∧ SqL K H a (ns.map V.int) ∧ ns.length ≤ 63 ∧ LamX.Tabs (tabs K) H ∧ ∀ H', Q (.bl true) H'
abbrev big : Nat := 10000000000000
/-- five kinds of bottoms -/
theorem pick5 (x4 x10 g : Int) (hg : 0 ≤ g ∧ g < 999999999989) : ∃ bt : Int, atI [V.int 1, V.int (x4.fmod 12), V.int (0 - x4.fmod 50), V.int g, V.int (0 - g)] (x10.fmod 5) = some (.int bt) ∧ bt.natAbs < big := by
  have f1 := fm x4 (b := 12) (by decide)
  have f2 := fm x4 (b := 50) (by decide)
  have f3 := fm x10 (b := 5) (by decide)
  rcases (show x10.fmod 5 = 0 ∨ x10.fmod 5 = 1 ∨ x10.fmod 5 = 2 ∨ x10.fmod 5 = 3 ∨ x10.fmod 5 = 4 by omega) with e | e | e | e | e
  · exact ⟨_, by rw [e]; exact atI_nat (j := 0) rfl, by decide⟩
  · exact ⟨_, by rw [e]; exact atI_nat (j := 1) rfl, by unfold big; omega⟩
  · exact ⟨_, by rw [e]; exact atI_nat (j := 2) rfl, by unfold big; omega⟩
  · exact ⟨_, by rw [e]; exact atI_nat (j := 3) rfl, by unfold big; omega⟩
  · exact ⟨_, by rw [e]; exact atI_nat (j := 4) rfl, by unfold big; omega⟩
theorem pick7 {bt : Int} (hb : bt.natAbs < big) : ∃ bb : Int, (if decide (V.int bt = V.int 0) = true then V.int 7 else V.int bt) = .int bb ∧ bb ≠ 0 ∧ bb.natAbs < big := by
  by_cases h : bt = 0
  · rw [decide_eq_true (congrArg V.int h)]
    exact ⟨7, rfl, by decide, by decide⟩
  · rw [decide_eq_false (fun z => h (V.int.inj z))]
    exact ⟨bt, rfl, h, hb⟩
theorem pick3 (x5 x11 a1 : Int) (h5 : 0 ≤ x5 ∧ x5 < 2000000000) (ha : 0 < a1) (hb : a1.natAbs < big) : ∃ cc : Int, atI [V.int (1 + x5.fmod 12), V.int a1, V.int (1 + x5)] (x11.fmod 3) = some (.int cc) ∧ cc ≠ 0 ∧ cc.natAbs < big := by
  have f1 := fm x5 (b := 12) (by decide)
  have f3 := fm x11 (b := 3) (by decide)
  rcases (show x11.fmod 3 = 0 ∨ x11.fmod 3 = 1 ∨ x11.fmod 3 = 2 by omega) with e | e | e
  · exact ⟨_, by rw [e]; exact atI_nat (j := 0) rfl, by omega, by unfold big; omega⟩
  · exact ⟨_, by rw [e]; exact atI_nat (j := 1) rfl, by omega, hb⟩
  · exact ⟨_, by rw [e]; exact atI_nat (j := 2) rfl, by omega, by unfold big; omega⟩
theorem twelve {xs : List Int} (h : xs.length = 12) : ∃ x0 x1 x2 x3 x4 x5 x6 x7 x8 x9 x10 x11, xs = [x0, x1, x2, x3, x4, x5, x6, x7, x8, x9, x10, x11] := by
  match xs, h with
  | [x0, x1, x2, x3, x4, x5, x6, x7, x8, x9, x10, x11], _ => exact ⟨x0, x1, x2, x3, x4, x5, x6, x7, x8, x9, x10, x11, rfl⟩
/-- the pairs of fractions that are asked -/
def prs (a0 a1 b0 b1 : Int) : List PyData :=
  [.tuple [.tuple [.int a0, .int a1], .tuple [.int b0, .int b1]], .tuple [.tuple [.int b0, .int b1], .tuple [.int a0, .int a1]], .tuple [.tuple [.int a0, .int a1], .tuple [.int a0, .int a1]],
   .tuple [.tuple [.int a0, .int a1], .tuple [.int 0, .int 1]], .tuple [.tuple [.int a0, .int a1], .tuple [.int (0 - a0), .int a1]]]
theorem prs_is {a0 a1 b0 b1 : Int} (h1 : a0.natAbs < big) (h2 : a1.natAbs < big) (h3 : b0.natAbs < big) (h4 : b1.natAbs < big) {i : Nat} {d : PyData} (h : (prs a0 a1 b0 b1)[i]? = some d) :
    ∃ u0 u1 w0 w1 : Int, d = .tuple [.tuple [.int u0, .int u1], .tuple [.int w0, .int w1]] ∧ u0.natAbs < big ∧ u1.natAbs < big ∧ w0.natAbs < big ∧ w1.natAbs < big := by
  have hm := List.mem_of_getElem? h
  unfold prs at hm
  simp only [List.mem_cons, List.not_mem_nil, or_false] at hm
  rcases hm with rfl | rfl | rfl | rfl | rfl
  · exact ⟨_, _, _, _, rfl, h1, h2, h3, h4⟩
  · exact ⟨_, _, _, _, rfl, h3, h4, h1, h2⟩
  · exact ⟨_, _, _, _, rfl, h1, h2, h1, h2⟩
  · exact ⟨_, _, _, _, rfl, h1, h2, by decide, by decide⟩
  · exact ⟨_, _, _, _, rfl, h1, h2, by unfold big at *; omega, h2⟩
theorem rp2_of {K : PySem.W.Frag} {H : Hp} {v : V} {t b : Int} (h : Rp K H v (.tuple [.int t, .int b])) : ∃ p, v = .ref p ∧ SqT K H p [.int t, .int b] := by
  cases h with
  | tup hs ra =>
    cases ra with
    | cons h1 r1 =>
      cases r1 with
      | cons h2 r2 =>
        cases r2
        cases h1
        cases h2
        exact ⟨_, rfl, hs⟩
section
variable {P : Program} {w : World} {K : PySem.W.Frag} {mg : Str → Option Value} {base : Heap}
theorem ok_law (T : Txt K mg) (F_L_cell : OwnFn P w K mg base 1 "_law_cell" ["_law_script", "_law_k"] (spCell K)) (F_L_numbers : OwnFn P w K mg base 1 "_law_numbers" ["_law_cell_here", "_law_many"] spNums) (F_L_number : OwnFn P w K mg base 1 "_law_number" ["_law_x", "_law_y", "_law_wide"] spNumber)
    (F_L_made_right : OwnFn P w K mg base 5 "_law_made_right" ["_law_top", "_law_bottom"] (spMade K)) (F_L_low : OwnFn P w K mg base 1 "_law_low" ["_law_top", "_law_bottom"] spLow) (F_L_pair_right : OwnFn P w K mg base 6 "_law_pair_right" ["_law_a", "_law_b"] (spPair K)) (F_L_kinds_right : OwnFn P w K mg base 3 "_law_kinds_right" ["_law_a"] (spKinds K)) :
    OwnFn P w K mg base 7 "law" ["_law_script"] (spLaw K) := by
  refine own_ok (k := 6) T.D_law sc_law (fun _ _ _ _ _ _ us hl => match us, hl with | [_], _ => rfl) (fun vs H Q E h => ?_) (fun cdv A outer s H vs Q E hr h => ⟨_, PSs.nox (pss_cons (ps_for PassesOwn.never rfl (pi_list (pe_op op_cat (pe_lst (pa_cons (pe_own F_L_cell hr passL (pa_cons (pv 0) (pa_cons pe_int pa_nil))) pa_nil)) (pe_slice sl_list (pv 0) (po_some pe_int) (po_some pe_int)))) (pg_name (i := 1) sc_law.nd rfl (Or.inl rfl))
   (pss_cons (ps_set (i := 2) sc_law.nd rfl (Or.inl rfl) (pe_own F_L_numbers hr passL (pa_cons (pv 1) (pa_cons pe_int pa_nil))))
  (pss_cons (ps_par (i := 7) (j := 8) rfl sc_law.nd rfl rfl (by decide) rfl rfl (pa_cons (pe_own F_L_number hr passL (pa_cons (pe_ix ix_list (pv 2) pe_int (fun _ _ => rfl)) (pa_cons (pe_ix ix_list (pv 2) pe_int (fun _ _ => rfl)) (pa_cons (pe_ix ix_list (pv 2) pe_int (fun _ _ => rfl)) pa_nil)))) (pa_cons (pe_own F_L_number hr passL (pa_cons (pe_ix ix_list (pv 2) pe_int (fun _ _ => rfl)) (pa_cons (pe_ix ix_list (pv 2) pe_int (fun _ _ => rfl)) (pa_cons (pe_ix ix_list (pv 2) pe_int (fun _ _ => rfl)) pa_nil)))) pa_nil)) (by rfl))
  (pss_cons (ps_set (i := 3) sc_law.nd rfl (Or.inl rfl) (pe_op op_modN (pe_op op_mulW (pe_ix ix_list (pv 2) pe_int (fun _ _ => rfl)) pe_int) pe_int))
  (pss_cons (ps_set (i := 4) sc_law.nd rfl (Or.inl rfl) (pe_ix ix_list (pe_lst (pa_cons pe_int (pa_cons (pe_op op_modN (pe_ix ix_list (pv 2) pe_int (fun _ _ => rfl)) pe_int) (pa_cons (pe_op op_sub pe_int (pe_op op_modN (pe_ix ix_list (pv 2) pe_int (fun _ _ => rfl)) pe_int)) (pa_cons (pv 3) (pa_cons (pe_op op_sub pe_int (pv 3)) pa_nil)))))) (pe_op op_modN (pe_ix ix_list (pv 2) pe_int (fun _ _ => rfl)) pe_int) (fun _ _ => rfl)))
  (pss_cons (ps_if (PW.pt (pw_or (pt_not (pt_val (pe_own F_L_made_right hr passL (pa_cons (pv 7) (pa_cons (pv 4) pa_nil))))) (pw_or1 (pt_not (pt_val (pe_own F_L_made_right hr passL (pa_cons (pv 8) (pa_cons pe_int pa_nil)))))))) (pss_one (ps_ret pe_bl)) pss_nil)
  (pss_cons (ps_set (i := 5) sc_law.nd rfl (Or.inl rfl) (pe_own F_L_low hr passL (pa_cons (pv 7) (pa_cons (pe_ix ix_list (pe_lst (pa_cons (pv 4) (pa_cons pe_int pa_nil))) (pe_callTy call_int1 (by rfl) T.f_int (by decide +kernel) (pa_cons (pe_cmpR op_eq (pv 4) pe_int (nomark _)) pa_nil)) (fun _ _ => rfl)) pa_nil))))
  (pss_cons (ps_set (i := 6) sc_law.nd rfl (Or.inl rfl) (pe_own F_L_low hr passL (pa_cons (pv 8) (pa_cons (pe_ix ix_list (pe_lst (pa_cons (pe_op op_add pe_int (pe_op op_modN (pe_ix ix_list (pv 2) pe_int (fun _ _ => rfl)) pe_int)) (pa_cons (pe_ix ix_tup (pv 5) pe_int (fun _ _ => rfl)) (pa_cons (pe_op op_add pe_int (pe_ix ix_list (pv 2) pe_int (fun _ _ => rfl))) pa_nil)))) (pe_op op_modN (pe_ix ix_list (pv 2) pe_int (fun _ _ => rfl)) pe_int) (fun _ _ => rfl)) pa_nil))))
  (pss_cons (ps_for PassesOwn.never rfl (pi_list (pe_lst (pa_cons (pe_tup (pa_cons (pv 5) (pa_cons (pv 6) pa_nil))) (pa_cons (pe_tup (pa_cons (pv 6) (pa_cons (pv 5) pa_nil))) (pa_cons (pe_tup (pa_cons (pv 5) (pa_cons (pv 5) pa_nil))) (pa_cons (pe_tup (pa_cons (pv 5) (pa_cons (pe_tup (pa_cons pe_int (pa_cons pe_int pa_nil))) pa_nil))) (pa_cons (pe_tup (pa_cons (pv 5) (pa_cons (pe_tup (pa_cons (pe_op op_sub pe_int (pe_ix ix_tup (pv 5) pe_int (fun _ _ => rfl))) (pa_cons (pe_ix ix_tup (pv 5) pe_int (fun _ _ => rfl)) pa_nil))) pa_nil))) pa_nil))))))) (pg_tup rfl (pgs_cons (pg_name (i := 9) sc_law.nd rfl (Or.inl rfl)) (pgs_cons (pg_name (i := 10) sc_law.nd rfl (Or.inl rfl)) pgs_nil)))
   (pss_one (ps_if (pt_not (pt_val (pe_own F_L_pair_right hr passL (pa_cons (pv 9) (pa_cons (pv 10) pa_nil))))) (pss_one (ps_ret pe_bl)) pss_nil)))
  (pss_one (ps_if (pt_not (pt_val (pe_own F_L_kinds_right hr passL (pa_cons (pv 5) pa_nil)))) (pss_one (ps_ret pe_bl)) pss_nil)))))))))))
  (pss_one (ps_ret pe_bl))), ?_⟩)
  · obtain ⟨a, ns, rfl, _⟩ := h
    rfl
  · obtain ⟨a, ns, rfl, hs, hn, hT, q⟩ := h
    refine ⟨_, rfl, a, ns, 0, rfl, hs, by decide, fun c0 H1 sm1 => ⟨by show 1 ≤ sizeLine; decide, fun p1 hp1 => ?_⟩⟩
    obtain ⟨ms, em, hm⟩ := cut_map ns (some 1) (some 12)
    refine ⟨_, rfl, _, rfl, _, rfl, a, _, rfl, Same.l (sm1.trans (same_new hp1)) hs, fun p2 hp2 => ?_⟩
    refine ⟨p1, p2, [.int c0], cutV (ns.map V.int) (some 1) (some 12), rfl, rfl, by rw [upd_ne (ne_of_none upd_same hp2)]; exact upd_same, upd_same, ?_, fun p3 hp3 => ?_⟩
    · rw [em, List.length_map]
      exact sz (by show 1 + ms.length ≤ 100000; omega)
    have el : [V.int c0] ++ cutV (ns.map V.int) (some 1) (some 12) = (c0 :: ms).map V.int := by rw [em] <;> rfl
    rw [el]
    obtain ⟨H0, eH0⟩ : ∃ H0, H0 = upd (upd (upd H1 p1 (.lst [.int c0])) p2 (.lst (cutV (ns.map V.int) (some 1) (some 12)))) p3 (.lst ((c0 :: ms).map V.int)) := ⟨_, rfl⟩
    have hl3 : H0 p3 = some (.lst ((c0 :: ms).map V.int)) := by rw [eH0]; exact upd_same
    have T0 : LamX.Tabs (tabs K) H0 := by
      rw [eH0]
      exact (gw_same (T := tabs K) (sm1.trans ((same_new hp1).trans ((same_new hp2).trans (same_new hp3))))).2 hT
    rw [← eH0]
    refine ⟨p3, rfl, ⟨_, SqL.of hl3⟩, for_list (K := K) (a := p3) (xs := (c0 :: ms).map V.int) (fun i σ H' => Gw (tabs K) H0 H' ∧ ∃ y1 y2 y3 y4 y5 y6 y7 y8 y9 y10 : Option V, σ = [some (.ref a), y1, y2, y3, y4, y5, y6, y7, y8, y9, y10])
      ⟨Gw.refl _ _, none, none, none, none, none, none, none, none, none, none, rfl⟩ (fun i σ H' _ h => SqL.of (h.1.lst hl3)) ?_ ?_⟩
    · rintro i x σ H2 hx ⟨g2, y1, y2, y3, y4, y5, y6, y7, y8, y9, y10, rfl⟩
      obtain ⟨c, _, rfl⟩ := int_at hx
      refine ⟨_, rfl, c, 12, rfl, by decide, fun xs px H3 hl ha sm3 hx3 => ?_⟩
      obtain ⟨x0, x1, x2, x3, x4, x5, x6, x7, x8, x9, x10, x11, rfl⟩ := twelve hl
      have g3 : Gw (tabs K) H0 H3 := g2.trans (gw_same sm3)
      have b4 := ha x4 (by simp)
      have b5 := ha x5 (by simp)
      refine ⟨_, rfl, px, _, _, _, rfl, rfl, SqL.of hx3, atI_nat (j := 0) rfl, _, rfl, px, _, _, _, rfl, rfl, SqL.of hx3, atI_nat (j := 1) rfl, _, rfl, px, _, _, _, rfl, rfl, SqL.of hx3, atI_nat (j := 8) rfl, x0, x1, x8, rfl, ha _ (by simp), ha _ (by simp), ha _ (by simp), fun tp H4 htp sm4 => ?_⟩
      have hx4 := sm4 _ _ hx3
      refine ⟨_, rfl, px, _, _, _, rfl, rfl, SqL.of hx4, atI_nat (j := 2) rfl, _, rfl, px, _, _, _, rfl, rfl, SqL.of hx4, atI_nat (j := 3) rfl, _, rfl, px, _, _, _, rfl, rfl, SqL.of hx4, atI_nat (j := 9) rfl, x2, x3, x9, rfl, ha _ (by simp), ha _ (by simp), ha _ (by simp), fun ot H5 hot sm5 => ⟨_, _, rfl, ?_⟩⟩
      have hx5 := sm5 _ _ hx4
      have g5 : Gw (tabs K) H0 H5 := (g3.trans (gw_same sm4)).trans (gw_same sm5)
      refine ⟨_, rfl, px, _, _, _, rfl, rfl, SqL.of hx5, atI_nat (j := 4) rfl, _, _, rfl, rfl, mulS (lt200 (by omega)) (by decide), _, _, rfl, rfl, nz (by decide), ?_⟩
      obtain ⟨bt, hat, hbt⟩ := pick5 x4 x10 ((x4 * 1000003).fmod 999999999989) (fm _ (by decide))
      refine ⟨_, rfl, px, _, _, _, rfl, rfl, SqL.of hx5, atI_nat (j := 4) rfl, _, _, rfl, rfl, nz (by decide), _, rfl, px, _, _, _, rfl, rfl, SqL.of hx5, atI_nat (j := 4) rfl, _, _, rfl, rfl, nz (by decide), _, _, rfl, rfl, _, rfl, _, rfl, _, _, rfl, rfl, by show 5 ≤ sizeLine; decide, fun p5 hp5 => ?_⟩
      have sm6 := same_new (o := .lst [.int 1, .int (x4.fmod 12), .int (0 - x4.fmod 50), .int ((x4 * 1000003).fmod 999999999989), .int (0 - (x4 * 1000003).fmod 999999999989)]) hp5
      have hx6 := sm6 _ _ hx5
      have g6 := g5.trans (gw_same (T := tabs K) sm6)
      refine ⟨_, rfl, px, _, _, _, rfl, rfl, SqL.of hx6, atI_nat (j := 10) rfl, _, _, rfl, rfl, nz (by decide), p5, _, _, _, rfl, rfl, SqL.of upd_same, hat, ?_⟩
      refine ⟨_, rfl, _, rfl, tp, bt, rfl, lt100 (Nat.lt_trans hbt (by decide)), g6.2 T0, fun H7 g7 => ⟨_, rfl, iteF ?_⟩⟩
      refine ⟨_, rfl, ot, 0, rfl, by decide, g7.2 (g6.2 T0), fun H8 g8 => ⟨_, rfl, iteF ?_⟩⟩
      have h8 := (g7.trans g8).lst hx6
      have k8 := (g6.trans g7).trans g8
      obtain ⟨bb, ebb, nbb, hbb⟩ := pick7 hbt
      refine ⟨_, rfl, _, rfl, by show 2 ≤ sizeLine; decide, fun p7 hp7 => ⟨_, rfl, rfl, .inr ⟨_, rfl, p7, _, _, _, rfl, rfl, SqL.of upd_same, pick2 _, ?_⟩⟩⟩
      rw [ebb]
      refine ⟨tp, bb, rfl, nbb, up400 (lt100 (Nat.lt_trans hbb (by decide))), fun pa hpa => ?_⟩
      obtain ⟨H9, eH9⟩ : ∃ H9, H9 = upd (upd H8 p7 (.lst [.int bt, .int 7])) pa (.tup [.int (lowT tp bb), .int (lowB tp bb)]) := ⟨_, rfl⟩
      have s9 : Same H8 H9 := by rw [eH9]; exact (same_new hp7).trans (same_new hpa)
      have hpa9 : H9 pa = some (.tup [.int (lowT tp bb), .int (lowB tp bb)]) := by rw [eH9]; exact upd_same
      have h9 := s9 _ _ h8
      have k9 := k8.trans (gw_same s9)
      have a0b : (lowT tp bb).natAbs < big := Nat.lt_of_le_of_lt (low_natAbs_t tp nbb) (Nat.lt_trans htp (by decide))
      have a1b : (lowB tp bb).natAbs < big := Nat.lt_of_le_of_lt (low_natAbs_b tp nbb) hbb
      obtain ⟨cc, hcc, ncc, bcc⟩ := pick3 x5 x11 (lowB tp bb) b5 (lowB_pos tp nbb) a1b
      rw [← eH9]
      refine ⟨_, rfl, _, rfl, px, _, _, _, rfl, rfl, SqL.of h9, atI_nat (j := 5) rfl, _, _, rfl, rfl, nz (by decide), _, _, rfl, rfl, _, rfl, pa, _, _, _, rfl, rfl, SqT.of hpa9, at1, _, rfl, px, _, _, _, rfl, rfl, SqL.of h9, atI_nat (j := 5) rfl, _, _, rfl, rfl, by show 3 ≤ sizeLine; decide, fun p8 hp8 => ?_⟩
      have s10 := same_new (o := .lst [.int (1 + x5.fmod 12), .int (lowB tp bb), .int (1 + x5)]) hp8
      have h10 := s10 _ _ h9
      refine ⟨_, rfl, px, _, _, _, rfl, rfl, SqL.of h10, atI_nat (j := 11) rfl, _, _, rfl, rfl, nz (by decide), p8, _, _, _, rfl, rfl, SqL.of upd_same, hcc, ot, cc, rfl, ncc, up400 (lt100 (Nat.lt_trans bcc (by decide))), fun pb hpb => ?_⟩
      have s11 := s10.trans (same_new (o := .tup [.int (lowT ot cc), .int (lowB ot cc)]) hpb)
      have k11 := k9.trans (gw_same (T := tabs K) s11)
      have b0b : (lowT ot cc).natAbs < big := Nat.lt_of_le_of_lt (low_natAbs_t ot ncc) (Nat.lt_trans hot (by decide))
      have b1b : (lowB ot cc).natAbs < big := Nat.lt_of_le_of_lt (low_natAbs_b ot ncc) bcc
      have ra := rp2 (K := K) (SqT.of (s11 _ _ hpa9))
      have rb := rp2 (K := K) (SqT.of (upd_same (H := upd H9 p8 (.lst [.int (1 + x5.fmod 12), .int (lowB tp bb), .int (1 + x5)])) (a := pb) (o := .tup [.int (lowT ot cc), .int (lowB ot cc)])))
      refine sq_forG (T := tabs K) (K := K) (ds := prs (lowT tp bb) (lowB tp bb) (lowT ot cc) (lowB ot cc)) (gvl_lst (gva_cons (gv_tup (gva_cons (gv_var rfl ra) (gva_cons (gv_var rfl rb) gva_nil)) (by exact Nat.le_of_ble_eq_true rfl)) (gva_cons (gv_tup (gva_cons (gv_var rfl rb) (gva_cons (gv_var rfl ra) gva_nil)) (by exact Nat.le_of_ble_eq_true rfl)) (gva_cons (gv_tup (gva_cons (gv_var rfl ra) (gva_cons (gv_var rfl ra) gva_nil)) (by exact Nat.le_of_ble_eq_true rfl)) (gva_cons (gv_tup (gva_cons (gv_var rfl ra) (gva_cons (gv_tup (gva_cons gv_int (gva_cons gv_int gva_nil)) (by exact Nat.le_of_ble_eq_true rfl)) gva_nil)) (by exact Nat.le_of_ble_eq_true rfl)) (gva_cons (gv_tup (gva_cons (gv_var rfl ra) (gva_cons (gv_tup (gva_cons (gv_opI0 gv_int (gv_ixT (gv_var rfl ra) gv_int at0)) (gva_cons (gv_ixT (gv_var rfl ra) gv_int at1) gva_nil)) (by exact Nat.le_of_ble_eq_true rfl)) gva_nil)) (by exact Nat.le_of_ble_eq_true rfl)) gva_nil))))) (by exact Nat.le_of_ble_eq_true rfl)) (fun i σ' => ∃ z9 z10 : Option V, σ' = [some (.ref a), some (.int c), some (.ref px), some (.int ((x4 * 1000003).fmod 999999999989)), some (.int bt), some (.ref pa), some (.ref pb), some (.int tp), some (.int ot), z9, z10]) ⟨_, _, rfl⟩ ?_ ?_
      · rintro H12 g12 j v d σ' H13 g13 hd rd ⟨z9, z10, rfl⟩
        obtain ⟨u0, u1, w0, w1, rfl, hu0, hu1, hw0, hw1⟩ := prs_is a0b a1b b0b b1b hd
        cases rd with
        | tup hst rat =>
          cases rat with
          | cons r1 rr =>
            cases rr with
            | cons r2 rn =>
              cases rn
              obtain ⟨q1, rfl, hq1⟩ := rp2_of r1
              obtain ⟨q2, rfl, hq2⟩ := rp2_of r2
              refine ⟨_, _, rfl, hst, rfl, _, _, rfl, _, _, rfl, rfl, ?_⟩
              exact ⟨_, rfl, _, rfl, q1, q2, u0, u1, w0, w1, rfl, hq1, hq2, ⟨lt100 (Nat.lt_trans hu0 (by decide)), lt100 (Nat.lt_trans hu1 (by decide)), lt100 (Nat.lt_trans hw0 (by decide)), lt100 (Nat.lt_trans hw1 (by decide))⟩, g13.2 (g12.2 (k11.2 T0)), fun H14 g14 => ⟨_, rfl, iteF ⟨g13.trans g14, _, _, rfl⟩⟩⟩
      · rintro σ' H15 g15 ⟨z9, z10, rfl⟩
        exact ⟨_, rfl, pa, _, _, rfl, g15.t (SqT.of (s11 _ _ hpa9)), a0b, a1b, fun H16 g16 => ⟨_, rfl, iteF ⟨(k11.trans g15).trans g16, _, _, _, _, _, _, _, _, _, _, rfl⟩⟩⟩
    · rintro σ H' _
      exact q H'
end
end K01


namespace K01
open PySem PySem.Spec PyProof.Rows L2
def d_is_whole : He.DefD := ⟨("is_whole", none), "is_whole", "is_whole", defArgs s_is_whole, defBody s_is_whole, defScope s_is_whole, [], []⟩
def d_is_row : He.DefD := ⟨("is_row", none), "is_row", "is_row", defArgs s_is_row, defBody s_is_row, defScope s_is_row, [], []⟩
def d_common_divisor : He.DefD := ⟨("common_divisor", none), "common_divisor", "common_divisor", defArgs s_common_divisor, defBody s_common_divisor, defScope s_common_divisor, [], []⟩
def d_is_fraction : He.DefD := ⟨("is_fraction", none), "is_fraction", "is_fraction", defArgs s_is_fraction, defBody s_is_fraction, defScope s_is_fraction, [], []⟩
def d_fraction : He.DefD := ⟨("fraction", none), "fraction", "fraction", defArgs s_fraction, defBody s_fraction, defScope s_fraction, [], []⟩
def d_plus : He.DefD := ⟨("plus", none), "plus", "plus", defArgs s_plus, defBody s_plus, defScope s_plus, [], []⟩
def d_minus : He.DefD := ⟨("minus", none), "minus", "minus", defArgs s_minus, defBody s_minus, defScope s_minus, [], []⟩
def d_times : He.DefD := ⟨("times", none), "times", "times", defArgs s_times, defBody s_times, defScope s_times, [], []⟩
def d_over : He.DefD := ⟨("over", none), "over", "over", defArgs s_over, defBody s_over, defScope s_over, [], []⟩
def d_below : He.DefD := ⟨("below", none), "below", "below", defArgs s_below, defBody s_below, defScope s_below, [], []⟩
def d_L_cell : He.DefD := ⟨("_law_cell", none), "_law_cell", "_law_cell", defArgs s_L_cell, defBody s_L_cell, defScope s_L_cell, [], []⟩
def d_L_numbers : He.DefD := ⟨("_law_numbers", none), "_law_numbers", "_law_numbers", defArgs s_L_numbers, defBody s_L_numbers, defScope s_L_numbers, [], []⟩
def d_L_low : He.DefD := ⟨("_law_low", none), "_law_low", "_law_low", defArgs s_L_low, defBody s_L_low, defScope s_L_low, [], []⟩
def d_L_is_whole : He.DefD := ⟨("_law_is_whole", none), "_law_is_whole", "_law_is_whole", defArgs s_L_is_whole, defBody s_L_is_whole, defScope s_L_is_whole, [], []⟩
def d_L_is_fraction : He.DefD := ⟨("_law_is_fraction", none), "_law_is_fraction", "_law_is_fraction", defArgs s_L_is_fraction, defBody s_L_is_fraction, defScope s_L_is_fraction, [], []⟩
def d_L_caught : He.DefD := ⟨("_law_caught", none), "_law_caught", "_law_caught", defArgs s_L_caught, defBody s_L_caught, defScope s_L_caught, [], []⟩
def d_L_told : He.DefD := ⟨("_law_told", none), "_law_told", "_law_told", defArgs s_L_told, defBody s_L_told, defScope s_L_told, [], []⟩
def d_L_number : He.DefD := ⟨("_law_number", none), "_law_number", "_law_number", defArgs s_L_number, defBody s_L_number, defScope s_L_number, [], []⟩
def d_L_pair_right : He.DefD := ⟨("_law_pair_right", none), "_law_pair_right", "_law_pair_right", defArgs s_L_pair_right, defBody s_L_pair_right, defScope s_L_pair_right, [], []⟩
def d_L_kinds_right : He.DefD := ⟨("_law_kinds_right", none), "_law_kinds_right", "_law_kinds_right", defArgs s_L_kinds_right, defBody s_L_kinds_right, defScope s_L_kinds_right, [], []⟩
def d_L_made_right : He.DefD := ⟨("_law_made_right", none), "_law_made_right", "_law_made_right", defArgs s_L_made_right, defBody s_L_made_right, defScope s_L_made_right, [], []⟩
def d_law : He.DefD := ⟨("law", none), "law", "law", defArgs s_law, defBody s_law, defScope s_law, [], []⟩
def fn : List He.DefD := [d_is_whole, d_is_row, d_common_divisor, d_is_fraction, d_fraction, d_plus, d_minus, d_times, d_over, d_below, d_L_cell, d_L_numbers, d_L_low, d_L_is_whole, d_L_is_fraction, d_L_caught, d_L_told, d_L_number, d_L_pair_right, d_L_kinds_right, d_L_made_right, d_law]
def fa0 : List He.Fa := [.glo "StairError", .glo "NoText", .glo "NoNumber", .glo "NoCut", .glo "NoPrice", .glo "NoStream", .glo "NoName", .glo "NoFall", .glo "NoShare", .glo "NoPart", .glo "NoTop", .glo "NoPlace", .glo "NoTie", .glo "NoUndo", .glo "NoWeb", .glo "NoRow", .glo "is_whole", .glo "is_row", .glo "common_divisor", .glo "is_fraction", .glo "fraction", .glo "plus", .glo "minus", .glo "times", .glo "over", .glo "below", .glo "_law_cell", .glo "_law_numbers", .glo "_law_low", .glo "_law_is_whole"]
def fa1 : List He.Fa := [.glo "_law_is_fraction", .glo "_law_caught", .glo "_law_told", .glo "_law_number", .glo "_law_pair_right", .glo "_law_kinds_right", .glo "_law_made_right", .glo "law", .free "ValueError", .free "abs", .free "all", .free "bool", .free "int", .free "isinstance", .free "len", .free "list", .free "range", .free "super", .free "tuple", .keep "StairError", .keep "NoText", .keep "NoNumber", .keep "NoCut", .keep "NoPrice", .keep "NoStream", .keep "NoName", .keep "NoFall", .keep "NoShare", .keep "NoPart", .keep "NoTop"]
def fa2 : List He.Fa := [.keep "NoPlace", .keep "NoTie", .keep "NoUndo", .keep "NoWeb", .keep "NoRow", .exc "NoNumber", .exm "NoNumber" "StairError" true]
def fa : List He.Fa := fa0 ++ fa1 ++ fa2
def tf : List He.Defn := [("_law_pair_right", none), ("_law_made_right", none)]
def loose0 : List Str := ["StairError", "NoText", "NoNumber", "NoCut", "NoPrice", "NoStream", "NoName", "NoFall", "NoShare", "NoPart", "NoTop", "NoPlace", "NoTie", "NoUndo", "NoWeb", "NoRow", "is_whole", "is_row", "common_divisor", "is_fraction", "fraction", "plus", "minus", "times", "over", "below", "_law_cell", "_law_numbers", "_law_low", "_law_is_whole"]
def loose1 : List Str := ["_law_is_fraction", "_law_caught", "_law_told", "_law_number", "_law_pair_right", "_law_kinds_right", "_law_made_right"]
def loose : List Str := loose0 ++ loose1
end K01

namespace K01
open PySem PySem.Spec PyProof.Rows L2
abbrev R : PySem.W.OpenRow := PySem.W.OpenLaw.row PySem.Challenge.rw_cutstairs_k01_fractions_reckoned
abbrev hk : PySem.W.Hook := He.hookX 4 fa fn [] tf ex
def ob (s : PySem.W.SharedT) : He.AlX := He.obsX 4 fa fn [] tf ex (HandSHeadRun.getT s)
theorem ob_eq (s : PySem.W.SharedT) : ob s = hk.obs s.abs := He.obsX_eq (HandSHeadRun.getT_eq s)
theorem run (w : World) : HandSHeadRun.RunEq R (PySem.W.view R.prog [40]) hk ob 20000 loose w := by
  intro os
  kernel_rfl
end K01

namespace K01
open PySem PySem.Spec PyProof.Rows L2 LB
theorem txt_of {K : PySem.W.Frag} {w : World} {h : Heap} {mg : Str → Option Value} (X : K.In h) (G : h.Ns mainGlobals mg) (c : He.SaysX fa fn [] tf ex w h K) : Txt K mg where
  m_StairError := He.glo_ok X G (c.t.d.fact 0 (f := .glo "StairError") rfl)
  m_NoText := He.glo_ok X G (c.t.d.fact 1 (f := .glo "NoText") rfl)
  m_NoNumber := He.glo_ok X G (c.t.d.fact 2 (f := .glo "NoNumber") rfl)
  m_NoCut := He.glo_ok X G (c.t.d.fact 3 (f := .glo "NoCut") rfl)
  m_NoPrice := He.glo_ok X G (c.t.d.fact 4 (f := .glo "NoPrice") rfl)
  m_NoStream := He.glo_ok X G (c.t.d.fact 5 (f := .glo "NoStream") rfl)
  m_NoName := He.glo_ok X G (c.t.d.fact 6 (f := .glo "NoName") rfl)
  m_NoFall := He.glo_ok X G (c.t.d.fact 7 (f := .glo "NoFall") rfl)
  m_NoShare := He.glo_ok X G (c.t.d.fact 8 (f := .glo "NoShare") rfl)
  m_NoPart := He.glo_ok X G (c.t.d.fact 9 (f := .glo "NoPart") rfl)
  m_NoTop := He.glo_ok X G (c.t.d.fact 10 (f := .glo "NoTop") rfl)
  m_NoPlace := He.glo_ok X G (c.t.d.fact 11 (f := .glo "NoPlace") rfl)
  m_NoTie := He.glo_ok X G (c.t.d.fact 12 (f := .glo "NoTie") rfl)
  m_NoUndo := He.glo_ok X G (c.t.d.fact 13 (f := .glo "NoUndo") rfl)
  m_NoWeb := He.glo_ok X G (c.t.d.fact 14 (f := .glo "NoWeb") rfl)
  m_NoRow := He.glo_ok X G (c.t.d.fact 15 (f := .glo "NoRow") rfl)
  m_is_whole := He.glo_ok X G (c.t.d.fact 16 (f := .glo "is_whole") rfl)
  m_is_row := He.glo_ok X G (c.t.d.fact 17 (f := .glo "is_row") rfl)
  m_common_divisor := He.glo_ok X G (c.t.d.fact 18 (f := .glo "common_divisor") rfl)
  m_is_fraction := He.glo_ok X G (c.t.d.fact 19 (f := .glo "is_fraction") rfl)
  m_fraction := He.glo_ok X G (c.t.d.fact 20 (f := .glo "fraction") rfl)
  m_plus := He.glo_ok X G (c.t.d.fact 21 (f := .glo "plus") rfl)
  m_minus := He.glo_ok X G (c.t.d.fact 22 (f := .glo "minus") rfl)
  m_times := He.glo_ok X G (c.t.d.fact 23 (f := .glo "times") rfl)
  m_over := He.glo_ok X G (c.t.d.fact 24 (f := .glo "over") rfl)
  m_below := He.glo_ok X G (c.t.d.fact 25 (f := .glo "below") rfl)
  m_L_cell := He.glo_ok X G (c.t.d.fact 26 (f := .glo "_law_cell") rfl)
  m_L_numbers := He.glo_ok X G (c.t.d.fact 27 (f := .glo "_law_numbers") rfl)
  m_L_low := He.glo_ok X G (c.t.d.fact 28 (f := .glo "_law_low") rfl)
  m_L_is_whole := He.glo_ok X G (c.t.d.fact 29 (f := .glo "_law_is_whole") rfl)
  m_L_is_fraction := He.glo_ok X G (c.t.d.fact 30 (f := .glo "_law_is_fraction") rfl)
  m_L_caught := He.glo_ok X G (c.t.d.fact 31 (f := .glo "_law_caught") rfl)
  m_L_told := He.glo_ok X G (c.t.d.fact 32 (f := .glo "_law_told") rfl)
  m_L_number := He.glo_ok X G (c.t.d.fact 33 (f := .glo "_law_number") rfl)
  m_L_pair_right := He.glo_ok X G (c.t.d.fact 34 (f := .glo "_law_pair_right") rfl)
  m_L_kinds_right := He.glo_ok X G (c.t.d.fact 35 (f := .glo "_law_kinds_right") rfl)
  m_L_made_right := He.glo_ok X G (c.t.d.fact 36 (f := .glo "_law_made_right") rfl)
  m_law := He.glo_ok X G (c.t.d.fact 37 (f := .glo "law") rfl)
  f_ValueError := He.free_ok X G (c.t.d.fact 38 (f := .free "ValueError") rfl)
  f_abs := He.free_ok X G (c.t.d.fact 39 (f := .free "abs") rfl)
  f_all := He.free_ok X G (c.t.d.fact 40 (f := .free "all") rfl)
  f_bool := He.free_ok X G (c.t.d.fact 41 (f := .free "bool") rfl)
  f_int := He.free_ok X G (c.t.d.fact 42 (f := .free "int") rfl)
  f_isinstance := He.free_ok X G (c.t.d.fact 43 (f := .free "isinstance") rfl)
  f_len := He.free_ok X G (c.t.d.fact 44 (f := .free "len") rfl)
  f_list := He.free_ok X G (c.t.d.fact 45 (f := .free "list") rfl)
  f_range := He.free_ok X G (c.t.d.fact 46 (f := .free "range") rfl)
  f_super := He.free_ok X G (c.t.d.fact 47 (f := .free "super") rfl)
  f_tuple := He.free_ok X G (c.t.d.fact 48 (f := .free "tuple") rfl)
  k_StairError := He.keep_ok (c.t.d.fact 49 (f := .keep "StairError") rfl)
  k_NoText := He.keep_ok (c.t.d.fact 50 (f := .keep "NoText") rfl)
  k_NoNumber := He.keep_ok (c.t.d.fact 51 (f := .keep "NoNumber") rfl)
  k_NoCut := He.keep_ok (c.t.d.fact 52 (f := .keep "NoCut") rfl)
  k_NoPrice := He.keep_ok (c.t.d.fact 53 (f := .keep "NoPrice") rfl)
  k_NoStream := He.keep_ok (c.t.d.fact 54 (f := .keep "NoStream") rfl)
  k_NoName := He.keep_ok (c.t.d.fact 55 (f := .keep "NoName") rfl)
  k_NoFall := He.keep_ok (c.t.d.fact 56 (f := .keep "NoFall") rfl)
  k_NoShare := He.keep_ok (c.t.d.fact 57 (f := .keep "NoShare") rfl)
  k_NoPart := He.keep_ok (c.t.d.fact 58 (f := .keep "NoPart") rfl)
  k_NoTop := He.keep_ok (c.t.d.fact 59 (f := .keep "NoTop") rfl)
  k_NoPlace := He.keep_ok (c.t.d.fact 60 (f := .keep "NoPlace") rfl)
  k_NoTie := He.keep_ok (c.t.d.fact 61 (f := .keep "NoTie") rfl)
  k_NoUndo := He.keep_ok (c.t.d.fact 62 (f := .keep "NoUndo") rfl)
  k_NoWeb := He.keep_ok (c.t.d.fact 63 (f := .keep "NoWeb") rfl)
  k_NoRow := He.keep_ok (c.t.d.fact 64 (f := .keep "NoRow") rfl)
  x_NoNumber := (He.exc_ok (c.t.d.fact 65 (f := .exc "NoNumber") rfl)).1
  b_NoNumber := (He.exc_ok (c.t.d.fact 65 (f := .exc "NoNumber") rfl)).2.2.1
  t_NoNumber := (He.exc_ok (c.t.d.fact 65 (f := .exc "NoNumber") rfl)).2.2.2
  e_NoNumber := He.exm_ok (c.t.d.fact 66 (f := .exm "NoNumber" "StairError" true) rfl)
  D_is_whole := let ⟨fd, F⟩ := c.t.d.def_ 0 (d := d_is_whole) rfl; ⟨fd, F, He.glo_ok X G (c.t.d.fact 16 (f := .glo "is_whole") rfl)⟩
  D_is_row := let ⟨fd, F⟩ := c.t.d.def_ 1 (d := d_is_row) rfl; ⟨fd, F, He.glo_ok X G (c.t.d.fact 17 (f := .glo "is_row") rfl)⟩
  D_common_divisor := let ⟨fd, F⟩ := c.t.d.def_ 2 (d := d_common_divisor) rfl; ⟨fd, F, He.glo_ok X G (c.t.d.fact 18 (f := .glo "common_divisor") rfl)⟩
  D_is_fraction := let ⟨fd, F⟩ := c.t.d.def_ 3 (d := d_is_fraction) rfl; ⟨fd, F, He.glo_ok X G (c.t.d.fact 19 (f := .glo "is_fraction") rfl)⟩
  D_fraction := let ⟨fd, F⟩ := c.t.d.def_ 4 (d := d_fraction) rfl; ⟨fd, F, He.glo_ok X G (c.t.d.fact 20 (f := .glo "fraction") rfl)⟩
  D_plus := let ⟨fd, F⟩ := c.t.d.def_ 5 (d := d_plus) rfl; ⟨fd, F, He.glo_ok X G (c.t.d.fact 21 (f := .glo "plus") rfl)⟩
  D_minus := let ⟨fd, F⟩ := c.t.d.def_ 6 (d := d_minus) rfl; ⟨fd, F, He.glo_ok X G (c.t.d.fact 22 (f := .glo "minus") rfl)⟩
  D_times := let ⟨fd, F⟩ := c.t.d.def_ 7 (d := d_times) rfl; ⟨fd, F, He.glo_ok X G (c.t.d.fact 23 (f := .glo "times") rfl)⟩
  D_over := let ⟨fd, F⟩ := c.t.d.def_ 8 (d := d_over) rfl; ⟨fd, F, He.glo_ok X G (c.t.d.fact 24 (f := .glo "over") rfl)⟩
  D_below := let ⟨fd, F⟩ := c.t.d.def_ 9 (d := d_below) rfl; ⟨fd, F, He.glo_ok X G (c.t.d.fact 25 (f := .glo "below") rfl)⟩
  D_L_cell := let ⟨fd, F⟩ := c.t.d.def_ 10 (d := d_L_cell) rfl; ⟨fd, F, He.glo_ok X G (c.t.d.fact 26 (f := .glo "_law_cell") rfl)⟩
  D_L_numbers := let ⟨fd, F⟩ := c.t.d.def_ 11 (d := d_L_numbers) rfl; ⟨fd, F, He.glo_ok X G (c.t.d.fact 27 (f := .glo "_law_numbers") rfl)⟩
  D_L_low := let ⟨fd, F⟩ := c.t.d.def_ 12 (d := d_L_low) rfl; ⟨fd, F, He.glo_ok X G (c.t.d.fact 28 (f := .glo "_law_low") rfl)⟩
  D_L_is_whole := let ⟨fd, F⟩ := c.t.d.def_ 13 (d := d_L_is_whole) rfl; ⟨fd, F, He.glo_ok X G (c.t.d.fact 29 (f := .glo "_law_is_whole") rfl)⟩
  D_L_is_fraction := let ⟨fd, F⟩ := c.t.d.def_ 14 (d := d_L_is_fraction) rfl; ⟨fd, F, He.glo_ok X G (c.t.d.fact 30 (f := .glo "_law_is_fraction") rfl)⟩
  D_L_caught := let ⟨fd, F⟩ := c.t.d.def_ 15 (d := d_L_caught) rfl; ⟨fd, F, He.glo_ok X G (c.t.d.fact 31 (f := .glo "_law_caught") rfl)⟩
  D_L_told := let ⟨fd, F⟩ := c.t.d.def_ 16 (d := d_L_told) rfl; ⟨fd, F, He.glo_ok X G (c.t.d.fact 32 (f := .glo "_law_told") rfl)⟩
  D_L_number := let ⟨fd, F⟩ := c.t.d.def_ 17 (d := d_L_number) rfl; ⟨fd, F, He.glo_ok X G (c.t.d.fact 33 (f := .glo "_law_number") rfl)⟩
  D_L_pair_right := let ⟨fd, F⟩ := c.t.d.def_ 18 (d := d_L_pair_right) rfl; ⟨fd, F, He.glo_ok X G (c.t.d.fact 34 (f := .glo "_law_pair_right") rfl)⟩
  D_L_kinds_right := let ⟨fd, F⟩ := c.t.d.def_ 19 (d := d_L_kinds_right) rfl; ⟨fd, F, He.glo_ok X G (c.t.d.fact 35 (f := .glo "_law_kinds_right") rfl)⟩
  D_L_made_right := let ⟨fd, F⟩ := c.t.d.def_ 20 (d := d_L_made_right) rfl; ⟨fd, F, He.glo_ok X G (c.t.d.fact 36 (f := .glo "_law_made_right") rfl)⟩
  D_law := let ⟨fd, F⟩ := c.t.d.def_ 21 (d := d_law) rfl; ⟨fd, F, He.glo_ok X G (c.t.d.fact 37 (f := .glo "law") rfl)⟩
end K01

set_option maxHeartbeats 0
namespace K01
open PySem PySem.Spec PyProof.Rows L2 LB
section
variable {P : Program} {w : World} {K : PySem.W.Frag} {mg : Str → Option Value} {base : Heap}
/-- all defs together -/
theorem all_ok (T : Txt K mg) (Y : Ext K) (TB1 : LamX.TabB base mg (He.cT K ("_law_pair_right", none)).1 (He.cT K ("_law_pair_right", none)).2) (TB2 : LamX.TabB base mg (He.cT K ("_law_made_right", none)).1 (He.cT K ("_law_made_right", none)).2) :
    OwnFn P w K mg base 7 "law" ["_law_script"] (spLaw K) := by
  have F1 : OwnFn P w K mg base 1 "is_whole" _ _ := ok_is_whole T
  have F2 : OwnFn P w K mg base 1 "is_row" _ _ := ok_is_row T
  have F3 : OwnFn P w K mg base 1 "common_divisor" _ _ := ok_common_divisor T
  have F4 := ok_is_fraction T F2 F1 F3
  have F5 := ok_fraction T F3
  have F6 := ok_plus T F5
  have F7 := ok_minus T F5
  have F8 := ok_times T F5
  have F9 := ok_over T F5
  have F10 : OwnFn P w K mg base 1 "below" _ _ := ok_below T
  have L1 : OwnFn P w K mg base 1 "_law_cell" _ _ := ok_L_cell T
  have L2 : OwnFn P w K mg base 1 "_law_numbers" _ _ := ok_L_numbers T
  have L3 : OwnFn P w K mg base 1 "_law_low" _ _ := ok_L_low T
  have L4 : OwnFn P w K mg base 1 "_law_is_whole" _ _ := ok_L_is_whole T
  have L5 := ok_L_is_fraction T L4 L3
  have L6 := ok_L_told T L5 F4 L3
  have L7 : OwnFn P w K mg base 1 "_law_number" _ _ := ok_L_number T
  have L8 := ok_L_pair_right T Y TB1 L6 F6 F7 F8 F9 F10
  have L9 := ok_L_kinds_right T F4 L5
  have L10 := ok_L_made_right T Y TB2 L6 F5
  exact ok_law T L1 L2 L7 L10 L3 L8 L9
end
theorem law_at {w : World} {K : PySem.W.Frag} {h : Heap} {mg : Str → Option Value} {f : Addr} (X : K.In h) (G : h.Ns mainGlobals mg) (hfa : mg ("law" : Str) = some (.ref f)) (c : He.SaysX fa fn [] tf ex w h K) :
    LamX.LawAtS PySem.Challenge.rw_cutstairs_k01_fractions_reckoned w K (L2.CX (PySem.Challenge.rw_cutstairs_k01_fractions_reckoned).prog w) 7 63 "_law_script" mg f h := by
  have T := txt_of X G c
  have Y := ext_of c.more
  obtain ⟨fd, F, hm⟩ := T.D_law
  have e := hfa.symm.trans hm
  cases e
  have b := FunD.bindsA (ps := ["_law_script"]) F fun _ _ _ _ _ _ us hl => match us, hl with | [_], _ => rfl
  refine ⟨fd, tf.map (He.cT K), spLaw K, fun p hp => ?_, fun p hp => ?_, fun p hp => ?_, fun s u => b s [u] rfl, fun H a ns hn _ hT hS => ?_, fun base _ _ TB => ?_⟩
  · obtain ⟨q, hq, rfl⟩ := List.mem_map.mp hp
    exact c.empty q hq
  · obtain ⟨q, hq, rfl⟩ := List.mem_map.mp hp
    exact c.out q hq
  · obtain ⟨q, hq, rfl⟩ := List.mem_map.mp hp
    exact PySem.W.codeHd_of_K X (c.hd q hq)
  · refine ⟨a, ns, rfl, hS, hn, ?_, fun _ => rfl⟩
    intro p hp
    rcases List.mem_cons.mp hp with rfl | hp
    · exact LamX.TabS.nil (hT _ (List.mem_map.mpr ⟨("_law_pair_right", none), List.mem_cons_self, rfl⟩))
    · rcases List.mem_cons.mp hp with rfl | hp
      · exact LamX.TabS.nil (hT _ (List.mem_map.mpr ⟨("_law_made_right", none), List.mem_cons_of_mem _ List.mem_cons_self, rfl⟩))
      · cases hp
  · obtain ⟨oc, od, dV, kV, doc, pm, an, cdv, ct, osl, rfl, lk, _⟩ := F.ex
    exact (all_ok T Y (TB _ (List.mem_map.mpr ⟨("_law_pair_right", none), List.mem_cons_self, rfl⟩)) (TB _ (List.mem_map.mpr ⟨("_law_made_right", none), List.mem_cons_of_mem _ List.mem_cons_self, rfl⟩))).at hm lk
end K01
open PySem PySem.W PySem.Calls PyProof.Rows
theorem PySem.Challenge.cw_cutstairs_k01_fractions_reckoned_holds : PySem.Challenge.rw_cutstairs_k01_fractions_reckoned.Holds := by
  w_on; o_law
  refine HandSHeadRun.head_any (r := OpenLaw.row PySem.Challenge.rw_cutstairs_k01_fractions_reckoned) (q := view (OpenLaw.row PySem.Challenge.rw_cutstairs_k01_fractions_reckoned).prog [40]) (H := K01.hk) (ob := K01.ob) (M := 20000) (loose := K01.loose) (d := HandSHeadRun.topDef (OpenLaw.row PySem.Challenge.rw_cutstairs_k01_fractions_reckoned).prog 40) (kwd := []) K01.ob_eq
    (by kernel_rfl) (fun s => by kernel_rfl) K01.run (by kernel_rfl) (by kernel_rfl) (by kernel_rfl) (by rfl) (by first | assumption | decide +kernel) (by decide +kernel) ⟨rfl, rfl, rfl, rfl, rfl, by decide +kernel⟩ ?hw ?hc
  case hw => w_witness2
  case hc =>
    refine LamX.walk_ofTsE (l := PySem.Challenge.rw_cutstairs_k01_fractions_reckoned) (n := 63) (k := 7) (x := "_law_script") (CX := fun w => L2.CX (PySem.Challenge.rw_cutstairs_k01_fractions_reckoned).prog w) rfl (by decide) (by kernel_rfl) ⟨rfl, by decide, by decide⟩ ?F (fun _ _ _ _ _ z => ?z)
    case z =>
      obtain ⟨_, _, _, _, _, _, _, _, _, _, _, _, z⟩ := z
      exact z
    case F =>
      intro w mg fa h Y G hmg0
      obtain ⟨K, KX, c⟩ := Y
      have hmg : mg ("law" : PySem.Str) = some (.ref fa) := by
        have e : (HandSHeadRun.topDef (OpenLaw.row PySem.Challenge.rw_cutstairs_k01_fractions_reckoned).prog 40).name = ("law" : PySem.Str) := by kernel_rfl
        rw [← e]
        exact hmg0
      exact ⟨K, KX, K01.law_at KX G hmg c⟩
