import PyProof.Rows.All
import Wide.All
import OpenK.AllK
import Wide.FinOn
import PyProof.EqAt
import PyProof.EqKinds
import PyProof.TupleCall
import HandS.ForMost
import HandS.ForExc
import HandS.ExcField
import HandS.ExcInit
import HandS.IsInst
import HandS.Defaults
import HandS.Small
import KE.KExcSuper
import KE.KExcMake
import HandS.Codes
import HandS.Evl
import PySem.Challenge.RW_roomsthrough_k00_rules_and_bags
section
set_option Elab.async false
set_option linter.all false
set_option maxRecDepth 100000
set_option maxHeartbeats 2000000
/-! # The errors of the package: each with an __init__ that says super().__init__(text) and keeps one value. -/
namespace RX
open PySem PySem.W PySem.Calls PyProof.Rows PySem.HandSPX
/-! ### the text of such an __init__, its field a letter -/
def eA (fld : Str) (p1 p2 : Pos) : Arguments := { posonlyargs := [], args := [{ arg := "self", annotation := none, pos := p1 }, { arg := fld, annotation := none, pos := p2 }], vararg := none, kwonlyargs := [], kw_defaults := [], kwarg := none, defaults := [] }
def eB (fld msg : Str) (q1 q2 q3 q4 q5 q6 q7 q8 q9 q10 : Pos) : List Stmt :=
  [.Expr (.Call (.Attribute (.Call (.Name "super" q1) [] [] q2) "__init__" q3) [.Constant (.str msg) 0 q4] [] q5) q6,
   .Assign [.Attribute (.Name "self" q7) fld q8] (.Name fld q9) q10]
def eS (fld : Str) : Scope := { kind := .function, names := [("self", .local), (fld, .local), ("__class__", .free), ("super", .globalImplicit)], isGenerator := false, isCoroutine := false, more := [] }
/-- what the top says of the class at C, whose __init__ stands at fI and sees the class by the cell at cc -/
structure ErrT (prog : Program) (K : Frag) (mg : Str → Option Value) (cn fld : Str) (C fI : Addr) : Prop where
  gC : mg cn = some (.ref C)
  cls : ∃ nm q N bs bm sn sub ab col dd k0 k1 k2 k3 k5, K.lookup C = some (excClassObj nm q C N bs bm true sn sub ab col dd k0 k1 k2 k3 k5 "ValueError.__new__") ∧ refsVE bm = true
  sa : findIn K (.ref C) "__setattr__" = some (some (.builtin "object.__setattr__"))
  xf : L2.XfC K C
  noN : findIn K (.ref C) fld = some none
  iC : findIn K (.ref C) "__init__" = some (some (.ref fI))
  tC : typeIn K (.ref fI) = some (.type "function")
  kC : keepIn K (.ref C) = true
  exC : subIn K (.ref C) (.type "BaseException") = some true
  tyC : typeIn K (.ref C) = some (.type "type")
  hdC : hasDictIn K C = true
  te : exmOne K (.ref C) (.ref C) = some true
  veC : subIn K (.ref C) (.type "ValueError") = some true
  selfM : mroIn K C (.ref C) = some true
  up : ks_superIn K C C "__init__" = some (some (.builtin "ValueError.__init__"))
  third : nsIn K cStatics "thirdparty.any" = some none
  noS : nsIn K mainGlobals "super" = some none
  top : (prog.main.scope.names.lookup ("super" : Str)).isSome = false
  fl : (eS fld).names.lookup fld = some .local ∧ (fld == ("self" : Str)) = false ∧ (eS fld).names.lookup ("super" : Str) = some .globalImplicit ∧ (eS fld).names.lookup ("__class__" : Str) = some .free ∧ (fld == ("__debug__" : Str)) = false
  bd : ∀ (qual : Str) (body : List Stmt) (doc pm : Value) (an : Option Addr) (cd ct : Value) (cc : Addr) (p1 p2 : Pos) (a b : Value), bindArgs (ksFn "__init__" qual (eA fld p1 p2) body (eS fld) .none .none doc pm an cd ct cc) ⟨[a, b], []⟩ = pure [(("self" : Str), a), (fld, b)]
  fn : ∃ (oc : Value) (od : Option Addr) (doc pm : Value) (an : Option Addr) (cda cc : Addr) (ct : Value) (osl : Array (Option Value)) (msg : Str) (qual : Str) (p1 p2 q1 q2 q3 q4 q5 q6 q7 q8 q9 q10 : Pos)
    (ccl cl : Value) (cdd cld : Option Addr) (ccs csl : Array (Option Value)) (vs : Array Value) (file : Str) (tf : Tok),
    K.lookup fI = some ⟨oc, od, .func (ksFn "__init__" qual (eA fld p1 p2) (eB fld msg q1 q2 q3 q4 q5 q6 q7 q8 q9 q10) (eS fld) .none .none doc pm an (.ref cda) ct cc), osl⟩ ∧ codeIn K (.ref cda) qual = true ∧
    K.lookup cda = some ⟨ccl, cdd, .fields vs, ccs⟩ ∧ vs[2]? = some (.str file tf) ∧ ((prog.main.file : Str) == file) = true ∧ K.lookup cc = some ⟨cl, cld, .cell (some (.ref C)), csl⟩ ∧ (q3.endLine == q5.line) = true
/-- what such an __init__ leaves of a fresh exception at x -/
structure ErrEnd (h h' : Heap) (fld : Str) (x C dx : Addr) (v : Value) : Prop where
  keep : ∀ b o, b ≠ x → h.get? b = some o → h'.get? b = some o
  obj : ∃ t1, h'.get? x = some { cls := .ref C, dict := some dx, data := .fields #[.ref t1, .none, .none, .none, .bool false, .none] }
  dbig : h.objs.size ≤ dx
  dne : dx ≠ x
  ns : h'.Ns1 dx (fun y => if y = fld then some v else none)
theorem size1 (v : Value) : [v].length ≤ sizeLine := by
  rw [sizeLine_eq]; exact (by decide : 1 ≤ 16777216)
section
variable {prog : Program} {w : World} {A : Around} {E : Value → Shared → Prop} {R : Result → Shared → Prop} {s : Shared} {K : Frag} {mg : Str → Option Value} {g : Heap} {cn fld : Str} {C fI : Addr}
theorem err_init (T : ErrT prog K mg cn fld C fI) {x t0 : Addr} {v : Value} (M : L2.Mod K mg g) (hg : ∀ b o, g.get? b = some o → s.heap.get? b = some o) (hx : s.heap.get? x = some (excO C t0)) (hnx : K.lookup x = none) (hroom : A.depth < recursionLimit)
    (hq : ∀ h' tk dx, ErrEnd s.heap h' fld x C dx v → R (.ok (.ret .none)) { s with heap := h', toks := tk }) :
    codeAny (model prog w) A (.call (.ref fI) ⟨[.ref x, v], []⟩) R s := by
  obtain ⟨oc, od, doc, pm, an, cda, cc, ct, osl, msg, qual, p1, p2, q1, q2, q3, q4, q5, q6, q7, q8, q9, q10, ccl, cl, cdd, cld, ccs, csl, vs, file, tf, ho, hcd, hcode, hvs, hfile, hcell, hpos⟩ := T.fn
  obtain ⟨nm, q, N, bs, bm, sn, sub, ab, col, dd, k0, k1, k2, k3, k5, hC, hbm⟩ := T.cls
  obtain ⟨hfl, hfs, hsu, hcs, hfd⟩ := T.fl
  have X : K.In s.heap := M.kin.keeps hg
  have hcl : clsIn K C = some { name := nm, bases := bs, mro := .ref C :: bm, ns := N, qualname := q, hasDict := true, slotNames := sn, subclasses := sub, abstract := ab, collection := col, hasDel := false } := by unfold clsIn; rw [hC] <;> rfl
  have hfs' : ("self" == fld) = false := by
    have : ¬ fld = ("self" : Str) := by simpa using hfs
    simpa using fun z => this z.symm
  refine ks_codeAny_call_defAt (fd := ksFn "__init__" qual (eA fld p1 p2) (eB fld msg q1 q2 q3 q4 q5 q6 q7 q8 q9 q10) (eS fld) .none .none doc pm an (.ref cda) ct cc) (binds := [("self", .ref x), (fld, v)])
    hroom (X _ _ ho) rfl (M.nolimit.keeps hg) (codeRec_of X hcd) rfl ?hb ?hc ?hl (fun h1 hns k => ?_) rfl rfl rfl
  case hb => exact BindsTo.of_eq (T.bd _ _ _ _ _ _ _ _ _ _ _ _)
  case hc => 
    intro y hy
    simp only [ksFn, eS, List.mem_cons, List.not_mem_nil, or_false] at hy
    rcases hy with rfl | rfl | rfl | rfl <;> (intro z; cases z)
  case hl =>
    intro y hy
    simp only [List.mem_cons, List.not_mem_nil, or_false] at hy
    rcases hy with rfl | rfl
    · rfl
    · exact hfl
  have k : ∀ b o, s.heap.get? b = some o → h1.get? b = some o := k
  have X1 : K.In h1 := X.keeps k
  have hx1 := k _ _ hx
  have M1 : ∀ b o, g.get? b = some o → h1.get? b = some o := fun b o e => k b o (hg b o e)
  have mself : (fun y => List.lookup y ([("self", .ref x), (fld, v)] : List (Str × Value)).reverse) "self" = some (.ref x) := by
    simp only [List.reverse_cons, List.reverse_nil, List.nil_append, List.cons_append, List.lookup]
    rw [hfs']
    rfl
  have mfld : (fun y => List.lookup y ([("self", .ref x), (fld, v)] : List (Str × Value)).reverse) fld = some v := by
    simp [List.reverse_cons, List.lookup]
  refine ks_wpAt_execs_cons (ks_wpAt_Expr_any (ks_wpAt_MethodCall (pl := (do return (← importBound (.Call (.Name "super" q1) [] [] q2) (callEnv (ksFn "__init__" qual (eA fld p1 p2) (eB fld msg q1 q2 q3 q4 q5 q6 q7 q8 q9 q10) (eS fld) .none .none doc pm an (.ref cda) ct cc) s.heap.objs.size fI)).getD true)) ?_ ?he))
  case he =>
    show (do let ov ← _; standAt q3.atName; methodCall _ _ _ _ _ ov _ _ _) = _
    unfold methodCall methodCallPos
    rw [hpos]
    rfl
  have hD : ∃ oD, h1.get? C = some oD ∧ oD.data = .cls { name := nm, bases := bs, mro := .ref C :: bm, ns := N, qualname := q, hasDict := true, slotNames := sn, subclasses := sub, abstract := ab, collection := col, hasDel := false } := ⟨_, X1 _ _ hC, rfl⟩
  obtain ⟨oD, hD1, hD2⟩ := hD
  refine ks_wpAt_super_base hsu hcs rfl rfl (X1 _ _ ho) rfl rfl rfl (X1 _ _ hcode) rfl hvs hfile T.top ?_
  obtain ⟨mb, hmb, hmb2⟩ := M.blt
  refine ks_loadName_global rfl hsu (loadGlobal_builtin (mg := mg) (mb := mb) (M.glob.keeps M1) (mg_none_of M.kin M.glob T.noS) (hmb.keeps M1) ((hmb2 _ (by decide)).trans (by decide +kernel)) ⟨rfl, ?_⟩)
  refine wpAny_loadName_free rfl hcs rfl ⟨_, X1 _ _ hcell, rfl⟩ ?_
  refine wpAny_loadName_local rfl rfl hns mself ?_
  refine ks_wpAny_isType_cls hD1 hD2 ⟨rfl, ?_⟩
  refine ks_wpAny_call_super hD1 hD2 hx1 rfl (fun c z => by cases z) (looks_mroIn X1 T.selfM) (fun h2 e2 k2 => ?_)
  have X2 : K.In h2 := X1.keeps k2
  have hx2 := k2 _ _ hx1
  have I2 : InstAt h2 x (excO C t0) C none := ⟨hx2, rfl, rfl, trivial⟩
  have hf2 : alongIn K "__init__" (((.ref C :: bm : List Value).dropWhile (· != .ref C)).drop 1) = some (some (.builtin "ValueError.__init__")) := by
    have := T.up
    unfold ks_superIn at this
    rw [hcl] at this
    exact this
  refine kxs_getMethod kxs_ValueError e2 (looks_opaque X2 T.third) (l₀ := .ref C :: bm) (fun A Q E s k q => wpAny_bind ((looks_clsIn X2 hcl) A _ E s k (wpAny_pure q))) rfl X2 hf2 (I2.type.andThen (looks_subIn X2 T.veC)) (ks_ne X2 I2 hcl) rfl ?_
  -- the wrapper is called with the text
  have hu3 : (h2.push (kxs_mw "ValueError.__init__" x)).get? h2.objs.size = some (kxs_mw "ValueError.__init__" x) := Heap.get?_push_at rfl rfl
  have k3 : ∀ b o, h2.get? b = some o → (h2.push (kxs_mw "ValueError.__init__" x)).get? b = some o := fun b o e => Heap.get?_push_of_some _ e
  refine kxs_callWith (i := "ValueError.__init__") (x := x) rfl (evalArgs_plain ?_)
  refine spliced_more (Calls.Constant_str ?_)
  refine spliced_none ?_
  refine ⟨hu3, ?_⟩
  have hx3 := k3 _ _ hx2
  have hC3 := k3 _ _ (X2 _ _ hC)
  show wpAny (model prog w) (A.deeper _) (call (.ref h2.objs.size) [.str msg _]) _ _ _
  refine wpAny_call (codeAny_of_tree ?_)
  show wpAny _ (A.deeper _).in1 (callAny (.ref h2.objs.size) ⟨[.str msg _], []⟩) _ _ _
  simp only [callAny]
  refine wpAny_bind (wpAny_load hu3 ?_)
  simp only [kxs_mw, show (Value.type "method-wrapper" == Value.type "method" || Value.type "method-wrapper" == Value.type "builtin_function_or_method" || Value.type "method-wrapper" == Value.type "method-wrapper") = true by decide, if_true]
  refine KFB.if_so (by decide) ?_
  refine wpAny_bind (check_bound_init F.excBase_ValueError.toExcCallFacts hC3 hx3 rfl ?_)
  refine wpAny_bind (wpAny_pure (wpAny_pure ?_))
  refine ⟨plainId_quiet F.excBase_ValueError.init.plain _, codeAny_builtin F.excBase_ValueError.initEntry ?_⟩
  refine exc_init_tree (cls := .ref C) (t0 := t0) (dv := none) (c2 := .none) (c3 := .none) (b4 := .bool false) hx3 (size1 _) (fun h4 k4 hx4 ht4 => ?_)
  -- self.field = value
  have k14 : ∀ b o, b ≠ x → h1.get? b = some o → h4.get? b = some o := fun b o hb e => k4 b o hb (k3 _ _ (k2 _ _ e))
  have X4 : K.In h4 := fun a o e => k14 a o (fun z => by rw [z, hnx] at e; cases e) (X1 a o e)
  have hL : s.heap.objs.size ≠ x := Nat.ne_of_gt (Heap.lt_size hx)
  have hn4 : h4.Ns s.heap.objs.size (fun y => List.lookup y ([("self", .ref x), (fld, v)] : List (Str × Value)).reverse) := hns.at (fun o e => k14 _ _ hL e)
  show PySem.wpAt _ _ _ (execs _ _) _ _ _
  refine ks_wpAt_execs_cons (ks_wpAt_Assign_Attr ?_)
  have hfl' : (callEnv (ksFn "__init__" qual (eA fld p1 p2) (eB fld msg q1 q2 q3 q4 q5 q6 q7 q8 q9 q10) (eS fld) .none .none doc pm an (.ref cda) ct cc) s.heap.objs.size fI).kindOf fld = some .local := hfl
  refine wpAt_of_wpAny (wpAny_Name ?_ hfd)
  refine wpAny_loadName_local (m := fun y => List.lookup y ([("self", .ref x), (fld, v)] : List (Str × Value)).reverse) (v := v) rfl hfl' hn4 mfld ?_
  refine wpAny_Name ?_
  refine wpAny_loadName_local (m := fun y => List.lookup y ([("self", .ref x), (fld, v)] : List (Str × Value)).reverse) (v := .ref x) rfl rfl hn4 mself ?_
  have hx5 : h4.get? x = some (excO C _) := hx4
  refine set_plain X4 (ox := excO C _) (od := none) ⟨hx5, rfl, rfl, trivial⟩ T.sa ?_
  refine exc_osa X4 hx5 hcl (show refsVE (.ref C :: bm) = true from hbm) rfl T.noN (fun h5 tk5 dx k5' dn dne hx6 hn5 => ?_)
  show PySem.wpAt _ _ _ (execs _ _) _ _ _
  have big : s.heap.objs.size ≤ dx := Nat.le_trans (Nat.le_of_lt hn4.lt) dn
  refine wpAt_of_wpAny (wpAny_execs_nil (hq h5 tk5 dx ⟨fun b o hb e => k5' b o hb (k14 b o hb (k b o e)), ⟨_, hx6⟩, big, dne, hn5⟩))
/-- a made error -/
structure ErrMade (h h' : Heap) (fld : Str) (e C d : Addr) (v : Value) : Prop where
  keep : ∀ b o, h.get? b = some o → h'.get? b = some o
  new : h.objs.size ≤ e
  obj : ∃ oe vs, h'.get? e = some oe ∧ oe.cls = .ref C ∧ oe.dict = some d ∧ oe.data = .fields vs ∧ vs[1]? = some .none
  dbig : h.objs.size ≤ d
  dne : d ≠ e
  ns : h'.Ns1 d (fun y => if y = fld then some v else none)
theorem err_made (T : ErrT prog K mg cn fld C fI) {v : Value} (M : L2.Mod K mg g) (hg : ∀ b o, g.get? b = some o → s.heap.get? b = some o) (hroom : A.depth + 1 < recursionLimit)
    (hq : ∀ h' tk e d, ErrMade s.heap h' fld e C d v → R (.ok (.ret (.ref e))) { s with heap := h', toks := tk }) :
    codeAny (model prog w) A (.call (.ref C) ⟨[v], []⟩) R s := by
  obtain ⟨nm, q, N, bs, bm, sn, sub, ab, col, dd, k0, k1, k2, k3, k5, hC, hbm⟩ := T.cls
  have X : K.In s.heap := M.kin.keeps hg
  obtain ⟨hp, gs, dr, tk, os⟩ := s
  have k : ∀ b o, hp.get? b = some o → ((hp.push (kdv_tup [v])).push (excO C hp.objs.size)).get? b = some o := fun b o e => Heap.get?_push_of_some _ (Heap.get?_push_of_some _ e)
  have hget : ((hp.push (kdv_tup [v])).push (excO C hp.objs.size)).get? (hp.objs.size + 1) = some (excO C hp.objs.size) := by heap_get
  have hnx : K.lookup (hp.objs.size + 1) = none := by
    cases e : K.lookup (hp.objs.size + 1) with
    | none => rfl
    | some o =>
      have z : hp.get? (hp.objs.size + 1) = some o := X _ _ e
      exact absurd (Nat.lt_of_succ_lt (Heap.lt_size z)) (Nat.lt_irrefl _)
  refine call_own F.excBase_ValueError (fun X => refsVE_contains X bm hbm) (X _ _ hC) (looks_findIn X T.iC) (fun self => bind_fn X self T.tC) (size1 v) ?_
  refine err_init (s := ⟨(hp.push (kdv_tup [v])).push (excO C hp.objs.size), gs, dr, tk, os⟩) (g := g) T M (fun b o e => k b o (hg b o e)) hget hnx ?_ fun h' tk' dx ⟨k', hx, dn, dne, hns⟩ => ?_
  · show A.depth + 1 < recursionLimit
    exact hroom
  · obtain ⟨t1, hx⟩ := hx
    have old : ∀ b o, hp.get? b = some o → h'.get? b = some o := fun b o e => k' b o (Nat.ne_of_lt (Nat.lt_succ_of_lt (Heap.lt_size e))) (k b o e)
    have z : hp.objs.size + 1 + 1 ≤ dx := by
      first
        | (simpa only [Heap.size_push] using dn)
        | exact dn
        | (have q := dn; rw [Heap.size_push, Heap.size_push] at q; exact q)
    exact ⟨rfl, hq h' tk' (hp.objs.size + 1) dx ⟨old, Nat.le_succ _, ⟨_, _, hx, rfl, rfl, rfl, rfl⟩, Nat.le_trans (Nat.le_trans (Nat.le_succ _) (Nat.le_succ _)) z, dne, hns⟩⟩
end
end RX
namespace L2
open PySem PySem.Spec PyProof.Rows
theorem relO_one {fld : Str} {v : V} {v' : Value} (r : RelV v v') (f : Str) : RelO (List.lookup f [(fld, v)]) (if f = fld then some v' else none) := by
  by_cases hw : f = fld
  · subst hw
    rw [if_pos rfl]
    have q : List.lookup f [(f, v)] = some v := by simp [List.lookup]
    rw [q]; exact r
  · rw [if_neg hw]
    have qw : (f == fld) = false := by simpa using hw
    have q2 : List.lookup f [(fld, v)] = none := by simp [List.lookup, qw]
    rw [q2]; trivial
section
variable {X : Cx} {C fI : Addr} {cn fld : Str}
/-- Err(e): its own dict d is new and holds the field -/
def tMkErr (fld : Str) (C : Addr) (ta : TA) : St → Hp → XK → Prop := fun σ H Q => ta σ H fun vs H1 => ∃ v, vs = [v] ∧ ∀ d, H1 d = none → Q (.ref C) (some d) (upd H1 d (.xd [(fld, v)]))
theorem pmk_err {a : Expr} {ta : TA} {p pos : Pos} {k : Nat} (T : RX.ErrT X.prog X.K X.mg cn fld C fI) (hr : Room k X.A) (ha : PA X [a] ta) (hg : Gl X cn := by rfl) (hdb : (cn == ("__debug__" : Str)) = false := by decide)
    (he : starEach (a :: []) X.env = (false, eval a X.env) :: starEach [] X.env := by rfl) (hpl : (backTo pos (starEach [] X.env)).any (·.1) = false := by rfl) :
    PMk X (.Call (.Name cn p) [a] [] pos) (tMkErr fld C ta) := by
  intro pins s σ H Q I h
  refine wpAny_Call_Name_kw (ld_glob I hg T.gC ?_ hdb)
  refine PySem.W.callWith_K (h₀ := X.base) I.ok.mod.kin T.kC (thn (ha.run pos pins s σ H _ I h) fun us s1 hh => ?_) he hpl
  obtain ⟨vs, H1, I1, r1, v, ev, q1⟩ := hh
  subst ev
  refine ⟨I1.kIn, ?_⟩
  cases r1 with
  | cons rv rn =>
    rename_i v' us'
    cases rn
    show wpAny _ _ (call (.ref C) [v']) _ _ _
    have hbk := I1.bk
    obtain ⟨hp, g, dr, tk, os⟩ := s1
    refine wpAny_call (RX.err_made T I1.mod hbk (by have := hr.dp; omega) fun h' tk' e d M => ?_)
    show MkP X pins σ Q (.ref e) ⟨h', g, dr, tk', os⟩
    obtain ⟨oe, fv, hoe, hc, hd, hdat, h1⟩ := M.obj
    have hns := M.ns
    obtain ⟨G', g1, g2⟩ := restrict h' fun b => decide (b ≠ e)
    have gk : ∀ b, b ≠ e → G'.get? b = h'.get? b := fun b hb => g1 b (decide_eq_true hb)
    have ge : G'.get? e = none := g2 e (by simp)
    have old : ∀ b o, hp.get? b = some o → G'.get? b = some o := fun b o q => (gk b (Nat.ne_of_lt (Nat.lt_of_lt_of_le (Heap.lt_size q) M.new))).trans (M.keep b o q)
    have ob : ObjOk X.prog X.w (upd H1 d (.xd [(fld, v)])) G' d (.xd [(fld, v)]) :=
      ⟨_, hns.at (fun o q => (gk d M.dne).trans q), fun f => relO_one rv f⟩
    have J : Inv X pins σ (upd H1 d (.xd [(fld, v)])) ⟨G', g, dr, tk', os⟩ := I1.laid (t' := tk') old M.dbig ob
    refine ⟨e, oe, fv, ⟨G', g, dr, tk', os⟩, _, .ref C, some d, rfl, J, fun b o q => ?_, ge, hoe, ⟨hc, hd⟩, hdat, h1, ?_, rfl, I1.bare, raises_own T.exC T.tyC, q1 d (I1.hok.fresh M.dbig)⟩
    · by_cases hb : b = e
      · have q' : G'.get? b = some o := q
        rw [hb, ge] at q'; cases q'
      · exact (gk b hb).symm.trans q
    · rw [upd_ne (Ne.symm M.dne)]
      exact I1.hok.fresh M.new
/-- raise Err(e) -/
def tRaiseErr (fld : Str) (C : Addr) (W : WX) (ta : TA) : TS := fun _ σ H => tMkErr fld C ta σ H fun cls d H' => W cls d σ H'
theorem ps_raiseErr {a : Expr} {ta : TA} {W : WX} {p pos pos2 : Pos} {k : Nat} (hc : X.calm = true) (T : RX.ErrT X.prog X.K X.mg cn fld C fI) (hr : Room k X.A) (tk : Takes X W) (ha : PA X [a] ta) (hg : Gl X cn := by rfl) (hdb : (cn == ("__debug__" : Str)) = false := by decide)
    (he : starEach (a :: []) X.env = (false, eval a X.env) :: starEach [] X.env := by rfl) (hpl : (backTo pos (starEach [] X.env)).any (·.1) = false := by rfl) :
    PS X (.Raise (some (.Call (.Name cn p) [a] [] pos)) none pos2) (tRaiseErr fld C W ta) := ps_raise hc tk (pmk_err T hr ha hg hdb he hpl)
end
end L2
end
section
set_option Elab.async false
set_option linter.all false
set_option maxRecDepth 100000
set_option maxHeartbeats 2000000
/-! # Calls within which nothing is being shown: what repr needs to be told. -/
namespace L2
open PySem PySem.Spec PyProof.Rows
/-- as FnOk, but only where no repr is under way around the call -/
structure FnG (P : Program) (w : World) (K : PySem.W.Frag) (mg : Str → Option Value) (base : Heap)
    (CX : CXT) (k : Nat) (f : Addr) (fd : FuncData) (ps : List Str) (sp : Sp) : Prop where
  len : ∀ vs H Q E, sp vs H Q E → vs.length = ps.length
  run : ∀ (A : Around) (outer : List Env) (s : Shared) (H : Hp) (args : Args) (us : List Value)
    (vs : List V) (Q : VK) (E : XK), A.guards = some [] → Room k A → Env0 P w K mg base A outer s H →
    BindsTo s fd args (ps.zip us) → Vals vs us → sp vs H Q E →
    codeAny (model P w) A (.call (.ref f) args) (CR CX outer P w H s Q E) s
section
variable {P : Program} {w : World} {K : PySem.W.Frag} {mg : Str → Option Value} {base : Heap}
  {CX : CXT} {k j : Nat} {f : Addr} {fd : FuncData} {ps : List Str} {sp sp' : Sp}
theorem FnOk.g (F : FnOk P w K mg base CX k f fd ps sp) : FnG P w K mg base CX k f fd ps sp :=
  ⟨F.len, fun A o s H a us vs Q E _ => F.run A o s H a us vs Q E⟩
theorem FnG.mono (F : FnG P w K mg base CX j f fd ps sp) (h : j ≤ k) : FnG P w K mg base CX k f fd ps sp :=
  ⟨F.len, fun A o s H a us vs Q E hg hr => F.run A o s H a us vs Q E hg (hr.mono h)⟩
theorem FnG.imp (F : FnG P w K mg base CX k f fd ps sp) (h : ∀ vs H Q E, sp' vs H Q E → sp vs H Q E) :
    FnG P w K mg base CX k f fd ps sp' :=
  ⟨fun vs H Q E q => F.len vs H Q E (h _ _ _ _ q),
   fun A o s H a us vs Q E hg hr he hb hv hs => F.run A o s H a us vs Q E hg hr he hb hv (h _ _ _ _ hs)⟩
end
/-- a def by its body, where nothing is being shown -/
theorem fn_ofG {CX : CXT} {P : Program} {w : World} {K : PySem.W.Frag} {mg : Str → Option Value} {base : Heap}
    {k : Nat} {f : Addr} {name qual : Str} {params : Arguments} {body : List Stmt} {scope : Scope}
    {dV kV doc pm cdv ct oc : Value} {an od : Option Addr} {osl : Array (Option Value)} {N ps : List Str} {sp : Sp}
    (lk : K.lookup f = some ⟨oc, od, .func (PySem.W.fnOf name qual params body scope dV kV doc pm an cdv ct), osl⟩)
    (hcd : PySem.W.codeIn K cdv qual = true) (S : FnScope N ps scope)
    (len : ∀ vs H Q E, sp vs H Q E → vs.length = ps.length)
    (hbody : ∀ (A : Around) (outer : List Env) (s : Shared) (H : Hp) (vs : List V) (Q : VK) (E : XK),
      A.guards = some [] → Room k (A.deeper (envOfC qual scope s.heap.objs.size f cdv)) → sp vs H Q E →
      ∃ t, PSs (cxOf CX P w K mg base N qual scope f cdv A outer s H E) body t ∧
        t { nx := fun _ H' => Q .non H', rt := Q } (start N vs) H) :
    FnG P w K mg base CX (k + 1) f (PySem.W.fnOf name qual params body scope dV kV doc pm an cdv ct) ps sp := by
  constructor
  · exact len
  intro A outer s H args us vs Q E hgd hr e0 hb r hsp
  have lenV := len _ _ _ _ hsp
  have kept : ∀ b o, base.get? b = some o → s.heap.get? b = some o := fun b o e => (e0.bs b o e).1
  have KX : K.In s.heap := e0.mod.kin.keeps kept
  have noLim : s.heap.NoLimit := e0.mod.nolimit.keeps kept
  have kinds : ∀ y ∈ ps.zip us, scope.names.lookup y.1 = some .local ∨
      (scope.names.lookup y.1 = some .cell ∧ ((cellsFrom (s.heap.objs.size + 1) scope.names []).lookup y.1).isSome = true) := by
    rintro ⟨n, v⟩ hy
    have hn : n ∈ ps := (List.of_mem_zip hy).1
    rcases S.par n hn with z | z
    · exact Or.inl z
    · exact Or.inr ⟨z, PySem.W.cellsFrom_some _ _ _ (Or.inl z)⟩
  refine codeAny_call_function hr.depth (KX _ _ lk) rfl S.co S.gen rfl (PySem.W.codeRec_of KX hcd) ?_
  apply hb
  refine wpAny_newFunctionEnv_cells S.kind kinds ?_
  rintro env rfl s1 x
  refine ⟨noLim.keeps x.toInCall.keep, codeAny_func ?_⟩
  obtain ⟨t, ht, hq⟩ := hbody A outer s H vs Q E hgd (hr.deeper _) hsp
  have I := inv_start (CX := CX) (E := E) S hr.hd e0 lenV r x
  refine wpAny_mono (ht.run [] s1 (start N vs) H _ I hq) ?_ (fun _ _ z => z)
  intro fl s' hs
  have done : ∀ {σ' : St} {H' : Hp} {v : V} {u : Value},
      Inv (cxOf CX P w K mg base N qual scope f cdv A outer s H E) [] σ' H' s' → RelV v u → Q v H' →
      CE outer P w H s Q u s' := by
    intro σ' H' v u J rv q
    exact ⟨v, H', J.os, J.bare, J.base, J.hok, rv, q⟩
  match fl, hs with
  | .ret u, hs => obtain ⟨v, σ', H', J, rv, q⟩ := hs; exact done J rv q
  | .next, hs => obtain ⟨σ', H', J, q⟩ := hs; exact done (v := .non) (u := .none) J rfl q
  | .brk, hs => obtain ⟨_, _, _, q⟩ := hs; exact q.elim
  | .cont, hs => obtain ⟨_, _, _, q⟩ := hs; exact q.elim
section
variable {X : Cx} {CX : CXT} {k : Nat} {f C : Addr} {fd : FuncData} {ps : List Str} {sp : Sp} {dvs : List V} {ds : List Value} {E : XK} {x m : Str} {p pos apos : Pos} {e o : Expr} {es : List Expr} {ta : TE} {t : TA}
theorem run_fnG {pins : List (Addr × Obj)} {σ : St} {H : Hp} {s : Shared} {Q : VK} {us : List Value} {vs : List V}
    (F : FnG X.prog X.w X.K X.mg X.base CX k f fd ps sp) (hgd : X.A.guards = some []) (hr : Room k X.A) (hb : Binds X.K fd ps ds) (hd : Vals dvs ds)
    (hx : Passes CX X E) (I : Inv X pins σ H s) (r : Vals vs us) (h : sp (vs ++ dvs) H Q E) :
    wpAny (model X.prog X.w) X.A (call (.ref f) us) (EP X pins σ Q) X.xe s := by
  have r2 := r.append hd
  have hl : (us ++ ds).length = ps.length := r2.length.symm.trans (F.len _ _ _ _ h)
  apply wpAny_call
  refine codeAny_mono (F.run X.A X.stack s H ⟨us, []⟩ (us ++ ds) (vs ++ dvs) Q E hgd hr I.env0 (hb s us I.kIn hl) r2 h) ?_
  intro r s' hq
  match r, hq with
  | .error e, hq => exact hx pins σ H s e s' I hq
  | .ok (.ret u), hq => exact I.after hq
  | .ok .next, hq => exact False.elim hq
  | .ok .brk, hq => exact False.elim hq
  | .ok .cont, hq => exact False.elim hq
theorem pg_call (F : FnG X.prog X.w X.K X.mg X.base CX k f fd ps sp) (hgd : X.A.guards = some []) (hr : Room k X.A) (hg : Gl X x) (hm : X.mg x = some (.ref f))
    (hk : PySem.W.keepIn X.K (.ref f) = true) (hb : Binds X.K fd ps ds) (hd : Vals dvs ds) (hx : Passes CX X E)
    (ha : PA X (e :: es) t) (hdb : (x == ("__debug__" : Str)) = false := by decide)
    (he : starEach (e :: es) X.env = (false, eval e X.env) :: starEach es X.env := by rfl)
    (hpl : (backTo pos (starEach es X.env)).any (·.1) = false := by rfl) :
    PE X (.Call (.Name x p) (e :: es) [] pos) (tCall sp dvs E t) := by
  constructor
  intro pins s σ H Q I h
  refine wpAny_Call_Name_kw (ld_glob I hg hm ?_ hdb)
  refine PySem.W.callWith_K (h₀ := X.base) I.ok.mod.kin hk (thn (ha.run pos pins s σ H _ I h) ?_) he hpl
  rintro us s1 ⟨vs, H1, I1, r, q⟩
  exact ⟨I1.kIn, run_fnG F hgd hr hb hd hx I1 r q⟩
theorem pg_meth {pl : Sem Bool} (he : PE X o ta) (c : Cls X.K C) (hm : Meth X.K C m f) (F : FnG X.prog X.w X.K X.mg X.base CX k f fd ps sp)
    (hgd : X.A.guards = some []) (hr : Room k X.A) (hb : Binds X.K fd ps ds) (hd : Vals dvs ds) (hx : Passes CX X E) (ha : PA X (e :: es) t)
    (hst : starEach (e :: es) X.env = (false, eval e X.env) :: starEach es X.env := by rfl)
    (hpl : (backTo pos (starEach es X.env)).any (·.1) = false := by rfl)
    (ht : eval (.Call (.Attribute o m apos) (e :: es) [] pos) X.env =
      (do let ov ← eval o X.env; standAt apos.atName; let (f, first) ← holding [ov] (getMethod ov m pl); callWith pos f first (backTo pos (starEach (e :: es) X.env)) (backToKw pos (keywordEach [] X.env))) := by rfl) :
    PE X (.Call (.Attribute o m apos) (e :: es) [] pos) (tMeth C m sp dvs E ta t) := by
  constructor
  intro pins s σ H Q I h
  refine PySem.W.methodCall_KW (pl := pl) (thn (he.run pins s σ H _ I h) ?_) ht
  rintro u s1 ⟨x, H1, I1, rx, a, dx, fs, ex, ea, l, q⟩
  subst ex
  cases (show u = Value.ref a from rx)
  refine getmeth_ok I1 ea c hm l ?_
  refine PySem.W.callWith_K (first := [.ref a]) (h₀ := X.base) I.ok.mod.kin hm.kp (thn (ha.run pos pins s1 σ H1 _ I1 q) ?_) hst hpl
  rintro us s2 ⟨vs, H2, I2, r, q2⟩
  exact ⟨I2.kIn, run_fnG (us := .ref a :: us) (vs := .ref a :: vs) F hgd hr hb hd hx I2 (.cons rfl r) q2⟩
end
/-- the law's own call, at the heap behind the top -/
theorem law_callG {P : Program} {w : World} {K : PySem.W.Frag} {mg mb : Str → Option Value} {CX : CXT} {k : Nat} {fa a : Addr} {fd : FuncData} {x : Str} {sp : Sp} {s₁ : Shared} {vs : List Value} {ns : List Int}
    (KX : K.In s₁.heap) (hns : s₁.heap.Ns mainGlobals mg) (hb : s₁.heap.Ns builtinsNs mb) (hbb : ∀ x : Str, x ≠ "__name__" → mb x = bootBuiltins x)
    (hlim : s₁.heap.NoLimit) (hg : s₁.gens = #[]) (ha : s₁.heap.get? a = some { cls := .type "list", data := .seq vs.toArray })
    (hi : IntsAre vs ns) (hl : ns.length ≤ sizeLine) (hr : Room k callerA)
    (F : ∀ base : Heap, K.In base → base.Ns mainGlobals mg → FnG P w K mg base CX k fa fd [x] sp)
    (hbind : ∀ (s : Shared) (u : Value), BindsTo s fd ⟨[u], []⟩ [(x, u)])
    (hsp : ∀ H : Hp, Only H → SqL K H a (ns.map V.int) → sp [.ref a] H (fun v _ => v = .bl true) fun _ _ _ => False)
    (hCX : ∀ H e s', CX [] H s₁ (fun _ _ _ => False) e s' → False) :
    codeAny (model P w) callerA (.call (.ref fa) ⟨[.ref a], []⟩)
      (fun r s' => r = .ok (.ret (.bool true)) ∧ OldK s₁.heap s'.heap ∧ s'.os = s₁.os ∧ AllBare s'.gens) s₁ := by
  have rv := vals_ints hi
  have lenV := hi.length
  have core : ∀ H : Hp, Only H → SqL K H a (ns.map V.int) → HOk P w H s₁.heap → (∀ b, H b ≠ none → b = a) → (H a ≠ none → K.lookup a = none) →
      codeAny (model P w) callerA (.call (.ref fa) ⟨[.ref a], []⟩)
        (fun r s' => r = .ok (.ret (.bool true)) ∧ OldK s₁.heap s'.heap ∧ s'.os = s₁.os ∧ AllBare s'.gens) s₁ := by
    intro H hO hS hok hA hK
    have toB : ∀ {b : Addr} {o : Obj}, s₁.heap.get? b = some o → H b = none → (hidT s₁.heap H).get? b = some o := hidT_get
    have notA : ∀ {b : Addr} {o : Obj} {es : Array DictEntry} {ep : Nat}, s₁.heap.get? b = some o → o.data = .dict es ep → H b = none := by
      intro b o es ep e d
      cases q : H b with
      | none => rfl
      | some u =>
        cases (hA b (by rw [q]; simp))
        rw [ha] at e
        cases e
        exact nomatch (show Data.seq vs.toArray _ = Data.dict es ep from d)
    have toNs : ∀ {b : Addr} {m : Str → Option Value}, s₁.heap.Ns b m → (hidT s₁.heap H).Ns b m := by
      rintro b m ⟨o, es, ep, e, d, r⟩
      exact ⟨o, es, ep, toB e (notA e d), d, r⟩
    have inB : K.In (hidT s₁.heap H) := by
      intro b o e
      refine toB (KX b o e) ?_
      cases q : H b with
      | none => rfl
      | some u =>
        cases (hA b (by rw [q]; simp))
        have z := hK (by rw [q]; simp)
        rw [z] at e
        cases e
    have hM : Mod K mg (hidT s₁.heap H) := by
      obtain ⟨mc, h1, h2⟩ := hlim
      exact ⟨inB, toNs hns, ⟨mb, toNs hb, hbb⟩, ⟨mc, toNs h1, h2⟩⟩
    have e0 : Env0 P w K mg (hidT s₁.heap H) callerA [] s₁ H :=
      { frames := rfl, mod := hM, bs := fun b o e => of_hidT e, bsz := Nat.le_of_eq (hidT_size _ _), funs := trivial,
        frf := fun b hb => absurd (show b ∈ ([] : List Addr) from hb) (by simp), hok := hok, bare := .of_eq hg }
    have run := (F _ inB (toNs hns)).run callerA [] s₁ H ⟨[.ref a], []⟩ [.ref a] [.ref a] _ _ rfl hr e0 (hbind s₁ (.ref a)) (.cons rfl .nil) (hsp H hO hS)
    refine codeAny_mono run ?_
    intro r s' h
    match r, h with
    | .error e, h => exact (hCX H e s' h).elim
    | .ok .next, h => exact False.elim h
    | .ok .brk, h => exact False.elim h
    | .ok .cont, h => exact False.elim h
    | .ok (.ret u), h =>
      obtain ⟨v, H', os, bare, un, hok', r', q⟩ := h
      cases (show v = V.bl true from q)
      cases (show u = Value.bool true from r')
      refine ⟨rfl, OldK.of_keep ?_, os, bare⟩
      intro b o e
      cases q2 : H b with
      | none => exact un.keep b o e q2 (by intro z; exact absurd (show b ∈ ([] : List Addr) from z) (by simp)) (by simp)
      | some u2 =>
        rcases hO b with z | ⟨ob, xs, z⟩
        · rw [q2] at z
          cases z
        · obtain ⟨e1, _⟩ := hok b _ z
          obtain ⟨e2, _⟩ := hok' b _ (un.frzs b ob _ z)
          rw [e] at e1
          cases e1
          exact e2
  cases hk : K.lookup a with
  | some o =>
    have e := KX a o hk
    rw [ha] at e
    cases e
    refine core (fun _ => none) (fun _ => Or.inl rfl) (Or.inr ⟨_, vs.toArray, _, hk, rfl, rfl, rfl, ?_, ?_⟩) ?_ (fun b z => absurd rfl z) (fun z => absurd rfl z)
    · rw [List.size_toArray, lenV]
      exact hl
    · simpa using rv
    · intro b u z
      exact nomatch (show (none : Option HO) = some u from z)
  | none =>
    have hif : ∀ b, b ≠ a → (fun b => if b = a then some (HO.frz { cls := .type "list", data := .seq vs.toArray } (.lst (ns.map V.int))) else none) b = none := fun b h => if_neg h
    refine core (fun b => if b = a then some (.frz { cls := .type "list", data := .seq vs.toArray } (.lst (ns.map V.int))) else none) ?_ (Or.inl (Or.inr ⟨_, if_pos rfl⟩)) ?_ ?_ (fun _ => hk)
    · intro b
      by_cases h : b = a
      · exact Or.inr ⟨_, _, if_pos h⟩
      · exact Or.inl (hif b h)
    · intro b u z
      by_cases h : b = a
      · subst h
        cases (if_pos rfl).symm.trans z
        refine ⟨ha, ?_, vs, _, rv, ha⟩
        rw [List.length_map]
        exact hl
      · cases (hif b h).symm.trans z
    · intro b z
      by_cases h : b = a
      · exact h
      · exact absurd (hif b h) z
theorem walk_ofG {l : PySem.W.OpenLaw} {n k : Nat} {q : Program} {loose : List Str} {XP : (Str → Option Value) → Heap → Prop} {YP : World → Heap → Prop} {d : DefRec} {K : Params → PySem.W.Frag} {CX : World → CXT} {sp : World → Sp} {x : Str}
    (hn : l.most = some n) (hn2 : n ≤ sizeLine) (hdf : d.params.defaults = []) (hr : Room k callerA) (hY : ∀ (w : World) (h : Heap), YP w h → (K w.params).In h)
    (F : ∀ (w : World) (mg : Str → Option Value) (fa : Addr) (h : Heap), (K w.params).In h → h.Ns mainGlobals mg → mg d.name = some (.ref fa) →
      ∃ fd : FuncData, (∀ (s : Shared) (u : Value), BindsTo s fd ⟨[u], []⟩ [(x, u)]) ∧ ∀ base : Heap, (K w.params).In base → base.Ns mainGlobals mg → FnG l.prog w (K w.params) mg base (CX w) k fa fd [x] (sp w))
    (hsp : ∀ (w : World) (H : Hp) (a : Addr) (ns : List Int), ns.length ≤ n → Only H → SqL (K w.params) H a (ns.map V.int) → sp w [.ref a] H (fun v _ => v = .bl true) fun _ _ _ => False)
    (hCX : ∀ (w : World) (H : Hp) (s : Shared) (e : Value) (s' : Shared), CX w [] H s (fun _ _ _ => False) e s' → False) :
    PySem.W.WalkO q loose XP YP l.row.toRowW d [] (fun f vs => PySem.call f vs) := by
  refine Att.attach_call hn hdf ?_
  intro w s₀ s₁ mg mb fa o pm cd doc a vs ns G Y ho hd hcd hmg hobj hints hlen hg
  have KX := hY w _ Y
  obtain ⟨fd, hb, hF⟩ := F w mg fa _ KX G.T.g hmg
  exact law_callG KX G.T.g G.T.b G.T.builtins G.T.nolimit hg hobj hints (Nat.le_trans hlen hn2) hr hF hb
    (fun H hO hS => hsp w H a ns hlen hO hS) (fun H e s' => hCX w H s₁ e s')
end L2
end
section
set_option Elab.async false
set_option linter.all false
set_option maxRecDepth 100000
set_option maxHeartbeats 2000000
/-! # Data that stands still: what a value shows, and repr of it. -/
namespace L2
open PySem PySem.Spec PyProof.Rows
-- the value v is the datum d at the heap H; its lists and dicts stand at no address of M. L: lists may be in it, but no dict; else the empty dict, but no list
mutual
inductive Dr (L : Bool) (M : Addr → Prop) (H : Hp) : V → PyData → Prop
  | non : Dr L M H .non .none
  | bl (b : Bool) : Dr L M H (.bl b) (.bool b)
  | int (i : Int) : Dr L M H (.int i) (.int i)
  | str (x : Str) : Dr L M H (.str x) (.str x)
  | lst {a : Addr} {xs : List V} {ds : List PyData} (e : H a = some (.lst xs)) (n : ¬ M a) (l : L = true) (t : DrAll L M H xs ds) : Dr L M H (.ref a) (.list ds)
  | tup {a : Addr} {xs : List V} {ds : List PyData} (e : H a = some (.tup xs)) (n : ¬ M a) (t : DrAll L M H xs ds) : Dr L M H (.ref a) (.tuple ds)
  | dct {a : Addr} (e : H a = some (.dK [])) (n : ¬ M a) (l : L = false) : Dr L M H (.ref a) (.dict [])
inductive DrAll (L : Bool) (M : Addr → Prop) (H : Hp) : List V → List PyData → Prop
  | nil : DrAll L M H [] []
  | cons {v : V} {vs : List V} {d : PyData} {ds : List PyData} (h : Dr L M H v d) (t : DrAll L M H vs ds) : DrAll L M H (v :: vs) (d :: ds)
end
/-- what is tracked off M stays -/
def Off (M : Addr → Prop) (H H' : Hp) : Prop := ∀ b o, ¬ M b → H b = some o → H' b = some o
theorem Off.refl {M : Addr → Prop} (H : Hp) : Off M H H := fun _ _ _ e => e
theorem Off.trans {M : Addr → Prop} {H H1 H2 : Hp} (a : Off M H H1) (b : Off M H1 H2) : Off M H H2 := fun c o n e => b c o n (a c o n e)
theorem Off.new {M : Addr → Prop} {H : Hp} {p : Addr} {o : HO} (h : H p = none) : Off M H (upd H p o) := fun b u _ e => by
  rw [upd_ne (ne_of_none e h)]; exact e
theorem Off.mut {M : Addr → Prop} {H : Hp} {p : Addr} {o : HO} (h : M p) : Off M H (upd H p o) := fun b u n e => by
  rw [upd_ne (fun z => n (by rw [z]; exact h))]; exact e
theorem Off.same {M : Addr → Prop} {H H' : Hp} (h : Same H H') : Off M H H' := fun b o _ e => h b o e
section
variable {L : Bool} {M M' : Addr → Prop} {H H' : Hp}
mutual
theorem Dr.keep (h : Off M H H') : ∀ {v : V} {d : PyData}, Dr L M H v d → Dr L M H' v d
  | _, _, .non => .non
  | _, _, .bl b => .bl b
  | _, _, .int i => .int i
  | _, _, .str x => .str x
  | _, _, .lst e n l t => .lst (h _ _ n e) n l (DrAll.keep h t)
  | _, _, .tup e n t => .tup (h _ _ n e) n (DrAll.keep h t)
  | _, _, .dct e n l => .dct (h _ _ n e) n l
theorem DrAll.keep (h : Off M H H') : ∀ {vs : List V} {ds : List PyData}, DrAll L M H vs ds → DrAll L M H' vs ds
  | _, _, .nil => .nil
  | _, _, .cons a t => .cons (Dr.keep h a) (DrAll.keep h t)
end
mutual
/-- more may move, if it is nothing that is tracked -/
theorem Dr.wide (h : ∀ a, M' a → M a ∨ H a = none) : ∀ {v : V} {d : PyData}, Dr L M H v d → Dr L M' H v d
  | _, _, .non => .non
  | _, _, .bl b => .bl b
  | _, _, .int i => .int i
  | _, _, .str x => .str x
  | _, _, .lst e n l t => .lst e (fun z => (h _ z).elim n fun q => by rw [q] at e; cases e) l (DrAll.wide h t)
  | _, _, .tup e n t => .tup e (fun z => (h _ z).elim n fun q => by rw [q] at e; cases e) (DrAll.wide h t)
  | _, _, .dct e n l => .dct e (fun z => (h _ z).elim n fun q => by rw [q] at e; cases e) l
theorem DrAll.wide (h : ∀ a, M' a → M a ∨ H a = none) : ∀ {vs : List V} {ds : List PyData}, DrAll L M H vs ds → DrAll L M' H vs ds
  | _, _, .nil => .nil
  | _, _, .cons a t => .cons (Dr.wide h a) (DrAll.wide h t)
end
mutual
theorem Dr.noDict : ∀ {v : V} {d : PyData}, Dr true M H v d → d.hasDict = false
  | _, _, .non => rfl
  | _, _, .bl _ => rfl
  | _, _, .int _ => rfl
  | _, _, .str _ => rfl
  | _, _, .lst _ _ _ t => by simpa [PyData.hasDict] using DrAll.noDict t
  | _, _, .tup _ _ t => by simpa [PyData.hasDict] using DrAll.noDict t
  | _, _, .dct _ _ l => by cases l
theorem DrAll.noDict : ∀ {vs : List V} {ds : List PyData}, DrAll true M H vs ds → PyData.hasDictAll ds = false
  | _, _, .nil => rfl
  | _, _, .cons a t => by simp [PyData.hasDictAll, Dr.noDict a, DrAll.noDict t]
end
mutual
theorem Dr.reads {P : Program} {w : World} {h : Heap} (ok : HOk P w H h) : ∀ {v : V} {d : PyData} {u : Value}, Dr L M H v d → RelV v u → ∃ as, Reads h u d as ∧ (L = false → sysModules ∉ as)
  | _, _, _, .non, r => by
    cases (show _ = Value.none from r)
    exact ⟨[], .none, fun _ => by simp⟩
  | _, _, _, .bl b, r => by
    cases (show _ = Value.bool b from r)
    exact ⟨[], .bool b, fun _ => by simp⟩
  | _, _, _, .int i, r => by
    obtain ⟨t, rfl⟩ := (show ∃ t, _ = Value.int i t from r)
    exact ⟨[], .int i t, fun _ => by simp⟩
  | _, _, _, .str x, r => by
    obtain ⟨t, rfl⟩ := (show ∃ t, _ = Value.str x t from r)
    exact ⟨[], .str x t, fun _ => by simp⟩
  | _, _, _, .lst (a := a) e n l t, r => by
    cases (show _ = Value.ref a from r)
    obtain ⟨_, its, m, rv, ho⟩ := ok a _ e
    obtain ⟨as, hr, _⟩ := DrAll.reads ok t rv
    exact ⟨a :: as, .list ho rfl rfl (by simpa using hr), fun z => by rw [l] at z; cases z⟩
  | _, _, _, .tup (a := a) e n t, r => by
    cases (show _ = Value.ref a from r)
    obtain ⟨_, its, rv, o, ho, hc, m, hd⟩ := ok a _ e
    obtain ⟨as, hr, hs⟩ := DrAll.reads ok t rv
    exact ⟨as, .tuple ho hc hd (by simpa using hr), hs⟩
  | _, _, _, .dct (a := a) e n l, r => by
    cases (show _ = Value.ref a from r)
    obtain ⟨_, hn, vs, kv, o, es, ep, ho, hc, hd, hrest⟩ := ok a _ e
    cases kv
    obtain ⟨_, hp, _⟩ := hrest
    have hes : es.toList = [] := by
      generalize es.toList = l at hp
      cases hp
      rfl
    refine ⟨[a], ?_, fun _ z => ?_⟩
    · have q : Reads h (.ref a) (.dict []) (a :: [] ++ []) := .dict ho hc.1 hd (by rw [hes]; exact .nil) (by rw [hes]; exact .nil)
      simpa using q
    · simp only [List.mem_singleton] at z
      rw [← z] at hn
      simp at hn
theorem DrAll.reads {P : Program} {w : World} {h : Heap} (ok : HOk P w H h) : ∀ {vs : List V} {ds : List PyData} {us : List Value}, DrAll L M H vs ds → Vals vs us → ∃ as, ReadsAll h us ds as ∧ (L = false → sysModules ∉ as)
  | _, _, _, .nil, .nil => ⟨[], .nil, fun _ => by simp⟩
  | _, _, _, .cons a t, .cons r rs => by
    obtain ⟨as, h1, s1⟩ := Dr.reads ok a r
    obtain ⟨bs, h2, s2⟩ := DrAll.reads ok t rs
    exact ⟨as ++ bs, .cons h1 h2, fun z y => (List.mem_append.mp y).elim (s1 z) (s2 z)⟩
end
end
/-- repr(x), x a datum, where nothing is being shown -/
def rRepr : List V → Hp → VK → Prop := fun xs H Q => ∃ (v : V) (d : PyData) (L : Bool) (M : Addr → Prop), xs = [v] ∧ Dr L M H v d ∧ d.showable = true ∧ d.depth ≤ 60 ∧ d.shown.length ≤ sizeLine ∧ Q (.str d.shown) H
theorem call_reprD {X : Cx} {k : Nat} (hgd : X.A.guards = some []) (hr : Room k X.A) : CallR X (.builtin "repr") rRepr := by
  intro pins s σ H xs us Q I r h
  obtain ⟨v, d, L, M, rfl, hd, hs, hdep, hz, q⟩ := h
  obtain ⟨u, rfl, ru⟩ : ∃ u, us = [u] ∧ RelV v u := by
    cases r with
    | cons r1 r2 => cases r2; exact ⟨_, rfl, r1⟩
  have hu := hr.un
  obtain ⟨as, hreads, hsys⟩ := hd.reads I.hok ru
  have hsm : d.hasDict = true → sysModules ∉ as := by
    intro z
    cases L with
    | false => exact hsys rfl
    | true => rw [hd.noDict] at z; cases z
  cases hd with
  | non =>
    cases (show u = Value.none from ru)
    exact PySem.P.repr_of_none ⟨.str _, H, I.tok _, ⟨_, rfl⟩, q⟩
  | bl b =>
    cases (show u = Value.bool b from ru)
    exact PySem.P.repr_of_bool ⟨.str _, H, I.tok _, ⟨_, rfl⟩, by simpa [PyData.shown] using q⟩
  | int i =>
    obtain ⟨t, rfl⟩ := (show ∃ t, u = Value.int i t from ru)
    exact PySem.P.repr_of_int (by simpa [PyData.showable] using hs) ⟨.str _, H, I.tok _, ⟨_, rfl⟩, by simpa [PyData.shown] using q⟩
  | str x =>
    obtain ⟨t, rfl⟩ := (show ∃ t, u = Value.str x t from ru)
    exact PySem.P.repr_of_str ⟨.str _, H, I.tok _, ⟨_, rfl⟩, by simpa [PyData.shown] using q⟩ (by simpa [PyData.shown] using hz)
  | @lst a xs ds e n l t =>
    cases (show u = Value.ref a from ru)
    exact repr_of_reads' hreads hs hsm hgd (by omega) (fun _ _ z => z) (fun h' u' tk hk => ⟨.str _, H, I.kept (t' := tk) hk, ⟨u', rfl⟩, q⟩) hz
  | @tup a xs ds e n t =>
    cases (show u = Value.ref a from ru)
    exact repr_of_reads' hreads hs hsm hgd (by omega) (fun _ _ z => z) (fun h' u' tk hk => ⟨.str _, H, I.kept (t' := tk) hk, ⟨u', rfl⟩, q⟩) hz
  | @dct a e n l =>
    cases (show u = Value.ref a from ru)
    exact repr_of_reads' hreads hs hsm hgd (by omega) (fun _ _ z => z) (fun h' u' tk hk => ⟨.str _, H, I.kept (t' := tk) hk, ⟨u', rfl⟩, q⟩) hz
end L2
end
section
set_option Elab.async false
set_option linter.all false
set_option maxRecDepth 100000
set_option maxHeartbeats 2000000
/-! # == and != of an instance whose class has an __eq__ of its own, with anything. -/
namespace L2
open PySem PySem.Spec PyProof.Rows
section
variable {X : Cx} {pins : List (Addr × Obj)} {σ : St} {H : Hp} {s : Shared}
theorem tyOf_looks {M : Model} {x : V} {u t : Value} (I : Inv X pins σ H s) (rx : RelV x u) (ty : TyOf X.K H x t) : PySem.W.Looks M s.heap (typeOf u) t := by
  have viaRef : ∀ {a : Addr} {o : Obj} {T : String}, s.heap.get? a = some o → o.cls = .type T → PySem.W.Looks M s.heap (typeOf (.ref a)) (.type T) := by
    intro a o T ho hc A Q E s' k q
    exact wpAny_typeOf ⟨o, k _ _ ho, hc⟩ q
  cases ty with
  | non => cases (show u = Value.none from rx); exact fun A Q E s' k q => wpAny_typeOf (PySem.typeIs_none s') q
  | bl b => cases (show u = Value.bool b from rx); exact fun A Q E s' k q => wpAny_typeOf (PySem.typeIs_bool s' b) q
  | int i => obtain ⟨t, rfl⟩ := (show ∃ t, u = Value.int i t from rx); exact fun A Q E s' k q => wpAny_typeOf (typeIs_int s' i t) q
  | str y => obtain ⟨t, rfl⟩ := (show ∃ t, u = Value.str y t from rx); exact fun A Q E s' k q => wpAny_typeOf (typeIs_str s' y t) q
  | flt y => obtain ⟨t, rfl⟩ := (show ∃ t, u = Value.float y t from rx); exact fun A Q E s' k q => wpAny_typeOf (PySem.typeIs_float s' y t) q
  | @lst a xs e =>
    cases (show u = Value.ref a from rx)
    obtain ⟨_, its, m, _, ho⟩ := I.hok a _ e
    exact viaRef ho rfl
  | @frz a o xs e =>
    cases (show u = Value.ref a from rx)
    obtain ⟨_, _, its, m, _, ho⟩ := I.hok a _ e
    exact viaRef ho rfl
  | @tup a xs e =>
    cases (show u = Value.ref a from rx)
    obtain ⟨_, its, _, o, ho, hc, _⟩ := I.hok a _ e
    exact viaRef ho hc
  | @dK a kvs e =>
    cases (show u = Value.ref a from rx)
    obtain ⟨_, _, vs, _, o, es, ep, ho, hc, _⟩ := I.hok a _ e
    exact viaRef ho hc.1
  | @dT a kvs e =>
    cases (show u = Value.ref a from rx)
    obtain ⟨_, _, xs, _, o, es, ep, ho, hc, _⟩ := I.hok a _ e
    exact viaRef ho hc.1
  | @ins a C dx fs e cl ha hn htk hm =>
    cases (show u = Value.ref a from rx)
    obtain ⟨mA, O, _⟩ := ins_get I.hok e
    obtain ⟨od, J, _⟩ := O.look
    exact J.type
end
section
variable {X : Cx} {CX : CXT} {C f : Addr} {fd : FuncData} {ps : List Str} {sp : Sp} {n : Nat} {E : XK}
/-- what the top says of a class with an __eq__ of its own, at f -/
structure EqC (K : PySem.W.Frag) (C f : Addr) : Prop where
  eq : PySem.W.findIn K (.ref C) "__eq__" = some (some (.ref f))
  ne : PySem.W.findIn K (.ref C) "__ne__" = some (some (.builtin "object.__ne__"))
  fn : PySem.W.isFn K (.ref f) = true
  ob : PySem.W.mroIn K C (.type "object") = some true
def rEqO (K : PySem.W.Frag) (C : Addr) (sp : Sp) (E : XK) : R2 := fun x y H Q => ∃ a dx fs t, x = .ref a ∧ H a = some (.ins C dx fs) ∧ TyOf K H y t ∧ PySem.W.notFirst K C t = true ∧ sp [x, y] H (fun v H' => ∃ b, v = .bl b ∧ Q (.bl b) H') E
def rNeO (K : PySem.W.Frag) (C : Addr) (sp : Sp) (E : XK) : R2 := fun x y H Q => ∃ a dx fs t, x = .ref a ∧ H a = some (.ins C dx fs) ∧ TyOf K H y t ∧ PySem.W.notFirst K C t = true ∧ sp [x, y] H (fun v H' => ∃ b, v = .bl b ∧ Q (.bl (!b)) H') E
theorem op_eqO (T : EqC X.K C f) (F : FnG X.prog X.w X.K X.mg X.base CX n f fd ps sp) (hgd : X.A.guards = some []) (hr : Room n X.A) (hb : Binds X.K fd ps []) (hx : Passes CX X E) : OpR X (compareOp .Eq) (rEqO X.K C sp E) := by
  intro pins s σ H x y v u Q I rx ry h
  obtain ⟨a, dx, fs, t, rfl, ha, ty, hn, q⟩ := h
  cases (show v = Value.ref a from rx)
  obtain ⟨mA, O, _⟩ := ins_get I.hok ha
  obtain ⟨od, J, _⟩ := O.look
  obtain ⟨m, hF⟩ := I.fr
  show wpAny (model X.prog X.w) X.A (richCompare .Eq (.ref a) u) (EP X pins σ Q) X.xe s
  refine PySem.W.cmp_K (op := .Eq) (tb := t) hr.units0 hF I.ok.mod.kin J (tyOf_looks I ry ty) hn T.eq T.fn ?_
  refine wpAny_mono (run_fnG (us := [.ref a, u]) (vs := [.ref a, y]) F hgd hr hb .nil hx I (.cons rfl (.cons ry .nil)) q) ?_ (fun _ _ z => z)
  rintro w s' ⟨v', H', I', rv, b, rfl, q'⟩
  cases (show w = Value.bool b from rv)
  exact ⟨.bl b, H', I', rfl, q'⟩
theorem ne_body {A : Around} {M : Model} {a : Addr} {b : Value} {Q : Fin → Shared → Prop} {E' : Value → Shared → Prop} {s : Shared} (hu : A.units < cLine)
    (h : wpAny M A (callSpecialIfBound? (.ref a) "__eq__" [b]) (fun r s' => ∃ k, r = some (.bool k) ∧ Q (.done (.ret (.bool (!k)))) s') E' s) :
    wpAny M A (Builtin.«object.__ne__» ⟨[.ref a, b], []⟩) Q E' s := by
  unfold Builtin.«object.__ne__»
  repeat (first | with_reducible refine wpAny_cRoomFor hu ?_ | (with_reducible refine wpAny_bind (wpAny_mono h ?_ fun _ _ z => z)) | wp_step)
  rintro r s' ⟨k, rfl, hq⟩
  exact wpAny_bind (wpAny_of_eq (show truthy (.bool k) = pure k from rfl) (wpAny_pure hq))
theorem op_neO (T : EqC X.K C f) (F : FnG X.prog X.w X.K X.mg X.base CX n f fd ps sp) (hgd : X.A.guards = some []) (hr : Room (n + 1) X.A) (hb : Binds X.K fd ps []) (hx : Passes CX X E) : OpR X (compareOp .NotEq) (rNeO X.K C sp E) := by
  intro pins s σ H x y v u Q I rx ry h
  obtain ⟨a, dx, fs, t, rfl, ha, ty, hn, q⟩ := h
  cases (show v = Value.ref a from rx)
  obtain ⟨mA, O, _⟩ := ins_get I.hok ha
  obtain ⟨od, J, _⟩ := O.look
  have X0 : X.K.In s.heap := I.kIn
  have hb2 := tyOf_looks (M := model X.prog X.w) I ry ty
  -- the method called within object.__ne__
  have inner : wpAny (model X.prog X.w) X.A.in1 (call (.ref f) [.ref a, u]) (fun w s' => ∃ k, w = .bool k ∧ EP X pins σ Q (.bool (!k)) s') X.xe s := by
    have r2 : Vals [V.ref a, y] [Value.ref a, u] := .cons rfl (.cons ry .nil)
    have hl : ([Value.ref a, u] ++ ([] : List Value)).length = ps.length := r2.length.symm.trans (F.len _ _ _ _ q)
    apply wpAny_call
    refine codeAny_mono (F.run X.A.in1 X.stack s H ⟨[.ref a, u], []⟩ ([.ref a, u] ++ []) [.ref a, y] _ E hgd hr.in1 I.env0.in1 (hb s [.ref a, u] X0 hl) (by simpa using r2) q) ?_
    intro r s' hq
    match r, hq with
    | .error e, hq => exact hx pins σ H s e s' I hq
    | .ok (.ret w), hq =>
      obtain ⟨v', H', I', rv, b, rfl, q'⟩ := I.after hq
      cases (show w = Value.bool b from rv)
      exact ⟨b, rfl, .bl (!b), H', I', rfl, q'⟩
    | .ok .next, hq => exact False.elim hq
    | .ok .brk, hq => exact False.elim hq
    | .ok .cont, hq => exact False.elim hq
  have one : wpAny (model X.prog X.w) X.A (tryCompare (.ref a) "__ne__" u) (fun r s' => ∃ k, r = some (.bool k) ∧ EP X pins σ Q (.bool k) s') X.xe s := by
    unfold tryCompare
    refine wpAny_bind ?_
    simp only [callSpecialIfBound?, bindSpecialIfBound?]
    refine wpAny_holding (wpAny_bind (wpAny_bind (wpAny_bind (J.type.here ((PySem.W.looks_findIn X0 T.ne).here ?_)))))
    refine wpAny_bind (wpAny_askSetting (wpAny_ite ?_))
    have sub : PySem.W.Looks (model X.prog X.w) s.heap (isInstance (.ref a) (.type "object")) true := J.type.andThen (PySem.W.looks_mroIn X0 T.ob)
    have called : wpAny (model X.prog X.w) X.A (call (.builtin "object.__ne__") [.ref a, u]) (fun w s' => ∃ k, w = .bool k ∧ EP X pins σ Q (.bool k) s') X.xe s := by
      refine wpAny_call (codeAny_call_builtin PySem.F.cmp_object.ne.plain PySem.F.cmpEntry_ne (PySem.W.check_slot PySem.F.cmpKind_ne PySem.F.cmpSplit_ne sub (PySem.F.cmpArgs_ne _ _) ?_))
      refine ne_body (by have := hr.un; show X.A.units + 1 < cLine; omega) ?_
      refine PySem.W.ifBound_K X0 J T.eq T.fn (wpAny_mono inner ?_ fun _ _ z => z)
      rintro w s' ⟨k, rfl, z⟩
      exact ⟨k, rfl, !k, rfl, z⟩
    have fin : wpAny (model X.prog X.w) X.A (call (.builtin "object.__ne__") ([.ref a] ++ [u]) >>= fun v => pure (some v)) (fun r s' => wpAny (model X.prog X.w) X.A (match r with
        | some .notImplemented => pure none
        | none => pure none
        | some v => pure (some v)) (fun r s' => ∃ k, r = some (.bool k) ∧ EP X pins σ Q (.bool k) s') X.xe s') X.xe s := by
      refine wpAny_bind (wpAny_mono called ?_ fun _ _ z => z)
      rintro w s' ⟨k, rfl, z⟩
      exact wpAny_pure (wpAny_pure ⟨k, rfl, z⟩)
    split
    · exact wpAny_bind (wpAny_of_eq (PySem.F.cmp_object.ne.bind _) (wpAny_pure fin))
    · exact wpAny_tryCatch (wpAny_bind (wpAny_of_eq (PySem.F.cmp_object.ne.bind _) (wpAny_pure fin)))
  show wpAny (model X.prog X.w) X.A (richCompare .NotEq (.ref a) u) (EP X pins σ Q) X.xe s
  unfold richCompare
  simp only [PySem.oneThing_ref]
  refine wpAny_holding (wpAny_bind (wpAny_cRoomFor hr.units0 ?_))
  refine wpAny_bind (J.type.here (wpAny_bind (hb2.here ?_)))
  split
  · rename_i z
    have e : PySem.W.subIn X.K t (.ref C) = some false := by
      rcases Bool.or_eq_true_iff.mp hn with e | e
      · rw [beq_iff_eq.mp e] at z
        simp at z
      · exact beq_iff_eq.mp e
    refine wpAny_bind ((PySem.W.looks_subIn X0 e).here ?_)
    simp only [Bool.false_eq_true, if_false]
    refine wpAny_bind (wpAny_mono one ?_ fun _ _ z => z)
    rintro r s' ⟨k, rfl, z⟩
    exact wpAny_pure z
  · refine wpAny_bind (wpAny_pure ?_)
    simp only [Bool.false_eq_true, if_false]
    refine wpAny_bind (wpAny_mono one ?_ fun _ _ z => z)
    rintro r s' ⟨k, rfl, z⟩
    exact wpAny_pure z
end
end L2
end
section
set_option Elab.async false
set_option linter.all false
set_option maxRecDepth 100000
set_option maxHeartbeats 2000000
/-! # range(n) as a value, walked later. -/
namespace L2
open PySem PySem.Spec PyProof.Rows
section
variable {X : Cx}
theorem cr_rangeOne : CallR X (.type "range") (fun vs H Q => ∃ j, vs = [V.int j] ∧ ∀ p, H p = none → Q (.ref p) (upd H p (.rng 0 j))) := by
  intro pins s σ H vs us Q I r h
  obtain ⟨j, rfl, q⟩ := h
  obtain ⟨u, rfl, t, rfl⟩ : ∃ u, us = [u] ∧ ∃ t, u = Value.int j t := by
    cases r with
    | cons r1 r2 => cases r2; exact ⟨_, rfl, r1⟩
  have hf : H s.heap.objs.size = none := I.hok.fresh (Nat.le_refl _)
  refine call_range_1 ⟨.ref s.heap.objs.size, upd H s.heap.objs.size (.rng 0 j), ?_, rfl, q _ hf⟩
  exact I.laid (fun b o e => Heap.get?_push_of_some _ e) (Nat.le_refl _) ⟨_, t, _, Heap.get?_push_size _ rfl⟩
/-- for .. in r, r a range object that is tracked -/
def iRngV (te : TE) : TI := fun σ H R => te σ H fun x H1 => ∃ a lo hi, x = .ref a ∧ H1 a = some (.rng lo hi) ∧ -(2 ^ 62) ≤ lo ∧ lo < 2 ^ 62 ∧ -(2 ^ 62) ≤ hi ∧ hi < 2 ^ 62 ∧ R (Itr lo (hi - lo).toNat) H1
theorem pi_rngV {tg e : Expr} {te : TE} (he : PE X e te) : PI X tg e (iRngV te) := by
  constructor
  intro pins s σ H R I h
  refine thn (he.run pins s σ H _ I h) ?_
  rintro v s1 ⟨x, H1, I1, r1, a, lo, hi, rfl, ha, h1, h2, h3, h4, q⟩
  cases (show v = Value.ref a from r1)
  obtain ⟨t, u, w, ho⟩ := (show ObjOk X.prog X.w H1 s1.heap a (.rng lo hi) from I1.hok a _ ha)
  refine wpAny_pyIter_range (show IsRange s1.heap a lo hi 1 t u w from ho) (small_one h1 h2 h3 h4) ?_
  refine ⟨s1.heap.objs.size, [s1.heap.objs.size], _, _, H1, rfl, I1.kept (t' := s1.toks) (fun b o e => Heap.get?_push_of_some _ e), turn_range _ lo (hi - lo).toNat, ?_, ?_, q⟩
  · have e1 : lo + ((0 : Nat) : Int) * 1 = lo := by simp
    have e2 : (((hi - lo).toNat : Nat) : Int) - ((0 : Nat) : Int) = Builtin.Range.rangeSize lo hi 1 := by
      rw [rangeSize_one]
      split <;> omega
    show IsRangeIter _ _ (lo + ((0 : Nat) : Int) * 1) ((((hi - lo).toNat : Nat) : Int) - ((0 : Nat) : Int)) 1
    rw [e1, e2]
    exact Heap.get?_push_size _ rfl
  · intro b hb
    cases (by simpa using hb : b = s1.heap.objs.size)
    exact I1.fpOk (Nat.le_refl _) (I1.hok.fresh (Nat.le_refl _))
end
end L2
end
section
set_option Elab.async false
set_option linter.all false
set_option maxRecDepth 100000
set_option maxHeartbeats 2000000
/-! # Defs, classes and methods as one fact each. -/
namespace L2
open PySem PySem.Spec PyProof.Rows
abbrev CXe (P : Program) (w : World) : CXT := L2.CX P w
/-- a def of the module, called by its name -/
structure CalG (P : Program) (w : World) (K : PySem.W.Frag) (mg : Str → Option Value) (base : Heap) (k : Nat) (x : Str) (sp : Sp) : Prop where
  ex : ∃ (f : Addr) (fd : FuncData) (ps : List Str), FnG P w K mg base (CXe P w) k f fd ps sp ∧ mg x = some (.ref f) ∧ PySem.W.keepIn K (.ref f) = true ∧ Binds K fd ps []
/-- a class, called: its __init__ at sp, dvs its last defaults -/
structure MakG (P : Program) (w : World) (K : PySem.W.Frag) (mg : Str → Option Value) (base : Heap) (k : Nat) (x : Str) (C : Addr) (sp : Sp) (dvs : List V) : Prop where
  ex : ∃ (f : Addr) (fd : FuncData) (ps : List Str) (ds : List Value), FnG P w K mg base (CXe P w) k f fd ps sp ∧ Mk K C f ∧ mg x = some (.ref C) ∧ Binds K fd ps ds ∧ Vals dvs ds
/-- a method -/
structure MetG (P : Program) (w : World) (K : PySem.W.Frag) (mg : Str → Option Value) (base : Heap) (k : Nat) (C : Addr) (m : Str) (sp : Sp) : Prop where
  ex : ∃ (f : Addr) (fd : FuncData) (ps : List Str), FnG P w K mg base (CXe P w) k f fd ps sp ∧ Cls K C ∧ Meth K C m f ∧ Binds K fd ps []
section
variable {X : Cx} {k j : Nat} {x m : Str} {C : Addr} {sp : Sp} {dvs : List V} {e o : Expr} {es : List Expr} {ta : TE} {t : TA} {p pos apos : Pos} {E : St → XK}
theorem run_fnGS {pins : List (Addr × Obj)} {σ : St} {H : Hp} {s : Shared} {Q : VK} {us : List Value} {vs : List V} {CX : CXT} {f : Addr} {fd : FuncData} {ps : List Str} {E : XK}
    (F : FnG X.prog X.w X.K X.mg X.base CX k f fd ps sp) (hgd : X.A.guards = some []) (hr : Room k X.A) (hb : Binds X.K fd ps [])
    (hx : PassesAt CX X σ E) (I : Inv X pins σ H s) (r : Vals vs us) (h : sp vs H Q E) :
    wpAny (model X.prog X.w) X.A (call (.ref f) us) (EP X pins σ Q) X.xe s := by
  have hl : (us ++ []).length = ps.length := by
    rw [List.append_nil]
    exact r.length.symm.trans (F.len _ _ _ _ h)
  have hbb := hb s us I.kIn hl
  rw [List.append_nil] at hbb
  apply wpAny_call
  refine codeAny_mono (F.run X.A X.stack s H ⟨us, []⟩ us vs Q E hgd hr I.env0 hbb r h) ?_
  intro r s' hq
  match r, hq with
  | .error e, hq => exact hx pins H s e s' I hq
  | .ok (.ret u), hq => exact I.after hq
  | .ok .next, hq => exact False.elim hq
  | .ok .brk, hq => exact False.elim hq
  | .ok .cont, hq => exact False.elim hq
/-- f(e, ..): E says by the slots what is wanted of an exception -/
theorem pg_cS (c : CalG X.prog X.w X.K X.mg X.base k x sp) (hgd : X.A.guards = some []) (hr : Room j X.A) (hk : k ≤ j) (hx : ∀ σ, PassesAt (CXe X.prog X.w) X σ (E σ))
    (ha : PA X (e :: es) t) (hg : Gl X x := by rfl) (hdb : (x == ("__debug__" : Str)) = false := by decide)
    (he : starEach (e :: es) X.env = (false, eval e X.env) :: starEach es X.env := by rfl)
    (hpl : (backTo pos (starEach es X.env)).any (·.1) = false := by rfl) :
    PE X (.Call (.Name x p) (e :: es) [] pos) (tCallS sp E t) := by
  obtain ⟨f, fd, ps, F, hm, kp, hb⟩ := c.ex
  constructor
  intro pins s σ H Q I h
  refine wpAny_Call_Name_kw (ld_glob I hg hm ?_ hdb)
  refine PySem.W.callWith_K (h₀ := X.base) I.ok.mod.kin kp (thn (ha.run pos pins s σ H _ I h) ?_) he hpl
  rintro us s1 ⟨vs, H1, I1, r, q⟩
  exact ⟨I1.kIn, run_fnGS F hgd (hr.mono hk) hb (hx σ) I1 r q⟩
/-- where no exception leaves -/
theorem pg_c (c : CalG X.prog X.w X.K X.mg X.base k x sp) (hgd : X.A.guards = some []) (hr : Room j X.A) (hk : k ≤ j)
    (ha : PA X (e :: es) t) (hg : Gl X x := by rfl) (hdb : (x == ("__debug__" : Str)) = false := by decide)
    (he : starEach (e :: es) X.env = (false, eval e X.env) :: starEach es X.env := by rfl)
    (hpl : (backTo pos (starEach es X.env)).any (·.1) = false := by rfl) :
    PE X (.Call (.Name x p) (e :: es) [] pos) (tCallS sp (fun _ => E0) t) :=
  pg_cS c hgd hr hk (fun σ pins H s e s' I c => passL pins σ H s e s' I c) ha hg hdb he hpl
def tMakeS (C : Addr) (sp : Sp) (dvs : List V) (E : St → XK) (t : TA) : TE := fun σ H Q => t σ H fun vs H1 => ∀ x dx, H1 x = none → H1 dx = none → dx ≠ x →
  sp (.ref x :: (vs ++ dvs)) (upd (upd H1 dx (.own x)) x (.ins C dx [])) (fun v H2 => v = .non ∧ Q (.ref x) H2) (E σ)
theorem run_makeGS {pins : List (Addr × Obj)} {σ : St} {H : Hp} {s : Shared} {Q : VK} {us ds : List Value} {vs : List V} {CX : CXT} {f : Addr} {fd : FuncData} {ps : List Str} {E : XK}
    (M : Mk X.K C f) (F : FnG X.prog X.w X.K X.mg X.base CX k f fd ps sp) (hgd : X.A.guards = some []) (hr : Room (k + 1) X.A) (hb : Binds X.K fd ps ds) (hd : Vals dvs ds)
    (hx : PassesAt CX X σ E) (I : Inv X pins σ H s) (r : Vals vs us)
    (h : ∀ x dx, H x = none → H dx = none → dx ≠ x → sp (.ref x :: (vs ++ dvs)) (upd (upd H dx (.own x)) x (.ins C dx [])) (fun v H2 => v = .non ∧ Q (.ref x) H2) E) :
    wpAny (model X.prog X.w) X.A (call (.ref C) us) (EP X pins σ Q) X.xe s := by
  have q0 := h (s.heap.objs.size + 1) s.heap.objs.size (I.hok.fresh (Nat.le_succ _)) (I.hok.fresh (Nat.le_refl _)) (Nat.ne_of_lt (Nat.lt_succ_self _))
  have I2 := Inv.made (C := C) I
  have r2 : Vals (V.ref (s.heap.objs.size + 1) :: (vs ++ dvs)) (Value.ref (s.heap.objs.size + 1) :: (us ++ ds)) := Paired.cons rfl (r.append hd)
  have hl : (Value.ref (s.heap.objs.size + 1) :: us ++ ds).length = ps.length := r2.length.symm.trans (F.len _ _ _ _ q0)
  have gd : (X.A.under (.builtin "type.__call__" ⟨.ref C :: us, []⟩)).guards = some [] := by
    have z : (X.A.under (.builtin "type.__call__" ⟨.ref C :: us, []⟩)).guards = X.A.guards := by
      first | rfl | simp [Around.under, Code.guards, pushGuards, guardIds]
    rw [z, hgd]
  apply wpAny_call
  refine make_map (f := f) I.kIn M.makes M.init (beq_iff_eq.mp M.fn) ?_
  refine codeAny_mono (F.run _ X.stack _ _ ⟨Value.ref (s.heap.objs.size + 1) :: us, []⟩ (Value.ref (s.heap.objs.size + 1) :: (us ++ ds)) _ _ E gd (hr.make C us []) (I2.env0.make C us []) (hb _ (Value.ref (s.heap.objs.size + 1) :: us) I2.kIn hl) r2 q0) ?_
  intro r s' hq
  match r, hq with
  | .error e, hq => exact hx pins _ _ e s' I2 hq
  | .ok (.ret u), hq =>
    obtain ⟨v, H', I3, rv, ev, q3⟩ := I2.after hq
    subst ev
    exact ⟨rv, ⟨V.ref (s.heap.objs.size + 1), H', I3, rfl, q3⟩⟩
  | .ok .next, hq => exact False.elim hq
  | .ok .brk, hq => exact False.elim hq
  | .ok .cont, hq => exact False.elim hq
theorem pg_mkS (c : MakG X.prog X.w X.K X.mg X.base k x C sp dvs) (hgd : X.A.guards = some []) (hr : Room j X.A) (hk : k + 1 ≤ j) (hx : ∀ σ, PassesAt (CXe X.prog X.w) X σ (E σ))
    (ha : PA X (e :: es) t) (hg : Gl X x := by rfl) (hdb : (x == ("__debug__" : Str)) = false := by decide)
    (he : starEach (e :: es) X.env = (false, eval e X.env) :: starEach es X.env := by rfl)
    (hpl : (backTo pos (starEach es X.env)).any (·.1) = false := by rfl) :
    PE X (.Call (.Name x p) (e :: es) [] pos) (tMakeS C sp dvs E t) := by
  obtain ⟨f, fd, ps, ds, F, M, hm, hb, hd⟩ := c.ex
  constructor
  intro pins s σ H Q I h
  refine wpAny_Call_Name_kw (ld_glob I hg hm ?_ hdb)
  refine PySem.W.callWith_K (h₀ := X.base) I.ok.mod.kin M.kp (thn (ha.run pos pins s σ H _ I h) ?_) he hpl
  rintro us s1 ⟨vs, H1, I1, r, q⟩
  exact ⟨I1.kIn, run_makeGS M F hgd (hr.mono hk) hb hd (hx σ) I1 r q⟩
theorem pg_mk (c : MakG X.prog X.w X.K X.mg X.base k x C sp dvs) (hgd : X.A.guards = some []) (hr : Room j X.A) (hk : k + 1 ≤ j)
    (ha : PA X (e :: es) t) (hg : Gl X x := by rfl) (hdb : (x == ("__debug__" : Str)) = false := by decide)
    (he : starEach (e :: es) X.env = (false, eval e X.env) :: starEach es X.env := by rfl)
    (hpl : (backTo pos (starEach es X.env)).any (·.1) = false := by rfl) :
    PE X (.Call (.Name x p) (e :: es) [] pos) (tMakeS C sp dvs (fun _ => E0) t) :=
  pg_mkS c hgd hr hk (fun σ pins H s e s' I c => passL pins σ H s e s' I c) ha hg hdb he hpl
theorem pg_mk0 (c : MakG X.prog X.w X.K X.mg X.base k x C sp dvs) (hgd : X.A.guards = some []) (hr : Room j X.A) (hk : k + 1 ≤ j)
    (hg : Gl X x := by rfl) (hdb : (x == ("__debug__" : Str)) = false := by decide) :
    PE X (.Call (.Name x p) [] [] pos) (tMakeS C sp dvs (fun _ => E0) tNil) := by
  obtain ⟨f, fd, ps, ds, F, M, hm, hb, hd⟩ := c.ex
  constructor
  intro pins s σ H Q I h
  refine wpAny_Call_Name_kw (ld_glob I hg hm ?_ hdb)
  exact PySem.W.callWith_K0 I.kIn M.kp (run_makeGS (us := []) M F hgd (hr.mono hk) hb hd (fun pins H s e s' I c => passL pins σ H s e s' I c) I .nil h)
def tMethS (C : Addr) (m : Str) (sp : Sp) (E : St → XK) (ta : TE) (t : TA) : TE := fun σ H Q => ta σ H fun x H1 => ∃ a dx fs, x = .ref a ∧ H1 a = some (.ins C dx fs) ∧ fs.lookup m = none ∧
  t σ H1 fun vs H2 => sp (x :: vs) H2 Q (E σ)
theorem pg_mtS {pl : Sem Bool} (c : MetG X.prog X.w X.K X.mg X.base k C m sp) (hgd : X.A.guards = some []) (hr : Room j X.A) (hk : k ≤ j) (hx : ∀ σ, PassesAt (CXe X.prog X.w) X σ (E σ)) (ho : PE X o ta) (ha : PA X (e :: es) t)
    (hst : starEach (e :: es) X.env = (false, eval e X.env) :: starEach es X.env := by rfl)
    (hpl : (backTo pos (starEach es X.env)).any (·.1) = false := by rfl)
    (ht : eval (.Call (.Attribute o m apos) (e :: es) [] pos) X.env =
      (do let ov ← eval o X.env; standAt apos.atName; let (f, first) ← holding [ov] (getMethod ov m pl); callWith pos f first (backTo pos (starEach (e :: es) X.env)) (backToKw pos (keywordEach [] X.env))) := by rfl) :
    PE X (.Call (.Attribute o m apos) (e :: es) [] pos) (tMethS C m sp E ta t) := by
  obtain ⟨f, fd, ps, F, cl, hm, hb⟩ := c.ex
  constructor
  intro pins s σ H Q I h
  refine PySem.W.methodCall_KW (pl := pl) (thn (ho.run pins s σ H _ I h) ?_) ht
  rintro u s1 ⟨x, H1, I1, rx, a, dx, fs, ex, ea, l, q⟩
  subst ex
  cases (show u = Value.ref a from rx)
  refine getmeth_ok I1 ea cl hm l ?_
  refine PySem.W.callWith_K (first := [.ref a]) (h₀ := X.base) I.ok.mod.kin hm.kp (thn (ha.run pos pins s1 σ H1 _ I1 q) ?_) hst hpl
  rintro us s2 ⟨vs, H2, I2, r, q2⟩
  exact ⟨I2.kIn, run_fnGS (us := .ref a :: us) (vs := .ref a :: vs) F hgd (hr.mono hk) hb (hx σ) I2 (.cons rfl r) q2⟩
theorem pg_mt {pl : Sem Bool} (c : MetG X.prog X.w X.K X.mg X.base k C m sp) (hgd : X.A.guards = some []) (hr : Room j X.A) (hk : k ≤ j) (ho : PE X o ta) (ha : PA X (e :: es) t)
    (hst : starEach (e :: es) X.env = (false, eval e X.env) :: starEach es X.env := by rfl)
    (hpl : (backTo pos (starEach es X.env)).any (·.1) = false := by rfl)
    (ht : eval (.Call (.Attribute o m apos) (e :: es) [] pos) X.env =
      (do let ov ← eval o X.env; standAt apos.atName; let (f, first) ← holding [ov] (getMethod ov m pl); callWith pos f first (backTo pos (starEach (e :: es) X.env)) (backToKw pos (keywordEach [] X.env))) := by rfl) :
    PE X (.Call (.Attribute o m apos) (e :: es) [] pos) (tMethS C m sp (fun _ => E0) ta t) :=
  pg_mtS c hgd hr hk (fun σ pins H s e s' I c => passL pins σ H s e s' I c) ho ha hst hpl ht
theorem pg_mt0 {pl : Sem Bool} (c : MetG X.prog X.w X.K X.mg X.base k C m sp) (hgd : X.A.guards = some []) (hr : Room j X.A) (hk : k ≤ j) (ho : PE X o ta)
    (ht : eval (.Call (.Attribute o m apos) [] [] pos) X.env =
      (do let ov ← eval o X.env; standAt apos.atName; let (f, first) ← holding [ov] (getMethod ov m pl); callWith pos f first (backTo pos (starEach [] X.env)) (backToKw pos (keywordEach [] X.env))) := by rfl) :
    PE X (.Call (.Attribute o m apos) [] [] pos) (tMethS C m sp (fun _ => E0) ta tNil) := by
  obtain ⟨f, fd, ps, F, cl, hm, hb⟩ := c.ex
  constructor
  intro pins s σ H Q I h
  refine PySem.W.methodCall_KW (pl := pl) (thn (ho.run pins s σ H _ I h) ?_) ht
  rintro u s1 ⟨x, H1, I1, rx, a, dx, fs, ex, ea, l, q⟩
  subst ex
  cases (show u = Value.ref a from rx)
  refine getmeth_ok I1 ea cl hm l ?_
  exact PySem.W.callWith_K0 (first := [.ref a]) I1.kIn hm.kp (run_fnGS (us := [.ref a]) (vs := [.ref a]) F hgd (hr.mono hk) hb (fun pins H s e s' I c => passL pins σ H s e s' I c) I1 (.cons rfl .nil) q)
end
section
variable {P : Program} {w : World} {K : PySem.W.Frag} {mg : Str → Option Value} {base : Heap} {x qual : Str} {f : Addr} {fd : FuncData} {N ps : List Str} {k : Nat} {sp : Sp}
/-- a def by its body: it may raise, and nothing is being shown around it -/
theorem Fun.okG {st : Stmt} (F : Fun K x qual st f fd) (S : FnScope N ps (defScope st)) (len : ∀ vs H Q E, sp vs H Q E → vs.length = ps.length)
    (hbody : ∀ (cdv : Value) (A : Around) (outer : List Env) (s : Shared) (H : Hp) (vs : List V) (Q : VK) (E : XK), (A.deeper (envOfC qual (defScope st) s.heap.objs.size f cdv)).guards = some [] →
      Room k (A.deeper (envOfC qual (defScope st) s.heap.objs.size f cdv)) → sp vs H Q E →
      ∃ t, PSs (cxOf (CXe P w) P w K mg base N qual (defScope st) f cdv A outer s H E) (defBody st) t ∧ t { nx := fun _ H' => Q .non H', rt := Q } (start N vs) H) :
    FnG P w K mg base (CXe P w) (k + 1) f fd ps sp := by
  obtain ⟨oc, od, kV, doc, pm, an, cdv, ct, osl, rfl, lk, hcd⟩ := F.ex
  exact fn_ofG lk hcd S len fun A outer s H vs Q E hg hr hsp => hbody cdv A outer s H vs Q E hg hr hsp
theorem FunD.okG {params : Arguments} {body : List Stmt} {scope : Scope} {dvs : List V} {kws : List (Str × V)} (F : FunD K x qual params body scope dvs kws f fd) (S : FnScope N ps scope) (len : ∀ vs H Q E, sp vs H Q E → vs.length = ps.length)
    (hbody : ∀ (cdv : Value) (A : Around) (outer : List Env) (s : Shared) (H : Hp) (vs : List V) (Q : VK) (E : XK), (A.deeper (envOfC qual scope s.heap.objs.size f cdv)).guards = some [] →
      Room k (A.deeper (envOfC qual scope s.heap.objs.size f cdv)) → sp vs H Q E →
      ∃ t, PSs (cxOf (CXe P w) P w K mg base N qual scope f cdv A outer s H E) body t ∧ t { nx := fun _ H' => Q .non H', rt := Q } (start N vs) H) :
    FnG P w K mg base (CXe P w) (k + 1) f fd ps sp := by
  obtain ⟨oc, od, dV, kV, doc, pm, an, cdv, ct, osl, rfl, lk, hcd, _, _⟩ := F.ex
  exact fn_ofG lk hcd S len fun A outer s H vs Q E hg hr hsp => hbody cdv A outer s H vs Q E hg hr hsp
end
/-- the type of a tracked value, where it is one of the common ones -/
def tyN (H : Hp) : V → Option String
  | .non => some "NoneType"
  | .bl _ => some "bool"
  | .int _ => some "int"
  | .str _ => some "str"
  | .ref a => match H a with
    | some (.lst _) => some "list"
    | some (.tup _) => some "tuple"
    | some (.dK _) => some "dict"
    | some (.dT _) => some "dict"
    | _ => none
  | _ => none
theorem tyN_of {K : PySem.W.Frag} {H : Hp} {v : V} {n : String} (h : tyN H v = some n) : TyOf K H v (.type n) := by
  cases v with
  | non => cases h; exact .non
  | bl b => cases h; exact .bl b
  | int i => cases h; exact .int i
  | str x => cases h; exact .str x
  | byt b => cases h
  | flt b => cases h
  | ty t => cases h
  | ref a =>
    simp only [tyN] at h
    cases e : H a with
    | none => rw [e] at h; cases h
    | some o =>
      rw [e] at h
      cases o <;> simp only at h <;> first | (cases h; done) | skip
      all_goals first
        | (cases h; exact .lst e)
        | (cases h; exact .tup e)
        | (cases h; exact .dK e)
        | (cases h; exact .dT e)
end L2
end
section
set_option Elab.async false
set_option linter.all false
set_option maxRecDepth 100000
set_option maxHeartbeats 2000000
/-! # New objects, the heap behind them a letter. -/
namespace L2
open PySem PySem.Spec PyProof.Rows
theorem same_new {H : Hp} {p : Addr} {o : HO} (h : H p = none) : Same H (upd H p o) := fun b u e => by
  rw [upd_ne (ne_of_none e h)]; exact e
/-- o stands at p, new, in H2; else H2 is H -/
structure New (H H2 : Hp) (p : Addr) (o : HO) : Prop where
  free : H p = none
  at_ : H2 p = some o
  same : Same H H2
  rest : ∀ b, b ≠ p → H2 b = H b
theorem New.mk' {H : Hp} {p : Addr} {o : HO} (h : H p = none) : New H (upd H p o) p o := ⟨h, upd_same, same_new h, fun _ hb => upd_ne hb⟩
theorem New.off {M : Addr → Prop} {H H2 : Hp} {p : Addr} {o : HO} (n : New H H2 p o) : Off M H H2 := Off.same n.same
section
variable {X : Cx} {es : List Expr} {t : TA} {pos : Pos}
def tTupA (t : TA) : TE := fun σ H Q => t σ H fun xs H1 => xs.length ≤ sizeLine ∧ ∀ p H2, New H1 H2 p (.tup xs) → Q (.ref p) H2
def tLstA (t : TA) : TE := fun σ H Q => t σ H fun xs H1 => xs.length ≤ sizeLine ∧ ∀ p H2, New H1 H2 p (.lst xs) → Q (.ref p) H2
theorem pe_tupA {x1} (h : PA X es t) : PE X (.Tuple es x1 pos) (tTupA t) := by
  constructor
  intro pins s σ H Q I hq
  refine wpAny_Tuple_spliced (thn (h.run pos pins s σ H _ I hq) ?_)
  rintro us s1 ⟨xs, H1, I1, r, z, q⟩
  refine ⟨by rw [← r.length]; exact z, ?_⟩
  have hf : H1 s1.heap.objs.size = none := I1.hok.fresh (Nat.le_refl _)
  refine ⟨.ref s1.heap.objs.size, upd H1 s1.heap.objs.size (.tup xs), ?_, rfl, q _ _ (New.mk' hf)⟩
  exact I1.laid (t' := s1.toks) (fun b u e => Heap.get?_push_of_some _ e) (Nat.le_refl _) ⟨z, us, r, _, Heap.get?_push_size _ rfl, rfl, _, rfl⟩
theorem pe_lstA (h : PA X es t) : PE X (.List es pos) (tLstA t) := by
  constructor
  intro pins s σ H Q I hq
  refine wpAny_List_spliced (thn (h.run pos pins s σ H _ I hq) ?_)
  rintro us s1 ⟨xs, H1, I1, r, z, q⟩
  refine ⟨by rw [← r.length]; exact z, ?_⟩
  have hf : H1 s1.heap.objs.size = none := I1.hok.fresh (Nat.le_refl _)
  refine ⟨.ref s1.heap.objs.size, upd H1 s1.heap.objs.size (.lst xs), ?_, rfl, q _ _ (New.mk' hf)⟩
  exact I1.laid (t' := s1.toks) (fun b u e => Heap.get?_push_of_some _ e) (Nat.le_refl _) ⟨z, us, 0, r, Heap.get?_push_size _ rfl⟩
def tDNewA : TE := fun _ H Q => ∀ p H2, New H H2 p (.dK []) → Q (.ref p) H2
theorem pe_dnewA : PE X (.Dict [] [] pos) tDNewA := by
  constructor
  intro pins s σ H Q I hq
  exact pe_dnewK.run pins s σ H Q I fun p hp => hq p _ (New.mk' hp)
end
end L2
end
section
set_option Elab.async false
set_option linter.all false
set_option maxRecDepth 100000
set_option maxHeartbeats 2000000
/-! # What the top leaves, each fact from facts that are looked up. -/
namespace L2
open PySem PySem.Spec PyProof.Rows
theorem funD_mk {K : PySem.W.Frag} {x qual : Str} {params : Arguments} {body : List Stmt} {scope : Scope} {dvs : List V} {f T : Addr} {oc : Value} {od an : Option Addr} {osl : Array (Option Value)} {kV doc pm cdv ct : Value} {o : Obj} {its : List Value} {n : Nat}
    (l : K.lookup f = some ⟨oc, od, .func (PySem.W.fnOf x qual params body scope (.ref T) kV doc pm an cdv ct), osl⟩) (c : PySem.W.codeIn K cdv qual = true) (k : PySem.W.keepIn K (.ref f) = true)
    (t : K.lookup T = some o) (u : o.data = .seq its.toArray n) (v : Vals dvs its) (ne : dvs ≠ []) : FunD K x qual params body scope dvs [] f (PySem.W.fnOf x qual params body scope (.ref T) kV doc pm an cdv ct) :=
  ⟨⟨oc, od, _, kV, doc, pm, an, cdv, ct, osl, rfl, l, c, .inr ⟨ne, T, o, its, n, rfl, t, u, v⟩, .inl rfl⟩, k⟩
end L2
namespace RX
open PySem PySem.W PySem.Calls PyProof.Rows PySem.HandSPX
theorem te_of {K : Frag} {S : Addr} (a : subIn K (.ref S) (.type "BaseException") = some true) (b : isClsIn K S = true) (c : typeIn K (.ref S) = some (.type "type")) (d : subIn K (.ref S) (.ref S) = some true) : exmOne K (.ref S) (.ref S) = some true := by
  have b' : (clsIn K S).isSome = true := b
  simp [exmOne, kitCls, a, b', c, d]
/-- an error of the package, from facts that are looked up -/
theorem errT_mk {prog : Program} {K : Frag} {mg : Str → Option Value} {h : Heap} {cn fld : Str} {C fI : Addr} (X : K.In h) (G : h.Ns mainGlobals mg)
    {nm q : Str} {N : Addr} {bs bm : List Value} {sn : List Str} {sub : List Value} {ab : Bool} {col : Option Bool} {dd : Option Addr} {k0 k1 k2 k3 k5 : Option Value}
    {oc : Value} {od : Option Addr} {doc pm : Value} {an : Option Addr} {cda cc : Addr} {ct : Value} {osl : Array (Option Value)} {msg : Str} {qual : Str} {p1 p2 q1 q2 q3 q4 q5 q6 q7 q8 q9 q10 : Pos}
    {ccl cl : Value} {cdd cld : Option Addr} {ccs csl : Array (Option Value)} {vs : Array Value} {file : Str} {tf : Tok}
    (gC : nsIn K mainGlobals cn = some (some (.ref C)))
    (cls : K.lookup C = some (excClassObj nm q C N bs bm true sn sub ab col dd k0 k1 k2 k3 k5 "ValueError.__new__")) (rv : refsVE bm = true)
    (sa : findIn K (.ref C) "__setattr__" = some (some (.builtin "object.__setattr__")))
    (ga : findIn K (.ref C) "__getattribute__" = some (some (.builtin "BaseException.__getattribute__"))) (gg : findIn K (.ref C) "__getattr__" = some none)
    (noN : findIn K (.ref C) fld = some none) (iC : findIn K (.ref C) "__init__" = some (some (.ref fI))) (tC : typeIn K (.ref fI) = some (.type "function")) (kC : keepIn K (.ref C) = true)
    (exC : subIn K (.ref C) (.type "BaseException") = some true) (tyC : typeIn K (.ref C) = some (.type "type")) (hdC : hasDictIn K C = true)
    (icC : isClsIn K C = true) (sC : subIn K (.ref C) (.ref C) = some true)
    (veC : subIn K (.ref C) (.type "ValueError") = some true) (selfM : mroIn K C (.ref C) = some true) (up : ks_superIn K C C "__init__" = some (some (.builtin "ValueError.__init__")))
    (third : nsIn K cStatics "thirdparty.any" = some none) (noS : nsIn K mainGlobals "super" = some none) (top : (prog.main.scope.names.lookup ("super" : Str)).isSome = false)
    (fl : (eS fld).names.lookup fld = some .local ∧ (fld == ("self" : Str)) = false ∧ (eS fld).names.lookup ("super" : Str) = some .globalImplicit ∧ (eS fld).names.lookup ("__class__" : Str) = some .free ∧ (fld == ("__debug__" : Str)) = false)
    (bd : ∀ (qual : Str) (body : List Stmt) (doc pm : Value) (an : Option Addr) (cd ct : Value) (cc : Addr) (p1 p2 : Pos) (a b : Value), bindArgs (ksFn "__init__" qual (eA fld p1 p2) body (eS fld) .none .none doc pm an cd ct cc) ⟨[a, b], []⟩ = pure [(("self" : Str), a), (fld, b)])
    (l : K.lookup fI = some ⟨oc, od, .func (ksFn "__init__" qual (eA fld p1 p2) (eB fld msg q1 q2 q3 q4 q5 q6 q7 q8 q9 q10) (eS fld) .none .none doc pm an (.ref cda) ct cc), osl⟩) (cd : codeIn K (.ref cda) qual = true)
    (lc : K.lookup cda = some ⟨ccl, cdd, .fields vs, ccs⟩) (v2 : vs[2]? = some (.str file tf)) (vf : ((prog.main.file : Str) == file) = true) (lcc : K.lookup cc = some ⟨cl, cld, .cell (some (.ref C)), csl⟩) (ln : (q3.endLine == q5.line) = true) :
    ErrT prog K mg cn fld C fI :=
  { gC := mg_of X G gC, cls := ⟨nm, q, N, bs, bm, sn, sub, ab, col, dd, k0, k1, k2, k3, k5, cls, rv⟩, sa := sa, xf := ⟨ga, gg, exC, hdC⟩, noN := noN, iC := iC, tC := tC, kC := kC, exC := exC, tyC := tyC, hdC := hdC, te := te_of exC icC tyC sC, veC := veC, selfM := selfM, up := up, third := third,
    noS := noS, top := top, fl := fl, bd := bd, fn := ⟨oc, od, doc, pm, an, cda, cc, ct, osl, msg, qual, p1, p2, q1, q2, q3, q4, q5, q6, q7, q8, q9, q10, ccl, cl, cdd, cld, ccs, csl, vs, file, tf, l, cd, lc, v2, vf, lcc, ln⟩ }
end RX
end
section
set_option Elab.async false
set_option linter.all false
set_option maxRecDepth 100000
set_option maxHeartbeats 2000000
namespace K00
open PySem L2
local macro_rules | `(tactic| walk_at "hp") => `(tactic| first | assumption | exact upd_same | (refine (upd_ne (by first | assumption | (apply Ne.symm; assumption))).trans ?_; walk_at "hp"))
local macro_rules | `(tactic| walk_at "rd1") => `(tactic| first
  | (refine ⟨_, rfl, ?_⟩)
  | (refine ⟨_, _, rfl, rfl, ?_⟩)
  | (refine ⟨(rfl : scal _ _ = true), ?_⟩)
  | (refine And.intro (by show (0 : Int) < _; decide) ?_)
  | (refine And.intro (And.intro (by decide) (by decide)) ?_)
  | (refine And.intro (Or.inr (And.intro (by decide) (by decide))) ?_)
  | (refine And.intro (And.intro (by decide) (And.intro (by decide) (by decide))) ?_)
  | (refine And.intro (by assumption) ?_)
  | (refine And.intro (And.intro (by omega) (by omega)) ?_)
  | (refine And.intro (Or.inl (And.intro (by omega) (by omega))) ?_)
  | (refine' ⟨_, _, _, _, rfl, rfl, Or.inl (Or.inl ?h1), ?h2, ?h3⟩; (case h1 => walk_at "hp"); (case h2 => rfl))
  | (refine' ⟨_, _, _, _, rfl, rfl, ?h1, ?h2, ?h3⟩; (case h1 => walk_at "hp"); (case h2 => rfl))
  | (refine' ⟨_, _, rfl, Or.inl (Or.inl (Or.inl ?h1)), ?h3⟩; (case h1 => walk_at "hp"))
  | (refine Or.inl ⟨_, rfl, ?_⟩))
local macro_rules | `(tactic| walk_at "rd") => `(tactic| repeat walk_at "rd1")
def top (i : Nat) : Stmt := PySem.Challenge.pw_roomsthrough_k00_rules_and_bags.main.body.getD i (.Pass ⟨0, 0, 0, 0⟩)
abbrev s_BadRules_init : Stmt := inClass (top 2) 0
abbrev s_is_whole : Stmt := top 4
abbrev s_Rules_init : Stmt := inClass (top 6) 0
abbrev s_Rules_eq : Stmt := inClass (top 6) 1
abbrev s_Rules_bags : Stmt := inClass (top 6) 2
abbrev s__law_pool : Stmt := top 8
abbrev s__law_draw : Stmt := top 9
abbrev s__law_odd : Stmt := top 10
abbrev s__law_made : Stmt := top 11
abbrev s__law_same : Stmt := top 12
abbrev s__law_right : Stmt := top 13
abbrev s_law : Stmt := top 14
theorem sc_is_whole : FnScope ["thing"] ["thing"] (defScope s_is_whole) := ⟨rfl, rfl, rfl, by decide +kernel, rfl, by decide +kernel, by decide +kernel⟩
theorem sc__law_pool : FnScope ["script"] ["script"] (defScope s__law_pool) := ⟨rfl, rfl, rfl, by decide +kernel, rfl, by decide +kernel, by decide +kernel⟩
theorem sc__law_draw : FnScope ["pool", "many", "cell", "digit", "number"] ["pool", "many"] (defScope s__law_draw) := ⟨rfl, rfl, rfl, by decide +kernel, rfl, by decide +kernel, by decide +kernel⟩
/-- built-ins that stand -/
structure Blt (mg : Str → Option Value) : Prop where
  n_isinstance : mg "isinstance" = none
  n_int : mg "int" = none
  n_bool : mg "bool" = none
  n_list : mg "list" = none
  n_len : mg "len" = none
  n_range : mg "range" = none
  n_repr : mg "repr" = none
section
variable {P : Program} {w : World} {K : PySem.W.Frag} {mg : Str → Option Value} {base : Heap}
def spWhole (K : PySem.W.Frag) : Sp := fun vs H Q _ => ∃ v t b1 b2, vs = [v] ∧ TyX K H v t ∧ PySem.W.kitOne K t (.type "int") = some b1 ∧ PySem.W.kitOne K t (.type "bool") = some b2 ∧ Q (.bl (b1 && !b2)) H
theorem ok_whole {f : Addr} {fd : FuncData} (F : Fun K "is_whole" "is_whole" s_is_whole f fd) (T : Blt mg) : FnG P w K mg base (CXe P w) 1 f fd ["thing"] (spWhole K) := by
  refine F.okG sc_is_whole (fun vs H Q E h => ?_) (fun cdv A outer s H vs Q E hgd hr h => ?_)
  · obtain ⟨v, t, b1, b2, rfl, _⟩ := h; rfl
  · obtain ⟨v, t, b1, b2, rfl, ty, e1, e2, k⟩ := h
    refine ⟨_, (pss_one (ps_ret (pe_and (pe_callB call_isi (by rfl) T.n_isinstance (by decide +kernel) (pa_cons (pv 0) (pa_cons (pe_bltn (v := .ty "int") (u := .type "int") rfl T.n_int (by decide +kernel) rfl) pa_nil))) (pe_one (pe_not (pe_callB call_isi (by rfl) T.n_isinstance (by decide +kernel) (pa_cons (pv 0) (pa_cons (pe_bltn (v := .ty "bool") (u := .type "bool") rfl T.n_bool (by decide +kernel) rfl) pa_nil)))))))), ?_⟩
    refine ⟨_, rfl, _, _, _, _, _, rfl, .ty _, ty, e1, _, rfl, ?_⟩
    cases b1 with
    | false => exact iteF k
    | true =>
      refine iteT ⟨_, rfl, _, _, _, _, _, rfl, .ty _, ty, e2, _, rfl, ?_⟩
      exact k
/-- a pool: the script's cells at l, and four numbers -/
def poolO (l : Addr) (i c n z : Int) : HO := .lst [.ref l, .int i, .int c, .int n, .int z]
structure PoolAt (K : PySem.W.Frag) (H : Hp) (l p : Addr) : Prop where
  ex : ∃ (xs : List Int) (i c n z : Int), H p = some (poolO l i c n z) ∧ l ≠ p ∧ H l = some (.lst (xs.map V.int)) ∧ 0 ≤ i ∧ 0 ≤ c
def spPool (K : PySem.W.Frag) : Sp := fun vs H Q _ => ∃ (a : Addr) (ns : List Int), vs = [.ref a] ∧ SqL K H a (ns.map V.int) ∧ ns.length ≤ 63 ∧ ∀ l p H', H p = none → Same H H' → PoolAt K H' l p → Q (.ref p) H'
theorem ok_pool {f : Addr} {fd : FuncData} (F : Fun K "_law_pool" "_law_pool" s__law_pool f fd) (T : Blt mg) : FnG P w K mg base (CXe P w) 1 f fd ["script"] (spPool K) := by
  refine F.okG sc__law_pool (fun vs H Q E h => ?_) (fun cdv A outer s H vs Q E hgd hr h => ?_)
  · obtain ⟨a, ns, rfl, _⟩ := h; rfl
  · obtain ⟨a, ns, rfl, hs, hl, k⟩ := h
    refine ⟨_, (pss_one (ps_ret (pe_lstA (pa_cons (pe_callTy call_list_of (by rfl) T.n_list (by decide +kernel) (pa_cons (pv 0) pa_nil)) (pa_cons pe_int (pa_cons pe_int (pa_cons pe_int (pa_cons pe_int pa_nil)))))))), ?_⟩
    refine ⟨_, rfl, _, _, rfl, .inl hs, fun l hl => ?_⟩
    refine And.intro (Nat.le_of_ble_eq_true rfl) (fun p H1 N => ?_)
    have hlp : l ≠ p := ne_of_none upd_same N.free
    have hp0 : H p = none := by rw [← N.free, upd_ne hlp.symm]
    exact k l p _ hp0 ((same_new hl).trans N.same) ⟨ns, 0, 0, 0, 1, N.at_, hlp, N.same _ _ upd_same, Int.le_refl _, Int.le_refl _⟩
def spDraw (K : PySem.W.Frag) : Sp := fun vs H Q _ => ∃ (l p : Addr) (m : Int), vs = [.ref p, .int m] ∧ PoolAt K H l p ∧ 0 < m ∧ m < 1000000 ∧
  ∀ r H', 0 ≤ r → r < m → Off (fun b => b = p) H H' → PoolAt K H' l p → Q (.int r) H'
theorem ok_draw {f : Addr} {fd : FuncData} (F : Fun K "_law_draw" "_law_draw" s__law_draw f fd) (T : Blt mg) : FnG P w K mg base (CXe P w) 1 f fd ["pool", "many"] (spDraw K) := by
  refine F.okG sc__law_draw (fun vs H Q E h => ?_) (fun cdv A outer s H vs Q E hgd hr h => ?_)
  · obtain ⟨l, p, m, rfl, _⟩ := h; rfl
  · obtain ⟨l, p, m, rfl, ⟨xs, i, c, n, z, hp, hlp, hl, hi, hc⟩, hm0, hm1, k⟩ := h
    refine ⟨_, (pss_cons (ps_asg (pe_op op_add (pe_ix ix_list (pv 0) pe_int (fun _ _ => rfl)) pe_int) (pg_sub (pv 0) pe_int set_list))
      (C8.pss_cut (ps_if (PW.pt (pw_and (pt_cmpR op_eq (pe_ix ix_list (pv 0) pe_int (fun _ _ => rfl)) pe_int (nomark _)) (pw_and1 (pt_cmpR op_lt (pe_ix ix_list (pv 0) pe_int (fun _ _ => rfl)) (pe_callB call_len_seq (by rfl) T.n_len (by decide +kernel) (pa_cons (pe_ix ix_list (pv 0) pe_int (fun _ _ => rfl)) pa_nil)) (nomark _))))) (pss_cons (ps_set (i := 2) sc__law_draw.nd rfl (Or.inl rfl) (pe_callTy call_int1 (by rfl) T.n_int (by decide +kernel) (pa_cons (pe_ix ix_list (pe_ix ix_list (pv 0) pe_int (fun _ _ => rfl)) (pe_ix ix_list (pv 0) pe_int (fun _ _ => rfl)) (fun _ _ => rfl)) pa_nil)))
      (pss_cons (ps_asg (pe_op op_add (pe_ix ix_list (pv 0) pe_int (fun _ _ => rfl)) pe_int) (pg_sub (pv 0) pe_int set_list))
      (pss_one (ps_if (pt_cmpR op_ge (pv 2) (pe_op op_pow pe_int pe_int) (nomark _)) (pss_one (ps_asg (pv 2) (pg_sub (pv 0) pe_int set_list))) (pss_one (ps_asg (pe_op op_mod (pe_callTy call_int1 (by rfl) T.n_int (by decide +kernel) (pa_cons (pe_op op_add (pe_op op_add (pe_op op_mul (pe_ix ix_list (pv 0) pe_int (fun _ _ => rfl)) pe_int) (pe_op op_mul (pv 2) pe_int)) pe_int) pa_nil)) pe_int) (pg_sub (pv 0) pe_int set_list))))))) pss_nil)
      (pss_cons (ps_if (pt_cmpR op_gt (pe_ix ix_list (pv 0) pe_int (fun _ _ => rfl)) pe_int (nomark _)) (pss_cons (ps_set (i := 3) sc__law_draw.nd rfl (Or.inl rfl) (pe_op op_mod (pe_callTy call_int1 (by rfl) T.n_int (by decide +kernel) (pa_cons (pe_ix ix_list (pv 0) pe_int (fun _ _ => rfl)) pa_nil)) (pv 1)))
      (pss_cons (ps_asg (pe_op op_fdivN (pe_callTy call_int1 (by rfl) T.n_int (by decide +kernel) (pa_cons (pe_ix ix_list (pv 0) pe_int (fun _ _ => rfl)) pa_nil)) (pv 1)) (pg_sub (pv 0) pe_int set_list))
      (pss_one (ps_ret (pv 3))))) pss_nil)
      (pss_cons (ps_set (i := 4) sc__law_draw.nd rfl (Or.inl rfl) (pe_op op_mod (pe_callTy call_int1 (by rfl) T.n_int (by decide +kernel) (pa_cons (pe_op op_add (pe_op op_add (pe_ix ix_list (pv 0) pe_int (fun _ _ => rfl)) (pe_op op_mul (pe_ix ix_list (pv 0) pe_int (fun _ _ => rfl)) pe_int)) pe_int) pa_nil)) pe_int))
      (pss_cons (ps_set (i := 4) sc__law_draw.nd rfl (Or.inl rfl) (pe_op op_mod (pe_callTy call_int1 (by rfl) T.n_int (by decide +kernel) (pa_cons (pe_op op_mul (pv 4) (pe_op op_add (pe_op op_fdivN (pv 4) pe_int) pe_int)) pa_nil)) pe_int))
      (pss_cons (ps_set (i := 4) sc__law_draw.nd rfl (Or.inl rfl) (pe_op op_mod (pe_callTy call_int1 (by rfl) T.n_int (by decide +kernel) (pa_cons (pe_op op_mul (pv 4) (pe_op op_add (pe_op op_fdivN (pv 4) pe_int) pe_int)) pa_nil)) pe_int))
      (pss_cons (ps_asg (pv 4) (pg_sub (pv 0) pe_int set_list))
      (pss_one (ps_ret (pe_op op_mod (pe_callTy call_int1 (by rfl) T.n_int (by decide +kernel) (pa_cons (pe_op op_fdivN (pv 4) pe_int) pa_nil)) (pv 1))))))))))), ?_⟩
    walk_at "rd"
    refine ⟨fun σ' H' => ∃ (x : Option V) (i' c' n' z' : Int), σ' = [some (.ref p), some (.int m), x, none, none] ∧ H' = upd H p (poolO l i' c' n' z') ∧ 0 ≤ i' ∧ 0 ≤ c', ?_, ?_⟩
    · walk_at "rd"
      refine ite2 (fun h => ?_) (fun h => ?_)
      · walk_at "rd"
        refine ite2 (fun h2 => ?_) (fun h2 => ?_)
        · have hix : i < (xs.map V.int).length := by simpa using h2
          have hg : ∃ v, xs[i.toNat]? = some v := by
            rw [List.length_map] at hix
            exact ⟨_, List.getElem?_eq_getElem (by omega)⟩
          obtain ⟨v, hv⟩ := hg
          walk_at "rd"
          refine ⟨l, xs.map V.int, i, .int v, rfl, rfl, SqL.of (by walk_at "hp"), ?_, ?_⟩
          · have := atI_nat (xs := xs.map V.int) (j := i.toNat) (v := V.int v) (by simp [hv])
            rwa [Int.toNat_of_nonneg hi] at this
          walk_at "rd"
          refine ite2 (fun h3 => ?_) (fun h3 => ?_)
          · walk_at "rd"
            refine ⟨some (.int v), i + 1, v, n + 1, z, rfl, by rw [upd_upd, upd_upd]; rfl, by omega, ?_⟩
            have : (10 : Int) ^ 18 ≤ v := by simpa using h3
            omega
          · walk_at "rd"
            refine ⟨some (.int v), i + 1, c, n + 1, _, rfl, by rw [upd_upd, upd_upd]; rfl, by omega, hc⟩
        · exact ⟨none, i, c, n + 1, z, rfl, rfl, hi, hc⟩
      · exact ⟨none, i, c, n + 1, z, rfl, rfl, hi, hc⟩
    · rintro σ' H' ⟨x, i', c', n', z', rfl, rfl, hi', hc'⟩
      have hl' : ∀ o, upd H p o l = some (.lst (xs.map V.int)) := fun o => by rw [upd_ne hlp]; exact hl
      have fin : ∀ (r i'' c'' n'' z'' : Int), 0 ≤ r → r < m → 0 ≤ i'' → 0 ≤ c'' → Q (.int r) (upd H p (poolO l i'' c'' n'' z'')) := fun r i'' c'' n'' z'' a1 a2 a3 a4 =>
        k r _ a1 a2 (Off.mut rfl) ⟨xs, i'', c'', n'', z'', upd_same, hlp, hl' _, a3, a4⟩
      walk_at "rd"
      refine ite2 (fun h => ?_) (fun h => ?_)
      · walk_at "rd"
        rw [upd_upd]
        refine fin _ i' _ n' z' ?_ ?_ hi' ?_
        · exact Int.emod_nonneg _ (by omega)
        · exact Int.emod_lt_of_pos _ hm0
        · rw [Int.fdiv_eq_ediv_of_nonneg _ (by omega)]
          exact Int.ediv_nonneg hc' (by omega)
      · walk_at "rd"
        rw [upd_upd]
        refine fin _ i' c' n' _ ?_ ?_ hi' hc'
        · exact Int.emod_nonneg _ (by omega)
        · exact Int.emod_lt_of_pos _ hm0
/-! ### a drawn thing of any kind -/
def deepD : Nat → PyData
  | 0 => .tuple [.int 0]
  | n + 1 => .tuple [deepD n]
def oddDs : List (Bool × PyData) := [(true, .none), (true, .bool true), (true, .bool false), (true, .int (-1)), (true, .int 0), (true, .int 3), (true, .int (10 ^ 30)), (true, .str ""), (true, .str "a"), (true, .str "@"),
  (true, .tuple []), (true, .list []), (false, .dict []), (true, .tuple [.int 0]), (true, .tuple [.int 0, .int 0]), (true, .list [.int 0, .int 0]), (true, .tuple [.str "@"]), (true, .list [.str "@"]), (true, deepD 12)]
def Odd (M : Addr → Prop) (H : Hp) (v : V) : Prop := ∃ q ∈ oddDs, Dr q.1 M H v q.2
def OddAll (M : Addr → Prop) (H : Hp) (vs : List V) : Prop := ∀ v ∈ vs, Odd M H v
theorem Odd.keep {M : Addr → Prop} {H H' : Hp} {v : V} (o : Off M H H') (h : Odd M H v) : Odd M H' v := by
  obtain ⟨q, hq, d⟩ := h
  exact ⟨q, hq, d.keep o⟩
theorem OddAll.new {M : Addr → Prop} {H H2 : Hp} {vs : List V} {q : Addr} {o : HO} (hq : New H H2 q o) (O : OddAll M H vs) (h : Odd M H2 (.ref q)) : OddAll M H2 (.ref q :: vs) := by
  intro v hv
  rcases List.mem_cons.mp hv with rfl | hv
  · exact h
  · exact (O v hv).keep hq.off
def spOdd (K : PySem.W.Frag) : Sp := fun vs H Q _ => ∃ (l p : Addr) (M : Addr → Prop), vs = [.ref p] ∧ PoolAt K H l p ∧ M p ∧ (∀ a, M a → H a ≠ none) ∧
  ∀ v H', Off (fun b => b = p) H H' → PoolAt K H' l p → Odd M H' v → Q v H'
theorem sc__law_odd : FnScope ["pool", "deep", "k", "odd"] ["pool"] (defScope s__law_odd) := ⟨rfl, rfl, rfl, by decide +kernel, rfl, by decide +kernel, by decide +kernel⟩
theorem PoolAt.same {H H' : Hp} {l p : Addr} (s : Same H H') (h : PoolAt K H l p) : PoolAt K H' l p := by
  obtain ⟨xs, i, c, n, z, h1, h2, h3, h4, h5⟩ := h
  exact ⟨xs, i, c, n, z, s _ _ h1, h2, s _ _ h3, h4, h5⟩
theorem ok_odd {f : Addr} {fd : FuncData} {k1 : Nat} (F : Fun K "_law_odd" "_law_odd" s__law_odd f fd) (T : Blt mg) (c__law_draw : CalG P w K mg base 1 "_law_draw" (spDraw K)) : FnG P w K mg base (CXe P w) 2 f fd ["pool"] (spOdd K) := by
  refine F.okG sc__law_odd (fun vs H Q E h => ?_) (fun cdv A outer s H vs Q E hgd hr h => ?_)
  · obtain ⟨l, p, M, rfl, _⟩ := h; rfl
  · obtain ⟨l, p, M, rfl, hp, hMp, hM, k⟩ := h
    refine ⟨_, (pss_cons (ps_set (i := 1) sc__law_odd.nd rfl (Or.inl rfl) (pe_tupA (pa_cons pe_int pa_nil)))
      (pss_cons (ps_for (passes_of rfl) rfl (pi_range1 (by rfl) T.n_range (pa_cons pe_int pa_nil)) (pg_name (i := 2) sc__law_odd.nd rfl (Or.inl rfl))
      (pss_one (ps_set (i := 1) sc__law_odd.nd rfl (Or.inl rfl) (pe_tupA (pa_cons (pv 1) pa_nil)))))
      (pss_cons (ps_set (i := 3) sc__law_odd.nd rfl (Or.inl rfl) (pe_lstA (pa_cons pe_non (pa_cons pe_bl (pa_cons pe_bl (pa_cons (pe_un un_neg pe_int) (pa_cons pe_int (pa_cons pe_int (pa_cons (pe_op op_pow pe_int pe_int) (pa_cons pe_str (pa_cons pe_str (pa_cons pe_str (pa_cons (pe_tupA pa_nil) (pa_cons (pe_lstA pa_nil) (pa_cons pe_dnewA (pa_cons (pe_tupA (pa_cons pe_int pa_nil)) (pa_cons (pe_tupA (pa_cons pe_int (pa_cons pe_int pa_nil))) (pa_cons (pe_lstA (pa_cons pe_int (pa_cons pe_int pa_nil))) (pa_cons (pe_tupA (pa_cons pe_str pa_nil)) (pa_cons (pe_lstA (pa_cons pe_str pa_nil)) (pa_cons (pv 1) pa_nil)))))))))))))))))))))
      (pss_one (ps_ret (pe_ix ix_list (pv 3) (pg_c c__law_draw hgd hr (by decide) (pa_cons (pv 0) (pa_cons (pe_callB call_len_seq (by rfl) T.n_len (by decide +kernel) (pa_cons (pv 3) pa_nil)) pa_nil))) (fun _ _ => rfl))))))), ?_⟩
    have notM : ∀ {a : Addr}, H a = none → ¬ M a := fun h z => hM _ z h
    walk_at "rd"
    refine And.intro (Nat.le_of_ble_eq_true rfl) (fun t0 H0 n0 => ?_)
    refine ⟨12, rfl, by decide, by decide, for_range (n := 12) (fun i σ H' => ∃ (t : Addr) (x : Option V), σ = [some (.ref p), some (.ref t), x, none] ∧ Same H H' ∧ Dr true M H' (.ref t) (deepD i)) ⟨t0, none, rfl, n0.same, .tup n0.at_ (notM n0.free) (.cons (.int 0) .nil)⟩ ?_ ?_⟩
    · rintro i σ H' hi ⟨t, x, rfl, s5, d⟩
      walk_at "rd"
      refine And.intro (Nat.le_of_ble_eq_true rfl) (fun t1 H1 n1 => ?_)
      exact ⟨t1, _, rfl, s5.trans n1.same, .tup n1.at_ (notM (s5.free n1.free)) (.cons (d.keep n1.off) .nil)⟩
    · rintro σ H' ⟨t, x, rfl, s5, d⟩
      have O0 : OddAll M H' [.ref t] := by
        intro v hv
        cases List.mem_singleton.mp hv
        exact ⟨(true, deepD 12), by simp [oddDs], d⟩
      walk_at "rd"
      refine And.intro (Nat.le_of_ble_eq_true rfl) (fun q1 H1 n1 => ?_)
      have O1 := O0.new n1 ⟨(true, .tuple []), by simp [oddDs], .tup n1.at_ (notM (s5.free n1.free)) .nil⟩
      have s6 := s5.trans n1.same
      refine And.intro (Nat.le_of_ble_eq_true rfl) (fun q2 H2 n2 => ?_)
      have O2 := O1.new n2 ⟨(true, .list []), by simp [oddDs], .lst n2.at_ (notM (s6.free n2.free)) rfl .nil⟩
      have s7 := s6.trans n2.same
      refine fun q3 H3 n3 => ?_
      have O3 := O2.new n3 ⟨(false, .dict []), by simp [oddDs], .dct n3.at_ (notM (s7.free n3.free)) rfl⟩
      have s8 := s7.trans n3.same
      refine And.intro (Nat.le_of_ble_eq_true rfl) (fun q4 H4 n4 => ?_)
      have O4 := O3.new n4 ⟨(true, .tuple [.int 0]), by simp [oddDs], .tup n4.at_ (notM (s8.free n4.free)) (.cons (.int 0) .nil)⟩
      have s9 := s8.trans n4.same
      refine And.intro (Nat.le_of_ble_eq_true rfl) (fun q5 H5 n5 => ?_)
      have O5 := O4.new n5 ⟨(true, .tuple [.int 0, .int 0]), by simp [oddDs], .tup n5.at_ (notM (s9.free n5.free)) (.cons (.int 0) (.cons (.int 0) .nil))⟩
      have s10 := s9.trans n5.same
      refine And.intro (Nat.le_of_ble_eq_true rfl) (fun q6 H6 n6 => ?_)
      have O6 := O5.new n6 ⟨(true, .list [.int 0, .int 0]), by simp [oddDs], .lst n6.at_ (notM (s10.free n6.free)) rfl (.cons (.int 0) (.cons (.int 0) .nil))⟩
      have s11 := s10.trans n6.same
      refine And.intro (Nat.le_of_ble_eq_true rfl) (fun q7 H7 n7 => ?_)
      have O7 := O6.new n7 ⟨(true, .tuple [.str "@"]), by simp [oddDs], .tup n7.at_ (notM (s11.free n7.free)) (.cons (.str "@") .nil)⟩
      have s12 := s11.trans n7.same
      refine And.intro (Nat.le_of_ble_eq_true rfl) (fun q8 H8 n8 => ?_)
      have O8 := O7.new n8 ⟨(true, .list [.str "@"]), by simp [oddDs], .lst n8.at_ (notM (s12.free n8.free)) rfl (.cons (.str "@") .nil)⟩
      have s13 := s12.trans n8.same
      walk_at "rd"
      refine And.intro (Nat.le_of_ble_eq_true rfl) (fun q9 H9 n9 => ?_)
      have s14 := s13.trans n9.same
      -- the list is made; what stands in it
      have O9 : OddAll M H9 _ := fun v hv => (O8 v hv).keep n9.off
      have e9 := n9.at_
      generalize hxs : ([_, _, _, _, _, _, _, _, _, _, _, _, _, _, _, _, _, _, _] : List V) = items at e9
      have hlen : items.length = 19 := by rw [← hxs]; rfl
      have OL : OddAll M H9 items := by
        rw [← hxs]
        intro v hv
        simp only [List.mem_cons, List.not_mem_nil, or_false] at hv
        rcases hv with rfl | rfl | rfl | rfl | rfl | rfl | rfl | rfl | rfl | rfl | rfl | rfl | rfl | rfl | rfl | rfl | rfl | rfl | rfl
        · exact ⟨(true, .none), by simp [oddDs], .non⟩
        · exact ⟨(true, .bool true), by simp [oddDs], .bl _⟩
        · exact ⟨(true, .bool false), by simp [oddDs], .bl _⟩
        · exact ⟨(true, .int (-1)), by simp [oddDs], .int _⟩
        · exact ⟨(true, .int 0), by simp [oddDs], .int _⟩
        · exact ⟨(true, .int 3), by simp [oddDs], .int _⟩
        · exact ⟨(true, .int (10 ^ 30)), by simp [oddDs], .int _⟩
        · exact ⟨(true, .str ""), by simp [oddDs], .str _⟩
        · exact ⟨(true, .str "a"), by simp [oddDs], .str _⟩
        · exact ⟨(true, .str "@"), by simp [oddDs], .str _⟩
        all_goals exact O9 _ (by simp)
      walk_at "rd"
      rw [hlen]
      refine ⟨l, p, 19, rfl, hp.same s14, by decide, by decide, fun r H10 hr0 hr1 off hp10 => ?_⟩
      obtain ⟨v, ho⟩ : ∃ v, items[r.toNat]? = some v := ⟨_, List.getElem?_eq_getElem (by omega)⟩
      have hne : q9 ≠ p := by
        intro z
        obtain ⟨xs, i, c, n, z1, h1, _⟩ := hp
        have := s13 _ _ h1
        rw [← z, n9.free] at this
        cases this
      refine ⟨q9, items, r, v, rfl, rfl, SqL.of (off _ _ hne e9), ?_, ?_⟩
      · have := atI_nat ho
        rwa [Int.toNat_of_nonneg hr0] at this
      · refine k _ H10 ((Off.same s14).trans off) hp10 ((OL _ (List.mem_of_getElem? ho)).keep ?_)
        intro b o hb e
        exact off b o (fun z => hb (by rw [z]; exact hMp)) e
end
end K00
end
section
set_option Elab.async false
set_option linter.all false
set_option maxRecDepth 100000
set_option maxHeartbeats 2000000
namespace K00
open PySem L2
local macro_rules | `(tactic| walk_at "hp") => `(tactic| first | assumption | exact upd_same | (refine (upd_ne (by first | assumption | (apply Ne.symm; assumption))).trans ?_; walk_at "hp"))
local macro_rules | `(tactic| walk_at "rd1") => `(tactic| first
  | (refine ⟨_, rfl, ?_⟩)
  | (refine ⟨_, _, rfl, rfl, ?_⟩)
  | (refine ⟨(rfl : scal _ _ = true), ?_⟩)
  | (refine And.intro (by show (0 : Int) < _; decide) ?_)
  | (refine And.intro (And.intro (by decide) (by decide)) ?_)
  | (refine And.intro (Or.inr (And.intro (by decide) (by decide))) ?_)
  | (refine And.intro (And.intro (by decide) (And.intro (by decide) (by decide))) ?_)
  | (refine And.intro (by assumption) ?_)
  | (refine And.intro (And.intro (by omega) (by omega)) ?_)
  | (refine And.intro (Or.inl (And.intro (by omega) (by omega))) ?_)
  | (refine' ⟨_, _, _, _, rfl, rfl, Or.inl (Or.inl ?h1), ?h2, ?h3⟩; (case h1 => walk_at "hp"); (case h2 => rfl))
  | (refine' ⟨_, _, _, _, rfl, rfl, ?h1, ?h2, ?h3⟩; (case h1 => walk_at "hp"); (case h2 => rfl))
  | (refine' ⟨_, _, rfl, Or.inl (Or.inl (Or.inl ?h1)), ?h3⟩; (case h1 => walk_at "hp"))
  | (refine Or.inl ⟨_, rfl, ?_⟩))
local macro_rules | `(tactic| walk_at "rd") => `(tactic| repeat walk_at "rd1")
theorem sc_Rules_init : FnScope ["self", "cap", "strong", "pull"] ["self", "cap", "strong", "pull"] (defScope s_Rules_init) := ⟨rfl, rfl, rfl, by decide +kernel, rfl, by decide +kernel, by decide +kernel⟩
theorem sc_Rules_eq : FnScope ["self", "other"] ["self", "other"] (defScope s_Rules_eq) := ⟨rfl, rfl, rfl, by decide +kernel, rfl, by decide +kernel, by decide +kernel⟩
theorem sc_Rules_bags : FnScope ["self", "counts", "of_a", "of_b"] ["self"] (defScope s_Rules_bags) := ⟨rfl, rfl, rfl, by decide +kernel, rfl, by decide +kernel, by decide +kernel⟩
def isInt : V → Bool
  | .int _ => true
  | _ => false
def isBl : V → Bool
  | .bl _ => true
  | _ => false
/-- what kind of thing a value is, as far as whole numbers and flags go -/
def Knd (K : PySem.W.Frag) (H : Hp) (v : V) : Prop := ∃ t b1 b2, TyX K H v t ∧ PySem.W.kitOne K t (.type "int") = some b1 ∧ PySem.W.kitOne K t (.type "bool") = some b2 ∧ (b1 && !b2) = isInt v ∧ b2 = isBl v
theorem knd_of {K : PySem.W.Frag} {H : Hp} {v : V} {n : String} (h : tyN H v = some n) : Knd K H v := by
  have ty : TyX K H v (.type n) := .base (tyN_of h)
  have go : ∀ (b1 b2 : Bool), kitB n "int" = some b1 → kitB n "bool" = some b2 → (b1 && !b2) = isInt v → b2 = isBl v → Knd K H v := fun b1 b2 h1 h2 h3 h4 => ⟨_, b1, b2, ty, kit_ty h1, kit_ty h2, h3, h4⟩
  cases v with
  | non => cases h; exact go false false (by decide +kernel) (by decide +kernel) rfl rfl
  | bl b => cases h; exact go true true (by decide +kernel) (by decide +kernel) rfl rfl
  | int i => cases h; exact go true false (by decide +kernel) (by decide +kernel) rfl rfl
  | str x => cases h; exact go false false (by decide +kernel) (by decide +kernel) rfl rfl
  | byt b => cases h
  | flt b => cases h
  | ty t => cases h
  | ref a =>
    simp only [tyN] at h
    split at h <;> first | (cases h; exact go false false (by decide +kernel) (by decide +kernel) rfl rfl) | cases h
def capOk : V → Bool
  | .int i => decide (1 ≤ i ∧ i ≤ 2)
  | _ => false
def rulesF (c s p : V) : List (Str × V) := [("cap", c), ("strong", s), ("pull", p)]
structure RulT (P : Program) (K : PySem.W.Frag) (mg : Str → Option Value) (C CB fB : Addr) : Prop extends Blt mg where
  cl : Cls K C
  a_cap : NoAttr K C "cap"
  a_strong : NoAttr K C "strong"
  a_pull : NoAttr K C "pull"
  g_Rules : mg "Rules" = some (.ref C)
  x_BadRules : RX.ErrT P K mg "BadRules" "value" CB fB
def spRInit (K : PySem.W.Frag) (C CB : Addr) : Sp := fun vs H Q E => ∃ (x dx : Addr) (c s p : V), vs = [.ref x, c, s, p] ∧ H x = some (.ins C dx []) ∧ Knd K H c ∧ Knd K H s ∧ Knd K H p ∧
  (capOk c = false → ∀ d, H d = none → E (.ref CB) (some d) (upd H d (.xd [("value", c)]))) ∧
  (capOk c = true → isBl s = false → ∀ d, H d = none → E (.ref CB) (some d) (upd H d (.xd [("value", s)]))) ∧
  (capOk c = true → isBl s = true → isBl p = false → ∀ d, H d = none → E (.ref CB) (some d) (upd H d (.xd [("value", p)]))) ∧
  (capOk c = true → isBl s = true → isBl p = true → Q .non (upd H x (.ins C dx (rulesF c s p))))
section
variable {P : Program} {w : World} {K : PySem.W.Frag} {mg : Str → Option Value} {base : Heap} {C CB fB : Addr}
theorem putF3 (c s p : V) : putF "pull" p (putF "strong" s (putF "cap" c [])) = rulesF c s p := by
  have e1 : ¬ (("cap" : Str) = "strong") := by decide +kernel
  have e2 : ¬ (("cap" : Str) = "pull") := by decide +kernel
  have e3 : ¬ (("strong" : Str) = "pull") := by decide +kernel
  simp only [putF, e1, e2, e3, if_false, rulesF]
theorem putF_len (f : Str) (v : V) : ∀ fs : List (Str × V), (putF f v fs).length ≤ fs.length + 1
  | [] => Nat.le_refl _
  | (g, u) :: r => by
    show (if g = f then (g, v) :: r else (g, u) :: putF f v r).length ≤ _
    have := putF_len f v r
    split <;> simp only [List.length_cons] <;> omega
theorem ok_rinit {f : Addr} {fd : FuncData} {dvs : List V} (F : FunD K "__init__" "Rules.__init__" (defArgs s_Rules_init) (defBody s_Rules_init) (defScope s_Rules_init) dvs [] f fd) (T : RulT P K mg C CB fB) (c_is_whole : CalG P w K mg base 1 "is_whole" (spWhole K)) :
    FnG P w K mg base (CXe P w) 4 f fd ["self", "cap", "strong", "pull"] (spRInit K C CB) := by
  refine F.okG sc_Rules_init (fun vs H Q E h => ?_) (fun cdv A outer s H vs Q E hgd hr h => ?_)
  · obtain ⟨x, dx, c, s, p, rfl, _⟩ := h; rfl
  · obtain ⟨x, dx, c, sg, pl, rfl, hx, ⟨tc, c1, c2, kc, kc1, kc2, kc3, kc4⟩, ⟨ts, s1, s2, ks, ks1, ks2, ks3, ks4⟩, ⟨tp, p1, p2, kp, kp1, kp2, kp3, kp4⟩, k1, k2, k3, k4⟩ := h
    refine ⟨_, (pss_cons (ps_if (PW.pt (pw_or (pt_not (pt_val (pg_c c_is_whole hgd hr (by decide) (pa_cons (pv 1) pa_nil)))) (pw_or1 (pt_not (pt_chain op_le op_le pe_int (pv 1) pe_int))))) (pss_one (ps_raiseErr rfl T.x_BadRules hr (takes_of rfl rfl rfl rfl) (pa_cons (pv 1) pa_nil))) pss_nil)
      (pss_cons (ps_if (pt_not (pt_val (pe_callB call_isi (by rfl) T.n_isinstance (by decide +kernel) (pa_cons (pv 2) (pa_cons (pe_bltn (v := .ty "bool") (u := .type "bool") rfl T.n_bool (by decide +kernel) rfl) pa_nil))))) (pss_one (ps_raiseErr rfl T.x_BadRules hr (takes_of rfl rfl rfl rfl) (pa_cons (pv 2) pa_nil))) pss_nil)
      (pss_cons (ps_if (pt_not (pt_val (pe_callB call_isi (by rfl) T.n_isinstance (by decide +kernel) (pa_cons (pv 3) (pa_cons (pe_bltn (v := .ty "bool") (u := .type "bool") rfl T.n_bool (by decide +kernel) rfl) pa_nil))))) (pss_one (ps_raiseErr rfl T.x_BadRules hr (takes_of rfl rfl rfl rfl) (pa_cons (pv 3) pa_nil))) pss_nil)
      (pss_cons (ps_fld (pv 0) (pv 1) rfl)
      (pss_cons (ps_fld (pv 0) (pv 2) rfl)
      (pss_one (ps_fld (pv 0) (pv 3) rfl))))))), ?_⟩
    have hSl : ∀ (o : HO), (upd H x o) x = some o := fun o => upd_same
    -- cap
    have first : ∀ (D : Ends) (t : TS), (capOk c = true → t D (L2.start ["self", "cap", "strong", "pull"] [.ref x, c, sg, pl]) H) → True := fun _ _ _ => trivial
    refine ⟨_, rfl, c, tc, c1, c2, rfl, kc, kc1, kc2, _, rfl, ?_⟩
    rw [kc3]
    cases hi : isInt c with
    | false =>
      have hn : capOk c = false := by cases c <;> first | rfl | cases hi
      exact iteT (iteT ⟨_, rfl, c, rfl, fun d hd => k1 hn d hd⟩)
    | true =>
      cases c <;> first | (cases hi; done) | skip
      rename_i i
      refine iteF ?_
      walk_at "rd"
      by_cases h1 : (1 : Int) ≤ i
      · refine ite2 (fun _ => ?_) (fun z => absurd (decide_eq_true h1) z)
        walk_at "rd"
        by_cases h2 : i ≤ 2
        · have hk : capOk (.int i) = true := by simp [capOk, h1, h2]
          refine ite2 (fun z => ?_) (fun _ => ?_)
          · simp [h2] at z
          -- strong
          refine ⟨_, rfl, _, _, _, _, _, rfl, .ty _, ks, ks2, _, rfl, ?_⟩
          rw [ks4]
          cases hsg : isBl sg with
          | false => exact iteT ⟨_, rfl, sg, rfl, fun d hd => k2 hk hsg d hd⟩
          | true =>
            refine iteF ?_
            refine ⟨_, rfl, _, _, _, _, _, rfl, .ty _, kp, kp2, _, rfl, ?_⟩
            rw [kp4]
            cases hpl : isBl pl with
            | false => exact iteT ⟨_, rfl, pl, rfl, fun d hd => k3 hk hsg hpl d hd⟩
            | true =>
              refine iteF ?_
              refine ⟨_, rfl, _, rfl, x, C, dx, [], rfl, hx, T.cl, T.a_cap, (by decide), ?_⟩
              refine ⟨_, rfl, _, rfl, x, C, dx, _, rfl, upd_same, T.cl, T.a_strong, Nat.lt_of_le_of_lt (putF_len _ _ _) (by decide), ?_⟩
              refine ⟨_, rfl, _, rfl, x, C, dx, _, rfl, upd_same, T.cl, T.a_pull, Nat.lt_of_le_of_lt (putF_len _ _ _) (Nat.lt_of_le_of_lt (Nat.succ_le_succ (putF_len _ _ _)) (by decide)), ?_⟩
              rw [upd_upd, upd_upd, putF3]
              exact k4 hk hsg hpl
        · have hn : capOk (.int i) = false := by simp [capOk, h2]
          refine ite2 (fun _ => ?_) (fun z => absurd (by simp [h2]) z)
          exact ⟨_, rfl, _, rfl, fun d hd => k1 hn d hd⟩
      · have hn : capOk (.int i) = false := by simp [capOk, h1]
        refine ite2 (fun z => absurd (of_decide_eq_true z) h1) (fun _ => ?_)
        refine ⟨_, rfl, ?_⟩
        exact iteT ⟨_, rfl, _, rfl, fun d hd => k1 hn d hd⟩
def spREq (K : PySem.W.Frag) (C : Addr) : Sp := fun vs H Q _ => ∃ (a dx : Addr) (i : Int) (s p : Bool) (y : V) (t : Value) (b : Bool), vs = [.ref a, y] ∧ H a = some (.ins C dx (rulesF (.int i) (.bl s) (.bl p))) ∧ TyX K H y t ∧ PySem.W.kitOne K t (.ref C) = some b ∧
  (b = false → Q (.bl false) H) ∧ (b = true → ∃ (a' dy : Addr) (j : Int) (s' p' : Bool), y = .ref a' ∧ H a' = some (.ins C dy (rulesF (.int j) (.bl s') (.bl p'))) ∧ Q (.bl (decide (i = j) && (decide (s = s') && decide (p = p')))) H)
theorem ok_req {f : Addr} {fd : FuncData} (F : Fun K "__eq__" "Rules.__eq__" s_Rules_eq f fd) (T : RulT P K mg C CB fB) : FnG P w K mg base (CXe P w) 1 f fd ["self", "other"] (spREq K C) := by
  refine F.okG sc_Rules_eq (fun vs H Q E h => ?_) (fun cdv A outer s H vs Q E hgd hr h => ?_)
  · obtain ⟨a, dx, i, s, p, y, t, b, rfl, _⟩ := h; rfl
  · obtain ⟨a, dx, i, sg, pl, y, t, b, rfl, ha, ty, e, k0, k1⟩ := h
    refine ⟨_, (pss_cons (ps_if (pt_not (pt_val (pe_callB call_isi (by rfl) T.n_isinstance (by decide +kernel) (pa_cons (pv 1) (pa_cons (pe_glob (v := .ref _) rfl T.g_Rules rfl) pa_nil))))) (pss_one (ps_ret pe_bl)) pss_nil)
      (pss_one (ps_ret (pe_and (pe_cmpR op_eq (pe_fld (pv 0) rfl) (pe_fld (pv 1) rfl) (nomark _)) (pe_and (pe_cmpR op_eq (pe_fld (pv 0) rfl) (pe_fld (pv 1) rfl) (nomark _)) (pe_one (pe_cmpR op_eq (pe_fld (pv 0) rfl) (pe_fld (pv 1) rfl) (nomark _)))))))), ?_⟩
    refine ⟨_, rfl, _, _, _, _, _, rfl, .own C, ty, e, _, rfl, ?_⟩
    cases b with
    | false => exact iteT (k0 rfl)
    | true =>
      obtain ⟨a', dy, j, s', p', rfl, ha', k2⟩ := k1 rfl
      refine iteF ?_
      refine ⟨_, rfl, a, C, dx, _, _, rfl, ha, T.cl, T.a_cap, rfl, _, rfl, a', C, dy, _, _, rfl, ha', T.cl, T.a_cap, rfl, (rfl : scal _ _ = true), _, rfl, ?_⟩
      by_cases h1 : i = j
      · refine ite2 (fun _ => ?_) (fun z => absurd (by simp [h1]) z)
        refine ⟨_, rfl, a, C, dx, _, _, rfl, ha, T.cl, T.a_strong, rfl, _, rfl, a', C, dy, _, _, rfl, ha', T.cl, T.a_strong, rfl, (rfl : scal _ _ = true), _, rfl, ?_⟩
        by_cases h2 : sg = s'
        · refine ite2 (fun _ => ?_) (fun z => absurd (by simp [h2]) z)
          refine ⟨_, rfl, a, C, dx, _, _, rfl, ha, T.cl, T.a_pull, rfl, _, rfl, a', C, dy, _, _, rfl, ha', T.cl, T.a_pull, rfl, (rfl : scal _ _ = true), ?_⟩
          have e : decide (V.bl pl = V.bl p') = (decide (i = j) && (decide (sg = s') && decide (pl = p'))) := by simp [h1, h2]
          rw [e]
          exact k2
        · refine ite2 (fun z => absurd (by simpa using z) h2) (fun _ => ?_)
          have e : (decide (i = j) && (decide (sg = s') && decide (pl = p'))) = false := by simp [h2]
          rw [e] at k2
          exact k2
      · refine ite2 (fun z => absurd (by simpa using z) h1) (fun _ => ?_)
        have e : (decide (i = j) && (decide (sg = s') && decide (pl = p'))) = false := by simp [h1]
        rw [e] at k2
        exact k2
/-! ### the bags -/
def pairD (a b : Nat) : PyData := .tuple [.int a, .int b]
def rowD (c a : Nat) : List PyData := (List.range (c + 1)).map (pairD a)
def preD (c i : Nat) : List PyData := (List.range i).flatMap (rowD c)
def bagsD (c : Nat) : List PyData := preD c (c + 1)
theorem itr_loop {lo : Int} {n : Nat} {B : V → Hp → (Hp → Prop) → Prop} {Nx : Hp → Prop} {H0 : Hp} (Pv : Nat → Hp → Prop) (h0 : Pv 0 H0) (hs : ∀ j H, j < n → Pv j H → B (.int (lo + (j : Nat))) H (Pv (j + 1))) (hd : ∀ H, Pv n H → Nx H) :
    ∃ W1 : Nat → Nat → Hp → Prop, (∃ m, W1 0 m H0) ∧ ∀ j k H, W1 j k H → ((Itr lo n).stop j H ∧ Nx H) ∨ ((Itr lo n).go j H ∧ ∃ Nx1 : Hp → Prop, (∀ H', Nx1 H' → ∃ k', k' < k ∧ W1 (j + 1) k' H') ∧ ∀ x H', (Itr lo n).yld j H x H' → B x H' Nx1) := by
  refine ⟨fun j k H => k = n - j ∧ j ≤ n ∧ Pv j H, ⟨n, by simp, Nat.zero_le _, h0⟩, ?_⟩
  rintro j k H ⟨rfl, hj, hp⟩
  by_cases h : j < n
  · refine .inr ⟨h, Pv (j + 1), fun H' q => ⟨n - (j + 1), by omega, rfl, h, q⟩, ?_⟩
    rintro x H' ⟨rfl, rfl⟩
    exact hs j H' h hp
  · have e : j = n := by omega
    subst e
    exact .inl ⟨Nat.le_refl _, hd H hp⟩
theorem yes_of {σ : St} {H : Hp} {Q : Bool → Hp → Prop} (h : Q true H) : tYes σ H Q := h
theorem DrAll.snoc {L : Bool} {M : Addr → Prop} {H : Hp} {v : V} {d : PyData} (h : Dr L M H v d) : ∀ {vs : List V} {ds : List PyData}, DrAll L M H vs ds → DrAll L M H (vs ++ [v]) (ds ++ [d])
  | _, _, .nil => .cons h .nil
  | _, _, .cons a t => .cons a (DrAll.snoc h t)
theorem DrAll.len {L : Bool} {M : Addr → Prop} {H : Hp} : ∀ {vs : List V} {ds : List PyData}, DrAll L M H vs ds → vs.length = ds.length
  | _, _, .nil => rfl
  | _, _, .cons _ t => by simp [DrAll.len t]
theorem rowD_len (c a : Nat) : (rowD c a).length = c + 1 := by simp [rowD]
theorem preD_succ (c i : Nat) : preD c (i + 1) = preD c i ++ rowD c i := by simp [preD, List.range_succ]
theorem preD_len (c i : Nat) : (preD c i).length = i * (c + 1) := by
  induction i with
  | zero => simp [preD]
  | succ i ih => rw [preD_succ, List.length_append, ih, rowD_len, Nat.succ_mul]
def spBags (K : PySem.W.Frag) (C : Addr) : Sp := fun vs H Q _ => ∃ (a dx : Addr) (c : Nat) (s p : V) (M : Addr → Prop), vs = [.ref a] ∧ H a = some (.ins C dx (rulesF (.int c) s p)) ∧ 1 ≤ c ∧ c ≤ 2 ∧ (∀ a, M a → H a ≠ none) ∧
  ∀ D H' acc, H D = none → Same H H' → H' D = some (.lst acc) → DrAll true M H' acc (bagsD c) → Q (.ref D) H'
theorem ok_bags {f : Addr} {fd : FuncData} (F : Fun K "bags" "Rules.bags" s_Rules_bags f fd) (T : RulT P K mg C CB fB) : FnG P w K mg base (CXe P w) 1 f fd ["self"] (spBags K C) := by
  refine F.okG sc_Rules_bags (fun vs H Q E h => ?_) (fun cdv A outer s H vs Q E hgd hr h => ?_)
  · obtain ⟨a, dx, c, s, p, M, rfl, _⟩ := h; rfl
  · obtain ⟨a, dx, c, sg, pl, M, rfl, ha, hc1, hc2, hM, k⟩ := h
    refine ⟨_, pss_cons (ps_set (i := 1) sc_Rules_bags.nd rfl (Or.inr rfl) (pe_callTy cr_rangeOne (by rfl) T.n_range (by decide +kernel) (pa_cons (pe_op op_add (pe_fld (pv 0) rfl) pe_int) pa_nil)))
      (pss_one (ps_ret (pe_lc2 (own := [("of_a", 2), ("of_b", 3)]) (vs1 := [3]) (g := gName 2) (g1 := gName 3) (tt := tYes) (tt1 := tYes) rfl sc_Rules_bags.nd (pi_rngV (pv 1)) (blkOk_by (own := [("of_a", 2), ("of_b", 3)]) (N := ["self", "counts", "of_a", "of_b"]) (sc := defScope s_Rules_bags) (by decide +kernel)) (by decide)
        (fun _ _ _ _ _ => pg_name (i := 2) sc_Rules_bags.nd rfl (Or.inl rfl)) (fun _ _ _ _ _ => pts_nil) (fun _ _ _ _ _ => pi_rngV (pv 1)) (fun _ _ _ _ _ => pg_name (i := 3) sc_Rules_bags.nd rfl (Or.inl rfl)) (fun _ _ _ _ _ => pts_nil)
        (fun _ _ _ _ _ => pe_tupA (pa_cons (pv 2) (pa_cons (pv 3) pa_nil)))))), ?_⟩
    refine ⟨_, rfl, a, C, dx, _, _, rfl, ha, T.cl, T.a_cap, rfl, _, _, rfl, rfl, _, rfl, fun r hrr => ?_⟩
    have hn : (((c : Int) + 1) - 0).toNat = c + 1 := by omega
    refine ⟨_, rfl, r, 0, (c : Int) + 1, rfl, upd_same, (by omega), (by omega), (by omega), (by omega), ?_⟩
    rw [hn]
    intro D hD
    generalize hH1 : upd H r (.rng 0 ((c : Int) + 1)) = H1 at hD
    have er : H1 r = some (.rng 0 ((c : Int) + 1)) := by rw [← hH1]; exact upd_same
    have s1 : Same H H1 := by rw [← hH1]; exact same_new hrr
    have hrD : r ≠ D := ne_of_none er hD
    have hDM : ¬ M D := fun z => hM D z (s1.free hD)
    have out : ∀ H', Off (fun b => b = D) H1 H' → H' r = some (.rng 0 ((c : Int) + 1)) := fun H' o => o r _ hrD er
    refine itr_loop (n := c + 1) (fun i H' => ∃ acc, H' D = some (.lst acc) ∧ DrAll true (fun b => M b ∨ b = D) H' acc (preD c i) ∧ Off (fun b => b = D) H1 H') ⟨[], upd_same, .nil, Off.mut rfl⟩ ?_ ?_
    · rintro i H' hi ⟨acc, hacc, hd, off⟩
      refine And.intro rfl (yes_of ?_)
      refine iteT ?_
      refine ⟨_, rfl, r, 0, (c : Int) + 1, rfl, out _ off, (by omega), (by omega), (by omega), (by omega), ?_⟩
      rw [hn]
      refine itr_loop (n := c + 1) (fun j H' => ∃ acc, H' D = some (.lst acc) ∧ DrAll true (fun b => M b ∨ b = D) H' acc (preD c i ++ (List.range j).map (pairD i)) ∧ Off (fun b => b = D) H1 H') ⟨acc, hacc, by simpa using hd, off⟩ ?_ ?_
      · rintro j H2 hj ⟨acc2, hacc2, hd2, off2⟩
        refine And.intro rfl (yes_of ?_)
        refine iteT ?_
        refine ⟨_, rfl, _, rfl, ?_⟩
        refine And.intro (Nat.le_of_ble_eq_true rfl) (fun q H3 n3 => ?_)
        have hDq : D ≠ q := ne_of_none hacc2 n3.free
        refine ⟨acc2, n3.same _ _ hacc2, ?_, ?_⟩
        · have e1 := DrAll.len hd2
          rw [List.length_append, List.length_map, List.length_range, preD_len] at e1
          have e2 : i * (c + 1) ≤ 2 * 3 := Nat.mul_le_mul (by omega) (by omega)
          exact small1000 (by omega)
        · have off3 : Off (fun b => M b ∨ b = D) H3 (upd H3 D (.lst (acc2 ++ [.ref q]))) := Off.mut (Or.inr rfl)
          have hqM : ¬ (M q ∨ q = D) := by
            rintro (z | z)
            · refine hM q z ?_
              cases e : H q with
              | none => rfl
              | some o =>
                have := off2 q o (fun y => hDq (y.symm)) (s1 _ _ e)
                rw [n3.free] at this
                cases this
            · exact hDq z.symm
          refine ⟨acc2 ++ [.ref q], upd_same, ?_, (off2.trans (Off.same n3.same)).trans (Off.mut rfl)⟩
          have hds : (preD c i ++ (List.range (j + 1)).map (pairD i)) = (preD c i ++ (List.range j).map (pairD i)) ++ [pairD i j] := by simp [List.range_succ]
          rw [hds]
          refine DrAll.snoc ?_ ((hd2.keep n3.off).keep off3)
          refine .tup (off3 _ _ hqM n3.at_) hqM (.cons ?_ (.cons ?_ .nil))
          · have : (0 : Int) + (i : Nat) = (i : Int) := by omega
            rw [this]; exact .int _
          · have : (0 : Int) + (j : Nat) = (j : Int) := by omega
            rw [this]; exact .int _
      · rintro H2 ⟨acc2, hacc2, hd2, off2⟩
        exact ⟨acc2, hacc2, by rw [preD_succ]; exact hd2, off2⟩
    · rintro H' ⟨acc, hacc, hd, off⟩
      have hsame : Same H H' := fun b o e => off b o (fun z => by rw [z, s1.free hD] at e; cases e) (s1 _ _ e)
      exact k D H' acc (s1.free hD) hsame hacc (hd.wide fun a z => Or.inl (Or.inl z))
end
end K00
end
section
set_option Elab.async false
set_option linter.all false
set_option maxRecDepth 100000
set_option maxHeartbeats 2000000
namespace K00
open PySem L2
local macro_rules | `(tactic| walk_at "hp") => `(tactic| first | assumption | exact upd_same | (refine (upd_ne (by first | assumption | (apply Ne.symm; assumption))).trans ?_; walk_at "hp"))
local macro_rules | `(tactic| walk_at "rd1") => `(tactic| first
  | (refine ⟨_, rfl, ?_⟩)
  | (refine ⟨_, _, rfl, rfl, ?_⟩)
  | (refine ⟨(rfl : scal _ _ = true), ?_⟩)
  | (refine And.intro (by show (0 : Int) < _; decide) ?_)
  | (refine And.intro (And.intro (by decide) (by decide)) ?_)
  | (refine And.intro (Or.inr (And.intro (by decide) (by decide))) ?_)
  | (refine And.intro (And.intro (by decide) (And.intro (by decide) (by decide))) ?_)
  | (refine And.intro (by assumption) ?_)
  | (refine And.intro (And.intro (by omega) (by omega)) ?_)
  | (refine And.intro (Or.inl (And.intro (by omega) (by omega))) ?_)
  | (refine' ⟨_, _, _, _, rfl, rfl, Or.inl (Or.inl ?h1), ?h2, ?h3⟩; (case h1 => walk_at "hp"); (case h2 => rfl))
  | (refine' ⟨_, _, _, _, rfl, rfl, ?h1, ?h2, ?h3⟩; (case h1 => walk_at "hp"); (case h2 => rfl))
  | (refine' ⟨_, _, rfl, Or.inl (Or.inl (Or.inl ?h1)), ?h3⟩; (case h1 => walk_at "hp"))
  | (refine Or.inl ⟨_, rfl, ?_⟩))
local macro_rules | `(tactic| walk_at "rd") => `(tactic| repeat walk_at "rd1")
theorem sc__law_made : FnScope ["cap", "strong", "pull", "rules", "e"] ["cap", "strong", "pull"] (defScope s__law_made) := ⟨rfl, rfl, rfl, by decide +kernel, rfl, by decide +kernel, by decide +kernel⟩
theorem sc__law_same : FnScope ["one", "other"] ["one", "other"] (defScope s__law_same) := ⟨rfl, rfl, rfl, by decide +kernel, rfl, by decide +kernel, by decide +kernel⟩
theorem sc__law_right : FnScope ["pool", "cap", "strong", "pull", "rules", "due", "a", "b", "k", "told", "other"] ["pool", "cap", "strong", "pull"] (defScope s__law_right) := ⟨rfl, rfl, rfl, by decide +kernel, rfl, by decide +kernel, by decide +kernel⟩
theorem sc_law : FnScope ["script", "pool", "cap", "strong", "pull", "k", "given", "turn", "due", "plain"] ["script"] (defScope s_law) := ⟨rfl, rfl, rfl, by decide +kernel, rfl, by decide +kernel, by decide +kernel⟩
/-- a datum that can be shown, and shortly -/
def Good (M : Addr → Prop) (H : Hp) (v : V) : Prop := ∃ L d, Dr L M H v d ∧ d.showable = true ∧ d.depth ≤ 20 ∧ d.shown.length ≤ 200
theorem tyN_of_dr {L : Bool} {M : Addr → Prop} {H : Hp} {v : V} {d : PyData} (h : Dr L M H v d) : ∃ n, tyN H v = some n := by
  cases h with
  | non => exact ⟨_, rfl⟩
  | bl b => exact ⟨_, rfl⟩
  | int i => exact ⟨_, rfl⟩
  | str x => exact ⟨_, rfl⟩
  | lst e => exact ⟨"list", by simp only [tyN, e]⟩
  | tup e => exact ⟨"tuple", by simp only [tyN, e]⟩
  | dct e => exact ⟨"dict", by simp only [tyN, e]⟩
theorem Good.knd {K : PySem.W.Frag} {M : Addr → Prop} {H : Hp} {v : V} (h : Good M H v) : Knd K H v := by
  obtain ⟨L, d, hd, _⟩ := h
  obtain ⟨n, hn⟩ := tyN_of_dr hd
  exact knd_of hn
theorem Good.keep {M : Addr → Prop} {H H' : Hp} {v : V} (o : Off M H H') (h : Good M H v) : Good M H' v := by
  obtain ⟨L, d, hd, r⟩ := h
  exact ⟨L, d, hd.keep o, r⟩
theorem Good.bl {M : Addr → Prop} {H : Hp} (b : Bool) : Good M H (.bl b) := ⟨true, .bool b, .bl b, rfl, by cases b <;> decide, by cases b <;> decide⟩
theorem Good.small {M : Addr → Prop} {H : Hp} (i : Int) (h1 : 1 ≤ i) (h2 : i ≤ 2) : Good M H (.int i) := by
  have : i = 1 ∨ i = 2 := by omega
  rcases this with rfl | rfl
  · exact ⟨true, .int 1, .int 1, by decide +kernel, by decide, by decide +kernel⟩
  · exact ⟨true, .int 2, .int 2, by decide +kernel, by decide, by decide +kernel⟩
theorem odd_good : ∀ q ∈ oddDs, q.2.showable = true ∧ q.2.depth ≤ 20 ∧ q.2.shown.length ≤ 200 := by decide +kernel
theorem Odd.good {M : Addr → Prop} {H : Hp} {v : V} (h : Odd M H v) : Good M H v := by
  obtain ⟨q, hq, hd⟩ := h
  exact ⟨_, _, hd, odd_good q hq⟩
theorem Knd.same {K : PySem.W.Frag} {M : Addr → Prop} {H H' : Hp} {v : V} (s : Same H H') (h : Good M H v) : Knd K H' v := (h.keep (Off.same s)).knd
def madeV (c s p : V) : List V := if capOk c = false then [.str "refused", c] else if isBl s = false then [.str "refused", s] else if isBl p = false then [.str "refused", p] else [.str "made", c, s, p]
theorem pair_ok {d : PyData} (h1 : d.showable = true) (h2 : d.depth ≤ 20) (h3 : d.shown.length ≤ 200) :
    (PyData.tuple [.str "refused", d]).showable = true ∧ (PyData.tuple [.str "refused", d]).depth ≤ 60 ∧ (PyData.tuple [.str "refused", d]).shown.length ≤ sizeLine := by
  refine ⟨by simp [PyData.showable, PyData.showableAll, h1], ?_, ?_⟩
  · simp only [PyData.depth, PyData.depthAll]; omega
  · have e : (PyData.tuple [.str "refused", d]).shown = tupleText [reprText "refused", d.shown] := rfl
    rw [e]
    unfold tupleText
    rw [strLen_append, strLen_append]
    have j := join_length_add [reprText "refused", d.shown] (by simp)
    have r : (reprText "refused").length = 9 := by decide +kernel
    simp only [piled, List.map_cons, List.map_nil, List.sum_cons, List.sum_nil] at j
    have z : (1000000 : Nat) ≤ sizeLine := by decide +kernel
    have y : ((if ([reprText "refused", d.shown].length == 1) = true then ",)" else ")" : String) : Str).length = 1 := rfl
    have x : ("(" : Str).length = 1 := rfl
    rw [y, x]
    omega
theorem made_ok (c : Int) (h : c = 1 ∨ c = 2) (s p : Bool) :
    (PyData.tuple [.str "made", .int c, .bool s, .bool p]).showable = true ∧ (PyData.tuple [.str "made", .int c, .bool s, .bool p]).depth ≤ 60 ∧ (PyData.tuple [.str "made", .int c, .bool s, .bool p]).shown.length ≤ sizeLine := by
  rcases h with rfl | rfl <;> cases s <;> cases p <;> exact ⟨by decide +kernel, by decide +kernel, by decide +kernel⟩
/-- what is due, told as data -/
theorem made_dr {M : Addr → Prop} {H : Hp} {c s p : V} (gc : Good M H c) (gs : Good M H s) (gp : Good M H p) :
    ∃ L ds, DrAll L M H (madeV c s p) ds ∧ (PyData.tuple ds).showable = true ∧ (PyData.tuple ds).depth ≤ 60 ∧ (PyData.tuple ds).shown.length ≤ sizeLine := by
  have ref : ∀ {v : V}, Good M H v → ∃ L ds, DrAll L M H [.str "refused", v] ds ∧ (PyData.tuple ds).showable = true ∧ (PyData.tuple ds).depth ≤ 60 ∧ (PyData.tuple ds).shown.length ≤ sizeLine := by
    rintro v ⟨L, d, hd, h1, h2, h3⟩
    exact ⟨L, _, .cons (.str _) (.cons hd .nil), pair_ok h1 h2 h3⟩
  unfold madeV
  split
  · exact ref gc
  split
  · exact ref gs
  split
  · exact ref gp
  rename_i h1 h2 h3
  cases c with
  | int i =>
    cases s with
    | bl s =>
      cases p with
      | bl p =>
        have hi : i = 1 ∨ i = 2 := by
          have : 1 ≤ i ∧ i ≤ 2 := by simpa [capOk] using h1
          omega
        exact ⟨true, _, .cons (.str _) (.cons (.int _) (.cons (.bl _) (.cons (.bl _) .nil))), made_ok i hi s p⟩
      | _ => exact absurd rfl h3
    | _ => exact absurd rfl h2
  | _ => exact absurd rfl h1
def spMade (K : PySem.W.Frag) : Sp := fun vs H Q _ => ∃ (c s p : V) (M : Addr → Prop), vs = [c, s, p] ∧ Good M H c ∧ Good M H s ∧ Good M H p ∧ ∀ t H', H t = none → Same H H' → H' t = some (.tup (madeV c s p)) → Q (.ref t) H'
section
variable {P : Program} {w : World} {K : PySem.W.Frag} {mg : Str → Option Value} {base : Heap} {C CB fB : Addr}
theorem ok_made {f : Addr} {fd : FuncData} (F : Fun K "_law_made" "_law_made" s__law_made f fd) (T : RulT P K mg C CB fB) (m_Rules : MakG P w K mg base 4 "Rules" C (spRInit K C CB) []) :
    FnG P w K mg base (CXe P w) 6 f fd ["cap", "strong", "pull"] (spMade K) := by
  refine F.okG sc__law_made (fun vs H Q E h => ?_) (fun cdv A outer s H vs Q E hgd hr h => ?_)
  · obtain ⟨c, s, p, M, rfl, _⟩ := h; rfl
  · obtain ⟨c, sg, pl, M, rfl, gc, gs, gp, k⟩ := h
    refine ⟨_, pss_cons (ps_try_as (i := 4) rfl rfl sc__law_made.nd rfl rfl ⟨rfl, by decide, .inl T.x_BadRules.gC⟩ takes0
        (fun W pn xe tk _ => pss_one (ps_set (i := 3) sc__law_made.nd rfl (Or.inl rfl) (pg_mkS m_Rules hgd hr (by decide) (fun σ => passAt tk σ) (pa_cons (pv 0) (pa_cons (pv 1) (pa_cons (pv 2) pa_nil))))))
        (fun a oe cls d pn hz hf => pss_one (ps_ret (pe_tupA (pa_cons pe_str (pa_cons (pe_xf T.x_BadRules.xf T.x_BadRules.noN hz hf (pv 4)) pa_nil))))))
      (pss_one (ps_ret (pe_tupA (pa_cons pe_str (pa_cons (pe_fld (pv 3) rfl) (pa_cons (pe_fld (pv 3) rfl) (pa_cons (pe_fld (pv 3) rfl) pa_nil))))))), ?_⟩
    refine ⟨_, rfl, _, rfl, _, rfl, fun x dx nx ndx nex => ?_⟩
    have s1 : Same H (upd (upd H dx (.own x)) x (.ins C dx [])) := fun b o e => by
      rw [upd_ne (ne_of_none e nx), upd_ne (ne_of_none e ndx)]
      exact e
    -- the way by the error: v is what it keeps
    have way : ∀ (v : V), madeV c sg pl = [.str "refused", v] → ∀ d, (upd (upd H dx (.own x)) x (.ins C dx [])) d = none → ∀ a, (upd (upd (upd H dx (.own x)) x (.ins C dx [])) d (.xd [("value", v)])) a = none →
        ∀ p H2, New (upd (upd (upd H dx (.own x)) x (.ins C dx [])) d (.xd [("value", v)])) H2 p (.tup [.str "refused", v]) → Q (.ref p) H2 := by
      intro v hv d hd a ha p H2 n2
      have s2 := s1.trans (same_new (o := .xd [("value", v)]) hd)
      exact k p H2 (s2.free n2.free) (s2.trans n2.same) (by rw [hv]; exact n2.at_)
    refine ⟨x, dx, c, sg, pl, rfl, upd_same, Knd.same s1 gc, Knd.same s1 gs, Knd.same s1 gp, fun h1 d hd => ?_, fun h1 h2 d hd => ?_, fun h1 h2 h3 d hd => ?_, fun h1 h2 h3 => ?_⟩
    · refine ⟨true, T.x_BadRules.te, fun _ a ha => ?_, fun z => nomatch z⟩
      refine ⟨_, rfl, rfl, rfl, d, _, c, rfl, upd_same, rfl, ?_⟩
      exact And.intro (Nat.le_of_ble_eq_true rfl) (way c (by simp [madeV, h1]) d hd a ha)
    · refine ⟨true, T.x_BadRules.te, fun _ a ha => ?_, fun z => nomatch z⟩
      refine ⟨_, rfl, rfl, rfl, d, _, sg, rfl, upd_same, rfl, ?_⟩
      exact And.intro (Nat.le_of_ble_eq_true rfl) (way sg (by simp [madeV, h1, h2]) d hd a ha)
    · refine ⟨true, T.x_BadRules.te, fun _ a ha => ?_, fun z => nomatch z⟩
      refine ⟨_, rfl, rfl, rfl, d, _, pl, rfl, upd_same, rfl, ?_⟩
      exact And.intro (Nat.le_of_ble_eq_true rfl) (way pl (by simp [madeV, h1, h2, h3]) d hd a ha)
    · refine ⟨rfl, ?_⟩
      rw [upd_upd]
      refine ⟨_, rfl, x, C, dx, _, _, rfl, upd_same, T.cl, T.a_cap, rfl, _, rfl, x, C, dx, _, _, rfl, upd_same, T.cl, T.a_strong, rfl, _, rfl, x, C, dx, _, _, rfl, upd_same, T.cl, T.a_pull, rfl, ?_⟩
      refine And.intro (Nat.le_of_ble_eq_true rfl) (fun q H2 n2 => ?_)
      have s2 : Same H (upd (upd H dx (.own x)) x (.ins C dx (rulesF c sg pl))) := fun b o e => by
        rw [upd_ne (ne_of_none e nx), upd_ne (ne_of_none e ndx)]
        exact e
      exact k q H2 (s2.free n2.free) (s2.trans n2.same) (by rw [show madeV c sg pl = [.str "made", c, sg, pl] by simp [madeV, h1, h2, h3]]; exact n2.at_)
/-- repr of both, where both are one datum -/
def spSame : Sp := fun vs H Q _ => ∃ (x y : V) (d : PyData) (L : Bool) (M : Addr → Prop), vs = [x, y] ∧ Dr L M H x d ∧ Dr L M H y d ∧ d.showable = true ∧ d.depth ≤ 60 ∧ d.shown.length ≤ sizeLine ∧ Q (.bl true) H
theorem ok_same {f : Addr} {fd : FuncData} (F : Fun K "_law_same" "_law_same" s__law_same f fd) (T : Blt mg) : FnG P w K mg base (CXe P w) 1 f fd ["one", "other"] spSame := by
  refine F.okG sc__law_same (fun vs H Q E h => ?_) (fun cdv A outer s H vs Q E hgd hr h => ?_)
  · obtain ⟨x, y, d, L, M, rfl, _⟩ := h; rfl
  · obtain ⟨x, y, d, L, M, rfl, hx, hy, h1, h2, h3, k⟩ := h
    refine ⟨_, (pss_one (ps_ret (pe_cmpR op_eq (pe_callB (call_reprD hgd hr) (by rfl) T.n_repr (by decide +kernel) (pa_cons (pv 0) pa_nil)) (pe_callB (call_reprD hgd hr) (by rfl) T.n_repr (by decide +kernel) (pa_cons (pv 1) pa_nil)) (nomark _)))), ?_⟩
    refine ⟨_, rfl, x, d, L, M, rfl, hx, h1, h2, h3, _, rfl, y, d, L, M, rfl, hy, h1, h2, h3, (rfl : scal _ _ = true), ?_⟩
    have e : decide (V.str d.shown = V.str d.shown) = true := by simp
    rw [e]
    exact k
/-- a right book of rules is made -/
theorem make_rules {H : Hp} {Q : VK} {E : XK} {c : Int} {s p : Bool} {x dx : Addr} (h1 : 1 ≤ c) (h2 : c ≤ 2) (nx : H x = none) (ndx : H dx = none) (k : ∀ H1, Same H H1 → H1 x = some (.ins C dx (rulesF (.int c) (.bl s) (.bl p))) → Q .non H1) :
    spRInit K C CB [.ref x, .int c, .bl s, .bl p] (upd (upd H dx (.own x)) x (.ins C dx [])) Q E := by
  have hk : capOk (.int c) = true := by simp [capOk, h1, h2]
  refine ⟨x, dx, .int c, .bl s, .bl p, rfl, upd_same, knd_of rfl, knd_of rfl, knd_of rfl, fun z => ?_, fun _ z => ?_, fun _ _ z => ?_, fun _ _ _ => ?_⟩
  · rw [hk] at z; cases z
  · cases z
  · cases z
  · rw [upd_upd]
    refine k _ (fun b o e => ?_) upd_same
    rw [upd_ne (ne_of_none e nx), upd_ne (ne_of_none e ndx)]
    exact e
/-- what the top says of Rules, beyond RulT -/
structure RulQ (K : PySem.W.Frag) (C fE : Addr) : Prop where
  e : EqC K C fE
  ic : C8.InsC K C
  nfT : PySem.W.notFirst K C (.type "tuple") = true
  nfN : PySem.W.notFirst K C (.type "NoneType") = true
  kT : PySem.W.kitOne K (.type "tuple") (.ref C) = some false
  kN : PySem.W.kitOne K (.type "NoneType") (.ref C) = some false
theorem RulQ.nfS {fE : Addr} (q : RulQ K C fE) : PySem.W.notFirst K C (.ref C) = true := by simp [PySem.W.notFirst]
theorem RulQ.ty {fE : Addr} (q : RulQ K C fE) {H : Hp} {a dx : Addr} {fs : List (Str × V)} (h : H a = some (.ins C dx fs)) : TyOf K H (.ref a) (.ref C) := .ins h q.ic.cl q.ic.ha q.ic.hn q.ic.htk q.ic.hm
theorem PoolAt.ne {H : Hp} {l p b : Addr} (h : PoolAt K H l p) (e : H b = none) : b ≠ p := by
  obtain ⟨xs, i, c, n, z, h1, _⟩ := h
  intro z
  rw [← z, e] at h1
  cases h1
/-- all but one list that is no pool stay: the pool stays -/
theorem PoolAt.but {H H1 H' : Hp} {l p D : Addr} (h : PoolAt K H l p) (hD : H D = none) (s : Same H H1) (o : Off (fun b => b = D) H1 H') : PoolAt K H' l p := by
  obtain ⟨xs, i, c, n, z, h1, h2, h3, h4, h5⟩ := h
  exact ⟨xs, i, c, n, z, o _ _ (ne_of_none h1 hD) (s _ _ h1), h2, o _ _ (ne_of_none h3 hD) (s _ _ h3), h4, h5⟩
theorem shaped3 {i : Int} {s p : Bool} (h : i = 1 ∨ i = 2) : SeqAt.shaped (PyData.tuple [.int i, .bool s, .bool p]) = true := by
  rcases h with rfl | rfl <;> cases s <;> cases p <;> decide +kernel
theorem eqv3 {i j : Int} {s p s' p' : Bool} (h : i = 1 ∨ i = 2) (h' : j = 1 ∨ j = 2) : PyData.eqv (.tuple [.int j, .bool s', .bool p']) (.tuple [.int i, .bool s, .bool p]) = (decide (i = j) && (decide (s = s') && decide (p = p'))) := by
  rcases h with rfl | rfl <;> rcases h' with rfl | rfl <;> cases s <;> cases p <;> cases s' <;> cases p' <;> decide +kernel
def spRight (K : PySem.W.Frag) : Sp := fun vs H Q _ => ∃ (l p : Addr) (c : Nat) (s pl : Bool), vs = [.ref p, .int c, .bl s, .bl pl] ∧ PoolAt K H l p ∧ 1 ≤ c ∧ c ≤ 2 ∧ ∀ H', Off (fun b => b = p) H H' → PoolAt K H' l p → Q (.bl true) H'
theorem ok_right {f fE : Addr} {fd fdE : FuncData} (F : Fun K "_law_right" "_law_right" s__law_right f fd) (T : RulT P K mg C CB fB) (TQ : RulQ K C fE) (m_Rules : MakG P w K mg base 4 "Rules" C (spRInit K C CB) []) (t_Rules_bags : MetG P w K mg base 1 C "bags" (spBags K C))
    (q_Rules : FnG P w K mg base (CXe P w) 1 fE fdE ["self", "other"] (spREq K C)) (b_Rules_eq : Binds K fdE ["self", "other"] []) (c__law_draw : CalG P w K mg base 1 "_law_draw" (spDraw K)) (c__law_same : CalG P w K mg base 1 "_law_same" spSame) (c__law_made : CalG P w K mg base 6 "_law_made" (spMade K)) :
    FnG P w K mg base (CXe P w) 7 f fd ["pool", "cap", "strong", "pull"] (spRight K) := by
  have e_Rules := TQ.e
  refine F.okG sc__law_right (fun vs H Q E h => ?_) (fun cdv A outer s H vs Q E hgd hr h => ?_)
  · obtain ⟨l, p, c, s, pl, rfl, _⟩ := h; rfl
  · obtain ⟨l, p, c, sg, pl, rfl, hp, hc1, hc2, k⟩ := h
    refine ⟨_, (pss_cons (ps_set (i := 4) sc__law_right.nd rfl (Or.inl rfl) (pg_mk m_Rules hgd hr (by decide) (pa_cons (pv 1) (pa_cons (pv 2) (pa_cons (pv 3) pa_nil)))))
      (pss_cons (ps_set (i := 5) sc__law_right.nd rfl (Or.inl rfl) (pe_lstA pa_nil))
      (pss_cons (ps_for (passes_of rfl) rfl (pi_range1 (by rfl) T.n_range (pa_cons (pe_op op_add (pv 1) pe_int) pa_nil)) (pg_name (i := 6) sc__law_right.nd rfl (Or.inl rfl))
      (pss_one (ps_for (passes_of rfl) rfl (pi_range1 (by rfl) T.n_range (pa_cons (pe_op op_add (pv 1) pe_int) pa_nil)) (pg_name (i := 7) sc__law_right.nd rfl (Or.inl rfl))
      (pss_one (ps_expr (pe_bm PySem.F.plainAttrs_list PySem.F.slot_list_append PySem.F.type_list_append mt_append (pv 5) (pa_cons (pe_tupA (pa_cons (pv 6) (pa_cons (pv 7) pa_nil))) pa_nil)))))))
      (pss_cons (ps_for (passes_of rfl) rfl (pi_range1 (by rfl) T.n_range (pa_cons pe_int pa_nil)) (pg_name (i := 8) sc__law_right.nd rfl (Or.inl rfl))
      (pss_cons (ps_set (i := 9) sc__law_right.nd rfl (Or.inl rfl) (pg_mt0 t_Rules_bags hgd hr (by decide) (pv 4)))
      (pss_cons (ps_if (PW.pt (pw_or (pt_not (pt_val (pe_callB call_isi (by rfl) T.n_isinstance (by decide +kernel) (pa_cons (pv 9) (pa_cons (pe_bltn (v := .ty "list") (u := .type "list") rfl T.n_list (by decide +kernel) rfl) pa_nil))))) (pw_or1 (pt_not (pt_val (pg_c c__law_same hgd hr (by decide) (pa_cons (pv 9) (pa_cons (pv 5) pa_nil)))))))) (pss_one (ps_ret pe_bl)) pss_nil)
      (pss_one (ps_expr (pe_bm PySem.F.plainAttrs_list PySem.F.slot_list_append PySem.F.type_list_append mt_append (pv 9) (pa_cons (pe_tupA (pa_cons pe_int (pa_cons pe_int pa_nil))) pa_nil)))))))
      (pss_cons (ps_set (i := 10) sc__law_right.nd rfl (Or.inl rfl) (pe_tupA (pa_cons (pe_op op_add pe_int (pg_c c__law_draw hgd hr (by decide) (pa_cons (pv 0) (pa_cons pe_int pa_nil)))) (pa_cons (pe_cmpR op_eq (pg_c c__law_draw hgd hr (by decide) (pa_cons (pv 0) (pa_cons pe_int pa_nil))) pe_int (nomark _)) (pa_cons (pe_cmpR op_eq (pg_c c__law_draw hgd hr (by decide) (pa_cons (pv 0) (pa_cons pe_int pa_nil))) pe_int (nomark _)) pa_nil)))))
      (pss_cons (ps_if (pt_cmpR op_ne (pe_cmpR (op_eqO e_Rules q_Rules hgd (hr.mono (by decide)) b_Rules_eq passL) (pv 4) (pg_mk m_Rules hgd hr (by decide) (pa_cons (pe_ix ix_tup (pv 10) pe_int (fun _ _ => rfl)) (pa_cons (pe_ix ix_tup (pv 10) pe_int (fun _ _ => rfl)) (pa_cons (pe_ix ix_tup (pv 10) pe_int (fun _ _ => rfl)) pa_nil)))) (nomark _)) (pe_cmpR (op_eqD hr.units) (pv 10) (pe_tupA (pa_cons (pv 1) (pa_cons (pv 2) (pa_cons (pv 3) pa_nil)))) (nomark _)) (nomark _)) (pss_one (ps_ret pe_bl)) pss_nil)
      (pss_cons (ps_if (PW.pt (pw_or (pt_cmpR (op_eqO e_Rules q_Rules hgd (hr.mono (by decide)) b_Rules_eq passL) (pv 4) (pe_tupA (pa_cons (pv 1) (pa_cons (pv 2) (pa_cons (pv 3) pa_nil)))) (nomark _)) (pw_or (pt_cmpR (op_eqO e_Rules q_Rules hgd (hr.mono (by decide)) b_Rules_eq passL) (pv 4) pe_non (nomark _)) (pw_or1 (pt_cmpR (op_neO e_Rules q_Rules hgd (hr.mono (by decide)) b_Rules_eq passL) (pv 4) (pg_mk m_Rules hgd hr (by decide) (pa_cons (pv 1) (pa_cons (pv 2) (pa_cons (pv 3) pa_nil)))) (nomark _)))))) (pss_one (ps_ret pe_bl)) pss_nil)
      (pss_one (ps_ret (pg_c c__law_same hgd hr (by decide) (pa_cons (pg_c c__law_made hgd hr (by decide) (pa_cons (pv 1) (pa_cons (pv 2) (pa_cons (pv 3) pa_nil)))) (pa_cons (pe_tupA (pa_cons pe_str (pa_cons (pv 1) (pa_cons (pv 2) (pa_cons (pv 3) pa_nil))))) pa_nil)))))))))))), ?_⟩
    refine ⟨_, rfl, _, rfl, _, rfl, fun x dx nx ndx nex => ?_⟩
    refine make_rules (by omega) (by omega) nx ndx (fun H1 s1 hx => ?_)
    refine ⟨rfl, ?_⟩
    refine And.intro (Nat.le_of_ble_eq_true rfl) (fun du H2 n2 => ?_)
    have pne : ∀ {b : Addr} {H' : Hp} {o : HO}, H b = none → b ≠ p := fun hb z => by
      obtain ⟨xs, i, c, n, z1, h1, _⟩ := hp
      rw [← z, hb] at h1
      cases h1
    have s2 : Same H H2 := s1.trans n2.same
    have hdu : H du = none := s1.free n2.free
    have hxdu : x ≠ du := ne_of_none hx n2.free
    -- due = [(a, b), ..]
    have hcn : ((c : Int) + 1).toNat = c + 1 := by omega
    refine ⟨_, rfl, _, _, rfl, rfl, _, rfl, (by omega), (by omega), ?_⟩
    rw [hcn]
    refine for_range (n := c + 1) (fun i σ H' => ∃ (a b : Option V) (acc : List V), σ = [some (.ref p), some (.int c), some (.bl sg), some (.bl pl), some (.ref x), some (.ref du), a, b, none, none, none] ∧
      H' du = some (.lst acc) ∧ DrAll true (fun b => b = p ∨ b = du) H' acc (preD c i) ∧ Off (fun b => b = du) H2 H') ⟨none, none, [], rfl, n2.at_, .nil, Off.refl _⟩ ?_ ?_
    · rintro i σ H3 hi ⟨a, b, acc, rfl, hacc, hd, off⟩
      refine ⟨_, rfl, _, _, rfl, rfl, _, rfl, (by omega), (by omega), ?_⟩
      rw [hcn]
      refine for_range (n := c + 1) (fun j σ H' => ∃ (b : Option V) (acc : List V), σ = [some (.ref p), some (.int c), some (.bl sg), some (.bl pl), some (.ref x), some (.ref du), some (.int (0 + (i : Nat))), b, none, none, none] ∧
        H' du = some (.lst acc) ∧ DrAll true (fun b => b = p ∨ b = du) H' acc (preD c i ++ (List.range j).map (pairD i)) ∧ Off (fun b => b = du) H2 H') ⟨b, acc, rfl, hacc, by simpa using hd, off⟩ ?_ ?_
      · rintro j σ H4 hj ⟨b', acc2, rfl, hacc2, hd2, off2⟩
        refine ⟨_, rfl, .inl ⟨rfl, _, SqL.of hacc2⟩, _, rfl, _, rfl, ?_⟩
        refine And.intro (Nat.le_of_ble_eq_true rfl) (fun q H5 n5 => ?_)
        have hDq : du ≠ q := ne_of_none hacc2 n5.free
        refine ⟨du, acc2, _, rfl, rfl, n5.same _ _ hacc2, ?_, ?_⟩
        · have e1 := DrAll.len hd2
          rw [List.length_append, List.length_map, List.length_range, preD_len] at e1
          have e2 : i * (c + 1) ≤ 2 * 3 := Nat.mul_le_mul (by omega) (by omega)
          exact small1000 (by omega)
        · have off3 : Off (fun b => b = p ∨ b = du) H5 (upd H5 du (.lst (acc2 ++ [.ref q]))) := Off.mut (Or.inr rfl)
          have hq4 : H q = none := by
            cases e : H q with
            | none => rfl
            | some o =>
              have := off2 q o (fun y => hDq y.symm) (s2 _ _ e)
              rw [n5.free] at this
              cases this
          have hqM : ¬ (q = p ∨ q = du) := by
            rintro (z | z)
            · exact pne (H' := H) (o := .lst []) hq4 z
            · exact hDq z.symm
          refine ⟨_, acc2 ++ [.ref q], rfl, upd_same, ?_, (off2.trans (Off.same n5.same)).trans (Off.mut rfl)⟩
          have hds : (preD c i ++ (List.range (j + 1)).map (pairD i)) = (preD c i ++ (List.range j).map (pairD i)) ++ [pairD i j] := by simp [List.range_succ]
          rw [hds]
          refine DrAll.snoc ?_ ((hd2.keep n5.off).keep off3)
          refine .tup (off3 _ _ hqM n5.at_) hqM (.cons ?_ (.cons ?_ .nil))
          · have : (0 : Int) + (i : Nat) = (i : Int) := by omega
            rw [this]; exact .int _
          · have : (0 : Int) + (j : Nat) = (j : Int) := by omega
            rw [this]; exact .int _
      · rintro σ H4 ⟨b', acc2, rfl, hacc2, hd2, off2⟩
        exact ⟨_, b', acc2, rfl, hacc2, by rw [preD_succ]; exact hd2, off2⟩
    · rintro σ H3 ⟨a, b, due, rfl, hdue, hd, off⟩
      have s3 : Same H H3 := fun b o e => off b o (fun z => by rw [z, hdu] at e; cases e) (s2 _ _ e)
      have hp3 : PoolAt K H3 l p := hp.same s3
      have hx3 : H3 x = some (.ins C dx (rulesF (.int c) (.bl sg) (.bl pl))) := off _ _ hxdu (n2.same _ _ hx)
      have hdu_p : du ≠ p := pne (H' := H) (o := .lst []) hdu
      have hdD : Dr true (fun b => b = p) H3 (.ref du) (.list (bagsD c)) := .lst hdue hdu_p rfl (hd.wide fun a z => Or.inl (Or.inl z))
      have bagsOk : (PyData.list (bagsD c)).showable = true ∧ (PyData.list (bagsD c)).depth ≤ 60 ∧ (PyData.list (bagsD c)).shown.length ≤ sizeLine := by
        have : c = 1 ∨ c = 2 := by omega
        rcases this with rfl | rfl
        · exact ⟨by decide +kernel, by decide +kernel, by decide +kernel⟩
        · exact ⟨by decide +kernel, by decide +kernel, by decide +kernel⟩
      -- two times the bags
      refine ⟨2, rfl, by decide, by decide, for_range (n := 2) (fun i σ H' => ∃ (a b k t : Option V), σ = [some (.ref p), some (.int c), some (.bl sg), some (.bl pl), some (.ref x), some (.ref du), a, b, k, t, none] ∧ Same H3 H') ⟨a, b, none, none, rfl, Same.refl _⟩ ?_ ?_⟩
      · rintro i σ H4 hi ⟨a, b, kk, t, rfl, s4⟩
        refine ⟨_, rfl, x, dx, _, rfl, s4 _ _ hx3, rfl, ?_⟩
        refine ⟨x, dx, c, .bl sg, .bl pl, (fun b => b = p), rfl, s4 _ _ hx3, hc1, hc2, fun a z => ?_, fun D H5 acc hD s5 hacc hdr => ?_⟩
        · obtain ⟨xs, i, c, n, z1, h1, _⟩ := hp3.same s4
          rw [z, h1]
          exact fun q => nomatch q
        have hDp : D ≠ p := pne (H' := H) (o := .lst []) ((s3.trans s4).free hD)
        refine ⟨_, rfl, _, _, _, _, _, rfl, .ty _, .base (.lst hacc), kit_ty (b := "list") (r := true) (by decide +kernel), _, rfl, ?_⟩
        refine iteF ?_
        refine ⟨_, rfl, _, rfl, .ref D, .ref du, _, true, (fun b => b = p), rfl, .lst hacc hDp rfl hdr, hdD.keep ((Off.same s4).trans (Off.same s5)), bagsOk.1, bagsOk.2.1, bagsOk.2.2, _, rfl, ?_⟩
        refine iteF ?_
        refine ⟨_, rfl, .inl ⟨rfl, _, SqL.of hacc⟩, ?_⟩
        refine And.intro (Nat.le_of_ble_eq_true rfl) (fun q H6 n6 => ?_)
        refine ⟨D, acc, _, rfl, rfl, n6.same _ _ hacc, ?_, ?_⟩
        · have e1 := DrAll.len hdr
          rw [show bagsD c = preD c (c + 1) from rfl, preD_len] at e1
          have e2 : (c + 1) * (c + 1) ≤ 3 * 3 := Nat.mul_le_mul (by omega) (by omega)
          exact small1000 (by omega)
        · refine ⟨_, _, _, _, rfl, fun b o e => ?_⟩
          have hbD : b ≠ D := fun z => by
            rw [z, s4.free hD] at e
            cases e
          rw [upd_ne hbD]
          exact n6.same _ _ (s5 _ _ (s4 _ _ e))
      · rintro σ H4 ⟨a, b, kk, t, rfl, s4⟩
        have hp4 : PoolAt K H4 l p := hp3.same s4
        have hx4 := s4 _ _ hx3
        have hxp : x ≠ p := pne (H' := H) (o := .lst []) nx
        walk_at "rd"
        refine ⟨l, p, 2, rfl, hp4, by decide, by decide, fun r1 H5 ra1 rb1 o5 hp5 => ?_⟩
        walk_at "rd"
        refine ⟨l, p, 2, rfl, hp5, by decide, by decide, fun r2 H6 ra2 rb2 o6 hp6 => ?_⟩
        refine ⟨(rfl : scal _ _ = true), ?_⟩
        walk_at "rd"
        refine ⟨l, p, 2, rfl, hp6, by decide, by decide, fun r3 H7 ra3 rb3 o7 hp7 => ?_⟩
        refine ⟨(rfl : scal _ _ = true), ?_⟩
        have o47 : Off (fun b => b = p) H4 H7 := (o5.trans o6).trans o7
        have hx7 := o47 _ _ hxp hx4
        refine And.intro (Nat.le_of_ble_eq_true rfl) (fun t3 H8 n8 => ?_)
        have hx8 := n8.same _ _ hx7
        have hp8 := hp7.same n8.same
        walk_at "rd"
        refine ⟨t3, _, 0, _, rfl, rfl, SqT.of n8.at_, rfl, ?_⟩
        walk_at "rd"
        refine ⟨t3, _, 1, _, rfl, rfl, SqT.of n8.at_, rfl, ?_⟩
        walk_at "rd"
        refine ⟨t3, _, 2, _, rfl, rfl, SqT.of n8.at_, rfl, ?_⟩
        refine fun x2 d2 nx2 nd2 nex2 => ?_
        refine make_rules (by omega) (by omega) nx2 nd2 (fun H9 s9 hx9' => ?_)
        refine ⟨rfl, ?_⟩
        have hx9 := s9 _ _ hx8
        refine ⟨x, dx, _, .ref C, rfl, hx9, TQ.ty hx9', TQ.nfS, ?_⟩
        refine ⟨x, dx, c, sg, pl, .ref x2, .ref C, true, rfl, hx9, .base (TQ.ty hx9'), TQ.ic.me, And.intro (fun z => nomatch z) (fun _ => ?_)⟩
        refine ⟨x2, d2, _, _, _, rfl, hx9', _, rfl, ?_⟩
        walk_at "rd"
        have n9 := s9 _ _ n8.at_
        refine And.intro (Nat.le_of_ble_eq_true rfl) (fun t4 H10 n10 => ?_)
        have hx10 := n10.same _ _ hx9
        refine ⟨_, _, .tup (SqT.of (n10.same _ _ n9)) (.cons (.int _) (.cons (.bl _) (.cons (.bl _) .nil))), .tup (SqT.of n10.at_) (.cons (.int _) (.cons (.bl _) (.cons (.bl _) .nil))), ?_, ?_, ?_⟩
        · exact shaped3 (by omega)
        · exact shaped3 (by omega)
        rw [eqv3 (by omega) (by omega)]
        refine ⟨(rfl : scal _ _ = true), ?_⟩
        rw [show (!decide (V.bl (decide ((c : Int) = 1 + r1) && (decide (sg = decide (V.int r2 = V.int 0)) && decide (pl = decide (V.int r3 = V.int 0)))) = V.bl (decide ((c : Int) = 1 + r1) && (decide (sg = decide (V.int r2 = V.int 0)) && decide (pl = decide (V.int r3 = V.int 0)))))) = false by simp]
        refine ⟨_, rfl, ?_⟩
        refine iteF ?_
        walk_at "rd"
        refine And.intro (Nat.le_of_ble_eq_true rfl) (fun t5 H11 n11 => ?_)
        have hx11 := n11.same _ _ hx10
        refine ⟨x, dx, _, _, rfl, hx11, .tup n11.at_, TQ.nfT, ?_⟩
        refine ⟨x, dx, c, sg, pl, .ref t5, _, false, rfl, hx11, .base (.tup n11.at_), TQ.kT, And.intro (fun _ => ?_) (fun z => nomatch z)⟩
        refine ⟨_, rfl, _, rfl, ?_⟩
        refine iteF ?_
        walk_at "rd"
        refine ⟨x, dx, _, _, rfl, hx11, .non, TQ.nfN, ?_⟩
        refine ⟨x, dx, c, sg, pl, .non, _, false, rfl, hx11, .base .non, TQ.kN, And.intro (fun _ => ?_) (fun z => nomatch z)⟩
        refine ⟨_, rfl, _, rfl, ?_⟩
        refine iteF ?_
        walk_at "rd"
        refine fun x3 d3 nx3 nd3 nex3 => ?_
        refine make_rules (by omega) (by omega) nx3 nd3 (fun H12 s12 hx12' => ?_)
        refine ⟨rfl, ?_⟩
        have hx12 := s12 _ _ hx11
        refine ⟨x, dx, _, .ref C, rfl, hx12, TQ.ty hx12', TQ.nfS, ?_⟩
        refine ⟨x, dx, c, sg, pl, .ref x3, .ref C, true, rfl, hx12, .base (TQ.ty hx12'), TQ.ic.me, And.intro (fun z => nomatch z) (fun _ => ?_)⟩
        refine ⟨x3, d3, _, _, _, rfl, hx12', _, rfl, ?_⟩
        refine ⟨_, rfl, ?_⟩
        rw [show (!(decide ((c : Int) = c) && (decide (sg = sg) && decide (pl = pl)))) = false by simp]
        refine iteF ?_
        walk_at "rd"
        refine ⟨.int c, .bl sg, .bl pl, (fun b => b = p), rfl, .small _ (by omega) (by omega), .bl _, .bl _, fun t6 H13 nt6 s13 ht6 => ?_⟩
        walk_at "rd"
        refine And.intro (Nat.le_of_ble_eq_true rfl) (fun t7 H14 n14 => ?_)
        have s04 : Off (fun b => b = p) H H4 := Off.same (s3.trans s4)
        have s814 : Same H7 H14 := ((((((n8.same.trans s9).trans n10.same).trans n11.same).trans s12).trans s13).trans n14.same)
        have o014 : Off (fun b => b = p) H H14 := (s04.trans o47).trans (Off.same s814)
        have hp14 := hp7.same s814
        have ok := made_ok c (by omega) sg pl
        have hm : madeV (.int c) (.bl sg) (.bl pl) = [.str "made", .int c, .bl sg, .bl pl] := by
          have : capOk (.int c) = true := by simp [capOk]; omega
          simp [madeV, this, isBl]
        rw [hm] at ht6
        refine ⟨.ref t6, .ref t7, _, true, (fun b => b = p), rfl, .tup (n14.same _ _ ht6) ?_ (.cons (.str _) (.cons (.int _) (.cons (.bl _) (.cons (.bl _) .nil)))), .tup n14.at_ ?_ (.cons (.str _) (.cons (.int _) (.cons (.bl _) (.cons (.bl _) .nil)))), ok.1, ok.2.1, ok.2.2, k H14 o014 hp14⟩
        · exact (((((hp8.same s9).same n10.same).same n11.same).same s12).ne nt6)
        · exact ((((((hp8.same s9).same n10.same).same n11.same).same s12).same s13).ne n14.free)
end
end K00
end
section
set_option Elab.async false
set_option linter.all false
set_option maxRecDepth 100000
set_option maxHeartbeats 2000000
namespace K00
open PySem L2
local macro_rules | `(tactic| walk_at "hp") => `(tactic| first | assumption | exact upd_same | (refine (upd_ne (by first | assumption | (apply Ne.symm; assumption))).trans ?_; walk_at "hp"))
local macro_rules | `(tactic| walk_at "rd1") => `(tactic| first
  | (refine ⟨_, rfl, ?_⟩)
  | (refine ⟨_, _, rfl, rfl, ?_⟩)
  | (refine ⟨(rfl : scal _ _ = true), ?_⟩)
  | (refine And.intro (by show (0 : Int) < _; decide) ?_)
  | (refine And.intro (And.intro (by decide) (by decide)) ?_)
  | (refine And.intro (by assumption) ?_)
  | (refine Or.inl ⟨_, rfl, ?_⟩))
local macro_rules | `(tactic| walk_at "rd") => `(tactic| repeat walk_at "rd1")
section
variable {P : Program} {w : World} {K : PySem.W.Frag} {mg : Str → Option Value} {base : Heap} {C CB fB : Addr}
theorem PoolAt.nel {H : Hp} {l p b : Addr} (h : PoolAt K H l p) (e : H b = none) : b ≠ l := by
  obtain ⟨xs, i, c, n, z, h1, h2, h3, _⟩ := h
  intro z
  rw [← z, e] at h3
  cases h3
theorem PoolAt.mut {H : Hp} {l p q : Addr} {o : HO} (h : PoolAt K H l p) (h1 : q ≠ p) (h2 : q ≠ l) : PoolAt K (upd H q o) l p := by
  obtain ⟨xs, i, c, n, z, e1, e2, e3, e4⟩ := h
  exact ⟨xs, i, c, n, z, by rw [upd_ne h1.symm]; exact e1, e2, by rw [upd_ne h2.symm]; exact e3, e4⟩
theorem Off.wider {M M' : Addr → Prop} {H H' : Hp} (z : ∀ a, M a → M' a) (h : Off M H H') : Off M' H H' := fun b o n e => h b o (fun m => n (z _ m)) e
def spLaw (K : PySem.W.Frag) : Sp := fun vs H Q _ => ∃ (a : Addr) (ns : List Int), vs = [.ref a] ∧ SqL K H a (ns.map V.int) ∧ ns.length ≤ 63 ∧ ∀ H', Q (.bl true) H'
theorem ok_law {f fE : Addr} {fd fdE : FuncData} (F : Fun K "law" "law" s_law f fd) (T : RulT P K mg C CB fB) (TQ : RulQ K C fE) (m_Rules0 : MakG P w K mg base 4 "Rules" C (spRInit K C CB) [.int 1, .bl false, .bl false]) (m_Rules : MakG P w K mg base 4 "Rules" C (spRInit K C CB) [])
    (q_Rules : FnG P w K mg base (CXe P w) 1 fE fdE ["self", "other"] (spREq K C)) (b_Rules_eq : Binds K fdE ["self", "other"] []) (c__law_pool : CalG P w K mg base 1 "_law_pool" (spPool K)) (c__law_draw : CalG P w K mg base 1 "_law_draw" (spDraw K)) (c__law_odd : CalG P w K mg base 2 "_law_odd" (spOdd K)) (c__law_same : CalG P w K mg base 1 "_law_same" spSame) (c__law_made : CalG P w K mg base 6 "_law_made" (spMade K)) (c__law_right : CalG P w K mg base 7 "_law_right" (spRight K)) :
    FnG P w K mg base (CXe P w) 8 f fd ["script"] (spLaw K) := by
  have e_Rules := TQ.e
  refine F.okG sc_law (fun vs H Q E h => ?_) (fun cdv A outer s H vs Q E hgd hr h => ?_)
  · obtain ⟨a, ns, rfl, _⟩ := h; rfl
  · obtain ⟨a, ns, rfl, hs, hl, k⟩ := h
    refine ⟨_, (pss_cons (ps_set (i := 1) sc_law.nd rfl (Or.inl rfl) (pg_c c__law_pool hgd hr (by decide) (pa_cons (pv 0) pa_nil)))
      (pss_cons (ps_set (i := 2) sc_law.nd rfl (Or.inl rfl) (pe_op op_add pe_int (pg_c c__law_draw hgd hr (by decide) (pa_cons (pv 1) (pa_cons pe_int pa_nil)))))
      (pss_cons (ps_set (i := 3) sc_law.nd rfl (Or.inl rfl) (pe_cmpR op_eq (pg_c c__law_draw hgd hr (by decide) (pa_cons (pv 1) (pa_cons pe_int pa_nil))) pe_int (nomark _)))
      (pss_cons (ps_set (i := 4) sc_law.nd rfl (Or.inl rfl) (pe_cmpR op_eq (pg_c c__law_draw hgd hr (by decide) (pa_cons (pv 1) (pa_cons pe_int pa_nil))) pe_int (nomark _)))
      (pss_cons (ps_if (pt_not (pt_val (pg_c c__law_right hgd hr (by decide) (pa_cons (pv 1) (pa_cons (pv 2) (pa_cons (pv 3) (pa_cons (pv 4) pa_nil))))))) (pss_one (ps_ret pe_bl)) pss_nil)
      (pss_cons (ps_for (passes_of rfl) rfl (pi_range1 (by rfl) T.n_range (pa_cons pe_int pa_nil)) (pg_name (i := 5) sc_law.nd rfl (Or.inl rfl))
      (pss_cons (ps_set (i := 6) sc_law.nd rfl (Or.inl rfl) (pe_lstA (pa_cons (pv 2) (pa_cons (pv 3) (pa_cons (pv 4) pa_nil)))))
      (pss_cons (ps_for (passes_of rfl) rfl (pi_range1 (by rfl) T.n_range (pa_cons (pe_op op_add pe_int (pg_c c__law_draw hgd hr (by decide) (pa_cons (pv 1) (pa_cons pe_int pa_nil)))) pa_nil)) (pg_name (i := 7) sc_law.nd rfl (Or.inl rfl))
      (pss_one (ps_asg (pg_c c__law_odd hgd hr (by decide) (pa_cons (pv 1) pa_nil)) (pg_sub (pv 6) (pg_c c__law_draw hgd hr (by decide) (pa_cons (pv 1) (pa_cons pe_int pa_nil))) set_list))))
      (pss_cons (ps_set (i := 8) sc_law.nd rfl (Or.inl rfl) (pe_tupA (pa_cons pe_str (pa_cons (pe_ix ix_list (pv 6) pe_int (fun _ _ => rfl)) (pa_cons (pe_ix ix_list (pv 6) pe_int (fun _ _ => rfl)) (pa_cons (pe_ix ix_list (pv 6) pe_int (fun _ _ => rfl)) pa_nil))))))
      (C8.pss_cut (ps_if (pt_not (pt_val (pe_callB call_isi (by rfl) T.n_isinstance (by decide +kernel) (pa_cons (pe_ix ix_list (pv 6) pe_int (fun _ _ => rfl)) (pa_cons (pe_bltn (v := .ty "bool") (u := .type "bool") rfl T.n_bool (by decide +kernel) rfl) pa_nil))))) (pss_one (ps_set (i := 8) sc_law.nd rfl (Or.inl rfl) (pe_tupA (pa_cons pe_str (pa_cons (pe_ix ix_list (pv 6) pe_int (fun _ _ => rfl)) pa_nil))))) pss_nil)
      (C8.pss_cut (ps_if (pt_not (pt_val (pe_callB call_isi (by rfl) T.n_isinstance (by decide +kernel) (pa_cons (pe_ix ix_list (pv 6) pe_int (fun _ _ => rfl)) (pa_cons (pe_bltn (v := .ty "bool") (u := .type "bool") rfl T.n_bool (by decide +kernel) rfl) pa_nil))))) (pss_one (ps_set (i := 8) sc_law.nd rfl (Or.inl rfl) (pe_tupA (pa_cons pe_str (pa_cons (pe_ix ix_list (pv 6) pe_int (fun _ _ => rfl)) pa_nil))))) pss_nil)
      (C8.pss_cut (ps_if (PW.pt (pw_or (pt_val (pe_callB call_isi (by rfl) T.n_isinstance (by decide +kernel) (pa_cons (pe_ix ix_list (pv 6) pe_int (fun _ _ => rfl)) (pa_cons (pe_bltn (v := .ty "bool") (u := .type "bool") rfl T.n_bool (by decide +kernel) rfl) pa_nil)))) (pw_or (pt_not (pt_val (pe_callB call_isi (by rfl) T.n_isinstance (by decide +kernel) (pa_cons (pe_ix ix_list (pv 6) pe_int (fun _ _ => rfl)) (pa_cons (pe_bltn (v := .ty "int") (u := .type "int") rfl T.n_int (by decide +kernel) rfl) pa_nil))))) (pw_or (pt_cmpR op_lt (pe_ix ix_list (pv 6) pe_int (fun _ _ => rfl)) pe_int (nomark _)) (pw_or1 (pt_cmpR op_gt (pe_ix ix_list (pv 6) pe_int (fun _ _ => rfl)) pe_int (nomark _))))))) (pss_one (ps_set (i := 8) sc_law.nd rfl (Or.inl rfl) (pe_tupA (pa_cons pe_str (pa_cons (pe_ix ix_list (pv 6) pe_int (fun _ _ => rfl)) pa_nil))))) pss_nil)
      (pss_one (ps_if (pt_not (pt_val (pg_c c__law_same hgd hr (by decide) (pa_cons (pg_c c__law_made hgd hr (by decide) (pa_cons (pe_ix ix_list (pv 6) pe_int (fun _ _ => rfl)) (pa_cons (pe_ix ix_list (pv 6) pe_int (fun _ _ => rfl)) (pa_cons (pe_ix ix_list (pv 6) pe_int (fun _ _ => rfl)) pa_nil)))) (pa_cons (pv 8) pa_nil))))) (pss_one (ps_ret pe_bl)) pss_nil)))))))))
      (pss_cons (ps_set (i := 9) sc_law.nd rfl (Or.inl rfl) (pg_mk0 m_Rules0 hgd hr (by decide)))
      (pss_one (ps_ret (pe_and (pg_c c__law_same hgd hr (by decide) (pa_cons (pe_tupA (pa_cons (pe_fld (pv 9) rfl) (pa_cons (pe_fld (pv 9) rfl) (pa_cons (pe_fld (pv 9) rfl) pa_nil)))) (pa_cons (pe_tupA (pa_cons pe_int (pa_cons pe_bl (pa_cons pe_bl pa_nil)))) pa_nil))) (pe_one (pe_cmpR (op_eqO e_Rules q_Rules hgd (hr.mono (by decide)) b_Rules_eq passL) (pv 9) (pg_mk m_Rules hgd hr (by decide) (pa_cons pe_int (pa_cons pe_bl (pa_cons pe_bl pa_nil)))) (nomark _))))))))))))), ?_⟩
    refine ⟨_, rfl, ?_⟩
    refine ⟨a, ns, rfl, hs, hl, fun l p H1 np s1 hp1 => ?_⟩
    walk_at "rd"
    refine ⟨l, p, 2, rfl, hp1, by decide, by decide, fun r1 H2 ra1 rb1 o2 hp2 => ?_⟩
    walk_at "rd"
    obtain ⟨c, hc⟩ : ∃ c : Nat, 1 + r1 = (c : Int) := ⟨(1 + r1).toNat, by omega⟩
    rw [show (fun i j : Int => V.int (i + j)) 1 r1 = V.int (c : Int) from congrArg V.int hc]
    refine ⟨l, p, 2, rfl, hp2, by decide, by decide, fun r2 H3 ra2 rb2 o3 hp3 => ?_⟩
    refine ⟨(rfl : scal _ _ = true), ?_⟩
    walk_at "rd"
    refine ⟨l, p, 2, rfl, hp3, by decide, by decide, fun r3 H4 ra3 rb3 o4 hp4 => ?_⟩
    refine ⟨(rfl : scal _ _ = true), ?_⟩
    walk_at "rd"
    generalize decide (V.int r2 = V.int 0) = sg
    generalize decide (V.int r3 = V.int 0) = pl
    refine ⟨l, p, c, sg, pl, rfl, hp4, by omega, by omega, fun H5 o5 hp5 => ?_⟩
    refine ⟨_, rfl, ?_⟩
    refine iteF ?_
    refine ⟨6, rfl, by decide, by decide, for_range (n := 6) (fun i σ H' => ∃ (kk g t d : Option V), σ = [some (.ref a), some (.ref p), some (.int c), some (.bl sg), some (.bl pl), kk, g, t, d, none] ∧ PoolAt K H' l p) ⟨none, none, none, none, rfl, hp5⟩ ?_ ?_⟩
    · rintro i σ H6 hi ⟨kk, g, t, d, rfl, hp6⟩
      walk_at "rd"
      refine And.intro (Nat.le_of_ble_eq_true rfl) (fun q H7 n7 => ?_)
      have hp7 := hp6.same n7.same
      have hqp : q ≠ p := hp6.ne n7.free
      walk_at "rd"
      have hql : q ≠ l := hp6.nel n7.free
      refine ⟨l, p, 3, rfl, hp7, by decide, by decide, fun r4 H8 ra4 rb4 o8 hp8 => ?_⟩
      walk_at "rd"
      refine ⟨by omega, by omega, for_range (n := (1 + r4).toNat) (fun j σ H' => ∃ (t d : Option V) (v0 v1 v2 : V), σ = [some (.ref a), some (.ref p), some (.int c), some (.bl sg), some (.bl pl), some (.int (0 + (i : Nat))), some (.ref q), t, d, none] ∧ PoolAt K H' l p ∧
        H' q = some (.lst [v0, v1, v2]) ∧ Good (fun b => b = p ∨ b = q) H' v0 ∧ Good (fun b => b = p ∨ b = q) H' v1 ∧ Good (fun b => b = p ∨ b = q) H' v2) ⟨t, d, _, _, _, rfl, hp8, o8 _ _ hqp n7.at_, .small _ (by omega) (by omega), .bl _, .bl _⟩ ?_ ?_⟩
      · rintro j σ H9 hj ⟨t, d, v0, v1, v2, rfl, hp9, hq9, g0, g1, g2⟩
        walk_at "rd"
        refine ⟨l, p, (fun b => b = p ∨ b = q), rfl, hp9, .inl rfl, ?_, fun v H10 o10 hp10 ov => ?_⟩
        · rintro b (rfl | rfl) z
          · exact hp9.ne z rfl
          · rw [hq9] at z; cases z
        have wide : Off (fun b => b = p ∨ b = q) H9 H10 := Off.wider (fun _ z => .inl z) o10
        walk_at "rd"
        refine ⟨l, p, 3, rfl, hp10, by decide, by decide, fun r5 H11 ra5 rb5 o11 hp11 => ?_⟩
        have wide2 : Off (fun b => b = p ∨ b = q) H9 H11 := wide.trans (Off.wider (fun _ z => .inl z) o11)
        have hq11 := o11 _ _ hqp (o10 _ _ hqp hq9)
        have mt : ∀ o, Off (fun b => b = p ∨ b = q) H11 (upd H11 q o) := fun o => Off.mut (.inr rfl)
        have gv : ∀ o, Good (fun b => b = p ∨ b = q) (upd H11 q o) v := fun o => (ov.good.keep (Off.wider (fun _ z => .inl z) o11)).keep (mt o)
        have gk : ∀ {u : V} o, Good (fun b => b = p ∨ b = q) H9 u → Good (fun b => b = p ∨ b = q) (upd H11 q o) u := fun o g => (g.keep wide2).keep (mt o)
        have hr5 : r5 = 0 ∨ r5 = 1 ∨ r5 = 2 := by omega
        rcases hr5 with rfl | rfl | rfl
        · exact ⟨q, _, 0, 0, rfl, rfl, hq11, rfl, _, d, v, v1, v2, rfl, hp11.mut hqp hql, upd_same, gv _, gk _ g1, gk _ g2⟩
        · exact ⟨q, _, 1, 1, rfl, rfl, hq11, rfl, _, d, v0, v, v2, rfl, hp11.mut hqp hql, upd_same, gk _ g0, gv _, gk _ g2⟩
        · exact ⟨q, _, 2, 2, rfl, rfl, hq11, rfl, _, d, v0, v1, v, rfl, hp11.mut hqp hql, upd_same, gk _ g0, gk _ g1, gv _⟩
      · rintro σ H9 ⟨t, d, v0, v1, v2, rfl, hp9, hq9, g0, g1, g2⟩
        walk_at "rd"
        refine ⟨q, _, 0, _, rfl, rfl, SqL.of hq9, rfl, ?_⟩
        walk_at "rd"
        refine ⟨q, _, 1, _, rfl, rfl, SqL.of hq9, rfl, ?_⟩
        walk_at "rd"
        refine ⟨q, _, 2, _, rfl, rfl, SqL.of hq9, rfl, ?_⟩
        refine And.intro (Nat.le_of_ble_eq_true rfl) (fun d0 H10 n10 => ?_)
        -- if not isinstance(given[2], bool)
        refine ⟨fun σ' H' => ∃ d, σ' = [some (.ref a), some (.ref p), some (.int c), some (.bl sg), some (.bl pl), some (.int (0 + (i : Nat))), some (.ref q), t, some (.ref d), none] ∧ Same H9 H' ∧ H9 d = none ∧
          H' d = some (.tup (if isBl v2 = false then [.str "refused", v2] else [.str "made", v0, v1, v2])), ?_, ?_⟩
        · walk_at "rd"
          refine ⟨q, _, 2, _, rfl, rfl, SqL.of (n10.same _ _ hq9), rfl, ?_⟩
          obtain ⟨ty, b1, b2, tyx, e1, e2, -, e4⟩ := (g2.keep n10.off).knd (K := K)
          refine ⟨_, _, _, _, _, rfl, .ty _, tyx, e2, ?_⟩
          refine ⟨_, rfl, ?_⟩
          rw [← e4]
          cases b2 with
          | false =>
            refine iteT ?_
            walk_at "rd"
            refine ⟨q, _, 2, _, rfl, rfl, SqL.of (n10.same _ _ hq9), rfl, ?_⟩
            refine And.intro (Nat.le_of_ble_eq_true rfl) (fun d2 H11 n11 => ?_)
            exact ⟨d2, rfl, n10.same.trans n11.same, n10.same.free n11.free, n11.at_⟩
          | true =>
            refine iteF ?_
            exact ⟨d0, rfl, n10.same, n10.free, n10.at_⟩
        rintro σ' H11 ⟨d1, rfl, s11, nd1, hd1⟩
        -- if not isinstance(given[1], bool)
        refine ⟨fun σ' H' => ∃ d, σ' = [some (.ref a), some (.ref p), some (.int c), some (.bl sg), some (.bl pl), some (.int (0 + (i : Nat))), some (.ref q), t, some (.ref d), none] ∧ Same H9 H' ∧ H9 d = none ∧
          H' d = some (.tup (if isBl v1 = false then [.str "refused", v1] else if isBl v2 = false then [.str "refused", v2] else [.str "made", v0, v1, v2])), ?_, ?_⟩
        · walk_at "rd"
          refine ⟨q, _, 1, _, rfl, rfl, SqL.of (s11 _ _ hq9), rfl, ?_⟩
          obtain ⟨ty, b1, b2, tyx, e1, e2, -, e4⟩ := (g1.keep (Off.same s11)).knd (K := K)
          refine ⟨_, _, _, _, _, rfl, .ty _, tyx, e2, ?_⟩
          refine ⟨_, rfl, ?_⟩
          rw [← e4]
          cases b2 with
          | false =>
            refine iteT ?_
            walk_at "rd"
            refine ⟨q, _, 1, _, rfl, rfl, SqL.of (s11 _ _ hq9), rfl, ?_⟩
            refine And.intro (Nat.le_of_ble_eq_true rfl) (fun d2 H12 n12 => ?_)
            exact ⟨d2, rfl, s11.trans n12.same, s11.free n12.free, n12.at_⟩
          | true =>
            refine iteF ?_
            exact ⟨d1, rfl, s11, nd1, hd1⟩
        rintro σ' H12 ⟨d2, rfl, s12, nd2, hd2⟩
        -- the cap
        refine ⟨fun σ' H' => ∃ d, σ' = [some (.ref a), some (.ref p), some (.int c), some (.bl sg), some (.bl pl), some (.int (0 + (i : Nat))), some (.ref q), t, some (.ref d), none] ∧ Same H9 H' ∧ H9 d = none ∧
          H' d = some (.tup (madeV v0 v1 v2)), ?_, ?_⟩
        · walk_at "rd"
          refine ⟨q, _, 0, _, rfl, rfl, SqL.of (s12 _ _ hq9), rfl, ?_⟩
          obtain ⟨ty, b1, b2, tyx, e1, e2, e3, e4⟩ := (g0.keep (Off.same s12)).knd (K := K)
          refine ⟨_, _, _, _, _, rfl, .ty _, tyx, e2, ?_⟩
          refine ⟨_, rfl, ?_⟩
          cases b2 with
          | true =>
            have hno : capOk v0 = false := by cases v0 <;> first | rfl | cases e4
            refine iteT ?_
            refine iteT ?_
            walk_at "rd"
            refine ⟨q, _, 0, _, rfl, rfl, SqL.of (s12 _ _ hq9), rfl, ?_⟩
            refine And.intro (Nat.le_of_ble_eq_true rfl) (fun d4 H13 n13 => ?_)
            exact ⟨d4, rfl, s12.trans n13.same, s12.free n13.free, by rw [show madeV v0 v1 v2 = [.str "refused", v0] by simp [madeV, hno]]; exact n13.at_⟩
          | false =>
            refine iteF ?_
            walk_at "rd"
            refine ⟨q, _, 0, _, rfl, rfl, SqL.of (s12 _ _ hq9), rfl, ?_⟩
            refine ⟨_, _, _, _, _, rfl, .ty _, tyx, e1, ?_⟩
            refine ⟨_, rfl, ?_⟩
            cases b1 with
            | false =>
              have hno : capOk v0 = false := by cases v0 <;> first | rfl | cases e3
              refine iteT ?_
              refine iteT ?_
              walk_at "rd"
              refine ⟨q, _, 0, _, rfl, rfl, SqL.of (s12 _ _ hq9), rfl, ?_⟩
              refine And.intro (Nat.le_of_ble_eq_true rfl) (fun d4 H13 n13 => ?_)
              exact ⟨d4, rfl, s12.trans n13.same, s12.free n13.free, by rw [show madeV v0 v1 v2 = [.str "refused", v0] by simp [madeV, hno]]; exact n13.at_⟩
            | true =>
              obtain ⟨i0, rfl⟩ : ∃ i0, v0 = .int i0 := by cases v0 <;> first | exact ⟨_, rfl⟩ | cases e3
              refine iteF ?_
              walk_at "rd"
              refine ⟨q, _, 0, _, rfl, rfl, SqL.of (s12 _ _ hq9), rfl, ?_⟩
              walk_at "rd"
              refine ite2 (fun h1 => ?_) (fun h1 => ?_)
              · have hno : capOk (.int i0) = false := by
                  have : i0 < 1 := by simpa using h1
                  simp [capOk]; omega
                refine iteT ?_
                walk_at "rd"
                refine ⟨q, _, 0, _, rfl, rfl, SqL.of (s12 _ _ hq9), rfl, ?_⟩
                refine And.intro (Nat.le_of_ble_eq_true rfl) (fun d4 H13 n13 => ?_)
                exact ⟨d4, rfl, s12.trans n13.same, s12.free n13.free, by rw [show madeV (.int i0) v1 v2 = [.str "refused", .int i0] by simp [madeV, hno]]; exact n13.at_⟩
              · walk_at "rd"
                refine ⟨q, _, 0, _, rfl, rfl, SqL.of (s12 _ _ hq9), rfl, ?_⟩
                walk_at "rd"
                have l1 : ¬ i0 < 1 := by simpa using h1
                by_cases l2 : i0 > 2
                · have hno : capOk (.int i0) = false := by
                    simp [capOk]; omega
                  rw [show decide (i0 > 2) = true by simpa using l2]
                  refine iteT ?_
                  walk_at "rd"
                  refine ⟨q, _, 0, _, rfl, rfl, SqL.of (s12 _ _ hq9), rfl, ?_⟩
                  refine And.intro (Nat.le_of_ble_eq_true rfl) (fun d4 H13 n13 => ?_)
                  exact ⟨d4, rfl, s12.trans n13.same, s12.free n13.free, by rw [show madeV (.int i0) v1 v2 = [.str "refused", .int i0] by simp [madeV, hno]]; exact n13.at_⟩
                · have hno : capOk (.int i0) = true := by
                    simp [capOk]; omega
                  rw [show decide (i0 > 2) = false by simpa using l2]
                  refine iteF ?_
                  refine ⟨d2, rfl, s12, nd2, ?_⟩
                  unfold madeV
                  rw [if_neg (by rw [hno]; exact fun z => nomatch z)]
                  exact hd2
        rintro σ' H13 ⟨d3, rfl, s13, nd3, hd3⟩
        have hq13 := s13 _ _ hq9
        have o13 : Off (fun b => b = p ∨ b = q) H9 H13 := Off.same s13
        walk_at "rd"
        refine ⟨q, _, 0, _, rfl, rfl, SqL.of hq13, rfl, ?_⟩
        walk_at "rd"
        refine ⟨q, _, 1, _, rfl, rfl, SqL.of hq13, rfl, ?_⟩
        walk_at "rd"
        refine ⟨q, _, 2, _, rfl, rfl, SqL.of hq13, rfl, ?_⟩
        refine ⟨v0, v1, v2, (fun b => b = p ∨ b = q), rfl, g0.keep o13, g1.keep o13, g2.keep o13, fun tm H14 ntm s14 htm => ?_⟩
        walk_at "rd"
        obtain ⟨L, ds, hds, ok1, ok2, ok3⟩ := made_dr (g0.keep (o13.trans (Off.same s14))) (g1.keep (o13.trans (Off.same s14))) (g2.keep (o13.trans (Off.same s14)))
        have hd14 := s14 _ _ hd3
        have hp14 := (hp9.same s13).same s14
        have ntM : ∀ {b : Addr}, H9 b = none ∨ H13 b = none → ¬ (b = p ∨ b = q) := by
          rintro b (hb | hb) (rfl | rfl)
          · exact hp9.ne hb rfl
          · rw [hq9] at hb; cases hb
          · exact (hp9.same s13).ne hb rfl
          · rw [hq13] at hb; cases hb
        refine ⟨.ref tm, .ref d3, _, L, (fun b => b = p ∨ b = q), rfl, .tup htm (ntM (.inr ntm)) hds, .tup hd14 (ntM (.inl nd3)) hds, ok1, ok2, ok3, ?_⟩
        refine ⟨_, rfl, ?_⟩
        refine iteF ?_
        exact ⟨_, _, _, _, rfl, hp14⟩
    · rintro σ H6 ⟨kk, g, t, d, rfl, hp6⟩
      refine fun x dx nx ndx nex => ?_
      refine make_rules (by decide) (by decide) nx ndx (fun H7 s7 hx => ?_)
      refine ⟨rfl, ?_⟩
      walk_at "rd"
      refine ⟨x, C, dx, _, _, rfl, hx, T.cl, T.a_cap, rfl, ?_⟩
      walk_at "rd"
      refine ⟨x, C, dx, _, _, rfl, hx, T.cl, T.a_strong, rfl, ?_⟩
      walk_at "rd"
      refine ⟨x, C, dx, _, _, rfl, hx, T.cl, T.a_pull, rfl, ?_⟩
      refine And.intro (Nat.le_of_ble_eq_true rfl) (fun t1 H8 n8 => ?_)
      walk_at "rd"
      refine And.intro (Nat.le_of_ble_eq_true rfl) (fun t2 H9 n9 => ?_)
      walk_at "rd"
      refine ⟨.ref t1, .ref t2, .tuple [.int 1, .bool false, .bool false], true, (fun _ => False), rfl, .tup (n9.same _ _ n8.at_) (fun z => z) (.cons (.int _) (.cons (.bl _) (.cons (.bl _) .nil))), .tup n9.at_ (fun z => z) (.cons (.int _) (.cons (.bl _) (.cons (.bl _) .nil))), by decide +kernel, by decide +kernel, by decide +kernel, ?_⟩
      refine ⟨_, rfl, ?_⟩
      refine iteT ?_
      walk_at "rd"
      refine fun x2 d2 nx2 nd2 nex2 => ?_
      have hx9 := n9.same _ _ (n8.same _ _ hx)
      refine make_rules (by decide) (by decide) nx2 nd2 (fun H10 s10 hx10' => ?_)
      refine ⟨rfl, ?_⟩
      have hx10 := s10 _ _ hx9
      refine ⟨x, dx, _, .ref C, rfl, hx10, TQ.ty hx10', TQ.nfS, ?_⟩
      refine ⟨x, dx, 1, false, false, .ref x2, .ref C, true, rfl, hx10, .base (TQ.ty hx10'), TQ.ic.me, And.intro (fun z => nomatch z) (fun _ => ?_)⟩
      refine ⟨x2, d2, _, _, _, rfl, hx10', _, rfl, ?_⟩
      exact k _
end
end K00
end
section
set_option Elab.async false
set_option linter.all false
set_option maxRecDepth 100000
set_option maxHeartbeats 2000000
namespace K00
open PySem L2 PyProof.Rows
/-- what the top has left, and the law's promise over it -/
theorem all_mk {P : Program} {w : World} {K : PySem.W.Frag} {h : Heap} {mg : Str → Option Value} {fa C CB fB f1 f2 f3 f4 f5 f6 f7 f8 g1 g2 g3 : Addr} {d1 d2 d3 d4 d5 d6 d7 d8 e1 e2 e3 : FuncData}
    (X : K.In h) (G : h.Ns mainGlobals mg) (hfa : mg "law" = some (.ref fa))
    (a1 : PySem.W.nsIn K mainGlobals "is_whole" = some (some (.ref f1))) (F1 : Fun K "is_whole" "is_whole" s_is_whole f1 d1)
    (a2 : PySem.W.nsIn K mainGlobals "_law_pool" = some (some (.ref f2))) (F2 : Fun K "_law_pool" "_law_pool" s__law_pool f2 d2)
    (a3 : PySem.W.nsIn K mainGlobals "_law_draw" = some (some (.ref f3))) (F3 : Fun K "_law_draw" "_law_draw" s__law_draw f3 d3)
    (a4 : PySem.W.nsIn K mainGlobals "_law_odd" = some (some (.ref f4))) (F4 : Fun K "_law_odd" "_law_odd" s__law_odd f4 d4)
    (a5 : PySem.W.nsIn K mainGlobals "_law_made" = some (some (.ref f5))) (F5 : Fun K "_law_made" "_law_made" s__law_made f5 d5)
    (a6 : PySem.W.nsIn K mainGlobals "_law_same" = some (some (.ref f6))) (F6 : Fun K "_law_same" "_law_same" s__law_same f6 d6)
    (a7 : PySem.W.nsIn K mainGlobals "_law_right" = some (some (.ref f7))) (F7 : Fun K "_law_right" "_law_right" s__law_right f7 d7)
    (a8 : PySem.W.nsIn K mainGlobals "law" = some (some (.ref f8))) (F8 : Fun K "law" "law" s_law f8 d8)
    (aC : PySem.W.nsIn K mainGlobals "Rules" = some (some (.ref C))) (cC : Cls K C)
    (mC : Mk K C g1) (G1 : FunD K "__init__" "Rules.__init__" (defArgs s_Rules_init) (defBody s_Rules_init) (defScope s_Rules_init) [.int 1, .bl false, .bl false] [] g1 e1)
    (qC : RulQ K C g2) (G2 : Fun K "__eq__" "Rules.__eq__" s_Rules_eq g2 e2)
    (b3 : PySem.W.findIn K (.ref C) "bags" = some (some (.ref g3))) (i3 : PySem.W.isFn K (.ref g3) = true) (G3 : Fun K "bags" "Rules.bags" s_Rules_bags g3 e3)
    (n1 : NoAttr K C "cap") (n2 : NoAttr K C "strong") (n3 : NoAttr K C "pull")
    (xB : RX.ErrT P K mg "BadRules" "value" CB fB)
    (z1 : PySem.W.nsIn K mainGlobals "isinstance" = some none) (z2 : PySem.W.nsIn K mainGlobals "int" = some none) (z3 : PySem.W.nsIn K mainGlobals "bool" = some none) (z4 : PySem.W.nsIn K mainGlobals "list" = some none)
    (z5 : PySem.W.nsIn K mainGlobals "len" = some none) (z6 : PySem.W.nsIn K mainGlobals "range" = some none) (z7 : PySem.W.nsIn K mainGlobals "repr" = some none) :
    ∃ fd : FuncData, (∀ (s : Shared) (u : Value), BindsTo s fd ⟨[u], []⟩ [("script", u)]) ∧ ∀ base : Heap, K.In base → base.Ns mainGlobals mg → FnG P w K mg base (CXe P w) 8 fa fd ["script"] (spLaw K) := by
  have e := hfa.symm.trans (PySem.W.mg_of X G a8)
  cases e
  have B : Blt mg := ⟨PySem.W.mg_none_of X G z1, PySem.W.mg_none_of X G z2, PySem.W.mg_none_of X G z3, PySem.W.mg_none_of X G z4, PySem.W.mg_none_of X G z5, PySem.W.mg_none_of X G z6, PySem.W.mg_none_of X G z7⟩
  have T : RulT P K mg C CB fB := { toBlt := B, cl := cC, a_cap := n1, a_strong := n2, a_pull := n3, g_Rules := PySem.W.mg_of X G aC, x_BadRules := xB }
  refine ⟨d8, ?_, fun base _ _ => ?_⟩
  · obtain ⟨oc, od, kV, doc, pm, an, cdv, ct, osl, rfl, lk, hcd⟩ := F8.ex
    exact fun s v => .of_eq rfl
  have b1 := F1.binds (ps := ["thing"]) fun _ _ _ _ _ _ us hl => match us, hl with | [_], _ => rfl
  have b2 := F2.binds (ps := ["script"]) fun _ _ _ _ _ _ us hl => match us, hl with | [_], _ => rfl
  have b3' := F3.binds (ps := ["pool", "many"]) fun _ _ _ _ _ _ us hl => match us, hl with | [_, _], _ => rfl
  have b4 := F4.binds (ps := ["pool"]) fun _ _ _ _ _ _ us hl => match us, hl with | [_], _ => rfl
  have b5 := F5.binds (ps := ["cap", "strong", "pull"]) fun _ _ _ _ _ _ us hl => match us, hl with | [_, _, _], _ => rfl
  have b6 := F6.binds (ps := ["one", "other"]) fun _ _ _ _ _ _ us hl => match us, hl with | [_, _], _ => rfl
  have b7 := F7.binds (ps := ["pool", "cap", "strong", "pull"]) fun _ _ _ _ _ _ us hl => match us, hl with | [_, _, _, _], _ => rfl
  have bE := G2.binds (ps := ["self", "other"]) fun _ _ _ _ _ _ us hl => match us, hl with | [_, _], _ => rfl
  have bb := G3.binds (ps := ["self"]) fun _ _ _ _ _ _ us hl => match us, hl with | [_], _ => rfl
  obtain ⟨ds4, v4, bi4⟩ := G1.binds1 (ps := ["self", "cap", "strong", "pull"]) 4 3 (by simp) rfl fun T kV doc pm an cdv ct us its h1 h2 => match us, its, h1, h2 with | [_, _, _, _], [_, _, _], _, _ => ⟨_, rfl, rfl⟩
  obtain ⟨ds0, v0, bi0⟩ := G1.binds1 (ps := ["self", "cap", "strong", "pull"]) 1 0 (by simp) rfl fun T kV doc pm an cdv ct us its h1 h2 => match us, its, h1, h2 with | [_], [_, _, _], _, _ => ⟨_, rfl, rfl⟩
  have c_is_whole : CalG P w K mg base 1 "is_whole" (spWhole K) := ⟨f1, d1, _, ok_whole F1 B, PySem.W.mg_of X G a1, F1.kp, b1⟩
  have c_pool : CalG P w K mg base 1 "_law_pool" (spPool K) := ⟨f2, d2, _, ok_pool F2 B, PySem.W.mg_of X G a2, F2.kp, b2⟩
  have c_draw : CalG P w K mg base 1 "_law_draw" (spDraw K) := ⟨f3, d3, _, ok_draw F3 B, PySem.W.mg_of X G a3, F3.kp, b3'⟩
  have c_odd : CalG P w K mg base 2 "_law_odd" (spOdd K) := ⟨f4, d4, _, ok_odd (k1 := 0) F4 B c_draw, PySem.W.mg_of X G a4, F4.kp, b4⟩
  have hI := ok_rinit (w := w) (base := base) G1 T c_is_whole
  have m4 : MakG P w K mg base 4 "Rules" C (spRInit K C CB) [] := ⟨g1, e1, _, ds4, hI, mC, T.g_Rules, bi4, v4⟩
  have m0 : MakG P w K mg base 4 "Rules" C (spRInit K C CB) [.int 1, .bl false, .bl false] := ⟨g1, e1, _, ds0, hI, mC, T.g_Rules, bi0, v0⟩
  have hE := ok_req (w := w) (base := base) G2 T
  have tB : MetG P w K mg base 1 C "bags" (spBags K C) := ⟨g3, e3, _, ok_bags G3 T, cC, ⟨b3, i3, G3.kp⟩, bb⟩
  have c_made : CalG P w K mg base 6 "_law_made" (spMade K) := ⟨f5, d5, _, ok_made F5 T m4, PySem.W.mg_of X G a5, F5.kp, b5⟩
  have c_same : CalG P w K mg base 1 "_law_same" spSame := ⟨f6, d6, _, ok_same F6 B, PySem.W.mg_of X G a6, F6.kp, b6⟩
  have c_right : CalG P w K mg base 7 "_law_right" (spRight K) := ⟨f7, d7, _, ok_right F7 T qC m4 tB hE bE c_draw c_same c_made, PySem.W.mg_of X G a7, F7.kp, b7⟩
  exact ok_law F8 T qC m0 m4 hE bE c_pool c_draw c_odd c_same c_made c_right
theorem walk {l : PySem.W.OpenLaw} {q : Program} {loose : List Str} {XP : (Str → Option Value) → Heap → Prop} {YP : World → Heap → Prop} {d : DefRec} {K : Params → PySem.W.Frag} (hn : l.most = some 63) (hdf : d.params.defaults = [])
    (hY : ∀ (w : World) (h : Heap), YP w h → (K w.params).In h)
    (F : ∀ (w : World) (mg : Str → Option Value) (fa : Addr) (h : Heap), (K w.params).In h → h.Ns mainGlobals mg → mg d.name = some (.ref fa) →
      ∃ fd : FuncData, (∀ (s : Shared) (u : Value), BindsTo s fd ⟨[u], []⟩ [("script", u)]) ∧ ∀ base : Heap, (K w.params).In base → base.Ns mainGlobals mg → FnG l.prog w (K w.params) mg base (CXe l.prog w) 8 fa fd ["script"] (spLaw (K w.params))) :
    PySem.W.WalkO q loose XP YP l.row.toRowW d [] (fun f vs => PySem.call f vs) :=
  L2.walk_ofG (n := 63) (k := 8) (x := "script") (CX := fun w => CXe l.prog w) (sp := fun w => spLaw (K w.params)) hn (by decide) hdf ⟨rfl, by decide, by decide⟩ hY F (fun _ _ a ns hl _ hS => ⟨a, ns, rfl, hS, hl, fun _ => rfl⟩) fun w H s e s' z => by
    obtain ⟨_, _, _, _, _, _, _, _, _, _, _, _, hE⟩ := z
    exact hE
end K00
end
section
set_option Elab.async false
set_option maxRecDepth 100000
open PySem PySem.W PyProof.Rows
set_option maxRecDepth 100000 in
set_option maxHeartbeats 0 in
theorem PySem.Challenge.cw_roomsthrough_k00_rules_and_bags_holds : PySem.Challenge.rw_roomsthrough_k00_rules_and_bags.Holds := by
  w_on; o_law; k_head; (case hw => w_witness2)
  k_fill
  refine K00.walk (l := PySem.Challenge.rw_roomsthrough_k00_rules_and_bags) rfl rfl (fun w h Y => PySem.W.kIn_of Y) ?F
  case F =>
    intro w mg fa h KX G hmg
    refine' K00.all_mk KX G hmg ?a1 ?F1 ?a2 ?F2 ?a3 ?F3 ?a4 ?F4 ?a5 ?F5 ?a6 ?F6 ?a7 ?F7 ?a8 ?F8 ?aC ?cC ?mC ?G1 ?qC ?G2 ?b3 ?i3 ?G3 ?n1 ?n2 ?n3 ?xB ?z1 ?z2 ?z3 ?z4 ?z5 ?z6 ?z7
    (case a1 => k_is); (case F1 => (refine' L2.fun_mk ?l1 ?c1 ?k1; (case l1 => k_is); (case c1 => k_is); (case k1 => k_is))); (case a2 => k_is); (case F2 => (refine' L2.fun_mk ?l2 ?c2 ?k2; (case l2 => k_is); (case c2 => k_is); (case k2 => k_is))); (case a3 => k_is); (case F3 => (refine' L2.fun_mk ?l3 ?c3 ?k3; (case l3 => k_is); (case c3 => k_is); (case k3 => k_is))); (case a4 => k_is); (case F4 => (refine' L2.fun_mk ?l4 ?c4 ?k4; (case l4 => k_is); (case c4 => k_is); (case k4 => k_is)))
    (case a5 => k_is); (case F5 => (refine' L2.fun_mk ?l5 ?c5 ?k5; (case l5 => k_is); (case c5 => k_is); (case k5 => k_is))); (case a6 => k_is); (case F6 => (refine' L2.fun_mk ?l6 ?c6 ?k6; (case l6 => k_is); (case c6 => k_is); (case k6 => k_is))); (case a7 => k_is); (case F7 => (refine' L2.fun_mk ?l7 ?c7 ?k7; (case l7 => k_is); (case c7 => k_is); (case k7 => k_is))); (case a8 => k_is); (case F8 => (refine' L2.fun_mk ?l8 ?c8 ?k8; (case l8 => k_is); (case c8 => k_is); (case k8 => k_is)))
    (case aC => k_is)
    (case cC => exact ⟨by k_is, by k_is, by k_is, by k_is⟩)
    (case mC => refine' ⟨?a, ?b, ?c, ?d⟩; (case a => k_is); (case b => k_is); (case c => k_is); (case d => k_is))
    (case G1 => refine' L2.funD_mk ?l ?c ?k ?t ?u ?v ?ne; (case l => k_is); (case c => k_is); (case k => k_is); (case t => k_is); (case u => rfl); (case v => exact .cons ⟨_, rfl⟩ (.cons rfl (.cons rfl .nil))); (case ne => exact List.cons_ne_nil _ _))
    (case qC =>
      refine' ⟨⟨?a, ?b, ?c, ?d⟩, ⟨⟨?a1, ?a2, ?a3, ?a4⟩, ?e, ?f, ?g, ?h, ?i⟩, ?j, ?k, ?l, ?m⟩
      (case a => k_is); (case b => k_is); (case c => k_is); (case d => k_is); (case a1 => k_is); (case a2 => k_is); (case a3 => k_is); (case a4 => k_is); (case e => k_is); (case f => k_is); (case g => k_is); (case h => k_is); (case i => first | k_is | kit_is | (unfold PySem.W.kitOne; simp))
      (case j => k_is); (case k => k_is); (case l => kit_is); (case m => kit_is))
    (case G2 => (refine' L2.fun_mk ?l9 ?c9 ?k9; (case l9 => k_is); (case c9 => k_is); (case k9 => k_is)))
    (case b3 => k_is); (case i3 => k_is); (case G3 => (refine' L2.fun_mk ?l10 ?c10 ?k10; (case l10 => k_is); (case c10 => k_is); (case k10 => k_is))); (case n1 => unfold L2.NoAttr; k_is); (case n2 => unfold L2.NoAttr; k_is); (case n3 => unfold L2.NoAttr; k_is)
    (case xB =>
      refine' RX.errT_mk KX G ?x_gC ?x_cls ?x_rv ?x_sa ?x_ga ?x_gg ?x_noN ?x_iC ?x_tC ?x_kC ?x_exC ?x_tyC ?x_hdC ?x_icC ?x_sC ?x_veC ?x_selfM ?x_up ?x_third ?x_noS ?x_top ?x_fl ?x_bd ?x_l ?x_cd ?x_lc ?x_v2 ?x_vf ?x_lcc ?x_ln
      (case x_gC => k_is); (case x_cls => k_is); (case x_rv => decide +kernel); (case x_sa => k_is); (case x_ga => k_is); (case x_gg => k_is); (case x_noN => k_is); (case x_iC => k_is); (case x_tC => k_is); (case x_kC => k_is)
      (case x_exC => k_is); (case x_tyC => k_is); (case x_hdC => k_is); (case x_icC => k_is); (case x_sC => first | rfl | k_is); (case x_veC => k_is); (case x_selfM => k_is); (case x_up => ks_is); (case x_third => k_is); (case x_noS => k_is)
      (case x_top => decide +kernel); (case x_fl => decide +kernel); (case x_bd => intros; rfl); (case x_l => k_is); (case x_cd => k_is); (case x_lc => k_is); (case x_v2 => rfl); (case x_vf => decide +kernel); (case x_lcc => k_is); (case x_ln => rfl))
    (case z1 => k_is); (case z2 => k_is); (case z3 => k_is); (case z4 => k_is); (case z5 => k_is); (case z6 => k_is); (case z7 => k_is)
end
