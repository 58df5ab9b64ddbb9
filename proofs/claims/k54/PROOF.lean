import PyProof.Rows.All
import Wide.All
import OpenK.AllK
import Wide.FinOn
import PyProof.EqAt
import PyProof.EqKinds
import PyProof.TupleCall
import HandS.ForMost
import HandS.ForExc
import HandS.ExcField
import HandS.ExcInit
import HandS.IsInst
import HandS.Defaults
import HandS.Small
import KE.KExcSuper
import KE.KExcMake
import HandS.Codes
import HandS.Evl
import HandS.Walk
import KE.GoesEnum
import HandS.Zip0
import HandS.Translate
import HandS.Replace
import PyProof.Rows.StrRev
import KE.KEqDict
import HandS.More
import HandS.TupAny
import HandS.Style
import PySem.Challenge.RW_roomsthrough_k54_wishes_judged
section
set_option Elab.async false
set_option linter.all false
set_option maxRecDepth 100000
set_option maxHeartbeats 2000000
/-! # The errors of the package: each with an __init__ that says super().__init__(text) and keeps one value. -/
namespace RX
open PySem PySem.W PySem.Calls PyProof.Rows PySem.HandSPX
/-! ### the text of such an __init__, its field a letter -/
def eA (fld : Str) (p1 p2 : Pos) : Arguments := { posonlyargs := [], args := [{ arg := "self", annotation := none, pos := p1 }, { arg := fld, annotation := none, pos := p2 }], vararg := none, kwonlyargs := [], kw_defaults := [], kwarg := none, defaults := [] }
def eB (fld msg : Str) (q1 q2 q3 q4 q5 q6 q7 q8 q9 q10 : Pos) : List Stmt :=
  [.Expr (.Call (.Attribute (.Call (.Name "super" q1) [] [] q2) "__init__" q3) [.Constant (.str msg) 0 q4] [] q5) q6,
   .Assign [.Attribute (.Name "self" q7) fld q8] (.Name fld q9) q10]
def eS (fld : Str) : Scope := { kind := .function, names := [("self", .local), (fld, .local), ("__class__", .free), ("super", .globalImplicit)], isGenerator := false, isCoroutine := false, more := [] }
/-- what the top says of the class at C, whose __init__ stands at fI and sees the class by the cell at cc -/
structure ErrT (prog : Program) (K : Frag) (mg : Str → Option Value) (cn fld : Str) (C fI : Addr) : Prop where
  gC : mg cn = some (.ref C)
  cls : ∃ nm q N bs bm sn sub ab col dd k0 k1 k2 k3 k5, K.lookup C = some (excClassObj nm q C N bs bm true sn sub ab col dd k0 k1 k2 k3 k5 "ValueError.__new__") ∧ refsVE bm = true
  sa : findIn K (.ref C) "__setattr__" = some (some (.builtin "object.__setattr__"))
  xf : L2.XfC K C
  noN : findIn K (.ref C) fld = some none
  iC : findIn K (.ref C) "__init__" = some (some (.ref fI))
  tC : typeIn K (.ref fI) = some (.type "function")
  kC : keepIn K (.ref C) = true
  exC : subIn K (.ref C) (.type "BaseException") = some true
  tyC : typeIn K (.ref C) = some (.type "type")
  hdC : hasDictIn K C = true
  te : exmOne K (.ref C) (.ref C) = some true
  veC : subIn K (.ref C) (.type "ValueError") = some true
  selfM : mroIn K C (.ref C) = some true
  up : ks_superIn K C C "__init__" = some (some (.builtin "ValueError.__init__"))
  third : nsIn K cStatics "thirdparty.any" = some none
  noS : nsIn K mainGlobals "super" = some none
  top : (prog.main.scope.names.lookup ("super" : Str)).isSome = false
  fl : (eS fld).names.lookup fld = some .local ∧ (fld == ("self" : Str)) = false ∧ (eS fld).names.lookup ("super" : Str) = some .globalImplicit ∧ (eS fld).names.lookup ("__class__" : Str) = some .free ∧ (fld == ("__debug__" : Str)) = false
  bd : ∀ (qual : Str) (body : List Stmt) (doc pm : Value) (an : Option Addr) (cd ct : Value) (cc : Addr) (p1 p2 : Pos) (a b : Value), bindArgs (ksFn "__init__" qual (eA fld p1 p2) body (eS fld) .none .none doc pm an cd ct cc) ⟨[a, b], []⟩ = pure [(("self" : Str), a), (fld, b)]
  fn : ∃ (oc : Value) (od : Option Addr) (doc pm : Value) (an : Option Addr) (cda cc : Addr) (ct : Value) (osl : Array (Option Value)) (msg : Str) (qual : Str) (p1 p2 q1 q2 q3 q4 q5 q6 q7 q8 q9 q10 : Pos)
    (ccl cl : Value) (cdd cld : Option Addr) (ccs csl : Array (Option Value)) (vs : Array Value) (file : Str) (tf : Tok),
    K.lookup fI = some ⟨oc, od, .func (ksFn "__init__" qual (eA fld p1 p2) (eB fld msg q1 q2 q3 q4 q5 q6 q7 q8 q9 q10) (eS fld) .none .none doc pm an (.ref cda) ct cc), osl⟩ ∧ codeIn K (.ref cda) qual = true ∧
    K.lookup cda = some ⟨ccl, cdd, .fields vs, ccs⟩ ∧ vs[2]? = some (.str file tf) ∧ ((prog.main.file : Str) == file) = true ∧ K.lookup cc = some ⟨cl, cld, .cell (some (.ref C)), csl⟩ ∧ (q3.endLine == q5.line) = true
/-- what such an __init__ leaves of a fresh exception at x -/
structure ErrEnd (h h' : Heap) (fld : Str) (x C dx : Addr) (v : Value) : Prop where
  keep : ∀ b o, b ≠ x → h.get? b = some o → h'.get? b = some o
  obj : ∃ t1, h'.get? x = some { cls := .ref C, dict := some dx, data := .fields #[.ref t1, .none, .none, .none, .bool false, .none] }
  dbig : h.objs.size ≤ dx
  dne : dx ≠ x
  ns : h'.Ns1 dx (fun y => if y = fld then some v else none)
theorem size1 (v : Value) : [v].length ≤ sizeLine := by
  rw [sizeLine_eq]; exact (by decide : 1 ≤ 16777216)
section
variable {prog : Program} {w : World} {A : Around} {E : Value → Shared → Prop} {R : Result → Shared → Prop} {s : Shared} {K : Frag} {mg : Str → Option Value} {g : Heap} {cn fld : Str} {C fI : Addr}
theorem err_init (T : ErrT prog K mg cn fld C fI) {x t0 : Addr} {v : Value} (M : L2.Mod K mg g) (hg : ∀ b o, g.get? b = some o → s.heap.get? b = some o) (hx : s.heap.get? x = some (excO C t0)) (hnx : K.lookup x = none) (hroom : A.depth < recursionLimit)
    (hq : ∀ h' tk dx, ErrEnd s.heap h' fld x C dx v → R (.ok (.ret .none)) { s with heap := h', toks := tk }) :
    codeAny (model prog w) A (.call (.ref fI) ⟨[.ref x, v], []⟩) R s := by
  obtain ⟨oc, od, doc, pm, an, cda, cc, ct, osl, msg, qual, p1, p2, q1, q2, q3, q4, q5, q6, q7, q8, q9, q10, ccl, cl, cdd, cld, ccs, csl, vs, file, tf, ho, hcd, hcode, hvs, hfile, hcell, hpos⟩ := T.fn
  obtain ⟨nm, q, N, bs, bm, sn, sub, ab, col, dd, k0, k1, k2, k3, k5, hC, hbm⟩ := T.cls
  obtain ⟨hfl, hfs, hsu, hcs, hfd⟩ := T.fl
  have X : K.In s.heap := M.kin.keeps hg
  have hcl : clsIn K C = some { name := nm, bases := bs, mro := .ref C :: bm, ns := N, qualname := q, hasDict := true, slotNames := sn, subclasses := sub, abstract := ab, collection := col, hasDel := false } := by unfold clsIn; rw [hC] <;> rfl
  have hfs' : ("self" == fld) = false := by
    have : ¬ fld = ("self" : Str) := by simpa using hfs
    simpa using fun z => this z.symm
  refine ks_codeAny_call_defAt (fd := ksFn "__init__" qual (eA fld p1 p2) (eB fld msg q1 q2 q3 q4 q5 q6 q7 q8 q9 q10) (eS fld) .none .none doc pm an (.ref cda) ct cc) (binds := [("self", .ref x), (fld, v)])
    hroom (X _ _ ho) rfl (M.nolimit.keeps hg) (codeRec_of X hcd) rfl ?hb ?hc ?hl (fun h1 hns k => ?_) rfl rfl rfl
  case hb => exact BindsTo.of_eq (T.bd _ _ _ _ _ _ _ _ _ _ _ _)
  case hc => 
    intro y hy
    simp only [ksFn, eS, List.mem_cons, List.not_mem_nil, or_false] at hy
    rcases hy with rfl | rfl | rfl | rfl <;> (intro z; cases z)
  case hl =>
    intro y hy
    simp only [List.mem_cons, List.not_mem_nil, or_false] at hy
    rcases hy with rfl | rfl
    · rfl
    · exact hfl
  have k : ∀ b o, s.heap.get? b = some o → h1.get? b = some o := k
  have X1 : K.In h1 := X.keeps k
  have hx1 := k _ _ hx
  have M1 : ∀ b o, g.get? b = some o → h1.get? b = some o := fun b o e => k b o (hg b o e)
  have mself : (fun y => List.lookup y ([("self", .ref x), (fld, v)] : List (Str × Value)).reverse) "self" = some (.ref x) := by
    simp only [List.reverse_cons, List.reverse_nil, List.nil_append, List.cons_append, List.lookup]
    rw [hfs']
    rfl
  have mfld : (fun y => List.lookup y ([("self", .ref x), (fld, v)] : List (Str × Value)).reverse) fld = some v := by
    simp [List.reverse_cons, List.lookup]
  refine ks_wpAt_execs_cons (ks_wpAt_Expr_any (ks_wpAt_MethodCall (pl := (do return (← importBound (.Call (.Name "super" q1) [] [] q2) (callEnv (ksFn "__init__" qual (eA fld p1 p2) (eB fld msg q1 q2 q3 q4 q5 q6 q7 q8 q9 q10) (eS fld) .none .none doc pm an (.ref cda) ct cc) s.heap.objs.size fI)).getD true)) ?_ ?he))
  case he =>
    show (do let ov ← _; standAt q3.atName; methodCall _ _ _ _ _ ov _ _ _) = _
    unfold methodCall methodCallPos
    rw [hpos]
    rfl
  have hD : ∃ oD, h1.get? C = some oD ∧ oD.data = .cls { name := nm, bases := bs, mro := .ref C :: bm, ns := N, qualname := q, hasDict := true, slotNames := sn, subclasses := sub, abstract := ab, collection := col, hasDel := false } := ⟨_, X1 _ _ hC, rfl⟩
  obtain ⟨oD, hD1, hD2⟩ := hD
  refine ks_wpAt_super_base hsu hcs rfl rfl (X1 _ _ ho) rfl rfl rfl (X1 _ _ hcode) rfl hvs hfile T.top ?_
  obtain ⟨mb, hmb, hmb2⟩ := M.blt
  refine ks_loadName_global rfl hsu (loadGlobal_builtin (mg := mg) (mb := mb) (M.glob.keeps M1) (mg_none_of M.kin M.glob T.noS) (hmb.keeps M1) ((hmb2 _ (by decide)).trans (by decide +kernel)) ⟨rfl, ?_⟩)
  refine wpAny_loadName_free rfl hcs rfl ⟨_, X1 _ _ hcell, rfl⟩ ?_
  refine wpAny_loadName_local rfl rfl hns mself ?_
  refine ks_wpAny_isType_cls hD1 hD2 ⟨rfl, ?_⟩
  refine ks_wpAny_call_super hD1 hD2 hx1 rfl (fun c z => by cases z) (looks_mroIn X1 T.selfM) (fun h2 e2 k2 => ?_)
  have X2 : K.In h2 := X1.keeps k2
  have hx2 := k2 _ _ hx1
  have I2 : InstAt h2 x (excO C t0) C none := ⟨hx2, rfl, rfl, trivial⟩
  have hf2 : alongIn K "__init__" (((.ref C :: bm : List Value).dropWhile (· != .ref C)).drop 1) = some (some (.builtin "ValueError.__init__")) := by
    have := T.up
    unfold ks_superIn at this
    rw [hcl] at this
    exact this
  refine kxs_getMethod kxs_ValueError e2 (looks_opaque X2 T.third) (l₀ := .ref C :: bm) (fun A Q E s k q => wpAny_bind ((looks_clsIn X2 hcl) A _ E s k (wpAny_pure q))) rfl X2 hf2 (I2.type.andThen (looks_subIn X2 T.veC)) (ks_ne X2 I2 hcl) rfl ?_
  -- the wrapper is called with the text
  have hu3 : (h2.push (kxs_mw "ValueError.__init__" x)).get? h2.objs.size = some (kxs_mw "ValueError.__init__" x) := Heap.get?_push_at rfl rfl
  have k3 : ∀ b o, h2.get? b = some o → (h2.push (kxs_mw "ValueError.__init__" x)).get? b = some o := fun b o e => Heap.get?_push_of_some _ e
  refine kxs_callWith (i := "ValueError.__init__") (x := x) rfl (evalArgs_plain ?_)
  refine spliced_more (Calls.Constant_str ?_)
  refine spliced_none ?_
  refine ⟨hu3, ?_⟩
  have hx3 := k3 _ _ hx2
  have hC3 := k3 _ _ (X2 _ _ hC)
  show wpAny (model prog w) (A.deeper _) (call (.ref h2.objs.size) [.str msg _]) _ _ _
  refine wpAny_call (codeAny_of_tree ?_)
  show wpAny _ (A.deeper _).in1 (callAny (.ref h2.objs.size) ⟨[.str msg _], []⟩) _ _ _
  simp only [callAny]
  refine wpAny_bind (wpAny_load hu3 ?_)
  simp only [kxs_mw, show (Value.type "method-wrapper" == Value.type "method" || Value.type "method-wrapper" == Value.type "builtin_function_or_method" || Value.type "method-wrapper" == Value.type "method-wrapper") = true by decide, if_true]
  refine KFB.if_so (by decide) ?_
  refine wpAny_bind (check_bound_init F.excBase_ValueError.toExcCallFacts hC3 hx3 rfl ?_)
  refine wpAny_bind (wpAny_pure (wpAny_pure ?_))
  refine ⟨plainId_quiet F.excBase_ValueError.init.plain _, codeAny_builtin F.excBase_ValueError.initEntry ?_⟩
  refine exc_init_tree (cls := .ref C) (t0 := t0) (dv := none) (c2 := .none) (c3 := .none) (b4 := .bool false) hx3 (size1 _) (fun h4 k4 hx4 ht4 => ?_)
  -- self.field = value
  have k14 : ∀ b o, b ≠ x → h1.get? b = some o → h4.get? b = some o := fun b o hb e => k4 b o hb (k3 _ _ (k2 _ _ e))
  have X4 : K.In h4 := fun a o e => k14 a o (fun z => by rw [z, hnx] at e; cases e) (X1 a o e)
  have hL : s.heap.objs.size ≠ x := Nat.ne_of_gt (Heap.lt_size hx)
  have hn4 : h4.Ns s.heap.objs.size (fun y => List.lookup y ([("self", .ref x), (fld, v)] : List (Str × Value)).reverse) := hns.at (fun o e => k14 _ _ hL e)
  show PySem.wpAt _ _ _ (execs _ _) _ _ _
  refine ks_wpAt_execs_cons (ks_wpAt_Assign_Attr ?_)
  have hfl' : (callEnv (ksFn "__init__" qual (eA fld p1 p2) (eB fld msg q1 q2 q3 q4 q5 q6 q7 q8 q9 q10) (eS fld) .none .none doc pm an (.ref cda) ct cc) s.heap.objs.size fI).kindOf fld = some .local := hfl
  refine wpAt_of_wpAny (wpAny_Name ?_ hfd)
  refine wpAny_loadName_local (m := fun y => List.lookup y ([("self", .ref x), (fld, v)] : List (Str × Value)).reverse) (v := v) rfl hfl' hn4 mfld ?_
  refine wpAny_Name ?_
  refine wpAny_loadName_local (m := fun y => List.lookup y ([("self", .ref x), (fld, v)] : List (Str × Value)).reverse) (v := .ref x) rfl rfl hn4 mself ?_
  have hx5 : h4.get? x = some (excO C _) := hx4
  refine set_plain X4 (ox := excO C _) (od := none) ⟨hx5, rfl, rfl, trivial⟩ T.sa ?_
  refine exc_osa X4 hx5 hcl (show refsVE (.ref C :: bm) = true from hbm) rfl T.noN (fun h5 tk5 dx k5' dn dne hx6 hn5 => ?_)
  show PySem.wpAt _ _ _ (execs _ _) _ _ _
  have big : s.heap.objs.size ≤ dx := Nat.le_trans (Nat.le_of_lt hn4.lt) dn
  refine wpAt_of_wpAny (wpAny_execs_nil (hq h5 tk5 dx ⟨fun b o hb e => k5' b o hb (k14 b o hb (k b o e)), ⟨_, hx6⟩, big, dne, hn5⟩))
/-- a made error -/
structure ErrMade (h h' : Heap) (fld : Str) (e C d : Addr) (v : Value) : Prop where
  keep : ∀ b o, h.get? b = some o → h'.get? b = some o
  new : h.objs.size ≤ e
  obj : ∃ oe vs, h'.get? e = some oe ∧ oe.cls = .ref C ∧ oe.dict = some d ∧ oe.data = .fields vs ∧ vs[1]? = some .none
  dbig : h.objs.size ≤ d
  dne : d ≠ e
  ns : h'.Ns1 d (fun y => if y = fld then some v else none)
theorem err_made (T : ErrT prog K mg cn fld C fI) {v : Value} (M : L2.Mod K mg g) (hg : ∀ b o, g.get? b = some o → s.heap.get? b = some o) (hroom : A.depth + 1 < recursionLimit)
    (hq : ∀ h' tk e d, ErrMade s.heap h' fld e C d v → R (.ok (.ret (.ref e))) { s with heap := h', toks := tk }) :
    codeAny (model prog w) A (.call (.ref C) ⟨[v], []⟩) R s := by
  obtain ⟨nm, q, N, bs, bm, sn, sub, ab, col, dd, k0, k1, k2, k3, k5, hC, hbm⟩ := T.cls
  have X : K.In s.heap := M.kin.keeps hg
  obtain ⟨hp, gs, dr, tk, os⟩ := s
  have k : ∀ b o, hp.get? b = some o → ((hp.push (kdv_tup [v])).push (excO C hp.objs.size)).get? b = some o := fun b o e => Heap.get?_push_of_some _ (Heap.get?_push_of_some _ e)
  have hget : ((hp.push (kdv_tup [v])).push (excO C hp.objs.size)).get? (hp.objs.size + 1) = some (excO C hp.objs.size) := by heap_get
  have hnx : K.lookup (hp.objs.size + 1) = none := by
    cases e : K.lookup (hp.objs.size + 1) with
    | none => rfl
    | some o =>
      have z : hp.get? (hp.objs.size + 1) = some o := X _ _ e
      exact absurd (Nat.lt_of_succ_lt (Heap.lt_size z)) (Nat.lt_irrefl _)
  refine call_own F.excBase_ValueError (fun X => refsVE_contains X bm hbm) (X _ _ hC) (looks_findIn X T.iC) (fun self => bind_fn X self T.tC) (size1 v) ?_
  refine err_init (s := ⟨(hp.push (kdv_tup [v])).push (excO C hp.objs.size), gs, dr, tk, os⟩) (g := g) T M (fun b o e => k b o (hg b o e)) hget hnx ?_ fun h' tk' dx ⟨k', hx, dn, dne, hns⟩ => ?_
  · show A.depth + 1 < recursionLimit
    exact hroom
  · obtain ⟨t1, hx⟩ := hx
    have old : ∀ b o, hp.get? b = some o → h'.get? b = some o := fun b o e => k' b o (Nat.ne_of_lt (Nat.lt_succ_of_lt (Heap.lt_size e))) (k b o e)
    have z : hp.objs.size + 1 + 1 ≤ dx := by
      first
        | (simpa only [Heap.size_push] using dn)
        | exact dn
        | (have q := dn; rw [Heap.size_push, Heap.size_push] at q; exact q)
    exact ⟨rfl, hq h' tk' (hp.objs.size + 1) dx ⟨old, Nat.le_succ _, ⟨_, _, hx, rfl, rfl, rfl, rfl⟩, Nat.le_trans (Nat.le_trans (Nat.le_succ _) (Nat.le_succ _)) z, dne, hns⟩⟩
end
end RX
namespace L2
open PySem PySem.Spec PyProof.Rows
theorem relO_one {fld : Str} {v : V} {v' : Value} (r : RelV v v') (f : Str) : RelO (List.lookup f [(fld, v)]) (if f = fld then some v' else none) := by
  by_cases hw : f = fld
  · subst hw
    rw [if_pos rfl]
    have q : List.lookup f [(f, v)] = some v := by simp [List.lookup]
    rw [q]; exact r
  · rw [if_neg hw]
    have qw : (f == fld) = false := by simpa using hw
    have q2 : List.lookup f [(fld, v)] = none := by simp [List.lookup, qw]
    rw [q2]; trivial
section
variable {X : Cx} {C fI : Addr} {cn fld : Str}
/-- Err(e): its own dict d is new and holds the field -/
def tMkErr (fld : Str) (C : Addr) (ta : TA) : St → Hp → XK → Prop := fun σ H Q => ta σ H fun vs H1 => ∃ v, vs = [v] ∧ ∀ d, H1 d = none → Q (.ref C) (some d) (upd H1 d (.xd [(fld, v)]))
theorem pmk_err {a : Expr} {ta : TA} {p pos : Pos} {k : Nat} (T : RX.ErrT X.prog X.K X.mg cn fld C fI) (hr : Room k X.A) (ha : PA X [a] ta) (hg : Gl X cn := by rfl) (hdb : (cn == ("__debug__" : Str)) = false := by decide)
    (he : starEach (a :: []) X.env = (false, eval a X.env) :: starEach [] X.env := by rfl) (hpl : (backTo pos (starEach [] X.env)).any (·.1) = false := by rfl) :
    PMk X (.Call (.Name cn p) [a] [] pos) (tMkErr fld C ta) := by
  intro pins s σ H Q I h
  refine wpAny_Call_Name_kw (ld_glob I hg T.gC ?_ hdb)
  refine PySem.W.callWith_K (h₀ := X.base) I.ok.mod.kin T.kC (thn (ha.run pos pins s σ H _ I h) fun us s1 hh => ?_) he hpl
  obtain ⟨vs, H1, I1, r1, v, ev, q1⟩ := hh
  subst ev
  refine ⟨I1.kIn, ?_⟩
  cases r1 with
  | cons rv rn =>
    rename_i v' us'
    cases rn
    show wpAny _ _ (call (.ref C) [v']) _ _ _
    have hbk := I1.bk
    obtain ⟨hp, g, dr, tk, os⟩ := s1
    refine wpAny_call (RX.err_made T I1.mod hbk (by have := hr.dp; omega) fun h' tk' e d M => ?_)
    show MkP X pins σ Q (.ref e) ⟨h', g, dr, tk', os⟩
    obtain ⟨oe, fv, hoe, hc, hd, hdat, h1⟩ := M.obj
    have hns := M.ns
    obtain ⟨G', g1, g2⟩ := restrict h' fun b => decide (b ≠ e)
    have gk : ∀ b, b ≠ e → G'.get? b = h'.get? b := fun b hb => g1 b (decide_eq_true hb)
    have ge : G'.get? e = none := g2 e (by simp)
    have old : ∀ b o, hp.get? b = some o → G'.get? b = some o := fun b o q => (gk b (Nat.ne_of_lt (Nat.lt_of_lt_of_le (Heap.lt_size q) M.new))).trans (M.keep b o q)
    have ob : ObjOk X.prog X.w (upd H1 d (.xd [(fld, v)])) G' d (.xd [(fld, v)]) :=
      ⟨_, hns.at (fun o q => (gk d M.dne).trans q), fun f => relO_one rv f⟩
    have J : Inv X pins σ (upd H1 d (.xd [(fld, v)])) ⟨G', g, dr, tk', os⟩ := I1.laid (t' := tk') old M.dbig ob
    refine ⟨e, oe, fv, ⟨G', g, dr, tk', os⟩, _, .ref C, some d, rfl, J, fun b o q => ?_, ge, hoe, ⟨hc, hd⟩, hdat, h1, ?_, rfl, I1.bare, raises_own T.exC T.tyC, q1 d (I1.hok.fresh M.dbig)⟩
    · by_cases hb : b = e
      · have q' : G'.get? b = some o := q
        rw [hb, ge] at q'; cases q'
      · exact (gk b hb).symm.trans q
    · rw [upd_ne (Ne.symm M.dne)]
      exact I1.hok.fresh M.new
/-- raise Err(e) -/
def tRaiseErr (fld : Str) (C : Addr) (W : WX) (ta : TA) : TS := fun _ σ H => tMkErr fld C ta σ H fun cls d H' => W cls d σ H'
theorem ps_raiseErr {a : Expr} {ta : TA} {W : WX} {p pos pos2 : Pos} {k : Nat} (hc : X.calm = true) (T : RX.ErrT X.prog X.K X.mg cn fld C fI) (hr : Room k X.A) (tk : Takes X W) (ha : PA X [a] ta) (hg : Gl X cn := by rfl) (hdb : (cn == ("__debug__" : Str)) = false := by decide)
    (he : starEach (a :: []) X.env = (false, eval a X.env) :: starEach [] X.env := by rfl) (hpl : (backTo pos (starEach [] X.env)).any (·.1) = false := by rfl) :
    PS X (.Raise (some (.Call (.Name cn p) [a] [] pos)) none pos2) (tRaiseErr fld C W ta) := ps_raise hc tk (pmk_err T hr ha hg hdb he hpl)
end
end L2
end
section
set_option Elab.async false
set_option linter.all false
set_option maxRecDepth 100000
set_option maxHeartbeats 2000000
/-! # Calls within which nothing is being shown: what repr needs to be told. -/
namespace L2
open PySem PySem.Spec PyProof.Rows
/-- as FnOk, but only where no repr is under way around the call -/
structure FnG (P : Program) (w : World) (K : PySem.W.Frag) (mg : Str → Option Value) (base : Heap)
    (CX : CXT) (k : Nat) (f : Addr) (fd : FuncData) (ps : List Str) (sp : Sp) : Prop where
  len : ∀ vs H Q E, sp vs H Q E → vs.length = ps.length
  run : ∀ (A : Around) (outer : List Env) (s : Shared) (H : Hp) (args : Args) (us : List Value)
    (vs : List V) (Q : VK) (E : XK), A.guards = some [] → Room k A → Env0 P w K mg base A outer s H →
    BindsTo s fd args (ps.zip us) → Vals vs us → sp vs H Q E →
    codeAny (model P w) A (.call (.ref f) args) (CR CX outer P w H s Q E) s
section
variable {P : Program} {w : World} {K : PySem.W.Frag} {mg : Str → Option Value} {base : Heap}
  {CX : CXT} {k j : Nat} {f : Addr} {fd : FuncData} {ps : List Str} {sp sp' : Sp}
theorem FnOk.g (F : FnOk P w K mg base CX k f fd ps sp) : FnG P w K mg base CX k f fd ps sp :=
  ⟨F.len, fun A o s H a us vs Q E _ => F.run A o s H a us vs Q E⟩
theorem FnG.mono (F : FnG P w K mg base CX j f fd ps sp) (h : j ≤ k) : FnG P w K mg base CX k f fd ps sp :=
  ⟨F.len, fun A o s H a us vs Q E hg hr => F.run A o s H a us vs Q E hg (hr.mono h)⟩
theorem FnG.imp (F : FnG P w K mg base CX k f fd ps sp) (h : ∀ vs H Q E, sp' vs H Q E → sp vs H Q E) :
    FnG P w K mg base CX k f fd ps sp' :=
  ⟨fun vs H Q E q => F.len vs H Q E (h _ _ _ _ q),
   fun A o s H a us vs Q E hg hr he hb hv hs => F.run A o s H a us vs Q E hg hr he hb hv (h _ _ _ _ hs)⟩
end
/-- a def by its body, where nothing is being shown -/
theorem fn_ofG {CX : CXT} {P : Program} {w : World} {K : PySem.W.Frag} {mg : Str → Option Value} {base : Heap}
    {k : Nat} {f : Addr} {name qual : Str} {params : Arguments} {body : List Stmt} {scope : Scope}
    {dV kV doc pm cdv ct oc : Value} {an od : Option Addr} {osl : Array (Option Value)} {N ps : List Str} {sp : Sp}
    (lk : K.lookup f = some ⟨oc, od, .func (PySem.W.fnOf name qual params body scope dV kV doc pm an cdv ct), osl⟩)
    (hcd : PySem.W.codeIn K cdv qual = true) (S : FnScope N ps scope)
    (len : ∀ vs H Q E, sp vs H Q E → vs.length = ps.length)
    (hbody : ∀ (A : Around) (outer : List Env) (s : Shared) (H : Hp) (vs : List V) (Q : VK) (E : XK),
      A.guards = some [] → Room k (A.deeper (envOfC qual scope s.heap.objs.size f cdv)) → sp vs H Q E →
      ∃ t, PSs (cxOf CX P w K mg base N qual scope f cdv A outer s H E) body t ∧
        t { nx := fun _ H' => Q .non H', rt := Q } (start N vs) H) :
    FnG P w K mg base CX (k + 1) f (PySem.W.fnOf name qual params body scope dV kV doc pm an cdv ct) ps sp := by
  constructor
  · exact len
  intro A outer s H args us vs Q E hgd hr e0 hb r hsp
  have lenV := len _ _ _ _ hsp
  have kept : ∀ b o, base.get? b = some o → s.heap.get? b = some o := fun b o e => (e0.bs b o e).1
  have KX : K.In s.heap := e0.mod.kin.keeps kept
  have noLim : s.heap.NoLimit := e0.mod.nolimit.keeps kept
  have kinds : ∀ y ∈ ps.zip us, scope.names.lookup y.1 = some .local ∨
      (scope.names.lookup y.1 = some .cell ∧ ((cellsFrom (s.heap.objs.size + 1) scope.names []).lookup y.1).isSome = true) := by
    rintro ⟨n, v⟩ hy
    have hn : n ∈ ps := (List.of_mem_zip hy).1
    rcases S.par n hn with z | z
    · exact Or.inl z
    · exact Or.inr ⟨z, PySem.W.cellsFrom_some _ _ _ (Or.inl z)⟩
  refine codeAny_call_function hr.depth (KX _ _ lk) rfl S.co S.gen rfl (PySem.W.codeRec_of KX hcd) ?_
  apply hb
  refine wpAny_newFunctionEnv_cells S.kind kinds ?_
  rintro env rfl s1 x
  refine ⟨noLim.keeps x.toInCall.keep, codeAny_func ?_⟩
  obtain ⟨t, ht, hq⟩ := hbody A outer s H vs Q E hgd (hr.deeper _) hsp
  have I := inv_start (CX := CX) (E := E) S hr.hd e0 lenV r x
  refine wpAny_mono (ht.run [] s1 (start N vs) H _ I hq) ?_ (fun _ _ z => z)
  intro fl s' hs
  have done : ∀ {σ' : St} {H' : Hp} {v : V} {u : Value},
      Inv (cxOf CX P w K mg base N qual scope f cdv A outer s H E) [] σ' H' s' → RelV v u → Q v H' →
      CE outer P w H s Q u s' := by
    intro σ' H' v u J rv q
    exact ⟨v, H', J.os, J.bare, J.base, J.hok, rv, q⟩
  match fl, hs with
  | .ret u, hs => obtain ⟨v, σ', H', J, rv, q⟩ := hs; exact done J rv q
  | .next, hs => obtain ⟨σ', H', J, q⟩ := hs; exact done (v := .non) (u := .none) J rfl q
  | .brk, hs => obtain ⟨_, _, _, q⟩ := hs; exact q.elim
  | .cont, hs => obtain ⟨_, _, _, q⟩ := hs; exact q.elim
section
variable {X : Cx} {CX : CXT} {k : Nat} {f C : Addr} {fd : FuncData} {ps : List Str} {sp : Sp} {dvs : List V} {ds : List Value} {E : XK} {x m : Str} {p pos apos : Pos} {e o : Expr} {es : List Expr} {ta : TE} {t : TA}
theorem run_fnG {pins : List (Addr × Obj)} {σ : St} {H : Hp} {s : Shared} {Q : VK} {us : List Value} {vs : List V}
    (F : FnG X.prog X.w X.K X.mg X.base CX k f fd ps sp) (hgd : X.A.guards = some []) (hr : Room k X.A) (hb : Binds X.K fd ps ds) (hd : Vals dvs ds)
    (hx : Passes CX X E) (I : Inv X pins σ H s) (r : Vals vs us) (h : sp (vs ++ dvs) H Q E) :
    wpAny (model X.prog X.w) X.A (call (.ref f) us) (EP X pins σ Q) X.xe s := by
  have r2 := r.append hd
  have hl : (us ++ ds).length = ps.length := r2.length.symm.trans (F.len _ _ _ _ h)
  apply wpAny_call
  refine codeAny_mono (F.run X.A X.stack s H ⟨us, []⟩ (us ++ ds) (vs ++ dvs) Q E hgd hr I.env0 (hb s us I.kIn hl) r2 h) ?_
  intro r s' hq
  match r, hq with
  | .error e, hq => exact hx pins σ H s e s' I hq
  | .ok (.ret u), hq => exact I.after hq
  | .ok .next, hq => exact False.elim hq
  | .ok .brk, hq => exact False.elim hq
  | .ok .cont, hq => exact False.elim hq
theorem pg_call (F : FnG X.prog X.w X.K X.mg X.base CX k f fd ps sp) (hgd : X.A.guards = some []) (hr : Room k X.A) (hg : Gl X x) (hm : X.mg x = some (.ref f))
    (hk : PySem.W.keepIn X.K (.ref f) = true) (hb : Binds X.K fd ps ds) (hd : Vals dvs ds) (hx : Passes CX X E)
    (ha : PA X (e :: es) t) (hdb : (x == ("__debug__" : Str)) = false := by decide)
    (he : starEach (e :: es) X.env = (false, eval e X.env) :: starEach es X.env := by rfl)
    (hpl : (backTo pos (starEach es X.env)).any (·.1) = false := by rfl) :
    PE X (.Call (.Name x p) (e :: es) [] pos) (tCall sp dvs E t) := by
  constructor
  intro pins s σ H Q I h
  refine wpAny_Call_Name_kw (ld_glob I hg hm ?_ hdb)
  refine PySem.W.callWith_K (h₀ := X.base) I.ok.mod.kin hk (thn (ha.run pos pins s σ H _ I h) ?_) he hpl
  rintro us s1 ⟨vs, H1, I1, r, q⟩
  exact ⟨I1.kIn, run_fnG F hgd hr hb hd hx I1 r q⟩
theorem pg_meth {pl : Sem Bool} (he : PE X o ta) (c : Cls X.K C) (hm : Meth X.K C m f) (F : FnG X.prog X.w X.K X.mg X.base CX k f fd ps sp)
    (hgd : X.A.guards = some []) (hr : Room k X.A) (hb : Binds X.K fd ps ds) (hd : Vals dvs ds) (hx : Passes CX X E) (ha : PA X (e :: es) t)
    (hst : starEach (e :: es) X.env = (false, eval e X.env) :: starEach es X.env := by rfl)
    (hpl : (backTo pos (starEach es X.env)).any (·.1) = false := by rfl)
    (ht : eval (.Call (.Attribute o m apos) (e :: es) [] pos) X.env =
      (do let ov ← eval o X.env; standAt apos.atName; let (f, first) ← holding [ov] (getMethod ov m pl); callWith pos f first (backTo pos (starEach (e :: es) X.env)) (backToKw pos (keywordEach [] X.env))) := by rfl) :
    PE X (.Call (.Attribute o m apos) (e :: es) [] pos) (tMeth C m sp dvs E ta t) := by
  constructor
  intro pins s σ H Q I h
  refine PySem.W.methodCall_KW (pl := pl) (thn (he.run pins s σ H _ I h) ?_) ht
  rintro u s1 ⟨x, H1, I1, rx, a, dx, fs, ex, ea, l, q⟩
  subst ex
  cases (show u = Value.ref a from rx)
  refine getmeth_ok I1 ea c hm l ?_
  refine PySem.W.callWith_K (first := [.ref a]) (h₀ := X.base) I.ok.mod.kin hm.kp (thn (ha.run pos pins s1 σ H1 _ I1 q) ?_) hst hpl
  rintro us s2 ⟨vs, H2, I2, r, q2⟩
  exact ⟨I2.kIn, run_fnG (us := .ref a :: us) (vs := .ref a :: vs) F hgd hr hb hd hx I2 (.cons rfl r) q2⟩
end
/-- the law's own call, at the heap behind the top -/
theorem law_callG {P : Program} {w : World} {K : PySem.W.Frag} {mg mb : Str → Option Value} {CX : CXT} {k : Nat} {fa a : Addr} {fd : FuncData} {x : Str} {sp : Sp} {s₁ : Shared} {vs : List Value} {ns : List Int}
    (KX : K.In s₁.heap) (hns : s₁.heap.Ns mainGlobals mg) (hb : s₁.heap.Ns builtinsNs mb) (hbb : ∀ x : Str, x ≠ "__name__" → mb x = bootBuiltins x)
    (hlim : s₁.heap.NoLimit) (hg : s₁.gens = #[]) (ha : s₁.heap.get? a = some { cls := .type "list", data := .seq vs.toArray })
    (hi : IntsAre vs ns) (hl : ns.length ≤ sizeLine) (hr : Room k callerA)
    (F : ∀ base : Heap, K.In base → base.Ns mainGlobals mg → FnG P w K mg base CX k fa fd [x] sp)
    (hbind : ∀ (s : Shared) (u : Value), BindsTo s fd ⟨[u], []⟩ [(x, u)])
    (hsp : ∀ H : Hp, Only H → SqL K H a (ns.map V.int) → sp [.ref a] H (fun v _ => v = .bl true) fun _ _ _ => False)
    (hCX : ∀ H e s', CX [] H s₁ (fun _ _ _ => False) e s' → False) :
    codeAny (model P w) callerA (.call (.ref fa) ⟨[.ref a], []⟩)
      (fun r s' => r = .ok (.ret (.bool true)) ∧ OldK s₁.heap s'.heap ∧ s'.os = s₁.os ∧ AllBare s'.gens) s₁ := by
  have rv := vals_ints hi
  have lenV := hi.length
  have core : ∀ H : Hp, Only H → SqL K H a (ns.map V.int) → HOk P w H s₁.heap → (∀ b, H b ≠ none → b = a) → (H a ≠ none → K.lookup a = none) →
      codeAny (model P w) callerA (.call (.ref fa) ⟨[.ref a], []⟩)
        (fun r s' => r = .ok (.ret (.bool true)) ∧ OldK s₁.heap s'.heap ∧ s'.os = s₁.os ∧ AllBare s'.gens) s₁ := by
    intro H hO hS hok hA hK
    have toB : ∀ {b : Addr} {o : Obj}, s₁.heap.get? b = some o → H b = none → (hidT s₁.heap H).get? b = some o := hidT_get
    have notA : ∀ {b : Addr} {o : Obj} {es : Array DictEntry} {ep : Nat}, s₁.heap.get? b = some o → o.data = .dict es ep → H b = none := by
      intro b o es ep e d
      cases q : H b with
      | none => rfl
      | some u =>
        cases (hA b (by rw [q]; simp))
        rw [ha] at e
        cases e
        exact nomatch (show Data.seq vs.toArray _ = Data.dict es ep from d)
    have toNs : ∀ {b : Addr} {m : Str → Option Value}, s₁.heap.Ns b m → (hidT s₁.heap H).Ns b m := by
      rintro b m ⟨o, es, ep, e, d, r⟩
      exact ⟨o, es, ep, toB e (notA e d), d, r⟩
    have inB : K.In (hidT s₁.heap H) := by
      intro b o e
      refine toB (KX b o e) ?_
      cases q : H b with
      | none => rfl
      | some u =>
        cases (hA b (by rw [q]; simp))
        have z := hK (by rw [q]; simp)
        rw [z] at e
        cases e
    have hM : Mod K mg (hidT s₁.heap H) := by
      obtain ⟨mc, h1, h2⟩ := hlim
      exact ⟨inB, toNs hns, ⟨mb, toNs hb, hbb⟩, ⟨mc, toNs h1, h2⟩⟩
    have e0 : Env0 P w K mg (hidT s₁.heap H) callerA [] s₁ H :=
      { frames := rfl, mod := hM, bs := fun b o e => of_hidT e, bsz := Nat.le_of_eq (hidT_size _ _), funs := trivial,
        frf := fun b hb => absurd (show b ∈ ([] : List Addr) from hb) (by simp), hok := hok, bare := .of_eq hg }
    have run := (F _ inB (toNs hns)).run callerA [] s₁ H ⟨[.ref a], []⟩ [.ref a] [.ref a] _ _ rfl hr e0 (hbind s₁ (.ref a)) (.cons rfl .nil) (hsp H hO hS)
    refine codeAny_mono run ?_
    intro r s' h
    match r, h with
    | .error e, h => exact (hCX H e s' h).elim
    | .ok .next, h => exact False.elim h
    | .ok .brk, h => exact False.elim h
    | .ok .cont, h => exact False.elim h
    | .ok (.ret u), h =>
      obtain ⟨v, H', os, bare, un, hok', r', q⟩ := h
      cases (show v = V.bl true from q)
      cases (show u = Value.bool true from r')
      refine ⟨rfl, OldK.of_keep ?_, os, bare⟩
      intro b o e
      cases q2 : H b with
      | none => exact un.keep b o e q2 (by intro z; exact absurd (show b ∈ ([] : List Addr) from z) (by simp)) (by simp)
      | some u2 =>
        rcases hO b with z | ⟨ob, xs, z⟩
        · rw [q2] at z
          cases z
        · obtain ⟨e1, _⟩ := hok b _ z
          obtain ⟨e2, _⟩ := hok' b _ (un.frzs b ob _ z)
          rw [e] at e1
          cases e1
          exact e2
  cases hk : K.lookup a with
  | some o =>
    have e := KX a o hk
    rw [ha] at e
    cases e
    refine core (fun _ => none) (fun _ => Or.inl rfl) (Or.inr ⟨_, vs.toArray, _, hk, rfl, rfl, rfl, ?_, ?_⟩) ?_ (fun b z => absurd rfl z) (fun z => absurd rfl z)
    · rw [List.size_toArray, lenV]
      exact hl
    · simpa using rv
    · intro b u z
      exact nomatch (show (none : Option HO) = some u from z)
  | none =>
    have hif : ∀ b, b ≠ a → (fun b => if b = a then some (HO.frz { cls := .type "list", data := .seq vs.toArray } (.lst (ns.map V.int))) else none) b = none := fun b h => if_neg h
    refine core (fun b => if b = a then some (.frz { cls := .type "list", data := .seq vs.toArray } (.lst (ns.map V.int))) else none) ?_ (Or.inl (Or.inr ⟨_, if_pos rfl⟩)) ?_ ?_ (fun _ => hk)
    · intro b
      by_cases h : b = a
      · exact Or.inr ⟨_, _, if_pos h⟩
      · exact Or.inl (hif b h)
    · intro b u z
      by_cases h : b = a
      · subst h
        cases (if_pos rfl).symm.trans z
        refine ⟨ha, ?_, vs, _, rv, ha⟩
        rw [List.length_map]
        exact hl
      · cases (hif b h).symm.trans z
    · intro b z
      by_cases h : b = a
      · exact h
      · exact absurd (hif b h) z
theorem walk_ofG {l : PySem.W.OpenLaw} {n k : Nat} {q : Program} {loose : List Str} {XP : (Str → Option Value) → Heap → Prop} {YP : World → Heap → Prop} {d : DefRec} {K : Params → PySem.W.Frag} {CX : World → CXT} {sp : World → Sp} {x : Str}
    (hn : l.most = some n) (hn2 : n ≤ sizeLine) (hdf : d.params.defaults = []) (hr : Room k callerA) (hY : ∀ (w : World) (h : Heap), YP w h → (K w.params).In h)
    (F : ∀ (w : World) (mg : Str → Option Value) (fa : Addr) (h : Heap), (K w.params).In h → h.Ns mainGlobals mg → mg d.name = some (.ref fa) →
      ∃ fd : FuncData, (∀ (s : Shared) (u : Value), BindsTo s fd ⟨[u], []⟩ [(x, u)]) ∧ ∀ base : Heap, (K w.params).In base → base.Ns mainGlobals mg → FnG l.prog w (K w.params) mg base (CX w) k fa fd [x] (sp w))
    (hsp : ∀ (w : World) (H : Hp) (a : Addr) (ns : List Int), ns.length ≤ n → Only H → SqL (K w.params) H a (ns.map V.int) → sp w [.ref a] H (fun v _ => v = .bl true) fun _ _ _ => False)
    (hCX : ∀ (w : World) (H : Hp) (s : Shared) (e : Value) (s' : Shared), CX w [] H s (fun _ _ _ => False) e s' → False) :
    PySem.W.WalkO q loose XP YP l.row.toRowW d [] (fun f vs => PySem.call f vs) := by
  refine Att.attach_call hn hdf ?_
  intro w s₀ s₁ mg mb fa o pm cd doc a vs ns G Y ho hd hcd hmg hobj hints hlen hg
  have KX := hY w _ Y
  obtain ⟨fd, hb, hF⟩ := F w mg fa _ KX G.T.g hmg
  exact law_callG KX G.T.g G.T.b G.T.builtins G.T.nolimit hg hobj hints (Nat.le_trans hlen hn2) hr hF hb
    (fun H hO hS => hsp w H a ns hlen hO hS) (fun H e s' => hCX w H s₁ e s')
end L2
end
section
set_option Elab.async false
set_option linter.all false
set_option maxRecDepth 100000
set_option maxHeartbeats 2000000
/-! # Data that stands still: what a value shows, and repr of it. -/
namespace L2
open PySem PySem.Spec PyProof.Rows
-- the value v is the datum d at the heap H; its lists and dicts stand at no address of M. L: lists may be in it, but no dict; else the empty dict, but no list
mutual
inductive Dr (L : Bool) (M : Addr → Prop) (H : Hp) : V → PyData → Prop
  | non : Dr L M H .non .none
  | bl (b : Bool) : Dr L M H (.bl b) (.bool b)
  | int (i : Int) : Dr L M H (.int i) (.int i)
  | str (x : Str) : Dr L M H (.str x) (.str x)
  | lst {a : Addr} {xs : List V} {ds : List PyData} (e : H a = some (.lst xs)) (n : ¬ M a) (l : L = true) (t : DrAll L M H xs ds) : Dr L M H (.ref a) (.list ds)
  | tup {a : Addr} {xs : List V} {ds : List PyData} (e : H a = some (.tup xs)) (n : ¬ M a) (t : DrAll L M H xs ds) : Dr L M H (.ref a) (.tuple ds)
  | dct {a : Addr} (e : H a = some (.dK [])) (n : ¬ M a) (l : L = false) : Dr L M H (.ref a) (.dict [])
inductive DrAll (L : Bool) (M : Addr → Prop) (H : Hp) : List V → List PyData → Prop
  | nil : DrAll L M H [] []
  | cons {v : V} {vs : List V} {d : PyData} {ds : List PyData} (h : Dr L M H v d) (t : DrAll L M H vs ds) : DrAll L M H (v :: vs) (d :: ds)
end
/-- what is tracked off M stays -/
def Off (M : Addr → Prop) (H H' : Hp) : Prop := ∀ b o, ¬ M b → H b = some o → H' b = some o
theorem Off.refl {M : Addr → Prop} (H : Hp) : Off M H H := fun _ _ _ e => e
theorem Off.trans {M : Addr → Prop} {H H1 H2 : Hp} (a : Off M H H1) (b : Off M H1 H2) : Off M H H2 := fun c o n e => b c o n (a c o n e)
theorem Off.new {M : Addr → Prop} {H : Hp} {p : Addr} {o : HO} (h : H p = none) : Off M H (upd H p o) := fun b u _ e => by
  rw [upd_ne (ne_of_none e h)]; exact e
theorem Off.mut {M : Addr → Prop} {H : Hp} {p : Addr} {o : HO} (h : M p) : Off M H (upd H p o) := fun b u n e => by
  rw [upd_ne (fun z => n (by rw [z]; exact h))]; exact e
theorem Off.same {M : Addr → Prop} {H H' : Hp} (h : Same H H') : Off M H H' := fun b o _ e => h b o e
section
variable {L : Bool} {M M' : Addr → Prop} {H H' : Hp}
mutual
theorem Dr.keep (h : Off M H H') : ∀ {v : V} {d : PyData}, Dr L M H v d → Dr L M H' v d
  | _, _, .non => .non
  | _, _, .bl b => .bl b
  | _, _, .int i => .int i
  | _, _, .str x => .str x
  | _, _, .lst e n l t => .lst (h _ _ n e) n l (DrAll.keep h t)
  | _, _, .tup e n t => .tup (h _ _ n e) n (DrAll.keep h t)
  | _, _, .dct e n l => .dct (h _ _ n e) n l
theorem DrAll.keep (h : Off M H H') : ∀ {vs : List V} {ds : List PyData}, DrAll L M H vs ds → DrAll L M H' vs ds
  | _, _, .nil => .nil
  | _, _, .cons a t => .cons (Dr.keep h a) (DrAll.keep h t)
end
mutual
/-- more may move, if it is nothing that is tracked -/
theorem Dr.wide (h : ∀ a, M' a → M a ∨ H a = none) : ∀ {v : V} {d : PyData}, Dr L M H v d → Dr L M' H v d
  | _, _, .non => .non
  | _, _, .bl b => .bl b
  | _, _, .int i => .int i
  | _, _, .str x => .str x
  | _, _, .lst e n l t => .lst e (fun z => (h _ z).elim n fun q => by rw [q] at e; cases e) l (DrAll.wide h t)
  | _, _, .tup e n t => .tup e (fun z => (h _ z).elim n fun q => by rw [q] at e; cases e) (DrAll.wide h t)
  | _, _, .dct e n l => .dct e (fun z => (h _ z).elim n fun q => by rw [q] at e; cases e) l
theorem DrAll.wide (h : ∀ a, M' a → M a ∨ H a = none) : ∀ {vs : List V} {ds : List PyData}, DrAll L M H vs ds → DrAll L M' H vs ds
  | _, _, .nil => .nil
  | _, _, .cons a t => .cons (Dr.wide h a) (DrAll.wide h t)
end
mutual
theorem Dr.noDict : ∀ {v : V} {d : PyData}, Dr true M H v d → d.hasDict = false
  | _, _, .non => rfl
  | _, _, .bl _ => rfl
  | _, _, .int _ => rfl
  | _, _, .str _ => rfl
  | _, _, .lst _ _ _ t => by simpa [PyData.hasDict] using DrAll.noDict t
  | _, _, .tup _ _ t => by simpa [PyData.hasDict] using DrAll.noDict t
  | _, _, .dct _ _ l => by cases l
theorem DrAll.noDict : ∀ {vs : List V} {ds : List PyData}, DrAll true M H vs ds → PyData.hasDictAll ds = false
  | _, _, .nil => rfl
  | _, _, .cons a t => by simp [PyData.hasDictAll, Dr.noDict a, DrAll.noDict t]
end
mutual
theorem Dr.reads {P : Program} {w : World} {h : Heap} (ok : HOk P w H h) : ∀ {v : V} {d : PyData} {u : Value}, Dr L M H v d → RelV v u → ∃ as, Reads h u d as ∧ (L = false → sysModules ∉ as)
  | _, _, _, .non, r => by
    cases (show _ = Value.none from r)
    exact ⟨[], .none, fun _ => by simp⟩
  | _, _, _, .bl b, r => by
    cases (show _ = Value.bool b from r)
    exact ⟨[], .bool b, fun _ => by simp⟩
  | _, _, _, .int i, r => by
    obtain ⟨t, rfl⟩ := (show ∃ t, _ = Value.int i t from r)
    exact ⟨[], .int i t, fun _ => by simp⟩
  | _, _, _, .str x, r => by
    obtain ⟨t, rfl⟩ := (show ∃ t, _ = Value.str x t from r)
    exact ⟨[], .str x t, fun _ => by simp⟩
  | _, _, _, .lst (a := a) e n l t, r => by
    cases (show _ = Value.ref a from r)
    obtain ⟨_, its, m, rv, ho⟩ := ok a _ e
    obtain ⟨as, hr, _⟩ := DrAll.reads ok t rv
    exact ⟨a :: as, .list ho rfl rfl (by simpa using hr), fun z => by rw [l] at z; cases z⟩
  | _, _, _, .tup (a := a) e n t, r => by
    cases (show _ = Value.ref a from r)
    obtain ⟨_, its, rv, o, ho, hc, m, hd⟩ := ok a _ e
    obtain ⟨as, hr, hs⟩ := DrAll.reads ok t rv
    exact ⟨as, .tuple ho hc hd (by simpa using hr), hs⟩
  | _, _, _, .dct (a := a) e n l, r => by
    cases (show _ = Value.ref a from r)
    obtain ⟨_, hn, vs, kv, o, es, ep, ho, hc, hd, hrest⟩ := ok a _ e
    cases kv
    obtain ⟨_, hp, _⟩ := hrest
    have hes : es.toList = [] := by
      generalize es.toList = l at hp
      cases hp
      rfl
    refine ⟨[a], ?_, fun _ z => ?_⟩
    · have q : Reads h (.ref a) (.dict []) (a :: [] ++ []) := .dict ho hc.1 hd (by rw [hes]; exact .nil) (by rw [hes]; exact .nil)
      simpa using q
    · simp only [List.mem_singleton] at z
      rw [← z] at hn
      simp at hn
theorem DrAll.reads {P : Program} {w : World} {h : Heap} (ok : HOk P w H h) : ∀ {vs : List V} {ds : List PyData} {us : List Value}, DrAll L M H vs ds → Vals vs us → ∃ as, ReadsAll h us ds as ∧ (L = false → sysModules ∉ as)
  | _, _, _, .nil, .nil => ⟨[], .nil, fun _ => by simp⟩
  | _, _, _, .cons a t, .cons r rs => by
    obtain ⟨as, h1, s1⟩ := Dr.reads ok a r
    obtain ⟨bs, h2, s2⟩ := DrAll.reads ok t rs
    exact ⟨as ++ bs, .cons h1 h2, fun z y => (List.mem_append.mp y).elim (s1 z) (s2 z)⟩
end
end
/-- repr(x), x a datum, where nothing is being shown -/
def rRepr : List V → Hp → VK → Prop := fun xs H Q => ∃ (v : V) (d : PyData) (L : Bool) (M : Addr → Prop), xs = [v] ∧ Dr L M H v d ∧ d.showable = true ∧ d.depth ≤ 60 ∧ d.shown.length ≤ sizeLine ∧ Q (.str d.shown) H
theorem call_reprD {X : Cx} {k : Nat} (hgd : X.A.guards = some []) (hr : Room k X.A) : CallR X (.builtin "repr") rRepr := by
  intro pins s σ H xs us Q I r h
  obtain ⟨v, d, L, M, rfl, hd, hs, hdep, hz, q⟩ := h
  obtain ⟨u, rfl, ru⟩ : ∃ u, us = [u] ∧ RelV v u := by
    cases r with
    | cons r1 r2 => cases r2; exact ⟨_, rfl, r1⟩
  have hu := hr.un
  obtain ⟨as, hreads, hsys⟩ := hd.reads I.hok ru
  have hsm : d.hasDict = true → sysModules ∉ as := by
    intro z
    cases L with
    | false => exact hsys rfl
    | true => rw [hd.noDict] at z; cases z
  cases hd with
  | non =>
    cases (show u = Value.none from ru)
    exact PySem.P.repr_of_none ⟨.str _, H, I.tok _, ⟨_, rfl⟩, q⟩
  | bl b =>
    cases (show u = Value.bool b from ru)
    exact PySem.P.repr_of_bool ⟨.str _, H, I.tok _, ⟨_, rfl⟩, by simpa [PyData.shown] using q⟩
  | int i =>
    obtain ⟨t, rfl⟩ := (show ∃ t, u = Value.int i t from ru)
    exact PySem.P.repr_of_int (by simpa [PyData.showable] using hs) ⟨.str _, H, I.tok _, ⟨_, rfl⟩, by simpa [PyData.shown] using q⟩
  | str x =>
    obtain ⟨t, rfl⟩ := (show ∃ t, u = Value.str x t from ru)
    exact PySem.P.repr_of_str ⟨.str _, H, I.tok _, ⟨_, rfl⟩, by simpa [PyData.shown] using q⟩ (by simpa [PyData.shown] using hz)
  | @lst a xs ds e n l t =>
    cases (show u = Value.ref a from ru)
    exact repr_of_reads' hreads hs hsm hgd (by omega) (fun _ _ z => z) (fun h' u' tk hk => ⟨.str _, H, I.kept (t' := tk) hk, ⟨u', rfl⟩, q⟩) hz
  | @tup a xs ds e n t =>
    cases (show u = Value.ref a from ru)
    exact repr_of_reads' hreads hs hsm hgd (by omega) (fun _ _ z => z) (fun h' u' tk hk => ⟨.str _, H, I.kept (t' := tk) hk, ⟨u', rfl⟩, q⟩) hz
  | @dct a e n l =>
    cases (show u = Value.ref a from ru)
    exact repr_of_reads' hreads hs hsm hgd (by omega) (fun _ _ z => z) (fun h' u' tk hk => ⟨.str _, H, I.kept (t' := tk) hk, ⟨u', rfl⟩, q⟩) hz
end L2
end
section
set_option Elab.async false
set_option linter.all false
set_option maxRecDepth 100000
set_option maxHeartbeats 2000000
/-! # == and != of an instance whose class has an __eq__ of its own, with anything. -/
namespace L2
open PySem PySem.Spec PyProof.Rows
section
variable {X : Cx} {pins : List (Addr × Obj)} {σ : St} {H : Hp} {s : Shared}
theorem tyOf_looks {M : Model} {x : V} {u t : Value} (I : Inv X pins σ H s) (rx : RelV x u) (ty : TyOf X.K H x t) : PySem.W.Looks M s.heap (typeOf u) t := by
  have viaRef : ∀ {a : Addr} {o : Obj} {T : String}, s.heap.get? a = some o → o.cls = .type T → PySem.W.Looks M s.heap (typeOf (.ref a)) (.type T) := by
    intro a o T ho hc A Q E s' k q
    exact wpAny_typeOf ⟨o, k _ _ ho, hc⟩ q
  cases ty with
  | non => cases (show u = Value.none from rx); exact fun A Q E s' k q => wpAny_typeOf (PySem.typeIs_none s') q
  | bl b => cases (show u = Value.bool b from rx); exact fun A Q E s' k q => wpAny_typeOf (PySem.typeIs_bool s' b) q
  | int i => obtain ⟨t, rfl⟩ := (show ∃ t, u = Value.int i t from rx); exact fun A Q E s' k q => wpAny_typeOf (typeIs_int s' i t) q
  | str y => obtain ⟨t, rfl⟩ := (show ∃ t, u = Value.str y t from rx); exact fun A Q E s' k q => wpAny_typeOf (typeIs_str s' y t) q
  | flt y => obtain ⟨t, rfl⟩ := (show ∃ t, u = Value.float y t from rx); exact fun A Q E s' k q => wpAny_typeOf (PySem.typeIs_float s' y t) q
  | @lst a xs e =>
    cases (show u = Value.ref a from rx)
    obtain ⟨_, its, m, _, ho⟩ := I.hok a _ e
    exact viaRef ho rfl
  | @frz a o xs e =>
    cases (show u = Value.ref a from rx)
    obtain ⟨_, _, its, m, _, ho⟩ := I.hok a _ e
    exact viaRef ho rfl
  | @tup a xs e =>
    cases (show u = Value.ref a from rx)
    obtain ⟨_, its, _, o, ho, hc, _⟩ := I.hok a _ e
    exact viaRef ho hc
  | @dK a kvs e =>
    cases (show u = Value.ref a from rx)
    obtain ⟨_, _, vs, _, o, es, ep, ho, hc, _⟩ := I.hok a _ e
    exact viaRef ho hc.1
  | @dT a kvs e =>
    cases (show u = Value.ref a from rx)
    obtain ⟨_, _, xs, _, o, es, ep, ho, hc, _⟩ := I.hok a _ e
    exact viaRef ho hc.1
  | @ins a C dx fs e cl ha hn htk hm =>
    cases (show u = Value.ref a from rx)
    obtain ⟨mA, O, _⟩ := ins_get I.hok e
    obtain ⟨od, J, _⟩ := O.look
    exact J.type
end
section
variable {X : Cx} {CX : CXT} {C f : Addr} {fd : FuncData} {ps : List Str} {sp : Sp} {n : Nat} {E : XK}
/-- what the top says of a class with an __eq__ of its own, at f -/
structure EqC (K : PySem.W.Frag) (C f : Addr) : Prop where
  eq : PySem.W.findIn K (.ref C) "__eq__" = some (some (.ref f))
  ne : PySem.W.findIn K (.ref C) "__ne__" = some (some (.builtin "object.__ne__"))
  fn : PySem.W.isFn K (.ref f) = true
  ob : PySem.W.mroIn K C (.type "object") = some true
def rEqO (K : PySem.W.Frag) (C : Addr) (sp : Sp) (E : XK) : R2 := fun x y H Q => ∃ a dx fs t, x = .ref a ∧ H a = some (.ins C dx fs) ∧ TyOf K H y t ∧ PySem.W.notFirst K C t = true ∧ sp [x, y] H (fun v H' => ∃ b, v = .bl b ∧ Q (.bl b) H') E
def rNeO (K : PySem.W.Frag) (C : Addr) (sp : Sp) (E : XK) : R2 := fun x y H Q => ∃ a dx fs t, x = .ref a ∧ H a = some (.ins C dx fs) ∧ TyOf K H y t ∧ PySem.W.notFirst K C t = true ∧ sp [x, y] H (fun v H' => ∃ b, v = .bl b ∧ Q (.bl (!b)) H') E
theorem op_eqO (T : EqC X.K C f) (F : FnG X.prog X.w X.K X.mg X.base CX n f fd ps sp) (hgd : X.A.guards = some []) (hr : Room n X.A) (hb : Binds X.K fd ps []) (hx : Passes CX X E) : OpR X (compareOp .Eq) (rEqO X.K C sp E) := by
  intro pins s σ H x y v u Q I rx ry h
  obtain ⟨a, dx, fs, t, rfl, ha, ty, hn, q⟩ := h
  cases (show v = Value.ref a from rx)
  obtain ⟨mA, O, _⟩ := ins_get I.hok ha
  obtain ⟨od, J, _⟩ := O.look
  obtain ⟨m, hF⟩ := I.fr
  show wpAny (model X.prog X.w) X.A (richCompare .Eq (.ref a) u) (EP X pins σ Q) X.xe s
  refine PySem.W.cmp_K (op := .Eq) (tb := t) hr.units0 hF I.ok.mod.kin J (tyOf_looks I ry ty) hn T.eq T.fn ?_
  refine wpAny_mono (run_fnG (us := [.ref a, u]) (vs := [.ref a, y]) F hgd hr hb .nil hx I (.cons rfl (.cons ry .nil)) q) ?_ (fun _ _ z => z)
  rintro w s' ⟨v', H', I', rv, b, rfl, q'⟩
  cases (show w = Value.bool b from rv)
  exact ⟨.bl b, H', I', rfl, q'⟩
theorem ne_body {A : Around} {M : Model} {a : Addr} {b : Value} {Q : Fin → Shared → Prop} {E' : Value → Shared → Prop} {s : Shared} (hu : A.units < cLine)
    (h : wpAny M A (callSpecialIfBound? (.ref a) "__eq__" [b]) (fun r s' => ∃ k, r = some (.bool k) ∧ Q (.done (.ret (.bool (!k)))) s') E' s) :
    wpAny M A (Builtin.«object.__ne__» ⟨[.ref a, b], []⟩) Q E' s := by
  unfold Builtin.«object.__ne__»
  repeat (first | with_reducible refine wpAny_cRoomFor hu ?_ | (with_reducible refine wpAny_bind (wpAny_mono h ?_ fun _ _ z => z)) | wp_step)
  rintro r s' ⟨k, rfl, hq⟩
  exact wpAny_bind (wpAny_of_eq (show truthy (.bool k) = pure k from rfl) (wpAny_pure hq))
theorem op_neO (T : EqC X.K C f) (F : FnG X.prog X.w X.K X.mg X.base CX n f fd ps sp) (hgd : X.A.guards = some []) (hr : Room (n + 1) X.A) (hb : Binds X.K fd ps []) (hx : Passes CX X E) : OpR X (compareOp .NotEq) (rNeO X.K C sp E) := by
  intro pins s σ H x y v u Q I rx ry h
  obtain ⟨a, dx, fs, t, rfl, ha, ty, hn, q⟩ := h
  cases (show v = Value.ref a from rx)
  obtain ⟨mA, O, _⟩ := ins_get I.hok ha
  obtain ⟨od, J, _⟩ := O.look
  have X0 : X.K.In s.heap := I.kIn
  have hb2 := tyOf_looks (M := model X.prog X.w) I ry ty
  -- the method called within object.__ne__
  have inner : wpAny (model X.prog X.w) X.A.in1 (call (.ref f) [.ref a, u]) (fun w s' => ∃ k, w = .bool k ∧ EP X pins σ Q (.bool (!k)) s') X.xe s := by
    have r2 : Vals [V.ref a, y] [Value.ref a, u] := .cons rfl (.cons ry .nil)
    have hl : ([Value.ref a, u] ++ ([] : List Value)).length = ps.length := r2.length.symm.trans (F.len _ _ _ _ q)
    apply wpAny_call
    refine codeAny_mono (F.run X.A.in1 X.stack s H ⟨[.ref a, u], []⟩ ([.ref a, u] ++ []) [.ref a, y] _ E hgd hr.in1 I.env0.in1 (hb s [.ref a, u] X0 hl) (by simpa using r2) q) ?_
    intro r s' hq
    match r, hq with
    | .error e, hq => exact hx pins σ H s e s' I hq
    | .ok (.ret w), hq =>
      obtain ⟨v', H', I', rv, b, rfl, q'⟩ := I.after hq
      cases (show w = Value.bool b from rv)
      exact ⟨b, rfl, .bl (!b), H', I', rfl, q'⟩
    | .ok .next, hq => exact False.elim hq
    | .ok .brk, hq => exact False.elim hq
    | .ok .cont, hq => exact False.elim hq
  have one : wpAny (model X.prog X.w) X.A (tryCompare (.ref a) "__ne__" u) (fun r s' => ∃ k, r = some (.bool k) ∧ EP X pins σ Q (.bool k) s') X.xe s := by
    unfold tryCompare
    refine wpAny_bind ?_
    simp only [callSpecialIfBound?, bindSpecialIfBound?]
    refine wpAny_holding (wpAny_bind (wpAny_bind (wpAny_bind (J.type.here ((PySem.W.looks_findIn X0 T.ne).here ?_)))))
    refine wpAny_bind (wpAny_askSetting (wpAny_ite ?_))
    have sub : PySem.W.Looks (model X.prog X.w) s.heap (isInstance (.ref a) (.type "object")) true := J.type.andThen (PySem.W.looks_mroIn X0 T.ob)
    have called : wpAny (model X.prog X.w) X.A (call (.builtin "object.__ne__") [.ref a, u]) (fun w s' => ∃ k, w = .bool k ∧ EP X pins σ Q (.bool k) s') X.xe s := by
      refine wpAny_call (codeAny_call_builtin PySem.F.cmp_object.ne.plain PySem.F.cmpEntry_ne (PySem.W.check_slot PySem.F.cmpKind_ne PySem.F.cmpSplit_ne sub (PySem.F.cmpArgs_ne _ _) ?_))
      refine ne_body (by have := hr.un; show X.A.units + 1 < cLine; omega) ?_
      refine PySem.W.ifBound_K X0 J T.eq T.fn (wpAny_mono inner ?_ fun _ _ z => z)
      rintro w s' ⟨k, rfl, z⟩
      exact ⟨k, rfl, !k, rfl, z⟩
    have fin : wpAny (model X.prog X.w) X.A (call (.builtin "object.__ne__") ([.ref a] ++ [u]) >>= fun v => pure (some v)) (fun r s' => wpAny (model X.prog X.w) X.A (match r with
        | some .notImplemented => pure none
        | none => pure none
        | some v => pure (some v)) (fun r s' => ∃ k, r = some (.bool k) ∧ EP X pins σ Q (.bool k) s') X.xe s') X.xe s := by
      refine wpAny_bind (wpAny_mono called ?_ fun _ _ z => z)
      rintro w s' ⟨k, rfl, z⟩
      exact wpAny_pure (wpAny_pure ⟨k, rfl, z⟩)
    split
    · exact wpAny_bind (wpAny_of_eq (PySem.F.cmp_object.ne.bind _) (wpAny_pure fin))
    · exact wpAny_tryCatch (wpAny_bind (wpAny_of_eq (PySem.F.cmp_object.ne.bind _) (wpAny_pure fin)))
  show wpAny (model X.prog X.w) X.A (richCompare .NotEq (.ref a) u) (EP X pins σ Q) X.xe s
  unfold richCompare
  simp only [PySem.oneThing_ref]
  refine wpAny_holding (wpAny_bind (wpAny_cRoomFor hr.units0 ?_))
  refine wpAny_bind (J.type.here (wpAny_bind (hb2.here ?_)))
  split
  · rename_i z
    have e : PySem.W.subIn X.K t (.ref C) = some false := by
      rcases Bool.or_eq_true_iff.mp hn with e | e
      · rw [beq_iff_eq.mp e] at z
        simp at z
      · exact beq_iff_eq.mp e
    refine wpAny_bind ((PySem.W.looks_subIn X0 e).here ?_)
    simp only [Bool.false_eq_true, if_false]
    refine wpAny_bind (wpAny_mono one ?_ fun _ _ z => z)
    rintro r s' ⟨k, rfl, z⟩
    exact wpAny_pure z
  · refine wpAny_bind (wpAny_pure ?_)
    simp only [Bool.false_eq_true, if_false]
    refine wpAny_bind (wpAny_mono one ?_ fun _ _ z => z)
    rintro r s' ⟨k, rfl, z⟩
    exact wpAny_pure z
end
end L2
end
section
set_option Elab.async false
set_option linter.all false
set_option maxRecDepth 100000
set_option maxHeartbeats 2000000
/-! # range(n) as a value, walked later. -/
namespace L2
open PySem PySem.Spec PyProof.Rows
section
variable {X : Cx}
theorem cr_rangeOne : CallR X (.type "range") (fun vs H Q => ∃ j, vs = [V.int j] ∧ ∀ p, H p = none → Q (.ref p) (upd H p (.rng 0 j))) := by
  intro pins s σ H vs us Q I r h
  obtain ⟨j, rfl, q⟩ := h
  obtain ⟨u, rfl, t, rfl⟩ : ∃ u, us = [u] ∧ ∃ t, u = Value.int j t := by
    cases r with
    | cons r1 r2 => cases r2; exact ⟨_, rfl, r1⟩
  have hf : H s.heap.objs.size = none := I.hok.fresh (Nat.le_refl _)
  refine call_range_1 ⟨.ref s.heap.objs.size, upd H s.heap.objs.size (.rng 0 j), ?_, rfl, q _ hf⟩
  exact I.laid (fun b o e => Heap.get?_push_of_some _ e) (Nat.le_refl _) ⟨_, t, _, Heap.get?_push_size _ rfl⟩
/-- for .. in r, r a range object that is tracked -/
def iRngV (te : TE) : TI := fun σ H R => te σ H fun x H1 => ∃ a lo hi, x = .ref a ∧ H1 a = some (.rng lo hi) ∧ -(2 ^ 62) ≤ lo ∧ lo < 2 ^ 62 ∧ -(2 ^ 62) ≤ hi ∧ hi < 2 ^ 62 ∧ R (Itr lo (hi - lo).toNat) H1
theorem pi_rngV {tg e : Expr} {te : TE} (he : PE X e te) : PI X tg e (iRngV te) := by
  constructor
  intro pins s σ H R I h
  refine thn (he.run pins s σ H _ I h) ?_
  rintro v s1 ⟨x, H1, I1, r1, a, lo, hi, rfl, ha, h1, h2, h3, h4, q⟩
  cases (show v = Value.ref a from r1)
  obtain ⟨t, u, w, ho⟩ := (show ObjOk X.prog X.w H1 s1.heap a (.rng lo hi) from I1.hok a _ ha)
  refine wpAny_pyIter_range (show IsRange s1.heap a lo hi 1 t u w from ho) (small_one h1 h2 h3 h4) ?_
  refine ⟨s1.heap.objs.size, [s1.heap.objs.size], _, _, H1, rfl, I1.kept (t' := s1.toks) (fun b o e => Heap.get?_push_of_some _ e), turn_range _ lo (hi - lo).toNat, ?_, ?_, q⟩
  · have e1 : lo + ((0 : Nat) : Int) * 1 = lo := by simp
    have e2 : (((hi - lo).toNat : Nat) : Int) - ((0 : Nat) : Int) = Builtin.Range.rangeSize lo hi 1 := by
      rw [rangeSize_one]
      split <;> omega
    show IsRangeIter _ _ (lo + ((0 : Nat) : Int) * 1) ((((hi - lo).toNat : Nat) : Int) - ((0 : Nat) : Int)) 1
    rw [e1, e2]
    exact Heap.get?_push_size _ rfl
  · intro b hb
    cases (by simpa using hb : b = s1.heap.objs.size)
    exact I1.fpOk (Nat.le_refl _) (I1.hok.fresh (Nat.le_refl _))
end
end L2
end
section
set_option Elab.async false
set_option linter.all false
set_option maxRecDepth 100000
set_option maxHeartbeats 2000000
/-! # Defs, classes and methods as one fact each. -/
namespace L2
open PySem PySem.Spec PyProof.Rows
abbrev CXe (P : Program) (w : World) : CXT := L2.CX P w
/-- a def of the module, called by its name -/
structure CalG (P : Program) (w : World) (K : PySem.W.Frag) (mg : Str → Option Value) (base : Heap) (k : Nat) (x : Str) (sp : Sp) : Prop where
  ex : ∃ (f : Addr) (fd : FuncData) (ps : List Str), FnG P w K mg base (CXe P w) k f fd ps sp ∧ mg x = some (.ref f) ∧ PySem.W.keepIn K (.ref f) = true ∧ Binds K fd ps []
/-- a class, called: its __init__ at sp, dvs its last defaults -/
structure MakG (P : Program) (w : World) (K : PySem.W.Frag) (mg : Str → Option Value) (base : Heap) (k : Nat) (x : Str) (C : Addr) (sp : Sp) (dvs : List V) : Prop where
  ex : ∃ (f : Addr) (fd : FuncData) (ps : List Str) (ds : List Value), FnG P w K mg base (CXe P w) k f fd ps sp ∧ Mk K C f ∧ mg x = some (.ref C) ∧ Binds K fd ps ds ∧ Vals dvs ds
/-- a method -/
structure MetG (P : Program) (w : World) (K : PySem.W.Frag) (mg : Str → Option Value) (base : Heap) (k : Nat) (C : Addr) (m : Str) (sp : Sp) : Prop where
  ex : ∃ (f : Addr) (fd : FuncData) (ps : List Str), FnG P w K mg base (CXe P w) k f fd ps sp ∧ Cls K C ∧ Meth K C m f ∧ Binds K fd ps []
section
variable {X : Cx} {k j : Nat} {x m : Str} {C : Addr} {sp : Sp} {dvs : List V} {e o : Expr} {es : List Expr} {ta : TE} {t : TA} {p pos apos : Pos} {E : St → XK}
theorem run_fnGS {pins : List (Addr × Obj)} {σ : St} {H : Hp} {s : Shared} {Q : VK} {us : List Value} {vs : List V} {CX : CXT} {f : Addr} {fd : FuncData} {ps : List Str} {E : XK}
    (F : FnG X.prog X.w X.K X.mg X.base CX k f fd ps sp) (hgd : X.A.guards = some []) (hr : Room k X.A) (hb : Binds X.K fd ps [])
    (hx : PassesAt CX X σ E) (I : Inv X pins σ H s) (r : Vals vs us) (h : sp vs H Q E) :
    wpAny (model X.prog X.w) X.A (call (.ref f) us) (EP X pins σ Q) X.xe s := by
  have hl : (us ++ []).length = ps.length := by
    rw [List.append_nil]
    exact r.length.symm.trans (F.len _ _ _ _ h)
  have hbb := hb s us I.kIn hl
  rw [List.append_nil] at hbb
  apply wpAny_call
  refine codeAny_mono (F.run X.A X.stack s H ⟨us, []⟩ us vs Q E hgd hr I.env0 hbb r h) ?_
  intro r s' hq
  match r, hq with
  | .error e, hq => exact hx pins H s e s' I hq
  | .ok (.ret u), hq => exact I.after hq
  | .ok .next, hq => exact False.elim hq
  | .ok .brk, hq => exact False.elim hq
  | .ok .cont, hq => exact False.elim hq
/-- f(e, ..): E says by the slots what is wanted of an exception -/
theorem pg_cS (c : CalG X.prog X.w X.K X.mg X.base k x sp) (hgd : X.A.guards = some []) (hr : Room j X.A) (hk : k ≤ j) (hx : ∀ σ, PassesAt (CXe X.prog X.w) X σ (E σ))
    (ha : PA X (e :: es) t) (hg : Gl X x := by rfl) (hdb : (x == ("__debug__" : Str)) = false := by decide)
    (he : starEach (e :: es) X.env = (false, eval e X.env) :: starEach es X.env := by rfl)
    (hpl : (backTo pos (starEach es X.env)).any (·.1) = false := by rfl) :
    PE X (.Call (.Name x p) (e :: es) [] pos) (tCallS sp E t) := by
  obtain ⟨f, fd, ps, F, hm, kp, hb⟩ := c.ex
  constructor
  intro pins s σ H Q I h
  refine wpAny_Call_Name_kw (ld_glob I hg hm ?_ hdb)
  refine PySem.W.callWith_K (h₀ := X.base) I.ok.mod.kin kp (thn (ha.run pos pins s σ H _ I h) ?_) he hpl
  rintro us s1 ⟨vs, H1, I1, r, q⟩
  exact ⟨I1.kIn, run_fnGS F hgd (hr.mono hk) hb (hx σ) I1 r q⟩
/-- where no exception leaves -/
theorem pg_c (c : CalG X.prog X.w X.K X.mg X.base k x sp) (hgd : X.A.guards = some []) (hr : Room j X.A) (hk : k ≤ j)
    (ha : PA X (e :: es) t) (hg : Gl X x := by rfl) (hdb : (x == ("__debug__" : Str)) = false := by decide)
    (he : starEach (e :: es) X.env = (false, eval e X.env) :: starEach es X.env := by rfl)
    (hpl : (backTo pos (starEach es X.env)).any (·.1) = false := by rfl) :
    PE X (.Call (.Name x p) (e :: es) [] pos) (tCallS sp (fun _ => E0) t) :=
  pg_cS c hgd hr hk (fun σ pins H s e s' I c => passL pins σ H s e s' I c) ha hg hdb he hpl
def tMakeS (C : Addr) (sp : Sp) (dvs : List V) (E : St → XK) (t : TA) : TE := fun σ H Q => t σ H fun vs H1 => ∀ x dx, H1 x = none → H1 dx = none → dx ≠ x →
  sp (.ref x :: (vs ++ dvs)) (upd (upd H1 dx (.own x)) x (.ins C dx [])) (fun v H2 => v = .non ∧ Q (.ref x) H2) (E σ)
theorem run_makeGS {pins : List (Addr × Obj)} {σ : St} {H : Hp} {s : Shared} {Q : VK} {us ds : List Value} {vs : List V} {CX : CXT} {f : Addr} {fd : FuncData} {ps : List Str} {E : XK}
    (M : Mk X.K C f) (F : FnG X.prog X.w X.K X.mg X.base CX k f fd ps sp) (hgd : X.A.guards = some []) (hr : Room (k + 1) X.A) (hb : Binds X.K fd ps ds) (hd : Vals dvs ds)
    (hx : PassesAt CX X σ E) (I : Inv X pins σ H s) (r : Vals vs us)
    (h : ∀ x dx, H x = none → H dx = none → dx ≠ x → sp (.ref x :: (vs ++ dvs)) (upd (upd H dx (.own x)) x (.ins C dx [])) (fun v H2 => v = .non ∧ Q (.ref x) H2) E) :
    wpAny (model X.prog X.w) X.A (call (.ref C) us) (EP X pins σ Q) X.xe s := by
  have q0 := h (s.heap.objs.size + 1) s.heap.objs.size (I.hok.fresh (Nat.le_succ _)) (I.hok.fresh (Nat.le_refl _)) (Nat.ne_of_lt (Nat.lt_succ_self _))
  have I2 := Inv.made (C := C) I
  have r2 : Vals (V.ref (s.heap.objs.size + 1) :: (vs ++ dvs)) (Value.ref (s.heap.objs.size + 1) :: (us ++ ds)) := Paired.cons rfl (r.append hd)
  have hl : (Value.ref (s.heap.objs.size + 1) :: us ++ ds).length = ps.length := r2.length.symm.trans (F.len _ _ _ _ q0)
  have gd : (X.A.under (.builtin "type.__call__" ⟨.ref C :: us, []⟩)).guards = some [] := by
    have z : (X.A.under (.builtin "type.__call__" ⟨.ref C :: us, []⟩)).guards = X.A.guards := by
      first | rfl | simp [Around.under, Code.guards, pushGuards, guardIds]
    rw [z, hgd]
  apply wpAny_call
  refine make_map (f := f) I.kIn M.makes M.init (beq_iff_eq.mp M.fn) ?_
  refine codeAny_mono (F.run _ X.stack _ _ ⟨Value.ref (s.heap.objs.size + 1) :: us, []⟩ (Value.ref (s.heap.objs.size + 1) :: (us ++ ds)) _ _ E gd (hr.make C us []) (I2.env0.make C us []) (hb _ (Value.ref (s.heap.objs.size + 1) :: us) I2.kIn hl) r2 q0) ?_
  intro r s' hq
  match r, hq with
  | .error e, hq => exact hx pins _ _ e s' I2 hq
  | .ok (.ret u), hq =>
    obtain ⟨v, H', I3, rv, ev, q3⟩ := I2.after hq
    subst ev
    exact ⟨rv, ⟨V.ref (s.heap.objs.size + 1), H', I3, rfl, q3⟩⟩
  | .ok .next, hq => exact False.elim hq
  | .ok .brk, hq => exact False.elim hq
  | .ok .cont, hq => exact False.elim hq
theorem pg_mkS (c : MakG X.prog X.w X.K X.mg X.base k x C sp dvs) (hgd : X.A.guards = some []) (hr : Room j X.A) (hk : k + 1 ≤ j) (hx : ∀ σ, PassesAt (CXe X.prog X.w) X σ (E σ))
    (ha : PA X (e :: es) t) (hg : Gl X x := by rfl) (hdb : (x == ("__debug__" : Str)) = false := by decide)
    (he : starEach (e :: es) X.env = (false, eval e X.env) :: starEach es X.env := by rfl)
    (hpl : (backTo pos (starEach es X.env)).any (·.1) = false := by rfl) :
    PE X (.Call (.Name x p) (e :: es) [] pos) (tMakeS C sp dvs E t) := by
  obtain ⟨f, fd, ps, ds, F, M, hm, hb, hd⟩ := c.ex
  constructor
  intro pins s σ H Q I h
  refine wpAny_Call_Name_kw (ld_glob I hg hm ?_ hdb)
  refine PySem.W.callWith_K (h₀ := X.base) I.ok.mod.kin M.kp (thn (ha.run pos pins s σ H _ I h) ?_) he hpl
  rintro us s1 ⟨vs, H1, I1, r, q⟩
  exact ⟨I1.kIn, run_makeGS M F hgd (hr.mono hk) hb hd (hx σ) I1 r q⟩
theorem pg_mk (c : MakG X.prog X.w X.K X.mg X.base k x C sp dvs) (hgd : X.A.guards = some []) (hr : Room j X.A) (hk : k + 1 ≤ j)
    (ha : PA X (e :: es) t) (hg : Gl X x := by rfl) (hdb : (x == ("__debug__" : Str)) = false := by decide)
    (he : starEach (e :: es) X.env = (false, eval e X.env) :: starEach es X.env := by rfl)
    (hpl : (backTo pos (starEach es X.env)).any (·.1) = false := by rfl) :
    PE X (.Call (.Name x p) (e :: es) [] pos) (tMakeS C sp dvs (fun _ => E0) t) :=
  pg_mkS c hgd hr hk (fun σ pins H s e s' I c => passL pins σ H s e s' I c) ha hg hdb he hpl
theorem pg_mk0 (c : MakG X.prog X.w X.K X.mg X.base k x C sp dvs) (hgd : X.A.guards = some []) (hr : Room j X.A) (hk : k + 1 ≤ j)
    (hg : Gl X x := by rfl) (hdb : (x == ("__debug__" : Str)) = false := by decide) :
    PE X (.Call (.Name x p) [] [] pos) (tMakeS C sp dvs (fun _ => E0) tNil) := by
  obtain ⟨f, fd, ps, ds, F, M, hm, hb, hd⟩ := c.ex
  constructor
  intro pins s σ H Q I h
  refine wpAny_Call_Name_kw (ld_glob I hg hm ?_ hdb)
  exact PySem.W.callWith_K0 I.kIn M.kp (run_makeGS (us := []) M F hgd (hr.mono hk) hb hd (fun pins H s e s' I c => passL pins σ H s e s' I c) I .nil h)
def tMethX6 (C : Addr) (m : Str) (sp : Sp) (E : St → XK) (ta : TE) (t : TA) : TE := fun σ H Q => ta σ H fun x H1 => ∃ a dx fs, x = .ref a ∧ H1 a = some (.ins C dx fs) ∧ fs.lookup m = none ∧
  t σ H1 fun vs H2 => sp (x :: vs) H2 Q (E σ)
theorem pg_mtS {pl : Sem Bool} (c : MetG X.prog X.w X.K X.mg X.base k C m sp) (hgd : X.A.guards = some []) (hr : Room j X.A) (hk : k ≤ j) (hx : ∀ σ, PassesAt (CXe X.prog X.w) X σ (E σ)) (ho : PE X o ta) (ha : PA X (e :: es) t)
    (hst : starEach (e :: es) X.env = (false, eval e X.env) :: starEach es X.env := by rfl)
    (hpl : (backTo pos (starEach es X.env)).any (·.1) = false := by rfl)
    (ht : eval (.Call (.Attribute o m apos) (e :: es) [] pos) X.env =
      (do let ov ← eval o X.env; standAt apos.atName; let (f, first) ← holding [ov] (getMethod ov m pl); callWith pos f first (backTo pos (starEach (e :: es) X.env)) (backToKw pos (keywordEach [] X.env))) := by rfl) :
    PE X (.Call (.Attribute o m apos) (e :: es) [] pos) (tMethX6 C m sp E ta t) := by
  obtain ⟨f, fd, ps, F, cl, hm, hb⟩ := c.ex
  constructor
  intro pins s σ H Q I h
  refine PySem.W.methodCall_KW (pl := pl) (thn (ho.run pins s σ H _ I h) ?_) ht
  rintro u s1 ⟨x, H1, I1, rx, a, dx, fs, ex, ea, l, q⟩
  subst ex
  cases (show u = Value.ref a from rx)
  refine getmeth_ok I1 ea cl hm l ?_
  refine PySem.W.callWith_K (first := [.ref a]) (h₀ := X.base) I.ok.mod.kin hm.kp (thn (ha.run pos pins s1 σ H1 _ I1 q) ?_) hst hpl
  rintro us s2 ⟨vs, H2, I2, r, q2⟩
  exact ⟨I2.kIn, run_fnGS (us := .ref a :: us) (vs := .ref a :: vs) F hgd (hr.mono hk) hb (hx σ) I2 (.cons rfl r) q2⟩
theorem pg_mt {pl : Sem Bool} (c : MetG X.prog X.w X.K X.mg X.base k C m sp) (hgd : X.A.guards = some []) (hr : Room j X.A) (hk : k ≤ j) (ho : PE X o ta) (ha : PA X (e :: es) t)
    (hst : starEach (e :: es) X.env = (false, eval e X.env) :: starEach es X.env := by rfl)
    (hpl : (backTo pos (starEach es X.env)).any (·.1) = false := by rfl)
    (ht : eval (.Call (.Attribute o m apos) (e :: es) [] pos) X.env =
      (do let ov ← eval o X.env; standAt apos.atName; let (f, first) ← holding [ov] (getMethod ov m pl); callWith pos f first (backTo pos (starEach (e :: es) X.env)) (backToKw pos (keywordEach [] X.env))) := by rfl) :
    PE X (.Call (.Attribute o m apos) (e :: es) [] pos) (tMethX6 C m sp (fun _ => E0) ta t) :=
  pg_mtS c hgd hr hk (fun σ pins H s e s' I c => passL pins σ H s e s' I c) ho ha hst hpl ht
theorem pg_mt0 {pl : Sem Bool} (c : MetG X.prog X.w X.K X.mg X.base k C m sp) (hgd : X.A.guards = some []) (hr : Room j X.A) (hk : k ≤ j) (ho : PE X o ta)
    (ht : eval (.Call (.Attribute o m apos) [] [] pos) X.env =
      (do let ov ← eval o X.env; standAt apos.atName; let (f, first) ← holding [ov] (getMethod ov m pl); callWith pos f first (backTo pos (starEach [] X.env)) (backToKw pos (keywordEach [] X.env))) := by rfl) :
    PE X (.Call (.Attribute o m apos) [] [] pos) (tMethX6 C m sp (fun _ => E0) ta tNil) := by
  obtain ⟨f, fd, ps, F, cl, hm, hb⟩ := c.ex
  constructor
  intro pins s σ H Q I h
  refine PySem.W.methodCall_KW (pl := pl) (thn (ho.run pins s σ H _ I h) ?_) ht
  rintro u s1 ⟨x, H1, I1, rx, a, dx, fs, ex, ea, l, q⟩
  subst ex
  cases (show u = Value.ref a from rx)
  refine getmeth_ok I1 ea cl hm l ?_
  exact PySem.W.callWith_K0 (first := [.ref a]) I1.kIn hm.kp (run_fnGS (us := [.ref a]) (vs := [.ref a]) F hgd (hr.mono hk) hb (fun pins H s e s' I c => passL pins σ H s e s' I c) I1 (.cons rfl .nil) q)
end
section
variable {P : Program} {w : World} {K : PySem.W.Frag} {mg : Str → Option Value} {base : Heap} {x qual : Str} {f : Addr} {fd : FuncData} {N ps : List Str} {k : Nat} {sp : Sp}
/-- a def by its body: it may raise, and nothing is being shown around it -/
theorem Fun.okG {st : Stmt} (F : Fun K x qual st f fd) (S : FnScope N ps (defScope st)) (len : ∀ vs H Q E, sp vs H Q E → vs.length = ps.length)
    (hbody : ∀ (cdv : Value) (A : Around) (outer : List Env) (s : Shared) (H : Hp) (vs : List V) (Q : VK) (E : XK), (A.deeper (envOfC qual (defScope st) s.heap.objs.size f cdv)).guards = some [] →
      Room k (A.deeper (envOfC qual (defScope st) s.heap.objs.size f cdv)) → sp vs H Q E →
      ∃ t, PSs (cxOf (CXe P w) P w K mg base N qual (defScope st) f cdv A outer s H E) (defBody st) t ∧ t { nx := fun _ H' => Q .non H', rt := Q } (start N vs) H) :
    FnG P w K mg base (CXe P w) (k + 1) f fd ps sp := by
  obtain ⟨oc, od, kV, doc, pm, an, cdv, ct, osl, rfl, lk, hcd⟩ := F.ex
  exact fn_ofG lk hcd S len fun A outer s H vs Q E hg hr hsp => hbody cdv A outer s H vs Q E hg hr hsp
theorem FunD.okG {params : Arguments} {body : List Stmt} {scope : Scope} {dvs : List V} {kws : List (Str × V)} (F : FunD K x qual params body scope dvs kws f fd) (S : FnScope N ps scope) (len : ∀ vs H Q E, sp vs H Q E → vs.length = ps.length)
    (hbody : ∀ (cdv : Value) (A : Around) (outer : List Env) (s : Shared) (H : Hp) (vs : List V) (Q : VK) (E : XK), (A.deeper (envOfC qual scope s.heap.objs.size f cdv)).guards = some [] →
      Room k (A.deeper (envOfC qual scope s.heap.objs.size f cdv)) → sp vs H Q E →
      ∃ t, PSs (cxOf (CXe P w) P w K mg base N qual scope f cdv A outer s H E) body t ∧ t { nx := fun _ H' => Q .non H', rt := Q } (start N vs) H) :
    FnG P w K mg base (CXe P w) (k + 1) f fd ps sp := by
  obtain ⟨oc, od, dV, kV, doc, pm, an, cdv, ct, osl, rfl, lk, hcd, _, _⟩ := F.ex
  exact fn_ofG lk hcd S len fun A outer s H vs Q E hg hr hsp => hbody cdv A outer s H vs Q E hg hr hsp
end
/-- the type of a tracked value, where it is one of the common ones -/
def tyN (H : Hp) : V → Option String
  | .non => some "NoneType"
  | .bl _ => some "bool"
  | .int _ => some "int"
  | .str _ => some "str"
  | .ref a => match H a with
    | some (.lst _) => some "list"
    | some (.tup _) => some "tuple"
    | some (.dK _) => some "dict"
    | some (.dT _) => some "dict"
    | _ => none
  | _ => none
theorem tyN_of {K : PySem.W.Frag} {H : Hp} {v : V} {n : String} (h : tyN H v = some n) : TyOf K H v (.type n) := by
  cases v with
  | non => cases h; exact .non
  | bl b => cases h; exact .bl b
  | int i => cases h; exact .int i
  | str x => cases h; exact .str x
  | byt b => cases h
  | flt b => cases h
  | ty t => cases h
  | ref a =>
    simp only [tyN] at h
    cases e : H a with
    | none => rw [e] at h; cases h
    | some o =>
      rw [e] at h
      cases o <;> simp only at h <;> first | (cases h; done) | skip
      all_goals first
        | (cases h; exact .lst e)
        | (cases h; exact .tup e)
        | (cases h; exact .dK e)
        | (cases h; exact .dT e)
end L2
end
section
set_option Elab.async false
set_option linter.all false
set_option maxRecDepth 100000
set_option maxHeartbeats 2000000
/-! # New objects, the heap behind them a letter. -/
namespace L2
open PySem PySem.Spec PyProof.Rows
theorem same_new {H : Hp} {p : Addr} {o : HO} (h : H p = none) : Same H (upd H p o) := fun b u e => by
  rw [upd_ne (ne_of_none e h)]; exact e
/-- o stands at p, new, in H2; else H2 is H -/
structure New (H H2 : Hp) (p : Addr) (o : HO) : Prop where
  free : H p = none
  at_ : H2 p = some o
  same : Same H H2
  rest : ∀ b, b ≠ p → H2 b = H b
theorem New.mk' {H : Hp} {p : Addr} {o : HO} (h : H p = none) : New H (upd H p o) p o := ⟨h, upd_same, same_new h, fun _ hb => upd_ne hb⟩
theorem New.off {M : Addr → Prop} {H H2 : Hp} {p : Addr} {o : HO} (n : New H H2 p o) : Off M H H2 := Off.same n.same
section
variable {X : Cx} {es : List Expr} {t : TA} {pos : Pos}
def tTupA (t : TA) : TE := fun σ H Q => t σ H fun xs H1 => xs.length ≤ sizeLine ∧ ∀ p H2, New H1 H2 p (.tup xs) → Q (.ref p) H2
def tLstA (t : TA) : TE := fun σ H Q => t σ H fun xs H1 => xs.length ≤ sizeLine ∧ ∀ p H2, New H1 H2 p (.lst xs) → Q (.ref p) H2
theorem pe_tupA {x1} (h : PA X es t) : PE X (.Tuple es x1 pos) (tTupA t) := by
  constructor
  intro pins s σ H Q I hq
  refine wpAny_Tuple_spliced (thn (h.run pos pins s σ H _ I hq) ?_)
  rintro us s1 ⟨xs, H1, I1, r, z, q⟩
  refine ⟨by rw [← r.length]; exact z, ?_⟩
  have hf : H1 s1.heap.objs.size = none := I1.hok.fresh (Nat.le_refl _)
  refine ⟨.ref s1.heap.objs.size, upd H1 s1.heap.objs.size (.tup xs), ?_, rfl, q _ _ (New.mk' hf)⟩
  exact I1.laid (t' := s1.toks) (fun b u e => Heap.get?_push_of_some _ e) (Nat.le_refl _) ⟨z, us, r, _, Heap.get?_push_size _ rfl, rfl, _, rfl⟩
theorem pe_lstA (h : PA X es t) : PE X (.List es pos) (tLstA t) := by
  constructor
  intro pins s σ H Q I hq
  refine wpAny_List_spliced (thn (h.run pos pins s σ H _ I hq) ?_)
  rintro us s1 ⟨xs, H1, I1, r, z, q⟩
  refine ⟨by rw [← r.length]; exact z, ?_⟩
  have hf : H1 s1.heap.objs.size = none := I1.hok.fresh (Nat.le_refl _)
  refine ⟨.ref s1.heap.objs.size, upd H1 s1.heap.objs.size (.lst xs), ?_, rfl, q _ _ (New.mk' hf)⟩
  exact I1.laid (t' := s1.toks) (fun b u e => Heap.get?_push_of_some _ e) (Nat.le_refl _) ⟨z, us, 0, r, Heap.get?_push_size _ rfl⟩
def tDNewA : TE := fun _ H Q => ∀ p H2, New H H2 p (.dK []) → Q (.ref p) H2
theorem pe_dnewA : PE X (.Dict [] [] pos) tDNewA := by
  constructor
  intro pins s σ H Q I hq
  exact pe_dnewK.run pins s σ H Q I fun p hp => hq p _ (New.mk' hp)
end
end L2
end
section
set_option Elab.async false
set_option linter.all false
set_option maxRecDepth 100000
set_option maxHeartbeats 2000000
/-! # What the top leaves, each fact from facts that are looked up. -/
namespace L2
open PySem PySem.Spec PyProof.Rows
theorem funD_mk {K : PySem.W.Frag} {x qual : Str} {params : Arguments} {body : List Stmt} {scope : Scope} {dvs : List V} {f T : Addr} {oc : Value} {od an : Option Addr} {osl : Array (Option Value)} {kV doc pm cdv ct : Value} {o : Obj} {its : List Value} {n : Nat}
    (l : K.lookup f = some ⟨oc, od, .func (PySem.W.fnOf x qual params body scope (.ref T) kV doc pm an cdv ct), osl⟩) (c : PySem.W.codeIn K cdv qual = true) (k : PySem.W.keepIn K (.ref f) = true)
    (t : K.lookup T = some o) (u : o.data = .seq its.toArray n) (v : Vals dvs its) (ne : dvs ≠ []) : FunD K x qual params body scope dvs [] f (PySem.W.fnOf x qual params body scope (.ref T) kV doc pm an cdv ct) :=
  ⟨⟨oc, od, _, kV, doc, pm, an, cdv, ct, osl, rfl, l, c, .inr ⟨ne, T, o, its, n, rfl, t, u, v⟩, .inl rfl⟩, k⟩
end L2
namespace RX
open PySem PySem.W PySem.Calls PyProof.Rows PySem.HandSPX
theorem te_of {K : Frag} {S : Addr} (a : subIn K (.ref S) (.type "BaseException") = some true) (b : isClsIn K S = true) (c : typeIn K (.ref S) = some (.type "type")) (d : subIn K (.ref S) (.ref S) = some true) : exmOne K (.ref S) (.ref S) = some true := by
  have b' : (clsIn K S).isSome = true := b
  simp [exmOne, kitCls, a, b', c, d]
/-- an error of the package, from facts that are looked up -/
theorem errT_mk {prog : Program} {K : Frag} {mg : Str → Option Value} {h : Heap} {cn fld : Str} {C fI : Addr} (X : K.In h) (G : h.Ns mainGlobals mg)
    {nm q : Str} {N : Addr} {bs bm : List Value} {sn : List Str} {sub : List Value} {ab : Bool} {col : Option Bool} {dd : Option Addr} {k0 k1 k2 k3 k5 : Option Value}
    {oc : Value} {od : Option Addr} {doc pm : Value} {an : Option Addr} {cda cc : Addr} {ct : Value} {osl : Array (Option Value)} {msg : Str} {qual : Str} {p1 p2 q1 q2 q3 q4 q5 q6 q7 q8 q9 q10 : Pos}
    {ccl cl : Value} {cdd cld : Option Addr} {ccs csl : Array (Option Value)} {vs : Array Value} {file : Str} {tf : Tok}
    (gC : nsIn K mainGlobals cn = some (some (.ref C)))
    (cls : K.lookup C = some (excClassObj nm q C N bs bm true sn sub ab col dd k0 k1 k2 k3 k5 "ValueError.__new__")) (rv : refsVE bm = true)
    (sa : findIn K (.ref C) "__setattr__" = some (some (.builtin "object.__setattr__")))
    (ga : findIn K (.ref C) "__getattribute__" = some (some (.builtin "BaseException.__getattribute__"))) (gg : findIn K (.ref C) "__getattr__" = some none)
    (noN : findIn K (.ref C) fld = some none) (iC : findIn K (.ref C) "__init__" = some (some (.ref fI))) (tC : typeIn K (.ref fI) = some (.type "function")) (kC : keepIn K (.ref C) = true)
    (exC : subIn K (.ref C) (.type "BaseException") = some true) (tyC : typeIn K (.ref C) = some (.type "type")) (hdC : hasDictIn K C = true)
    (icC : isClsIn K C = true) (sC : subIn K (.ref C) (.ref C) = some true)
    (veC : subIn K (.ref C) (.type "ValueError") = some true) (selfM : mroIn K C (.ref C) = some true) (up : ks_superIn K C C "__init__" = some (some (.builtin "ValueError.__init__")))
    (third : nsIn K cStatics "thirdparty.any" = some none) (noS : nsIn K mainGlobals "super" = some none) (top : (prog.main.scope.names.lookup ("super" : Str)).isSome = false)
    (fl : (eS fld).names.lookup fld = some .local ∧ (fld == ("self" : Str)) = false ∧ (eS fld).names.lookup ("super" : Str) = some .globalImplicit ∧ (eS fld).names.lookup ("__class__" : Str) = some .free ∧ (fld == ("__debug__" : Str)) = false)
    (bd : ∀ (qual : Str) (body : List Stmt) (doc pm : Value) (an : Option Addr) (cd ct : Value) (cc : Addr) (p1 p2 : Pos) (a b : Value), bindArgs (ksFn "__init__" qual (eA fld p1 p2) body (eS fld) .none .none doc pm an cd ct cc) ⟨[a, b], []⟩ = pure [(("self" : Str), a), (fld, b)])
    (l : K.lookup fI = some ⟨oc, od, .func (ksFn "__init__" qual (eA fld p1 p2) (eB fld msg q1 q2 q3 q4 q5 q6 q7 q8 q9 q10) (eS fld) .none .none doc pm an (.ref cda) ct cc), osl⟩) (cd : codeIn K (.ref cda) qual = true)
    (lc : K.lookup cda = some ⟨ccl, cdd, .fields vs, ccs⟩) (v2 : vs[2]? = some (.str file tf)) (vf : ((prog.main.file : Str) == file) = true) (lcc : K.lookup cc = some ⟨cl, cld, .cell (some (.ref C)), csl⟩) (ln : (q3.endLine == q5.line) = true) :
    ErrT prog K mg cn fld C fI :=
  { gC := mg_of X G gC, cls := ⟨nm, q, N, bs, bm, sn, sub, ab, col, dd, k0, k1, k2, k3, k5, cls, rv⟩, sa := sa, xf := ⟨ga, gg, exC, hdC⟩, noN := noN, iC := iC, tC := tC, kC := kC, exC := exC, tyC := tyC, hdC := hdC, te := te_of exC icC tyC sC, veC := veC, selfM := selfM, up := up, third := third,
    noS := noS, top := top, fl := fl, bd := bd, fn := ⟨oc, od, doc, pm, an, cda, cc, ct, osl, msg, qual, p1, p2, q1, q2, q3, q4, q5, q6, q7, q8, q9, q10, ccl, cl, cdd, cld, ccs, csl, vs, file, tf, l, cd, lc, v2, vf, lcc, ln⟩ }
end RX
end
section
set_option Elab.async false
set_option linter.all false
set_option maxRecDepth 100000
set_option maxHeartbeats 2000000
/-! # enumerate of a tuple, and of a list or a tuple. -/
namespace L2
open PySem PySem.Spec PyProof.Rows
theorem meets_en1 {v : Value} {o : Obj} {Z : Heap → Prop} (B : Begins v o Z) :
    Meets (Builtin.«enumerate.__new__» ⟨[.type "enumerate", v], []⟩) (fun _ R s => Z s.heap ∧ R (.ok (.ret (.ref (s.heap.push o).objs.size)))
      { s with heap := (s.heap.push o).push { cls := .type "enumerate", data := .fields #[.none, .bool false, .ref s.heap.objs.size, rawInt 0, .none, .none] } }) :=
  .of_wp fun prog w A R s q => by
    obtain ⟨hp, ge, dr, tk, os⟩ := s
    obtain ⟨z1, q⟩ := q
    have hs := sub_enumerate
    have step : ∀ {A' : Around} {E : Value → Shared → Prop} {Q : Value → Shared → Prop}, Q (.ref hp.objs.size) ⟨hp.push o, ge, dr, tk, os⟩ → wpAny (model prog w) A' (pyIter v) Q E ⟨hp, ge, dr, tk, os⟩ := fun u => B.iter prog w _ _ ⟨hp, ge, dr, tk, os⟩ _ z1 u
    wp_walk using step
    refine wpAny_stack_any fun sk => wpAny_pure ?_
    split
    · rename_i c _ _ _ _ _
      cases (c == Value.type "enumerate") <;> (wp_walk using step; exact ⟨_, rfl, q⟩)
    · wp_walk using step
      exact ⟨_, rfl, q⟩
section
variable {prog : Program} {w : World} {A : Around} {E : Value → Shared → Prop} {s : Shared}
/-- enumerate(v): its two new cells -/
theorem call_en {v : Value} {o : Obj} {Z : Heap → Prop} {Q : Value → Shared → Prop} (B : Begins v o Z) (z1 : Z s.heap)
    (q : ∀ h', IsEnum h' (s.heap.objs.size + 1) s.heap.objs.size 0 .none → h'.get? s.heap.objs.size = some o → h'.objs.size = s.heap.objs.size + 2 → (∀ b u, s.heap.get? b = some u → h'.get? b = some u) → Q (.ref (s.heap.objs.size + 1)) { s with heap := h' }) :
    wpAny (model prog w) A (call (.type "enumerate") [v]) Q E s := by
  refine callType_new F.called_enumerate (by decide) (F.typeCall_enumerate_1 _) (F.newCall_enumerate_1 _) (fun obj => F.args_object_init_2 obj _) F.entry_enumerate_new (meets_en1 B) ⟨z1, ?_⟩
  have e1 : (s.heap.push o).objs.size = s.heap.objs.size + 1 := Heap.size_push ..
  show _ ∧ _
  rw [e1]
  have he : IsEnum ((s.heap.push o).push { cls := .type "enumerate", data := .fields #[.none, .bool false, .ref s.heap.objs.size, rawInt 0, .none, .none] }) (s.heap.objs.size + 1) s.heap.objs.size 0 .none := by
    have u := Heap.get?_push_size (s.heap.push o) (o := { cls := .type "enumerate", data := .fields #[.none, .bool false, .ref s.heap.objs.size, rawInt 0, .none, .none] }) rfl
    rwa [e1] at u
  exact ⟨⟨_, he, rfl⟩, q _ he (Heap.get?_push_of_some _ (Heap.get?_push_size _ B.free)) (by rw [Heap.size_push, e1]) fun b u x => Heap.get?_push_of_some _ (Heap.get?_push_of_some _ x)⟩
end
/-- the tuple at a, each item in a new pair -/
def IteT (K : PySem.W.Frag) (a : Addr) : It :=
  ⟨fun i H => ∃ (xs : List V) (x : V), SqT K H a xs ∧ xs[i]? = some x, fun i H v H' => ∃ T x, v = .ref T ∧ H T = none ∧ H' = upd H T (.tup [.int (i : Nat), x]) ∧ ∀ xs, SqT K H a xs → xs[i]? = some x, fun i H => ∃ xs : List V, SqT K H a xs ∧ xs.length ≤ i⟩
theorem turn_enT {P : Program} {w : World} {K : PySem.W.Frag} {elts : List Expr} {kk : Nat} {tpos : Pos} (a e it : Addr) :
    Turn P w K (.Tuple elts kk tpos) (IteT K a) [e, it] e (fun i h => (∃ old, IsEnum h e it ((i : Nat) : Int) old) ∧ h.IsTupleIter it a i ∧ e ≠ it) where
  mem := by simp
  obj := fun i h st b hb => by
    obtain ⟨⟨old, he⟩, ⟨o, ho, hc, hd⟩, _⟩ := st
    rcases (by simpa using hb : b = e ∨ b = it) with z | z
    · exact z ▸ ⟨_, he, fun v q => nomatch q⟩
    · exact z ▸ ⟨o, ho, fun v q => by rw [hd] at q; cases q⟩
  keep := fun i h h' st k => ⟨let ⟨old, he⟩ := st.1; ⟨old, k e (by simp) _ he⟩, st.2.1.at fun o q => k it (by simp) o q, st.2.2⟩
  item := by
    intro X hP hw hK hc i pins s σ H E I hf st hg
    subst hP hw hK
    obtain ⟨⟨old, he⟩, hit, hne⟩ := st
    obtain ⟨xs, x, hq, hx⟩ := hg
    obtain ⟨its, rv, p, hz⟩ := I.tuple hq
    obtain ⟨u, hu, ru⟩ := rv.get hx
    have hel : e < s.heap.objs.size := Heap.lt_size he
    have hil : it < s.heap.objs.size := by obtain ⟨_, q, _⟩ := hit; exact Heap.lt_size q
    have ht : s.heap.IsTuple a its.toArray := p
    have hai : a ≠ it := by
      rintro rfl
      obtain ⟨o1, q1, c1, _⟩ := hit
      obtain ⟨o2, q2, c2, _⟩ := ht
      rw [q1] at q2
      cases q2
      exact absurd (Value.type.inj (c1.symm.trans c2)) (by decide)
    have hea : e ≠ a := by
      rintro rfl
      obtain ⟨o2, q2, c2, _⟩ := ht
      rw [he] at q2
      cases q2
      exact absurd (Value.type.inj (c2 : Value.type "enumerate" = .type "tuple")) (by decide)
    have hlt : i < its.toArray.size := by
      have := (List.getElem?_eq_some_iff.mp (by simpa using hu : its[i]? = some u)).1
      simpa using this
    refine wpAny_pyNext_enum_itemD (Draws.tuple (A := X.A.in1) (I.ok.hd hc) it a hai its.toArray) he ⟨hit, ht⟩ hlt hne (by simp [hne, hea]) fun x' h' tk hx' ho hst hT hsz hk => ?_
    have eu : x' = u := by
      have : its.toArray[i]? = some u := by simpa using hu
      exact Option.some.inj (hx'.symm.trans this)
    subst eu
    refine ⟨_, rfl, wpAny_letOwnedTupleGo_enum (s := { s with heap := h', toks := tk + 1 }) ho fun h'' he' sb => ?_⟩
    have hT2 : h''.get? s.heap.objs.size = some { cls := .type "tuple", data := .seq #[.int i tk, x'] } := (sb.2 _ (Nat.ne_of_gt hel)).trans hT
    have nw : ObjOk X.prog X.w (upd H s.heap.objs.size (.tup [.int (i : Nat), x])) h'' s.heap.objs.size (.tup [.int (i : Nat), x]) :=
      ⟨by show 2 ≤ sizeLine; decide, [.int i tk, x'], .cons ⟨_, rfl⟩ (.cons ru .nil), ⟨_, hT2, rfl, _, rfl⟩⟩
    have I1 : Inv X pins σ (upd H s.heap.objs.size (.tup [.int (i : Nat), x])) { s with heap := h'', toks := tk + 1 } :=
      I.turnedNew (ch := [e, it]) (fun b ob hb q => (sb.2 b (fun z => hb (by simp [z]))).trans (hk b ob (fun z => hb (by simp [z])) (fun z => hb (by simp [z])) q)) hf (Nat.le_refl _) nw
    refine ⟨.ref s.heap.objs.size, _, I1, rfl, ⟨_, x, rfl, I.hok.fresh (Nat.le_refl _), rfl, fun ys hy => by rw [I.tuple_inj hy hq]; exact hx⟩, ⟨⟨x', ?_⟩, hst.1.at fun o q => (sb.2 it (Ne.symm hne)).trans q, hne⟩, fun b hb => ?_⟩
    · rw [show ((i + 1 : Nat) : Int) = (i : Int) + 1 by omega]
      exact he'
    · have hb' : b < s.heap.objs.size := by
        rcases (by simpa using hb : b = e ∨ b = it) with z | z
        · exact z ▸ hel
        · exact z ▸ hil
      rw [upd_ne (Nat.ne_of_lt hb')]
      exact (hf b hb).1
  done := by
    intro X hP hw hK hc i pins s σ H E I hf st hg
    subst hP hw hK
    obtain ⟨⟨old, he⟩, hit, hne⟩ := st
    obtain ⟨xs, hq, hx⟩ := hg
    obtain ⟨its, rv, p, hz⟩ := I.tuple hq
    have ht : s.heap.IsTuple a its.toArray := p
    have hl := rv.length
    obtain ⟨f0, f1, f2, f3, f4, f5⟩ := hf it (by simp)
    have hT : s.TypeIs (.ref e) "enumerate" := ⟨_, he, rfl⟩
    have nn : its.toArray[i]? = none := by simp; omega
    unfold pyNext
    refine wpAny_bind (wpAny_attempt (wpAny_callSpecial?_slot (name := Str.ofString "__next__") hT F.slot_enumerate_next (wpAny_call_entry F.slot_enumerate_next hT F.entry_enumerate_next ?_ (F.args_enumerate_next_1 _))))
    show wpAny _ X.A.in1 (field (.ref e) 2 >>= _) _ _ s
    refine wpAny_bind (wpAny_field he rfl (x := .ref it) rfl (wpAny_bind (RZ.nextOf_tuple_end (A := X.A.in1) (I.ok.hd hc) hit ht nn fun h' y hy ht' => ?_)))
    obtain ⟨o, q1, q2⟩ := ht'
    refine wpAny_bind (wpAny_isInstance (T := "StopIteration") (b := true) ⟨o, q1, q2⟩ isSubtype_stop (wpAny_pure ⟨rfl, ?_⟩))
    exact I.turned (t' := s.toks) (fun b o hb q => hy b o hb q) f0 f1 f3 f4 f5
  self := fun A i s Q E st h => let ⟨⟨_, he⟩, _⟩ := st; wpAny_pyIter_enum he h
theorem walk_enT {K : PySem.W.Frag} {a : Addr} {xs : List V} : Walk (IteT K a) xs.length (fun H => SqT K H a xs) (YPair (fun i => some (.int (i : Nat))) (fun i => xs[i]?)) :=
  ⟨fun i _ hi q => ⟨xs, xs[i], q, by simp [hi]⟩, fun _ q => ⟨xs, q, Nat.le_refl _⟩, fun i H v H' _ q ⟨T, x, h1, h2, h3, h4⟩ => ⟨T, .int (i : Nat), x, h1, h2, h3, rfl, h4 xs q⟩⟩
section
variable {X : Cx} {e : Expr} {ta : TA} {p pos tpos : Pos} {elts : List Expr} {kk : Nat}
/-- enumerate(v), v a list or a tuple -/
def iEnum2 (K : PySem.W.Frag) (ta : TA) : TI := fun σ H R => ta σ H fun vs H1 => ∃ a xs, vs = [.ref a] ∧ (SqL K H1 a xs ∨ SqT K H1 a xs) ∧
  ∀ (J : It) (G : Hp → Prop), Walk J xs.length G (YPair (fun i => some (.int (i : Nat))) (fun i => xs[i]?)) → (∀ H', Same H1 H' → G H') → R J H1
theorem pi_enum2 (hg : Gl X "enumerate") (hm : X.mg "enumerate" = none) (ha : PA X [e] ta) (hs : starEach [e] X.env = [(false, eval e X.env)] := by rfl) : PI X (.Tuple elts kk tpos) (.Call (.Name "enumerate" p) [e] [] pos) (iEnum2 X.K ta) := by
  refine ⟨fun pins s σ H R I h => ?_⟩
  refine Call_ (ld_blt I hg hm boot_enumerate (PyProof.Rows.callWith_type1 (thn (ha.run pos pins s σ H _ I h) fun us s1 ⟨vs, H1, I1, r1, q1⟩ => ?_) hs rfl))
  obtain ⟨a, xs, ex, q1, q2⟩ := q1
  subst ex
  cases r1 with
  | cons r rr =>
    cases rr
    cases r
    have big : ∀ (b : Addr), b ∈ [s1.heap.objs.size + 1, s1.heap.objs.size] → FpOk X pins H1 b := fun b hb => by
      have hle : s1.heap.objs.size ≤ b := by
        rcases (by simpa using hb : b = s1.heap.objs.size + 1 ∨ b = s1.heap.objs.size) with z | z
        · exact z ▸ Nat.le_succ _
        · exact z ▸ Nat.le_refl _
      exact I1.fpOk hle (I1.hok.fresh hle)
    rcases q1 with hq | hq
    · have q := q2 _ _ walk_enum fun H' s' => s'.seq hq
      obtain ⟨its, rv, p', hz⟩ := I1.list hq
      refine call_en (begins_list a its.toArray) p'.isList fun h' he ho hsz hk => wpAny_pyIter_enum he ?_
      exact ⟨s1.heap.objs.size + 1, [s1.heap.objs.size + 1, s1.heap.objs.size], _, _, H1, rfl, I1.kept (t' := s1.toks) hk, turn_enum a (s1.heap.objs.size + 1) s1.heap.objs.size, ⟨⟨.none, he⟩, ⟨_, ho, rfl, rfl⟩, Nat.succ_ne_self _⟩, big, q⟩
    · have q := q2 _ _ walk_enT fun H' s' => hq.imp (fun z => z.imp (fun e => s' _ _ e) (fun ⟨o, e⟩ => ⟨o, s' _ _ e⟩)) id
      obtain ⟨its, rv, p', hz⟩ := I1.tuple hq
      refine call_en (begins_tuple a its.toArray) (show s1.heap.IsTuple a its.toArray from p') fun h' he ho hsz hk => wpAny_pyIter_enum he ?_
      exact ⟨s1.heap.objs.size + 1, [s1.heap.objs.size + 1, s1.heap.objs.size], _, _, H1, rfl, I1.kept (t' := s1.toks) hk, turn_enT a (s1.heap.objs.size + 1) s1.heap.objs.size, ⟨⟨.none, he⟩, ⟨_, ho, rfl, rfl⟩, Nat.succ_ne_self _⟩, big, q⟩
end
section
variable {X : Cx}
/-- tuple(v), v a list or a tuple that stands: a tuple of the same things stands then, the old one or a new one -/
def rTup2 : List V → Hp → VK → Prop := fun xs H Q => ∃ a ys, xs = [.ref a] ∧ (H a = some (.lst ys) ∨ H a = some (.tup ys)) ∧ ∀ t H', Same H H' → H' t = some (.tup ys) → (H t = none ∨ t = a) → Q (.ref t) H'
theorem cr_tup2 : CallR X (.type "tuple") rTup2 := fun pins s σ H xs us Q I rv h => by
  obtain ⟨a, ys, rfl, h1, k⟩ := h
  refine call_tuple_of pins s σ H [.ref a] us Q I rv ⟨a, ys, rfl, ?_⟩
  rcases h1 with e | e
  · exact .inl ⟨SqL.of e, fun l hl => k l _ (same_new hl) upd_same (.inl hl)⟩
  · exact .inr ⟨SqT.of e, k a H (Same.refl _) e (.inr rfl)⟩
end
end L2
end
section
set_option Elab.async false
set_option linter.all false
set_option maxRecDepth 100000
set_option maxHeartbeats 2000000
/-! # text.translate(a dict of signs for signs), text[::-1], text.index(a sign that is there) -/
namespace L2
open PySem PySem.Spec PyProof.Rows PySem.Builtin PySem.Builtin.Str
/-- what the dict tells of each sign: one ASCII sign, or nothing -/
def Swaps (f : Key → Option Value) (one : Nat → Nat) : Prop := ∀ c : Nat, (∃ (e : Nat) (t : Tok), f (.inl (c : Int)) = some (.str ⟨#[e]⟩ t) ∧ e < 128 ∧ one c = e) ∨ (f (.inl (c : Int)) = none ∧ one c = c)
section
variable {P : Program} {w : World} {A : Around} {E : Value → Shared → Prop} {s : Shared} {d : Addr} {c : Nat} {one : Nat → Nat}
theorem sw_mapOf {h h' : Heap} {f : Key → Option Value} (m : h.MapOf (mixKind P w) d f) (k : ∀ b o, h.get? b = some o → h'.get? b = some o) : h'.MapOf (mixKind P w) d f := by
  obtain ⟨ob, es, ep, q, rest⟩ := m
  exact ⟨ob, es, ep, k _ _ q, rest⟩
theorem sw_look {f : Key → Option Value} {Q : Mapped → Shared → Prop} (quiet : A.handled = none) (low : (d == sysModules) = false) (m : s.heap.MapOf (mixKind P w) d f) (sw : Swaps f one)
    (hit : one c < 128 → ∀ h1 k1, (∀ b o, s.heap.get? b = some o → h1.get? b = some o) → Q (.text ⟨#[one c]⟩) { s with heap := h1, toks := k1 })
    (miss : one c = c → ∀ h1 k1, (∀ b o, s.heap.get? b = some o → h1.get? b = some o) → Q .keep { s with heap := h1, toks := k1 }) : wpAny (model P w) A (tableLookup (.ref d) c) Q E s := by
  unfold tableLookup
  refine wpAny_bind (wpAny_attempt (wpAny_bind (wpAny_mkInt ?_)))
  rcases sw c with ⟨e, t, q1, q2, q3⟩ | ⟨q1, q3⟩
  · refine wpAny_getItem_of (knd := mixKind P w) (k := Sum.inl (c : Int)) (kV_is (k := Sum.inl (c : Int)) ⟨_, rfl⟩) m q1 ?_
    show wpAny _ _ (do let o ← asInt? (Value.str ⟨#[e]⟩ t); _) _ _ _
    refine wpAny_bind (wpAny_of_eq (a := none) rfl ?_)
    refine wpAny_bind (wpAny_of_eq (a := some ⟨#[e]⟩) rfl ?_)
    rw [← q3]
    exact wpAny_pure (hit (q3 ▸ q2) s.heap _ fun _ _ z => z)
  · refine wpAny_getItem_missing_of (knd := mixKind P w) (k := Sum.inl (c : Int)) (kV_is (k := Sum.inl (c : Int)) ⟨_, rfl⟩) low quiet m q1 fun h1 x new => ?_
    show wpAny _ _ (do let b ← isInstance (.ref x) (.type "LookupError"); _) _ _ _
    obtain ⟨ob, t, o1, o2, _⟩ := new.there
    refine wpAny_bind (wpAny_isInstance (T := "KeyError") (b := true) ⟨ob, o1, o2⟩ key_is_lookup ?_)
    rw [if_pos rfl]
    exact wpAny_bind (wpAny_rule (wpAny_pure (miss q3 h1 _ new.keeps)))
end
theorem sw_fold (one : Nat → Nat) : ∀ (l : List Nat) (acc : Array Nat), List.foldl (fun r (p : Str) => r ++ p.cps) acc (l.map fun c => (⟨#[one c]⟩ : Str)) = acc ++ (l.map one).toArray
  | [], acc => by simp
  | a :: l, acc => by
    rw [List.map_cons, List.foldl_cons, sw_fold one l]
    apply Array.toList_inj.mp
    simp
/-- what stands ahead of each turn -/
def SwAt (one : Nat → Nat) (x : List Nat) (ascii : Bool) (s : Shared) (rest : List Nat) (st : List Str × Nat × Bool × List (Nat × Option Nat) × Bool) (s1 : Shared) : Prop :=
  ∃ (done : List Nat) (ps : List Str) (kn : List (Nat × Option Nat)) (h1 : Heap) (k1 : Nat), x = done ++ rest ∧ st = (ps, done.length, ascii, kn, false) ∧ ps.reverse = done.map (fun c => (⟨#[one c]⟩ : Str)) ∧
    (∀ c a, List.lookup c kn = some a → a = some (one c)) ∧ s1 = { s with heap := h1, toks := k1 } ∧ ∀ b o, s.heap.get? b = some o → h1.get? b = some o
theorem SwAt.step {one : Nat → Nat} {x : List Nat} {ascii : Bool} {s : Shared} {rest done : List Nat} {c : Nat} {ps : List Str} {kn : List (Nat × Option Nat)} {h1 : Heap} {k1 : Nat} (q1 : x = done ++ c :: rest)
    (q2 : ps.reverse = done.map (fun c => (⟨#[one c]⟩ : Str))) (q3 : ∀ c a, List.lookup c kn = some a → a = some (one c)) (q4 : ∀ b o, s.heap.get? b = some o → h1.get? b = some o) :
    SwAt one x ascii s rest (⟨#[one c]⟩ :: ps, done.length + 1, ascii, kn, false) { s with heap := h1, toks := k1 } :=
  ⟨done ++ [c], _, kn, h1, k1, by rw [q1, List.append_assoc]; rfl, by rw [List.length_append]; rfl, by rw [List.reverse_cons, q2, List.map_append]; rfl, q3, rfl, q4⟩
theorem sw_meets {P : Program} {w : World} (one : Nat → Nat) (x : List Nat) (t : Tok) (d : Addr) (low : (d == sysModules) = false) (short : x.length ≤ 16000000) : MeetsIn P w («str.translate» ⟨[.str (SX.S x) t, .ref d], []⟩) (fun A R s =>
    A.handled = none ∧ (∃ f, s.heap.MapOf (mixKind P w) d f ∧ Swaps f one) ∧ ∀ (v : Value) (h1 : Heap) (k1 : Nat), (∀ b o, s.heap.get? b = some o → h1.get? b = some o) → (∃ t1, v = .str (SX.S (x.map one)) t1) → R (.ok (.ret v)) { s with heap := h1, toks := k1 }) := by
  refine .of_wp fun A R s hyp => ?_
  obtain ⟨quiet, ⟨f, m, sw⟩, fin⟩ := hyp
  have quiet1 : A.in1.handled = none := quiet
  show wpAny _ _ (if ((SX.S x).length == 0) = true then (do rule "str.translate.empty"; ret (.str (SX.S x) t)) else (do
    let st ← forIn (SX.S x).cps (([], 0, (SX.S x).cps.all fun y => decide (y < 128), [], false) : List Str × Nat × Bool × List (Nat × Option Nat) × Bool) _
    _)) _ _ s
  by_cases none0 : ((SX.S x).length == 0) = true
  · rw [if_pos none0]
    have hx : x = [] := by
      rw [beq_iff_eq, SX.S_len] at none0
      exact List.eq_nil_of_length_eq_zero none0
    subst hx
    exact wpAny_bind (wpAny_rule (wpAny_pure ⟨_, rfl, fin _ s.heap s.toks (fun _ _ z => z) ⟨t, rfl⟩⟩))
  rw [if_neg none0]
  generalize ((SX.S x).cps.all fun y => decide (y < 128)) = ascii
  refine wpAny_bind (MeetsSeq2.wpAny_forIn_array _ (SwAt one x ascii s) _ (fun c rest st s1 I => ?turn) (fun st s1 I => ?last) (SX.S x).cps ([], 0, ascii, [], false) ?first)
  case first => exact ⟨[], [], [], s.heap, s.toks, by show x = [] ++ x.toArray.toList; simp, rfl, rfl, fun c a z => (by rw [List.lookup_nil] at z; cases z), rfl, fun _ _ z => z⟩
  case turn =>
    obtain ⟨done, ps, kn, h1, k1, e1, e2, e3, e4, e5, e6⟩ := I
    subst e2
    subst e5
    have few : done.length ≤ 16000000 := by
      have := congrArg List.length e1
      rw [List.length_append] at this
      omega
    have m1 : ({ s with heap := h1, toks := k1 } : Shared).heap.MapOf (mixKind P w) d f := sw_mapOf m e6
    have known1 : ∀ c' a, List.lookup c' ((c, some (one c)) :: kn) = some a → a = some (one c') := fun c' a z => by
      rcases lookup_new z with ⟨y1, y2⟩ | y
      · rw [y2, y1]
      · exact e4 c' a y
    show wpAny _ _ (if tooLong done.length = true then _ else (if ascii = true then _ else _)) _ _ _
    rw [show tooLong done.length = false from PyProof.Rows.short24 (by omega), if_neg Bool.false_ne_true]
    cases ascii with
    | true =>
      rw [if_pos rfl]
      cases lk : List.lookup c kn with
      | some a =>
        have ea := e4 c a lk
        subst ea
        exact wpAny_bind (wpAny_pure (wpAny_pure (SwAt.step e1 e3 e4 e6)))
      | none =>
        refine wpAny_bind (sw_look (one := one) quiet1 low m1 sw (fun lt h2 k2 k3 => ?_) (fun eq h2 k2 k3 => ?_))
        · have q := SwAt.step (ascii := true) (k1 := k2) (kn := (c, some (one c)) :: kn) e1 e3 known1 (fun b o z => k3 b o (e6 b o z))
          have cond : (((⟨#[one c]⟩ : Str).length == 1) && ((⟨#[one c]⟩ : Str).cps.all fun y => decide (y < 128))) = true := by
            have : decide (one c < 128) = true := decide_eq_true lt
            simp [Str.length, this]
          simp only [cond, if_true]
          refine wpAny_bind (wpAny_pure ?_)
          exact wpAny_pure q
        · have q := SwAt.step (ascii := true) (k1 := k2) (kn := (c, some (one c)) :: kn) e1 e3 known1 (fun b o z => k3 b o (e6 b o z))
          rw [eq] at q
          refine wpAny_bind (wpAny_pure ?_)
          exact wpAny_pure q
    | false =>
      rw [if_neg Bool.false_ne_true]
      show wpAny _ _ (if false = true then _ else _) _ _ _
      rw [if_neg Bool.false_ne_true]
      refine wpAny_bind (sw_look (one := one) quiet1 low m1 sw (fun lt h2 k2 k3 => ?_) (fun eq h2 k2 k3 => ?_))
      · exact wpAny_pure (SwAt.step (ascii := false) (k1 := k2) e1 e3 e4 (fun b o z => k3 b o (e6 b o z)))
      · have q := SwAt.step (ascii := false) (k1 := k2) e1 e3 e4 (fun b o z => k3 b o (e6 b o z))
        rw [eq] at q
        exact wpAny_pure q
  case last =>
    obtain ⟨done, ps, kn, h1, k1, e1, e2, e3, e4, e5, e6⟩ := I
    subst e2
    subst e5
    have all : x = done := by rw [e1, List.append_nil]
    show wpAny _ _ (if tooLong done.length = true then _ else retStr { cps := List.foldl (fun acc (p : Str) => acc ++ p.cps) #[] ps.reverse }) _ _ _
    rw [show tooLong done.length = false from PyProof.Rows.short24 (by rw [← all]; omega), if_neg Bool.false_ne_true, e3, sw_fold, ← all]
    have ev : (⟨#[] ++ (x.map one).toArray⟩ : Str) = SX.S (x.map one) := by rw [Array.empty_append]
    rw [ev]
    exact wpAny_bind (wpAny_mkStr (wpAny_pure ⟨_, rfl, fin _ h1 _ e6 ⟨_, rfl⟩⟩) (by rw [SX.S_len, List.length_map, sizeLine_eq]; omega))
/-- the same of a dict at a tracked address -/
def SwapsK (kvs : List (Key × V)) (one : Nat → Nat) : Prop := ∀ c : Nat, (∃ e : Nat, valV kvs (.inl (c : Int)) = some (.str ⟨#[e]⟩) ∧ e < 128 ∧ one c = e) ∨ (valV kvs (.inl (c : Int)) = none ∧ one c = c)
section
variable {X : Cx}
theorem mt_swaps (one : Nat → Nat) (hc : X.calm = true) : MtR X "str.translate" (fun x xs H Q => ∃ (z : Str) (d : Addr) (kvs : List (Key × V)), x = .str z ∧ xs = [.ref d] ∧ H d = some (.dK kvs) ∧ SwapsK kvs one ∧ z.length ≤ 16000000 ∧ Q (.str ⟨(z.cps.toList.map one).toArray⟩) H) := by
  intro pins s σ H x xs v us Q I rx rs h
  obtain ⟨z, d, kvs, rfl, rfl, hd, sw, hl, q⟩ := h
  obtain ⟨t, rfl⟩ := rx
  cases rs with
  | cons r1 rs =>
    cases rs
    cases r1
    obtain ⟨_, low, vs, rel, dd⟩ := dk_of I.hok hd
    have ez : z = SX.S z.cps.toList := by cases z with | mk c => show (⟨c⟩ : Str) = ⟨c.toList.toArray⟩; simp
    have sw1 : Swaps (valueAt vs) one := fun c => by
      have rv := rel.val (.inl (c : Int))
      rcases sw c with ⟨e, q1, q2, q3⟩ | ⟨q1, q3⟩
      · rw [q1] at rv
        obtain ⟨u, hu, ru⟩ := RelO.some_of (v := .str ⟨#[e]⟩) (o := valueAt vs (.inl (c : Int))) rv
        obtain ⟨t2, rfl⟩ := ru
        exact .inl ⟨e, t2, hu, q2, q3⟩
      · rw [q1] at rv
        refine .inr ⟨?_, q3⟩
        cases hv : valueAt vs (.inl (c : Int)) with
        | none => rfl
        | some y => rw [hv] at rv; exact False.elim rv
    have hl2 : z.cps.toList.length ≤ 16000000 := by simpa [Str.length] using hl
    rw [ez]
    refine call_meetsIn F.slot_str_translate (typeIs_str _ _ _) F.entry_str_translate (F.args_str_translate_2 _ _) (sw_meets one z.cps.toList t d low hl2) ⟨I.ok.hd hc, ⟨valueAt vs, dd.mapOf, sw1⟩, ?_⟩
    intro v h1 k1 keep ⟨t1, e⟩
    subst e
    exact ⟨.str _, H, I.kept (t' := k1) keep, ⟨t1, rfl⟩, q⟩
/-- text.index(sign), where it is -/
theorem mt_signAt : MtR X "str.index" (fun x xs H Q => ∃ (z : Str) (c : Nat), x = .str z ∧ xs = [.str ⟨#[c]⟩] ∧ c ∈ z.cps.toList ∧ Q (.int (Txt.find z ⟨#[c]⟩)) H) := by
  intro pins s σ H x xs v us Q I rx rs h
  obtain ⟨z, c, rfl, rfl, hm, q⟩ := h
  have f := PySem.StrLaws.found_one z c
  rw [decide_eq_true hm] at f
  cases ho : Builtin.Str.occurrences z ⟨#[c]⟩ 0 z.length 1 with
  | nil => rw [ho] at f; cases f
  | cons i rest =>
    refine mt_sindex pins s σ H _ _ v us Q I rx rs ⟨z, _, i, rest, rfl, rfl, ho, ?_⟩
    have e : Txt.find z ⟨#[c]⟩ = (i : Int) := by
      unfold Txt.find
      rw [ho]
    rw [← e]
    exact q
/-- text[::-1] -/
def revS (z : Str) : Str := ⟨z.cps.toList.reverse.toArray⟩
theorem sliceBy_rev (z : Str) (u : Tok) : Txt.sliceBy z none none (-1, u) = revS z := by
  have h := step_rev_list z u
  have e : (List.range z.length).map (fun k => z.cps.getD (z.length - 1 - k) 0) = z.cps.toList.reverse := by
    refine List.ext_getElem (by simp [Str.length]) fun i h1 h2 => ?_
    rw [List.length_map, List.length_range] at h1
    have h3 : z.length - 1 - i < z.cps.size := by
      have : z.length = z.cps.size := rfl
      omega
    rw [List.getElem_map, List.getElem_range, List.getElem_reverse]
    simp [Array.getD, h3]
    rfl
  rw [e] at h
  generalize Txt.sliceBy z none none (-1, u) = y at h
  cases y with
  | mk c =>
    show (⟨c⟩ : Str) = ⟨z.cps.toList.reverse.toArray⟩
    have : c.toList = z.cps.toList.reverse := h
    rw [← this]
def tRevS (te : TE) : TE := fun σ H Q => te σ H fun x H1 => ∃ z, x = .str z ∧ z.length ≤ sizeLine ∧ Q (.str (revS z)) H1
theorem pe_revS {e : Expr} {te : TE} {k : Nat} {p1 p2 p3 pos : Pos} (he : PE X e te) : PE X (.Subscript e (.Slice none none (some (.UnaryOp .USub (.Constant (.int 1) k p1) p2)) p3) pos) (tRevS te) := by
  refine ⟨fun pins s σ H Q I hyp => ?_⟩
  refine Subscript_ (thn (he.run pins s σ H _ I hyp) fun v s1 ⟨x, H1, I1, r1, z, ex, hz, q⟩ => ?_)
  subst ex
  obtain ⟨t, rfl⟩ := r1
  have neg : PO X (some (.UnaryOp .USub (.Constant (.int 1) k p1) p2)) (tPart (tUn (rU fun i => .int (-i)) (tC (.int 1)))) := po_some (pe_un un_neg pe_int)
  refine wpAny_Slice (thn (po_none.run pins s1 σ H1 (fun o H2 => o = none ∧ H2 = H1) I1 ⟨rfl, rfl⟩) fun vl s2 ⟨l, H2, I2, pl, el, e2⟩ => ?_)
  subst el
  subst e2
  refine thn (po_none.run pins s2 σ H2 (fun o H3 => o = none ∧ H3 = H2) I2 ⟨rfl, rfl⟩) fun vu s3 ⟨u, H3, I3, pu, eu, e3⟩ => ?_
  subst eu
  subst e3
  refine thn (neg.run pins s3 σ H3 (fun o H4 => o = some (-1) ∧ H4 = H3) I3 ⟨1, rfl, -1, rfl, rfl, rfl⟩) fun vs s4 ⟨o, H4, I4, ps, eo, e4⟩ => ?_
  subst eo
  subst e4
  have I5 : Inv X pins σ H4 { s4 with heap := s4.heap.push { cls := .type "slice", data := .fields #[vl, vu, vs] } } := I4.kept (t' := s4.toks) fun b ob q => Heap.get?_push_of_some _ q
  obtain ⟨l1, rfl, el1⟩ := IsPart.raw pl
  obtain ⟨u1, rfl, eu1⟩ := IsPart.raw pu
  obtain ⟨st1, rfl, es1⟩ := IsPart.raw ps
  have l0 : l1 = none := by cases l1 with | none => rfl | some y => cases el1
  have u0 : u1 = none := by cases u1 with | none => rfl | some y => cases eu1
  subst l0
  subst u0
  obtain ⟨tk, rfl⟩ : ∃ tk, st1 = some (-1, tk) := by
    cases st1 with
    | none => cases es1
    | some y =>
      obtain ⟨y1, y2⟩ := y
      have : y1 = -1 := Option.some.inj es1
      subst this
      exact ⟨y2, rfl⟩
  show wpAny (model X.prog X.w) X.A (subscriptTail e (.Slice none none (some (.UnaryOp .USub (.Constant (.int 1) k p1) p2)) p3) (.str z t) (.ref s4.heap.objs.size)) (EP X pins σ Q) X.xe { s4 with heap := s4.heap.push { cls := .type "slice", data := .fields #[_, _, _] } }
  refine tail_any (ops := [.str z t, .ref s4.heap.objs.size]) (typeIs_str _ _ _) F.slot_str_getitem.lookup ?_ (by with_unfolding_all rfl)
  refine wpAny_getItem_str_slice (l := none) (u := none) (st := some (-1, tk)) ⟨_, Heap.get?_push_size _ rfl, rfl, rfl⟩ rfl ?_
  have hl : (revS z).length ≤ sizeLine := by
    have : (revS z).length = z.length := by simp [revS, Str.length]
    rw [this]
    exact hz
  have em : ∀ st : Str, Txt.sliceBy z none none (-1, tk) = st → sliceMade z t none none (some (-1, tk)) = .str st := fun st h => by
    unfold Txt.sliceBy at h
    unfold sliceMade
    have no : ¬ ((((some ((-1 : Int), tk)).map (·.1)).getD 1 == 1 && (slicePicked z none none (some (-1, tk))).length == z.length) = true) := by
      have : ((((some ((-1 : Int), tk)).map (·.1)).getD 1 == 1)) = false := rfl
      rw [this, Bool.false_and]
      exact Bool.false_ne_true
    rw [if_neg no] at h ⊢
    rw [h]
  rw [em _ (sliceBy_rev z tk)]
  exact ⟨hl, .str _, _, I5.tok _, ⟨_, rfl⟩, q⟩
end
end L2
end
section
set_option Elab.async false
set_option linter.all false
set_option maxRecDepth 100000
set_option maxHeartbeats 2000000
/-! # A written dict asked for texts; == of data; a def that calls itself. -/
namespace L2
open PySem PySem.Spec PyProof.Rows
/-- what the written dict at a has for a text -/
structure KD (K : PySem.W.Frag) (w : World) (a : Addr) (x : Str) (r : Option Value) : Prop where
  ex : ∃ es n, K.lookup a = some ⟨.type "dict", none, .dict es n, #[]⟩ ∧ PySem.W.KeysLit w.params es.toList ∧ (a == sysModules) = false ∧ PySem.W.nsIn K a x = some r
theorem KD.get {K : PySem.W.Frag} {w : World} {a : Addr} {x : Str} {u : Value} {v : V} (h : KD K w a x (some u)) (r : RelV v u) : KDct K w a x v := by
  obtain ⟨es, n, h1, h2, _, h4⟩ := h.ex
  exact ⟨es, n, u, h1, h2, h4, r⟩
/-- t not in d, d a written dict -/
theorem op_notIn_w {X : Cx} : OpR X (compareOp .NotIn) (fun x y H Q => ∃ (p : Addr) (z : Str) (r : Option Value), x = .str z ∧ y = .ref p ∧ KD X.K X.w p z r ∧ Q (.bl (!r.isSome)) H) := by
  intro pins s σ H x y v u Q I rx ry h
  obtain ⟨p, z, r, rfl, rfl, ⟨es, n, hl, hk, low, hm⟩, q⟩ := h
  obtain rfl : u = Value.ref p := ry
  obtain ⟨t, rfl⟩ := (show ∃ t, v = Value.str z t from rx)
  have hm' := PySem.W.mapOf_K (prog := X.prog) (w := X.w) I.kIn hl hk
  refine wpAny_notIn_of (strKind_is X.prog X.w z t) low hm' ?_
  rw [PySem.W.find_K hl hm]
  exact ⟨.bl _, H, I.tok _, rfl, q⟩
theorem iteT' {c : Prop} [Decidable c] {A B : Prop} (h : c) (a : A) : if c then A else B := by rw [if_pos h]; exact a
theorem iteF' {c : Prop} [Decidable c] {A B : Prop} (h : ¬ c) (b : B) : if c then A else B := by rw [if_neg h]; exact b
/-- one of two readings -/
theorem op_either {X : Cx} {f : Value → Value → Sem Value} {r1 r2 : R2} (h1 : OpR X f r1) (h2 : OpR X f r2) : OpR X f (fun x y H Q => r1 x y H Q ∨ r2 x y H Q) := by
  intro pins s σ H x y v u Q I rx ry h
  rcases h with h | h
  · exact h1 pins s σ H x y v u Q I rx ry h
  · exact h2 pins s σ H x y v u Q I rx ry h
def rEqDr : R2 := fun x y H Q => ∃ (d e : PyData) (L L' : Bool) (M M' : Addr → Prop), Dr L M H x d ∧ Dr L' M' H y e ∧ SeqAt.shaped d = true ∧ SeqAt.shaped e = true ∧ Q (.bl (PyData.eqv d e)) H
theorem op_eqDr {X : Cx} (hu : X.A.units + 64 < cLine) : OpR X (compareOp .Eq) rEqDr := by
  intro pins s σ H x y v u Q I rx ry h
  obtain ⟨d, e, L, L', M, M', hd, he, sd, se, q⟩ := h
  obtain ⟨as, r1, _⟩ := Dr.reads I.hok hd rx
  obtain ⟨bs, r2, _⟩ := Dr.reads I.hok he ry
  exact SeqAt.compareEq_shaped r1 r2 sd se hu ⟨.bl _, H, I, rfl, q⟩
def rEqNil : R2 := fun x y H Q => ∃ a b, x = .ref a ∧ y = .ref b ∧ H a = some (.dK []) ∧ H b = some (.dK []) ∧ Q (.bl true) H
theorem op_eqNil {X : Cx} (hu : X.A.units < cLine) : OpR X (compareOp .Eq) rEqNil := by
  intro pins s σ H x y v u Q I rx ry h
  obtain ⟨a, b, rfl, rfl, ha, hb, q⟩ := h
  obtain rfl : v = Value.ref a := rx
  obtain rfl : u = Value.ref b := ry
  obtain ⟨_, na, va, ka, da⟩ := dk_of I.hok ha
  obtain ⟨_, nb, vb, kb, db⟩ := dk_of I.hok hb
  cases ka
  cases kb
  exact PySem.W.keq_eq (r := true) na nb da db hu (fun _ => .nil) ⟨.bl true, H, I, rfl, q⟩
/-- data of any kind but dicts, or two empty dicts -/
theorem op_eqAny {X : Cx} (hu : X.A.units + 64 < cLine) : OpR X (compareOp .Eq) (fun x y H Q => rEqDr x y H Q ∨ rEqNil x y H Q) := op_either (op_eqDr hu) (op_eqNil (Nat.lt_of_le_of_lt (Nat.le_add_right _ 64) hu))
/-- t + u of tuples that are tracked: a tuple of both stands then, new or one of the two -/
def rCatU : R2 := fun x y H Q => ∃ a b xs ys, x = .ref a ∧ y = .ref b ∧ H a = some (.tup xs) ∧ H b = some (.tup ys) ∧ xs.length + ys.length ≤ sizeLine ∧ ∀ t H', Same H H' → H' t = some (.tup (xs ++ ys)) → (H t = none ∨ t = a ∨ t = b) → Q (.ref t) H'
theorem op_catU {X : Cx} : OpR X (binaryOp .Add) rCatU := by
  intro pins s σ H x y v u Q I rx ry h
  obtain ⟨a, b, xs, ys, rfl, rfl, ha, hb, hz, k⟩ := h
  refine op_catA pins s σ H _ _ v u Q I rx ry ⟨a, b, xs, ys, rfl, rfl, SqT.of ha, SqT.of hb, hz, fun e => ?_, fun _ e => ?_, fun _ _ p hp => k p _ (same_new hp) upd_same (.inl hp)⟩
  · subst e; exact k b H (Same.refl _) hb (.inr (.inr rfl))
  · subst e; exact k a H (Same.refl _) (by rw [List.append_nil]; exact ha) (.inr (.inl rfl))
/-- t[lo:hi] of a tracked tuple -/
def rSlU : V → Option Int → Option Int → Hp → VK → Prop := fun x lo hi H Q => ∃ a xs, x = .ref a ∧ H a = some (.tup xs) ∧ ∀ t H', Same H H' → H' t = some (.tup (cutV xs lo hi)) → (H t = none ∨ t = a) → Q (.ref t) H'
theorem cutV_whole {xs : List V} {lo hi : Option Int} (h : HT.sIx xs.length 0 lo = 0 ∧ HT.sIx xs.length xs.length hi = xs.length) : cutV xs lo hi = xs := by
  unfold cutV
  rw [h.1, h.2]
  simp
theorem sl_tupU {X : Cx} : SlR X rSlU := by
  intro pins s σ H x v vl vu lo hi sl Q I rx hs pl pu h
  obtain ⟨a, xs, rfl, ha, k⟩ := h
  exact sl_tupA pins s σ H _ v vl vu lo hi sl Q I rx hs pl pu ⟨a, xs, rfl, SqT.of ha, fun z => k a H (Same.refl _) (by rw [cutV_whole z]; exact ha) (.inr rfl), fun _ p hp => k p _ (same_new hp) upd_same (.inl hp)⟩
/-- a promise that is never asked for -/
theorem FnG.void {P : Program} {w : World} {K : PySem.W.Frag} {mg : Str → Option Value} {base : Heap} {CX : CXT} {k : Nat} {f : Addr} {fd : FuncData} {ps : List Str} : FnG P w K mg base CX k f fd ps (fun _ _ _ _ => False) :=
  ⟨fun _ _ _ _ h => h.elim, fun _ _ _ _ _ _ _ _ _ _ _ _ _ _ h => h.elim⟩
/-- a def that calls itself: by the depth -/
theorem fnG_rec {P : Program} {w : World} {K : PySem.W.Frag} {mg : Str → Option Value} {base : Heap} {k : Nat} {x : Str} {f : Addr} {fd : FuncData} {ps : List Str} {sp : Nat → Sp}
    (hm : mg x = some (.ref f)) (kp : PySem.W.keepIn K (.ref f) = true) (hb : Binds K fd ps [])
    (step : ∀ n, CalG P w K mg base (k + n) x (fun vs H Q E => ∃ m, n = m + 1 ∧ sp m vs H Q E) → FnG P w K mg base (CXe P w) (k + n + 1) f fd ps (sp n)) : ∀ n, FnG P w K mg base (CXe P w) (k + n + 1) f fd ps (sp n) := by
  intro n
  induction n with
  | zero => 
    refine step 0 ⟨f, fd, ps, FnG.imp FnG.void ?_, hm, kp, hb⟩
    rintro vs H Q E ⟨m, e, _⟩
    exact absurd e (by omega)
  | succ n ih =>
    refine step (n + 1) ⟨f, fd, ps, FnG.imp ih ?_, hm, kp, hb⟩
    rintro vs H Q E ⟨m, e, h⟩
    obtain rfl : n = m := by omega
    exact h
theorem calG_rec {P : Program} {w : World} {K : PySem.W.Frag} {mg : Str → Option Value} {base : Heap} {k : Nat} {x : Str} {f : Addr} {fd : FuncData} {ps : List Str} {sp : Nat → Sp}
    (hm : mg x = some (.ref f)) (kp : PySem.W.keepIn K (.ref f) = true) (hb : Binds K fd ps [])
    (step : ∀ n, CalG P w K mg base (k + n) x (fun vs H Q E => ∃ m, n = m + 1 ∧ sp m vs H Q E) → FnG P w K mg base (CXe P w) (k + n + 1) f fd ps (sp n)) (n : Nat) : CalG P w K mg base (k + n + 1) x (sp n) :=
  ⟨f, fd, ps, fnG_rec hm kp hb step n, hm, kp, hb⟩
/-- called with any depth up to N -/
theorem calG_upto {P : Program} {w : World} {K : PySem.W.Frag} {mg : Str → Option Value} {base : Heap} {k : Nat} {x : Str} {f : Addr} {fd : FuncData} {ps : List Str} {sp : Nat → Sp}
    (hm : mg x = some (.ref f)) (kp : PySem.W.keepIn K (.ref f) = true) (hb : Binds K fd ps [])
    (step : ∀ n, CalG P w K mg base (k + n) x (fun vs H Q E => ∃ m, n = m + 1 ∧ sp m vs H Q E) → FnG P w K mg base (CXe P w) (k + n + 1) f fd ps (sp n)) (N : Nat) : CalG P w K mg base (k + N + 1) x (fun vs H Q E => ∃ n, n ≤ N ∧ sp n vs H Q E) := by
  refine ⟨f, fd, ps, ⟨?_, ?_⟩, hm, kp, hb⟩
  · rintro vs H Q E ⟨n, _, h⟩
    exact (fnG_rec hm kp hb step n).len vs H Q E h
  · rintro A o s H a us vs Q E hg hr he hb' hv ⟨n, hn, hs⟩
    exact (fnG_rec hm kp hb step n).run A o s H a us vs Q E hg (hr.mono (by omega)) he hb' hv hs
end L2
end
section
set_option Elab.async false
set_option linter.all false
set_option maxRecDepth 100000
set_option maxHeartbeats 2000000
namespace K54
open PySem L2
local macro_rules | `(tactic| walk_at "hp") => `(tactic| first | assumption | exact upd_same | (refine (upd_ne (by first | assumption | (apply Ne.symm; assumption))).trans ?_; walk_at "hp"))
local macro_rules | `(tactic| walk_at "rd1") => `(tactic| first
  | (refine ⟨_, rfl, ?_⟩)
  | (refine ⟨_, _, rfl, rfl, ?_⟩)
  | (refine ⟨(rfl : scal _ _ = true), ?_⟩)
  | (refine And.intro (by show (0 : Int) < _; decide) ?_)
  | (refine And.intro (And.intro (by decide) (by decide)) ?_)
  | (refine And.intro (Or.inr (And.intro (by decide) (by decide))) ?_)
  | (refine And.intro (And.intro (by decide) (And.intro (by decide) (by decide))) ?_)
  | (refine And.intro (by assumption) ?_)
  | (refine And.intro (And.intro (by omega) (by omega)) ?_)
  | (refine And.intro (Or.inl (And.intro (by omega) (by omega))) ?_)
  | (refine' ⟨_, _, _, _, rfl, rfl, Or.inl (Or.inl ?h1), ?h2, ?h3⟩; (case h1 => walk_at "hp"); (case h2 => rfl))
  | (refine' ⟨_, _, _, _, rfl, rfl, ?h1, ?h2, ?h3⟩; (case h1 => walk_at "hp"); (case h2 => rfl))
  | (refine' ⟨_, _, rfl, Or.inl (Or.inl (Or.inl ?h1)), ?h3⟩; (case h1 => walk_at "hp"))
  | (refine Or.inl ⟨_, rfl, ?_⟩))
local macro_rules | `(tactic| walk_at "rd") => `(tactic| repeat walk_at "rd1")
def top (i : Nat) : Stmt := PySem.Challenge.pw_roomsthrough_k54_wishes_judged.main.body.getD i (.Pass ⟨0, 0, 0, 0⟩)
abbrev s_BadRules_init : Stmt := inClass (top 2) 0
abbrev s_is_whole : Stmt := top 4
abbrev s_is_bag : Stmt := top 6
abbrev s_Rules_init : Stmt := inClass (top 8) 0
abbrev s_Rules_eq : Stmt := inClass (top 8) 1
abbrev s_Rules_bags : Stmt := inClass (top 8) 2
abbrev s_need_rules : Stmt := top 9
abbrev s_is_wish : Stmt := top 13
abbrev s__is_wish : Stmt := top 14
abbrev s__law_pool : Stmt := top 16
abbrev s__law_draw : Stmt := top 17
abbrev s__law_pick : Stmt := top 18
abbrev s__law_rules_drawn : Stmt := top 19
abbrev s__law_bag_drawn : Stmt := top 20
abbrev s__law_wish_drawn : Stmt := top 21
abbrev s__law_is_bag : Stmt := top 22
abbrev s__law_is_wish : Stmt := top 23
abbrev s__law_spoiled : Stmt := top 24
abbrev s__law_deeper : Stmt := top 25
abbrev s__law_refused : Stmt := top 26
abbrev s_law : Stmt := top 27
theorem sc_is_whole : FnScope ["thing"] ["thing"] (defScope s_is_whole) := ⟨rfl, rfl, rfl, by decide +kernel, rfl, by decide +kernel, by decide +kernel⟩
theorem sc__law_pool : FnScope ["script", "cells", "great", "small", "cell"] ["script"] (defScope s__law_pool) := ⟨rfl, rfl, rfl, by decide +kernel, rfl, by decide +kernel, by decide +kernel⟩
theorem sc__law_draw : FnScope ["pool", "many", "great", "digit", "seed", "number"] ["pool", "many"] (defScope s__law_draw) := ⟨rfl, rfl, rfl, by decide +kernel, rfl, by decide +kernel, by decide +kernel⟩
theorem sc__law_pick : FnScope ["pool", "items"] ["pool", "items"] (defScope s__law_pick) := ⟨rfl, rfl, rfl, by decide +kernel, rfl, by decide +kernel, by decide +kernel⟩
/-- built-ins that stand -/
structure Blt (mg : Str → Option Value) : Prop where
  n_isinstance : mg "isinstance" = none
  n_int : mg "int" = none
  n_bool : mg "bool" = none
  n_list : mg "list" = none
  n_len : mg "len" = none
  n_range : mg "range" = none
  n_abs : mg "abs" = none
  n_tuple : mg "tuple" = none
  n_str : mg "str" = none
section
variable {P : Program} {w : World} {K : PySem.W.Frag} {mg : Str → Option Value} {base : Heap}
def spWhole (K : PySem.W.Frag) : Sp := fun vs H Q _ => ∃ v t b1 b2, vs = [v] ∧ TyX K H v t ∧ PySem.W.kitOne K t (.type "int") = some b1 ∧ PySem.W.kitOne K t (.type "bool") = some b2 ∧ Q (.bl (b1 && !b2)) H
theorem ok_whole {f : Addr} {fd : FuncData} (F : Fun K "is_whole" "is_whole" s_is_whole f fd) (T : Blt mg) : FnG P w K mg base (CXe P w) 1 f fd ["thing"] (spWhole K) := by
  refine F.okG sc_is_whole (fun vs H Q E h => ?_) (fun cdv A outer s H vs Q E hgd hr h => ?_)
  · obtain ⟨v, t, b1, b2, rfl, _⟩ := h; rfl
  · obtain ⟨v, t, b1, b2, rfl, ty, e1, e2, k⟩ := h
    refine ⟨_, (pss_one (ps_ret (pe_and (pe_callB call_isi (by rfl) T.n_isinstance (by decide +kernel) (pa_cons (pv 0) (pa_cons (pe_bltn (v := .ty "int") (u := .type "int") rfl T.n_int (by decide +kernel) rfl) pa_nil))) (pe_one (pe_not (pe_callB call_isi (by rfl) T.n_isinstance (by decide +kernel) (pa_cons (pv 0) (pa_cons (pe_bltn (v := .ty "bool") (u := .type "bool") rfl T.n_bool (by decide +kernel) rfl) pa_nil)))))))), ?_⟩
    refine ⟨_, rfl, _, _, _, _, _, rfl, .ty _, ty, e1, _, rfl, ?_⟩
    cases b1 with
    | false => exact iteF k
    | true =>
      refine iteT ⟨_, rfl, _, _, _, _, _, rfl, .ty _, ty, e2, _, rfl, ?_⟩
      exact k
/-- a pool: the great cells at g, the small ones at s, and two numbers -/
def PoolAt (H : Hp) (p : Addr) : Prop := ∃ (g s : Addr) (gs ss : List Int) (c n : Int), H p = some (.lst [.ref g, .ref s, .int c, .int n]) ∧ g ≠ p ∧ s ≠ p ∧ H g = some (.lst (gs.map V.int)) ∧ H s = some (.lst (ss.map V.int)) ∧ gs.length ≤ 63 ∧ ss.length ≤ 63
theorem PoolAt.same {H H' : Hp} {p : Addr} (s : Same H H') (h : PoolAt H p) : PoolAt H' p := by
  obtain ⟨g, s', gs, ss, c, n, h1, h2, h3, h4, h5, h6⟩ := h
  exact ⟨g, s', gs, ss, c, n, s _ _ h1, h2, h3, s _ _ h4, s _ _ h5, h6⟩
theorem PoolAt.ne {H : Hp} {p b : Addr} (h : PoolAt H p) (e : H b = none) : b ≠ p := by
  obtain ⟨g, s', gs, ss, c, n, h1, _⟩ := h
  intro z
  rw [← z, e] at h1
  cases h1
theorem PoolAt.isL {H : Hp} {p : Addr} (h : PoolAt H p) : ∃ xs, H p = some (HO.lst xs) := by
  obtain ⟨g, s', gs, ss, c, n, h1, _⟩ := h
  exact ⟨_, h1⟩
theorem PoolAt.notTup {H : Hp} {p t : Addr} {xs : List V} (h : PoolAt H p) (e : H t = some (HO.tup xs)) : t ≠ p := by
  obtain ⟨g, s', gs, ss, c, n, h1, _⟩ := h
  intro z
  rw [← z, e] at h1
  cases h1
/-- all but a list that is no pool's stay -/
theorem PoolAt.but {H H1 H' : Hp} {p D : Addr} (h : PoolAt H p) (hD : H D = none) (s : Same H H1) (o : Off (fun b => b = D) H1 H') : PoolAt H' p := by
  obtain ⟨g, s', gs, ss, c, n, h1, h2, h3, h4, h5, h6⟩ := h
  exact ⟨g, s', gs, ss, c, n, o _ _ (ne_of_none h1 hD) (s _ _ h1), h2, h3, o _ _ (ne_of_none h4 hD) (s _ _ h4), o _ _ (ne_of_none h5 hD) (s _ _ h5), h6⟩
theorem yes_of {σ : St} {H : Hp} {Q : Bool → Hp → Prop} (h : Q true H) : tYes σ H Q := h
theorem cutV_map {α : Type} (f : α → V) (xs : List α) (lo hi : Option Int) : ∃ ys : List α, cutV (xs.map f) lo hi = ys.map f ∧ ys.length ≤ xs.length ∧ ∀ y ∈ ys, y ∈ xs := by
  unfold cutV
  refine ⟨(xs.drop (HT.sIx (xs.map f).length 0 lo)).take (HT.sIx (xs.map f).length (xs.map f).length hi - HT.sIx (xs.map f).length 0 lo), by rw [← List.map_drop, ← List.map_take], ?_, fun y hy => List.mem_of_mem_drop (List.mem_of_mem_take hy)⟩
  rw [List.length_take, List.length_drop]
  omega
def spPool (K : PySem.W.Frag) : Sp := fun vs H Q _ => ∃ (a : Addr) (ns : List Int), vs = [.ref a] ∧ SqL K H a (ns.map V.int) ∧ ns.length ≤ 63 ∧ ∀ p H', H p = none → Same H H' → PoolAt H' p → Q (.ref p) H'
theorem ok_pool {f : Addr} {fd : FuncData} (F : Fun K "_law_pool" "_law_pool" s__law_pool f fd) (T : Blt mg) : FnG P w K mg base (CXe P w) 1 f fd ["script"] (spPool K) := by
  refine F.okG sc__law_pool (fun vs H Q E h => ?_) (fun cdv A outer s H vs Q E hgd hr h => ?_)
  · obtain ⟨a, ns, rfl, _⟩ := h; rfl
  · obtain ⟨a, ns, rfl, hs, hl, k⟩ := h
    refine ⟨_, (pss_cons (ps_setLc (i := 1) (own := [("cell", 4)]) (g := gName 4) (tt := tYes) rfl sc__law_pool.nd rfl rfl (sw_true rfl rfl rfl (by decide +kernel)) (pi_list (pe_slice sl_list (pv 0) po_none (po_some pe_int))) (blkOk_by (own := [("cell", 4)]) (N := ["script", "cells", "great", "small", "cell"]) (sc := defScope s__law_pool) (by decide +kernel)) (fun _ _ _ _ _ => pg_name (i := 4) sc__law_pool.nd rfl (Or.inl rfl)) (fun _ _ _ _ _ => pts_nil) (fun _ _ _ _ _ => (pe_callTy call_int1 (by rfl) T.n_int (by decide +kernel) (pa_cons (pv 4) pa_nil))))
      (pss_cons (ps_setLc (i := 2) (own := [("cell", 4)]) (g := gName 4) rfl sc__law_pool.nd rfl rfl (sw_true rfl rfl rfl (by decide +kernel)) (pi_list (pv 1)) (blkOk_by (own := [("cell", 4)]) (N := ["script", "cells", "great", "small", "cell"]) (sc := defScope s__law_pool) (by decide +kernel)) (fun _ _ _ _ _ => pg_name (i := 4) sc__law_pool.nd rfl (Or.inl rfl)) (fun _ _ _ _ _ => pts_one (pt_cmpR op_ge (pe_callB call_abs (by rfl) T.n_abs (by decide +kernel) (pa_cons (pv 4) pa_nil)) (pe_op op_pow pe_int pe_int) (nomark _))) (fun _ _ _ _ _ => (pe_callB call_abs (by rfl) T.n_abs (by decide +kernel) (pa_cons (pv 4) pa_nil))))
      (pss_cons (ps_setLc (i := 3) (own := [("cell", 4)]) (g := gName 4) rfl sc__law_pool.nd rfl rfl (sw_true rfl rfl rfl (by decide +kernel)) (pi_list (pv 1)) (blkOk_by (own := [("cell", 4)]) (N := ["script", "cells", "great", "small", "cell"]) (sc := defScope s__law_pool) (by decide +kernel)) (fun _ _ _ _ _ => pg_name (i := 4) sc__law_pool.nd rfl (Or.inl rfl)) (fun _ _ _ _ _ => pts_one (pt_cmpR op_lt (pe_callB call_abs (by rfl) T.n_abs (by decide +kernel) (pa_cons (pv 4) pa_nil)) (pe_op op_pow pe_int pe_int) (nomark _))) (fun _ _ _ _ _ => (pe_op op_mod (pe_callTy call_int1 (by rfl) T.n_int (by decide +kernel) (pa_cons (pv 4) pa_nil)) pe_int)))
      (pss_one (ps_ret (pe_lstA (pa_cons (pv 2) (pa_cons (pv 3) (pa_cons pe_int (pa_cons pe_int pa_nil)))))))))), ?_⟩
    walk_at "rd"
    refine ⟨a, ns.map V.int, rfl, hs, fun q hq => ?_⟩
    obtain ⟨ns1, e1, hl1, _⟩ := cutV_map V.int ns none (some 63)
    rw [e1]
    have s1 : Same H (upd H q (.lst (ns1.map V.int))) := same_new hq
    have eq1 : upd H q (.lst (ns1.map V.int)) q = some (.lst (ns1.map V.int)) := upd_same
    generalize upd H q (.lst (ns1.map V.int)) = H1 at s1 eq1 ⊢
    refine ⟨q, rfl, ⟨_, SqL.of eq1⟩, ?_⟩
    refine fun D hD => lc_it (walk_list (xs := ns1.map V.int)) (fun i H' => ∃ acc : List Int, H' D = some (.lst (acc.map V.int)) ∧ acc.length ≤ i ∧ Off (fun b => b = D) H1 H') ⟨[], upd_same, Nat.le_refl _, Off.new hD⟩ (fun i H' _ h => ?_) ?_ ?_
    · obtain ⟨acc, h1, h2, h3⟩ := h
      exact SqL.of (h3 _ _ (ne_of_none eq1 hD) eq1)
    · rintro i x H2 H3 hi ⟨acc, h1, h2, h3⟩ ⟨rfl, hx⟩
      rw [List.length_map] at hi
      have hx' : x = .int ns1[i] := by
        rw [List.getElem?_map, List.getElem?_eq_getElem hi] at hx
        exact (Option.some.inj hx).symm
      subst hx'
      refine And.intro rfl (yes_of (iteT ?_))
      refine ⟨_, rfl, .inl ⟨_, rfl, ?_⟩⟩
      exact ⟨_, h1, by rw [List.length_map]; exact small1000 (by omega), acc ++ [ns1[i]], by rw [upd_same, List.map_append]; rfl, by simp; omega, h3.trans (Off.mut rfl)⟩
    · rintro H2 ⟨acc, h1, h2, h3⟩
      rw [List.length_map] at h2
      have hDm : H D = none := s1.free hD
      have s2 : Same H H2 := fun b o e => h3 b o (fun y => by rw [y, hDm] at e; cases e) (s1 _ _ e)
      refine ⟨_, rfl, _, rfl, ⟨_, SqL.of h1⟩, ?_⟩
      refine fun D2 hD2 => lc_it (walk_list (xs := acc.map V.int)) (fun i H' => ∃ acc2 : List Int, H' D2 = some (.lst (acc2.map V.int)) ∧ acc2.length ≤ i ∧ Off (fun b => b = D2) H2 H') ⟨[], upd_same, Nat.le_refl _, Off.new hD2⟩ (fun i H' _ h => ?_) ?_ ?_
      · obtain ⟨acc2, g1, g2, g3⟩ := h
        exact SqL.of (g3 _ _ (ne_of_none h1 hD2) h1)
      · rintro i x H4 H5 hi ⟨acc2, g1, g2, g3⟩ ⟨rfl, hx⟩
        rw [List.length_map] at hi
        have hx' : x = .int acc[i] := by
          rw [List.getElem?_map, List.getElem?_eq_getElem hi] at hx
          exact (Option.some.inj hx).symm
        subst hx'
        refine And.intro rfl ?_
        walk_at "rd"
        refine ite2 (fun q => ?_) (fun q => ?_)
        · refine ⟨_, rfl, _, rfl, ?_⟩
          exact ⟨_, g1, by rw [List.length_map]; exact small1000 (by omega), acc2 ++ [if acc[i] < 0 then -acc[i] else acc[i]], by rw [upd_same, List.map_append]; rfl, by simp; omega, g3.trans (Off.mut rfl)⟩
        · exact ⟨acc2, g1, by omega, g3⟩
      · rintro H3 ⟨acc2, g1, g2, g3⟩
        have hD2m : H D2 = none := s2.free hD2
        have s3 : Same H H3 := fun b o e => g3 b o (fun y => by rw [y, hD2m] at e; cases e) (s2 _ _ e)
        have h13 : H3 D = some (.lst (acc.map V.int)) := g3 _ _ (ne_of_none h1 hD2) h1
        refine ⟨_, rfl, _, rfl, ⟨_, SqL.of h13⟩, ?_⟩
        refine fun D3 hD3 => lc_it (walk_list (xs := acc.map V.int)) (fun i H' => ∃ acc3 : List Int, H' D3 = some (.lst (acc3.map V.int)) ∧ acc3.length ≤ i ∧ Off (fun b => b = D3) H3 H') ⟨[], upd_same, Nat.le_refl _, Off.new hD3⟩ (fun i H' _ h => ?_) ?_ ?_
        · obtain ⟨acc3, f1, f2, f3⟩ := h
          exact SqL.of (f3 _ _ (ne_of_none h13 hD3) h13)
        · rintro i x H4 H5 hi ⟨acc3, f1, f2, f3⟩ ⟨rfl, hx⟩
          rw [List.length_map] at hi
          have hx' : x = .int acc[i] := by
            rw [List.getElem?_map, List.getElem?_eq_getElem hi] at hx
            exact (Option.some.inj hx).symm
          subst hx'
          refine And.intro rfl ?_
          walk_at "rd"
          refine ite2 (fun q => ?_) (fun q => ?_)
          · refine ⟨_, rfl, .inl ⟨_, rfl, ?_⟩⟩
            refine ⟨_, _, rfl, rfl, by show (0 : Int) < _; decide, ?_⟩
            exact ⟨_, f1, by rw [List.length_map]; exact small1000 (by omega), acc3 ++ [acc[i] % 1000003], by rw [upd_same, List.map_append]; rfl, by simp; omega, f3.trans (Off.mut rfl)⟩
          · exact ⟨acc3, f1, by omega, f3⟩
        · rintro H4 ⟨acc3, f1, f2, f3⟩
          have hD3m : H D3 = none := s3.free hD3
          have s4 : Same H H4 := fun b o e => f3 b o (fun y => by rw [y, hD3m] at e; cases e) (s3 _ _ e)
          have g14 : H4 D2 = some (.lst (acc2.map V.int)) := f3 _ _ (ne_of_none g1 hD3) g1
          rw [List.length_map] at g2 f2
          walk_at "rd"
          refine And.intro (Nat.le_of_ble_eq_true rfl) (fun p H5 n5 => ?_)
          exact k p H5 (s4.free n5.free) (s4.trans n5.same) ⟨D2, D3, acc2, acc3, 0, 0, n5.at_, ne_of_none g14 n5.free, ne_of_none f1 n5.free, n5.same _ _ g14, n5.same _ _ f1, by omega, by omega⟩
def spDraw (K : PySem.W.Frag) : Sp := fun vs H Q _ => ∃ (p : Addr) (m : Int), vs = [.ref p, .int m] ∧ PoolAt H p ∧ 0 < m ∧ m < 1000000 ∧
  ∀ r H', 0 ≤ r → r < m → Off (fun b => b = p) H H' → PoolAt H' p → Q (.int r) H'
theorem ok_draw {f : Addr} {fd : FuncData} (F : Fun K "_law_draw" "_law_draw" s__law_draw f fd) (T : Blt mg) : FnG P w K mg base (CXe P w) 1 f fd ["pool", "many"] (spDraw K) := by
  refine F.okG sc__law_draw (fun vs H Q E h => ?_) (fun cdv A outer s H vs Q E hgd hr h => ?_)
  · obtain ⟨p, m, rfl, _⟩ := h; rfl
  · obtain ⟨p, m, rfl, ⟨g, s', gs, ss, c, n, hp, hgp, hsp, hg, hs, lg, ls⟩, hm0, hm1, k⟩ := h
    refine ⟨_, (C8.pss_cut (ps_if (PW.pt (pw_and (pt_cmpR op_eq (pe_ix ix_list (pv 0) pe_int (fun _ _ => rfl)) pe_int (nomark _)) (pw_and1 (pt_cmpR op_gt (pe_callB call_len_seq (by rfl) T.n_len (by decide +kernel) (pa_cons (pe_ix ix_list (pv 0) pe_int (fun _ _ => rfl)) pa_nil)) pe_int (nomark _))))) (pss_cons (ps_set (i := 2) sc__law_draw.nd rfl (Or.inl rfl) (pe_ix ix_list (pv 0) pe_int (fun _ _ => rfl)))
      (pss_cons (ps_asg (pe_ix ix_list (pv 2) pe_int (fun _ _ => rfl)) (pg_sub (pv 0) pe_int set_list))
      (pss_one (ps_asg (pe_slice sl_list (pv 2) (po_some pe_int) po_none) (pg_sub (pv 0) pe_int set_list))))) pss_nil)
      (pss_cons (ps_if (pt_cmpR op_gt (pe_ix ix_list (pv 0) pe_int (fun _ _ => rfl)) pe_int (nomark _)) (pss_cons (ps_set (i := 3) sc__law_draw.nd rfl (Or.inl rfl) (pe_op op_mod (pe_callTy call_int1 (by rfl) T.n_int (by decide +kernel) (pa_cons (pe_ix ix_list (pv 0) pe_int (fun _ _ => rfl)) pa_nil)) (pv 1)))
      (pss_cons (ps_asg (pe_op op_fdivN (pe_ix ix_list (pv 0) pe_int (fun _ _ => rfl)) (pv 1)) (pg_sub (pv 0) pe_int set_list))
      (pss_one (ps_ret (pv 3))))) pss_nil)
      (pss_cons (ps_asg (pe_op op_add (pe_ix ix_list (pv 0) pe_int (fun _ _ => rfl)) pe_int) (pg_sub (pv 0) pe_int set_list))
      (pss_cons (ps_set (i := 4) sc__law_draw.nd rfl (Or.inl rfl) pe_int)
      (C8.pss_cut (ps_if (pt_cmpR op_gt (pe_callB call_len_seq (by rfl) T.n_len (by decide +kernel) (pa_cons (pe_ix ix_list (pv 0) pe_int (fun _ _ => rfl)) pa_nil)) pe_int (nomark _)) (pss_one (ps_set (i := 4) sc__law_draw.nd rfl (Or.inl rfl) (pe_ix ix_list (pe_ix ix_list (pv 0) pe_int (fun _ _ => rfl)) (pe_op op_mod (pe_callTy call_int1 (by rfl) T.n_int (by decide +kernel) (pa_cons (pe_ix ix_list (pv 0) pe_int (fun _ _ => rfl)) pa_nil)) (pe_callB call_len_seq (by rfl) T.n_len (by decide +kernel) (pa_cons (pe_ix ix_list (pv 0) pe_int (fun _ _ => rfl)) pa_nil))) (fun _ _ => rfl)))) pss_nil)
      (pss_cons (ps_set (i := 5) sc__law_draw.nd rfl (Or.inl rfl) (pe_op op_mod (pe_callTy call_int1 (by rfl) T.n_int (by decide +kernel) (pa_cons (pe_op op_mul (pe_op op_add (pe_op op_add (pv 4) (pe_op op_mul pe_int (pe_ix ix_list (pv 0) pe_int (fun _ _ => rfl)))) pe_int) pe_int) pa_nil)) pe_int))
      (pss_cons (ps_set (i := 5) sc__law_draw.nd rfl (Or.inl rfl) (pe_op op_mod (pe_callTy call_int1 (by rfl) T.n_int (by decide +kernel) (pa_cons (pe_op op_mul (pv 5) (pe_op op_add (pe_op op_fdivN (pv 5) pe_int) pe_int)) pa_nil)) pe_int))
      (pss_cons (ps_set (i := 5) sc__law_draw.nd rfl (Or.inl rfl) (pe_op op_mod (pe_callTy call_int1 (by rfl) T.n_int (by decide +kernel) (pa_cons (pe_op op_mul (pv 5) (pe_op op_add (pe_op op_fdivN (pv 5) pe_int) pe_int)) pa_nil)) pe_int))
      (pss_one (ps_ret (pe_op op_mod (pe_callTy call_int1 (by rfl) T.n_int (by decide +kernel) (pa_cons (pe_op op_fdivN (pv 5) pe_int) pa_nil)) (pv 1)))))))))))), ?_⟩
    refine ⟨fun σ' H' => ∃ (x : Option V), σ' = [some (.ref p), some (.int m), x, none, none, none] ∧ Off (fun b => b = p) H H' ∧ PoolAt H' p, ?_, ?_⟩
    · walk_at "rd"
      refine ite2 (fun h => ?_) (fun h => ?_)
      · walk_at "rd"
        refine ite2 (fun h2 => ?_) (fun h2 => ?_)
        · have hl : 0 < gs.length := by simpa using h2
          obtain ⟨g0, gr, rfl⟩ : ∃ g0 gr, gs = g0 :: gr := by
            cases gs with
            | nil => cases hl
            | cons a b => exact ⟨a, b, rfl⟩
          walk_at "rd"
          refine ⟨g, _, 0, .int g0, rfl, rfl, SqL.of hg, atI_nat (xs := (g0 :: gr).map V.int) (j := 0) (v := V.int g0) rfl, ?_⟩
          walk_at "rd"
          refine ⟨g, _, rfl, SqL.of ((upd_ne hgp).trans hg), fun q hq => ?_⟩
          have hpq : p ≠ q := ne_of_none upd_same hq
          have hq0 : H q = none := by rw [← hq, upd_ne hpq.symm]
          walk_at "rd"
          obtain ⟨gs2, e2, hl2, _⟩ := cutV_map V.int (g0 :: gr) (some 1) none
          rw [e2]
          refine ⟨fun b o hb e => ?_, q, s', gs2, ss, g0, n, upd_same, hpq.symm, hsp, ?_, ?_, by omega, ls⟩
          · rw [upd_ne hb, upd_ne (ne_of_none e hq0), upd_ne hb]; exact e
          · rw [upd_ne hpq.symm]; exact upd_same
          · rw [upd_ne hsp, upd_ne (ne_of_none hs hq0), upd_ne hsp]; exact hs
        · exact ⟨none, rfl, Off.refl _, ⟨g, s', gs, ss, c, n, hp, hgp, hsp, hg, hs, lg, ls⟩⟩
      · exact ⟨none, rfl, Off.refl _, ⟨g, s', gs, ss, c, n, hp, hgp, hsp, hg, hs, lg, ls⟩⟩
    · rintro σ' H1 ⟨x, rfl, off1, ⟨g, s', gs, ss, c, n, hp, hgp, hsp, hg, hs, lg, ls⟩⟩
      walk_at "rd"
      refine ite2 (fun h => ?_) (fun h => ?_)
      · walk_at "rd"
        refine k _ _ (Int.emod_nonneg _ (by omega)) (Int.emod_lt_of_pos _ hm0) (off1.trans (Off.mut rfl)) ⟨g, s', gs, ss, _, n, upd_same, hgp, hsp, (upd_ne hgp).trans hg, (upd_ne hsp).trans hs, lg, ls⟩
      · walk_at "rd"
        have hu : ∀ o, upd H1 p o p = some o := fun o => upd_same
        refine ⟨fun σ' H' => ∃ seed : Int, σ' = [some (.ref p), some (.int m), x, none, some (.int seed), none] ∧ H' = upd H1 p (.lst [.ref g, .ref s', .int c, .int (n + 1)]), ?_, ?_⟩
        · walk_at "rd"
          refine ite2 (fun h2 => ?_) (fun h2 => ?_)
          · have hl : 0 < ss.length := by simpa using h2
            walk_at "rd"
            have hl2 : (0 : Int) < (ss.map V.int).length := by rw [List.length_map]; omega
            refine And.intro hl2 ?_
            have r0 : 0 ≤ (n + 1) % ((ss.map V.int).length : Int) := Int.emod_nonneg _ (by omega)
            have r1 : (n + 1) % ((ss.map V.int).length : Int) < (ss.map V.int).length := Int.emod_lt_of_pos _ hl2
            obtain ⟨jn, hj⟩ := Int.eq_ofNat_of_zero_le r0
            have hjl : jn < ss.length := by rw [List.length_map] at r1 hj; omega
            refine ⟨s', ss.map V.int, (jn : Int), .int ss[jn], rfl, by show V.int ((n + 1) % _) = _; rw [hj], SqL.of ((upd_ne hsp).trans hs), atI_nat (by rw [List.getElem?_map, List.getElem?_eq_getElem hjl]; rfl), ?_⟩
            exact ⟨ss[jn], rfl, rfl⟩
          · exact ⟨0, rfl, rfl⟩
        · rintro σ' H2 ⟨seed, rfl, rfl⟩
          walk_at "rd"
          refine k _ _ (Int.emod_nonneg _ (by omega)) (Int.emod_lt_of_pos _ hm0) (off1.trans (Off.mut rfl)) ⟨g, s', gs, ss, _, _, upd_same, hgp, hsp, (upd_ne hgp).trans hg, (upd_ne hsp).trans hs, lg, ls⟩
/-- a list that is no pool is picked from -/
def spPick (K : PySem.W.Frag) : Sp := fun vs H Q _ => ∃ (p a : Addr) (xs : List V), vs = [.ref p, .ref a] ∧ PoolAt H p ∧ H a = some (.lst xs) ∧ a ≠ p ∧ 0 < xs.length ∧ xs.length < 1000000 ∧
  ∀ x H', x ∈ xs → Off (fun b => b = p) H H' → PoolAt H' p → Q x H'
theorem ok_pick {f : Addr} {fd : FuncData} (F : Fun K "_law_pick" "_law_pick" s__law_pick f fd) (T : Blt mg) (c__law_draw : CalG P w K mg base 1 "_law_draw" (spDraw K)) : FnG P w K mg base (CXe P w) 2 f fd ["pool", "items"] (spPick K) := by
  refine F.okG sc__law_pick (fun vs H Q E h => ?_) (fun cdv A outer s H vs Q E hgd hr h => ?_)
  · obtain ⟨p, a, xs, rfl, _⟩ := h; rfl
  · obtain ⟨p, a, xs, rfl, hp, ha, hap, h0, h1, k⟩ := h
    refine ⟨_, (pss_one (ps_ret (pe_ix ix_list (pv 1) (pg_c c__law_draw hgd hr (by decide) (pa_cons (pv 0) (pa_cons (pe_callB call_len_seq (by rfl) T.n_len (by decide +kernel) (pa_cons (pv 1) pa_nil)) pa_nil))) (fun _ _ => rfl)))), ?_⟩
    walk_at "rd"
    refine ⟨p, xs.length, rfl, hp, by omega, by omega, fun r H' r0 r1 off hp' => ?_⟩
    obtain ⟨j, rfl⟩ := Int.eq_ofNat_of_zero_le r0
    have hj : j < xs.length := by omega
    exact ⟨a, xs, j, xs[j], rfl, rfl, SqL.of (off _ _ hap ha), atI_nat (List.getElem?_eq_getElem hj), k _ _ (List.getElem_mem hj) off hp'⟩
end
end K54
end
section
set_option Elab.async false
set_option linter.all false
set_option maxRecDepth 100000
set_option maxHeartbeats 2000000
namespace K54
open PySem L2
local macro_rules | `(tactic| walk_at "hp") => `(tactic| first | assumption | exact upd_same | (refine (upd_ne (by first | assumption | (apply Ne.symm; assumption))).trans ?_; walk_at "hp"))
local macro_rules | `(tactic| walk_at "rd1") => `(tactic| first
  | (refine ⟨_, rfl, ?_⟩)
  | (refine ⟨_, _, rfl, rfl, ?_⟩)
  | (refine ⟨(rfl : scal _ _ = true), ?_⟩)
  | (refine And.intro (by show (0 : Int) < _; decide) ?_)
  | (refine And.intro (And.intro (by decide) (by decide)) ?_)
  | (refine And.intro (Or.inr (And.intro (by decide) (by decide))) ?_)
  | (refine And.intro (And.intro (by decide) (And.intro (by decide) (by decide))) ?_)
  | (refine And.intro (by assumption) ?_)
  | (refine And.intro (And.intro (by omega) (by omega)) ?_)
  | (refine And.intro (Or.inl (And.intro (by omega) (by omega))) ?_)
  | (refine Or.inl ⟨_, rfl, ?_⟩))
local macro_rules | `(tactic| walk_at "rd") => `(tactic| repeat walk_at "rd1")
theorem sc_Rules_init : FnScope ["self", "cap", "strong", "pull"] ["self", "cap", "strong", "pull"] (defScope s_Rules_init) := ⟨rfl, rfl, rfl, by decide +kernel, rfl, by decide +kernel, by decide +kernel⟩
theorem sc_need_rules : FnScope ["rules"] ["rules"] (defScope s_need_rules) := ⟨rfl, rfl, rfl, by decide +kernel, rfl, by decide +kernel, by decide +kernel⟩
theorem tyN_of_dr {L : Bool} {M : Addr → Prop} {H : Hp} {v : V} {d : PyData} (h : Dr L M H v d) : ∃ n, tyN H v = some n := by
  cases h with
  | non => exact ⟨_, rfl⟩
  | bl b => exact ⟨_, rfl⟩
  | int i => exact ⟨_, rfl⟩
  | str x => exact ⟨_, rfl⟩
  | lst e => exact ⟨"list", by simp only [tyN, e]⟩
  | tup e => exact ⟨"tuple", by simp only [tyN, e]⟩
  | dct e => exact ⟨"dict", by simp only [tyN, e]⟩
def isInt : V → Bool
  | .int _ => true
  | _ => false
def isBl : V → Bool
  | .bl _ => true
  | _ => false
/-- what kind of thing a value is, as far as whole numbers and flags go -/
def Knd (K : PySem.W.Frag) (H : Hp) (v : V) : Prop := ∃ t b1 b2, TyX K H v t ∧ PySem.W.kitOne K t (.type "int") = some b1 ∧ PySem.W.kitOne K t (.type "bool") = some b2 ∧ (b1 && !b2) = isInt v ∧ b2 = isBl v
theorem knd_of {K : PySem.W.Frag} {H : Hp} {v : V} {n : String} (h : tyN H v = some n) : Knd K H v := by
  have ty : TyX K H v (.type n) := .base (tyN_of h)
  have go : ∀ (b1 b2 : Bool), kitB n "int" = some b1 → kitB n "bool" = some b2 → (b1 && !b2) = isInt v → b2 = isBl v → Knd K H v := fun b1 b2 h1 h2 h3 h4 => ⟨_, b1, b2, ty, kit_ty h1, kit_ty h2, h3, h4⟩
  cases v with
  | non => cases h; exact go false false (by decide +kernel) (by decide +kernel) rfl rfl
  | bl b => cases h; exact go true true (by decide +kernel) (by decide +kernel) rfl rfl
  | int i => cases h; exact go true false (by decide +kernel) (by decide +kernel) rfl rfl
  | str x => cases h; exact go false false (by decide +kernel) (by decide +kernel) rfl rfl
  | byt b => cases h
  | flt b => cases h
  | ty t => cases h
  | ref a =>
    simp only [tyN] at h
    split at h <;> first | (cases h; exact go false false (by decide +kernel) (by decide +kernel) rfl rfl) | cases h
def capOk : V → Bool
  | .int i => decide (1 ≤ i ∧ i ≤ 2)
  | _ => false
def rulesF (c s p : V) : List (Str × V) := [("cap", c), ("strong", s), ("pull", p)]
structure RulT (P : Program) (K : PySem.W.Frag) (mg : Str → Option Value) (C CB fB : Addr) : Prop extends Blt mg where
  cl : Cls K C
  a_cap : NoAttr K C "cap"
  a_strong : NoAttr K C "strong"
  a_pull : NoAttr K C "pull"
  g_Rules : mg "Rules" = some (.ref C)
  x_BadRules : RX.ErrT P K mg "BadRules" "value" CB fB
def spRInit (K : PySem.W.Frag) (C CB : Addr) : Sp := fun vs H Q E => ∃ (x dx : Addr) (c s p : V), vs = [.ref x, c, s, p] ∧ H x = some (.ins C dx []) ∧ Knd K H c ∧ Knd K H s ∧ Knd K H p ∧
  (capOk c = false → ∀ d, H d = none → E (.ref CB) (some d) (upd H d (.xd [("value", c)]))) ∧
  (capOk c = true → isBl s = false → ∀ d, H d = none → E (.ref CB) (some d) (upd H d (.xd [("value", s)]))) ∧
  (capOk c = true → isBl s = true → isBl p = false → ∀ d, H d = none → E (.ref CB) (some d) (upd H d (.xd [("value", p)]))) ∧
  (capOk c = true → isBl s = true → isBl p = true → Q .non (upd H x (.ins C dx (rulesF c s p))))
section
variable {P : Program} {w : World} {K : PySem.W.Frag} {mg : Str → Option Value} {base : Heap} {C CB fB : Addr}
theorem putF3 (c s p : V) : putF "pull" p (putF "strong" s (putF "cap" c [])) = rulesF c s p := by
  have e1 : ¬ (("cap" : Str) = "strong") := by decide +kernel
  have e2 : ¬ (("cap" : Str) = "pull") := by decide +kernel
  have e3 : ¬ (("strong" : Str) = "pull") := by decide +kernel
  simp only [putF, e1, e2, e3, if_false, rulesF]
theorem putF_len (f : Str) (v : V) : ∀ fs : List (Str × V), (putF f v fs).length ≤ fs.length + 1
  | [] => Nat.le_refl _
  | (g, u) :: r => by
    show (if g = f then (g, v) :: r else (g, u) :: putF f v r).length ≤ _
    have := putF_len f v r
    split <;> simp only [List.length_cons] <;> omega
theorem ok_rinit {f : Addr} {fd : FuncData} {dvs : List V} (F : FunD K "__init__" "Rules.__init__" (defArgs s_Rules_init) (defBody s_Rules_init) (defScope s_Rules_init) dvs [] f fd) (T : RulT P K mg C CB fB) (c_is_whole : CalG P w K mg base 1 "is_whole" (spWhole K)) :
    FnG P w K mg base (CXe P w) 4 f fd ["self", "cap", "strong", "pull"] (spRInit K C CB) := by
  refine F.okG sc_Rules_init (fun vs H Q E h => ?_) (fun cdv A outer s H vs Q E hgd hr h => ?_)
  · obtain ⟨x, dx, c, s, p, rfl, _⟩ := h; rfl
  · obtain ⟨x, dx, c, sg, pl, rfl, hx, ⟨tc, c1, c2, kc, kc1, kc2, kc3, kc4⟩, ⟨ts, s1, s2, ks, ks1, ks2, ks3, ks4⟩, ⟨tp, p1, p2, kp, kp1, kp2, kp3, kp4⟩, k1, k2, k3, k4⟩ := h
    refine ⟨_, (pss_cons (ps_if (PW.pt (pw_or (pt_not (pt_val (pg_c c_is_whole hgd hr (by decide) (pa_cons (pv 1) pa_nil)))) (pw_or1 (pt_not (pt_chain op_le op_le pe_int (pv 1) pe_int))))) (pss_one (ps_raiseErr rfl T.x_BadRules hr (takes_of rfl rfl rfl rfl) (pa_cons (pv 1) pa_nil))) pss_nil)
      (pss_cons (ps_if (pt_not (pt_val (pe_callB call_isi (by rfl) T.n_isinstance (by decide +kernel) (pa_cons (pv 2) (pa_cons (pe_bltn (v := .ty "bool") (u := .type "bool") rfl T.n_bool (by decide +kernel) rfl) pa_nil))))) (pss_one (ps_raiseErr rfl T.x_BadRules hr (takes_of rfl rfl rfl rfl) (pa_cons (pv 2) pa_nil))) pss_nil)
      (pss_cons (ps_if (pt_not (pt_val (pe_callB call_isi (by rfl) T.n_isinstance (by decide +kernel) (pa_cons (pv 3) (pa_cons (pe_bltn (v := .ty "bool") (u := .type "bool") rfl T.n_bool (by decide +kernel) rfl) pa_nil))))) (pss_one (ps_raiseErr rfl T.x_BadRules hr (takes_of rfl rfl rfl rfl) (pa_cons (pv 3) pa_nil))) pss_nil)
      (pss_cons (ps_fld (pv 0) (pv 1) rfl)
      (pss_cons (ps_fld (pv 0) (pv 2) rfl)
      (pss_one (ps_fld (pv 0) (pv 3) rfl))))))), ?_⟩
    have hSl : ∀ (o : HO), (upd H x o) x = some o := fun o => upd_same
    -- cap
    have first : ∀ (D : Ends) (t : TS), (capOk c = true → t D (L2.start ["self", "cap", "strong", "pull"] [.ref x, c, sg, pl]) H) → True := fun _ _ _ => trivial
    refine ⟨_, rfl, c, tc, c1, c2, rfl, kc, kc1, kc2, _, rfl, ?_⟩
    rw [kc3]
    cases hi : isInt c with
    | false =>
      have hn : capOk c = false := by cases c <;> first | rfl | cases hi
      exact iteT (iteT ⟨_, rfl, c, rfl, fun d hd => k1 hn d hd⟩)
    | true =>
      cases c <;> first | (cases hi; done) | skip
      rename_i i
      refine iteF ?_
      walk_at "rd"
      by_cases h1 : (1 : Int) ≤ i
      · refine ite2 (fun _ => ?_) (fun z => absurd (decide_eq_true h1) z)
        walk_at "rd"
        by_cases h2 : i ≤ 2
        · have hk : capOk (.int i) = true := by simp [capOk, h1, h2]
          refine ite2 (fun z => ?_) (fun _ => ?_)
          · simp [h2] at z
          -- strong
          refine ⟨_, rfl, _, _, _, _, _, rfl, .ty _, ks, ks2, _, rfl, ?_⟩
          rw [ks4]
          cases hsg : isBl sg with
          | false => exact iteT ⟨_, rfl, sg, rfl, fun d hd => k2 hk hsg d hd⟩
          | true =>
            refine iteF ?_
            refine ⟨_, rfl, _, _, _, _, _, rfl, .ty _, kp, kp2, _, rfl, ?_⟩
            rw [kp4]
            cases hpl : isBl pl with
            | false => exact iteT ⟨_, rfl, pl, rfl, fun d hd => k3 hk hsg hpl d hd⟩
            | true =>
              refine iteF ?_
              refine ⟨_, rfl, _, rfl, x, C, dx, [], rfl, hx, T.cl, T.a_cap, (by decide), ?_⟩
              refine ⟨_, rfl, _, rfl, x, C, dx, _, rfl, upd_same, T.cl, T.a_strong, Nat.lt_of_le_of_lt (putF_len _ _ _) (by decide), ?_⟩
              refine ⟨_, rfl, _, rfl, x, C, dx, _, rfl, upd_same, T.cl, T.a_pull, Nat.lt_of_le_of_lt (putF_len _ _ _) (Nat.lt_of_le_of_lt (Nat.succ_le_succ (putF_len _ _ _)) (by decide)), ?_⟩
              rw [upd_upd, upd_upd, putF3]
              exact k4 hk hsg hpl
        · have hn : capOk (.int i) = false := by simp [capOk, h2]
          refine ite2 (fun _ => ?_) (fun z => absurd (by simp [h2]) z)
          exact ⟨_, rfl, _, rfl, fun d hd => k1 hn d hd⟩
      · have hn : capOk (.int i) = false := by simp [capOk, h1]
        refine ite2 (fun z => absurd (of_decide_eq_true z) h1) (fun _ => ?_)
        refine ⟨_, rfl, ?_⟩
        exact iteT ⟨_, rfl, _, rfl, fun d hd => k1 hn d hd⟩
theorem DrAll.snoc {L : Bool} {M : Addr → Prop} {H : Hp} {v : V} {d : PyData} (h : Dr L M H v d) : ∀ {vs : List V} {ds : List PyData}, DrAll L M H vs ds → DrAll L M H (vs ++ [v]) (ds ++ [d])
  | _, _, .nil => .cons h .nil
  | _, _, .cons a t => .cons a (DrAll.snoc h t)
theorem DrAll.len {L : Bool} {M : Addr → Prop} {H : Hp} : ∀ {vs : List V} {ds : List PyData}, DrAll L M H vs ds → vs.length = ds.length
  | _, _, .nil => rfl
  | _, _, .cons _ t => by simp [DrAll.len t]
/-- a right book of rules is made -/
theorem make_rules {H : Hp} {Q : VK} {E : XK} {c : Int} {s p : Bool} {x dx : Addr} (h1 : 1 ≤ c) (h2 : c ≤ 2) (nx : H x = none) (ndx : H dx = none) (k : ∀ H1, Same H H1 → H1 x = some (.ins C dx (rulesF (.int c) (.bl s) (.bl p))) → Q .non H1) :
    spRInit K C CB [.ref x, .int c, .bl s, .bl p] (upd (upd H dx (.own x)) x (.ins C dx [])) Q E := by
  have hk : capOk (.int c) = true := by simp [capOk, h1, h2]
  refine ⟨x, dx, .int c, .bl s, .bl p, rfl, upd_same, knd_of rfl, knd_of rfl, knd_of rfl, fun z => ?_, fun _ z => ?_, fun _ _ z => ?_, fun _ _ _ => ?_⟩
  · rw [hk] at z; cases z
  · cases z
  · cases z
  · rw [upd_upd]
    refine k _ (fun b o e => ?_) upd_same
    rw [upd_ne (ne_of_none e nx), upd_ne (ne_of_none e ndx)]
    exact e
/-- what the top says of Rules as a class of things -/
structure RulK (K : PySem.W.Frag) (C : Addr) : Prop where
  ic : C8.InsC K C
  kN : PySem.W.kitOne K (.type "NoneType") (.ref C) = some false
  kI : PySem.W.kitOne K (.type "int") (.ref C) = some false
  kB : PySem.W.kitOne K (.type "bool") (.ref C) = some false
  kS : PySem.W.kitOne K (.type "str") (.ref C) = some false
  kT : PySem.W.kitOne K (.type "tuple") (.ref C) = some false
  kL : PySem.W.kitOne K (.type "list") (.ref C) = some false
  kD : PySem.W.kitOne K (.type "dict") (.ref C) = some false
theorem RulK.ty (q : RulK K C) {H : Hp} {a dx : Addr} {fs : List (Str × V)} (h : H a = some (.ins C dx fs)) : TyOf K H (.ref a) (.ref C) := .ins h q.ic.cl q.ic.ha q.ic.hn q.ic.htk q.ic.hm
theorem RulK.no (q : RulK K C) {L : Bool} {M : Addr → Prop} {H : Hp} {v : V} {d : PyData} (h : Dr L M H v d) : ∃ t, TyX K H v t ∧ PySem.W.kitOne K t (.ref C) = some false := by
  cases h with
  | non => exact ⟨_, .base .non, q.kN⟩
  | bl b => exact ⟨_, .base (.bl b), q.kB⟩
  | int i => exact ⟨_, .base (.int i), q.kI⟩
  | str x => exact ⟨_, .base (.str x), q.kS⟩
  | lst e => exact ⟨_, .base (.lst e), q.kL⟩
  | tup e => exact ⟨_, .base (.tup e), q.kT⟩
  | dct e => exact ⟨_, .base (.dK e), q.kD⟩
def spNeedR (K : PySem.W.Frag) (C CB : Addr) : Sp := fun vs H Q E => ∃ (v : V) (t : Value) (b : Bool), vs = [v] ∧ TyX K H v t ∧ PySem.W.kitOne K t (.ref C) = some b ∧ (b = true → Q .non H) ∧ (b = false → ∀ d, H d = none → E (.ref CB) (some d) (upd H d (.xd [("value", v)])))
theorem ok_needR {f : Addr} {fd : FuncData} (F : Fun K "need_rules" "need_rules" s_need_rules f fd) (T : RulT P K mg C CB fB) : FnG P w K mg base (CXe P w) 3 f fd ["rules"] (spNeedR K C CB) := by
  refine F.okG sc_need_rules (fun vs H Q E h => ?_) (fun cdv A outer s H vs Q E hgd hr h => ?_)
  · obtain ⟨v, t, b, rfl, _⟩ := h; rfl
  · obtain ⟨v, t, b, rfl, ty, e, k1, k2⟩ := h
    refine ⟨_, (pss_one (ps_if (pt_not (pt_val (pe_callB call_isi (by rfl) T.n_isinstance (by decide +kernel) (pa_cons (pv 0) (pa_cons (pe_glob (v := .ref _) rfl T.g_Rules rfl) pa_nil))))) (pss_one (ps_raiseErr rfl T.x_BadRules hr (takes_of rfl rfl rfl rfl) (pa_cons (pv 0) pa_nil))) pss_nil)), ?_⟩
    refine ⟨_, rfl, _, _, _, _, _, rfl, .own C, ty, e, _, rfl, ?_⟩
    cases b with
    | true => exact iteF (k1 rfl)
    | false => exact iteT ⟨_, rfl, _, rfl, fun d hd => k2 rfl d hd⟩
end
end K54
end
section
set_option Elab.async false
set_option linter.all false
set_option maxRecDepth 100000
set_option maxHeartbeats 2000000
namespace K54
open PySem L2
local macro_rules | `(tactic| walk_at "hp") => `(tactic| first | assumption | exact upd_same | (refine (upd_ne (by first | assumption | (apply Ne.symm; assumption))).trans ?_; walk_at "hp"))
local macro_rules | `(tactic| walk_at "rd1") => `(tactic| first
  | (refine ⟨_, rfl, ?_⟩)
  | (refine ⟨_, _, rfl, rfl, ?_⟩)
  | (refine ⟨(rfl : scal _ _ = true), ?_⟩)
  | (refine And.intro (by show (0 : Int) < _; decide) ?_)
  | (refine And.intro (And.intro (by decide) (by decide)) ?_)
  | (refine And.intro (Or.inr (And.intro (by decide) (by decide))) ?_)
  | (refine And.intro (And.intro (by decide) (And.intro (by decide) (by decide))) ?_)
  | (refine And.intro (by assumption) ?_)
  | (refine And.intro (And.intro (by omega) (by omega)) ?_)
  | (refine And.intro (Or.inl (And.intro (by omega) (by omega))) ?_)
  | (refine' ⟨_, _, _, _, rfl, rfl, Or.inl (Or.inl ?h1), ?h2, ?h3⟩; (case h1 => walk_at "hp"); (case h2 => rfl))
  | (refine' ⟨_, _, _, _, rfl, rfl, ?h1, ?h2, ?h3⟩; (case h1 => walk_at "hp"); (case h2 => rfl))
  | (refine' ⟨_, _, rfl, Or.inl (Or.inl (Or.inl ?h1)), ?h3⟩; (case h1 => walk_at "hp"))
  | (refine Or.inl ⟨_, rfl, ?_⟩))
local macro_rules | `(tactic| walk_at "rd") => `(tactic| repeat walk_at "rd1")
theorem sc_is_bag : FnScope ["rules", "thing", "many"] ["rules", "thing"] (defScope s_is_bag) := ⟨rfl, rfl, rfl, by decide +kernel, rfl, by decide +kernel, by decide +kernel⟩
theorem sc__is_wish : FnScope ["rules", "thing", "deepest", "bags", "wishes", "part"] ["rules", "thing", "deepest"] (defScope s__is_wish) := ⟨rfl, rfl, rfl, by decide +kernel, rfl, by decide +kernel, by decide +kernel⟩
theorem sc_is_wish : FnScope ["rules", "thing"] ["rules", "thing"] (defScope s_is_wish) := ⟨rfl, rfl, rfl, by decide +kernel, rfl, by decide +kernel, by decide +kernel⟩
/-! ### wishes as data -/
def numOk (c : Int) : PyData → Bool
  | .int i => decide (0 ≤ i) && decide (i ≤ c)
  | _ => false
def isBagD (c : Int) : PyData → Bool
  | .tuple ds => decide (ds.length = 2) && ds.all (numOk c)
  | _ => false
def wordD (z : Str) : Option (Nat × Nat) :=
  if z = "solved" then some (1, 0) else if z = "safe" then some (1, 0) else if z = "back" then some (2, 0) else if z = "idle" then some (1, 0) else if z = "not" then some (0, 1) else if z = "both" then some (0, 2) else none
def isWishD (c : Int) : Nat → PyData → Bool
  | 0, _ => false
  | n + 1, .tuple (.str z :: ds) => match wordD z with
    | none => false
    | some (b, w) => decide (ds.length = b + w) && ds.all fun d => if 0 < b then isBagD c d else isWishD c n d
  | _ + 1, _ => false
theorem wordD_some {z : Str} {b w : Nat} (h : wordD z = some (b, w)) : (b = 0 ∧ 1 ≤ w ∧ w ≤ 2) ∨ (w = 0 ∧ 1 ≤ b ∧ b ≤ 2) := by
  unfold wordD at h
  repeat' split at h
  all_goals first | (cases h; done) | (cases h; simp)
section
variable {P : Program} {w : World} {K : PySem.W.Frag} {mg : Str → Option Value} {base : Heap} {C CB fB : Addr}
/-- what a datum's type is -/
theorem dr_ty {L : Bool} {M : Addr → Prop} {H : Hp} {v : V} {d : PyData} (h : Dr L M H v d) : ∃ n, tyN H v = some n ∧ (n = "tuple" ↔ ∃ ds, d = .tuple ds) ∧ (n = "str" ↔ ∃ z, d = .str z) ∧ n ∈ ["NoneType", "bool", "int", "str", "list", "tuple", "dict"] := by
  cases h with
  | non => exact ⟨"NoneType", rfl, by simp, by simp, by simp⟩
  | bl b => exact ⟨"bool", rfl, by simp, by simp, by simp⟩
  | int i => exact ⟨"int", rfl, by simp, by simp, by simp⟩
  | str x => exact ⟨"str", rfl, by simp, by simp, by simp⟩
  | lst e => exact ⟨"list", by simp only [tyN, e], by simp, by simp, by simp⟩
  | tup e => exact ⟨"tuple", by simp only [tyN, e], by simp, by simp, by simp⟩
  | dct e => exact ⟨"dict", by simp only [tyN, e], by simp, by simp, by simp⟩
theorem kit_names : ∀ n ∈ ["NoneType", "bool", "int", "str", "list", "tuple", "dict"], kitB n "tuple" = some (decide (n = "tuple")) ∧ kitB n "str" = some (decide (n = "str")) ∧ kitB n "bool" = some (decide (n = "bool")) ∧ kitB n "int" = some (decide (n = "int") || decide (n = "bool")) := by decide +kernel
/-- isinstance(x, tuple) of a datum -/
theorem dr_tup {L : Bool} {M : Addr → Prop} {H : Hp} {v : V} {d : PyData} (h : Dr L M H v d) : ∃ t b, TyX K H v t ∧ PySem.W.kitOne K t (.type "tuple") = some b ∧ (b = true ↔ ∃ ds, d = .tuple ds) := by
  obtain ⟨n, h1, h2, h3, h4⟩ := dr_ty h
  exact ⟨_, _, .base (tyN_of h1), kit_ty (kit_names n h4).1, by simp [h2]⟩
theorem dr_str {L : Bool} {M : Addr → Prop} {H : Hp} {v : V} {d : PyData} (h : Dr L M H v d) : ∃ t b, TyX K H v t ∧ PySem.W.kitOne K t (.type "str") = some b ∧ (b = true ↔ ∃ z, d = .str z) := by
  obtain ⟨n, h1, h2, h3, h4⟩ := dr_ty h
  exact ⟨_, _, .base (tyN_of h1), kit_ty (kit_names n h4).2.1, by simp [h3]⟩
theorem dr_knd {L : Bool} {M : Addr → Prop} {H : Hp} {v : V} {d : PyData} (h : Dr L M H v d) : Knd K H v := by
  obtain ⟨n, h1, _⟩ := dr_ty h
  exact knd_of h1
theorem DrAll.get {L : Bool} {M : Addr → Prop} {H : Hp} : ∀ {vs : List V} {ds : List PyData} {i : Nat} {v : V}, DrAll L M H vs ds → vs[i]? = some v → ∃ d, ds[i]? = some d ∧ Dr L M H v d
  | _, _, 0, _, .cons a _, e => ⟨_, rfl, by cases e; exact a⟩
  | _, _, i + 1, _, .cons _ t, e => DrAll.get (i := i) t e
def spIsBag (K : PySem.W.Frag) (C : Addr) : Sp := fun vs H Q _ => ∃ (R dx : Addr) (c : Int) (s p : V) (v : V) (d : PyData) (L : Bool) (M : Addr → Prop), vs = [.ref R, v] ∧ H R = some (.ins C dx (rulesF (.int c) s p)) ∧ Dr L M H v d ∧ Q (.bl (isBagD c d)) H
theorem ok_is_bag {f : Addr} {fd : FuncData} (F : Fun K "is_bag" "is_bag" s_is_bag f fd) (T : RulT P K mg C CB fB) (c_is_whole : CalG P w K mg base 1 "is_whole" (spWhole K)) : FnG P w K mg base (CXe P w) 2 f fd ["rules", "thing"] (spIsBag K C) := by
  refine F.okG sc_is_bag (fun vs H Q E h => ?_) (fun cdv A outer s H vs Q E hgd hr h => ?_)
  · obtain ⟨R, dx, c, s, p, v, d, L, M, rfl, _⟩ := h; rfl
  · obtain ⟨R, dx, c, sg, pl, v, d, L, M, rfl, hR, hd, k⟩ := h
    refine ⟨_, (pss_cons (ps_if (PW.pt (pw_or (pt_not (pt_val (pe_callB call_isi (by rfl) T.n_isinstance (by decide +kernel) (pa_cons (pv 1) (pa_cons (pe_bltn (v := .ty "tuple") (u := .type "tuple") rfl T.n_tuple (by decide +kernel) rfl) pa_nil))))) (pw_or1 (pt_cmpR op_ne (pe_callB call_len_seq (by rfl) T.n_len (by decide +kernel) (pa_cons (pv 1) pa_nil)) pe_int (nomark _))))) (pss_one (ps_ret pe_bl)) pss_nil)
      (pss_cons (ps_for (passes_of rfl) rfl (pi_tup (pv 1)) (pg_name (i := 2) sc_is_bag.nd rfl (Or.inl rfl))
      (pss_one (ps_if (PW.pt (pw_or (pt_not (pt_val (pg_c c_is_whole hgd hr (by decide) (pa_cons (pv 2) pa_nil)))) (pw_or1 (pt_not (pt_chain op_le op_le pe_int (pv 2) (pe_fld (pv 0) rfl)))))) (pss_one (ps_ret pe_bl)) pss_nil)))
      (pss_one (ps_ret pe_bl)))), ?_⟩
    obtain ⟨t, b, ty, hb, hi⟩ := dr_tup (K := K) hd
    refine ⟨_, rfl, _, _, _, _, _, rfl, .ty _, ty, hb, _, rfl, ?_⟩
    cases b with
    | false =>
      have e : isBagD c d = false := by
        cases d <;> first | rfl | (exact absurd (hi.mpr ⟨_, rfl⟩) (by simp))
      rw [e] at k
      exact iteT (iteT k)
    | true =>
      obtain ⟨ds, rfl⟩ := hi.mp rfl
      cases hd with
      | @tup a xs _ he hM ht =>
      refine iteF ?_
      have hl := DrAll.len ht
      refine ⟨_, rfl, a, xs, rfl, .inr (SqT.of he), (rfl : scal _ _ = true), _, rfl, ?_⟩
      by_cases h2 : ds.length = 2
      · refine ite2 (fun z => absurd z (by simp [hl, h2])) (fun _ => ?_)
        have done : ∀ i d', ds[i]? = some d' → numOk c d' = false → Q (.bl false) H := fun i d' h1 h3 => by
          have e : isBagD c (.tuple ds) = false := by
            have : ds.all (numOk c) = false := by
              rw [List.all_eq_false]
              exact ⟨d', List.mem_of_getElem? h1, by simp [h3]⟩
            simp [isBagD, this]
          rw [e] at k
          exact k
        refine ⟨_, rfl, _, rfl, ⟨_, SqT.of he⟩, for_it (walk_tup (xs := xs)) (fun i σ H' => (∃ m, σ = [some (.ref R), some (.ref a), m]) ∧ H' = H ∧ ∀ j < i, ∀ d', ds[j]? = some d' → numOk c d' = true) ⟨⟨none, rfl⟩, rfl, fun j hj => absurd hj (Nat.not_lt_zero _)⟩ (fun i σ H' _ q => by rw [q.2.1]; exact SqT.of he) ?_ ?_⟩
        · rintro i x σ H1 H2 hi ⟨⟨m, rfl⟩, rfl, hj⟩ ⟨rfl, hx⟩
          obtain ⟨d', hd', dx'⟩ := DrAll.get ht hx
          obtain ⟨t', b1, b2, k1, k2, k3, k4, k5⟩ := dr_knd (K := K) dx'
          refine ⟨_, rfl, x, t', b1, b2, rfl, k1, k2, k3, _, rfl, ?_⟩
          rw [k4]
          cases dx' with
          | int n =>
            refine iteF ?_
            walk_at "rd"
            refine ite2 (fun q1 => ?_) (fun q1 => ?_)
            · have q1 : 0 ≤ n := by simpa using q1
              refine ⟨_, rfl, R, C, dx, _, _, rfl, hR, T.cl, T.a_cap, rfl, ?_⟩
              walk_at "rd"
              by_cases q2 : n ≤ c
              · refine iteF' (by simp [q2]) ?_
                refine ⟨⟨_, rfl⟩, rfl, fun j hj2 d'' hd'' => ?_⟩
                rcases Nat.lt_succ_iff_lt_or_eq.mp hj2 with z | z
                · exact hj j z d'' hd''
                · subst z
                  rw [hd'] at hd''
                  cases hd''
                  simp [numOk, q1, q2]
              · exact iteT' (by simp [q2]) (done i _ hd' (by simp [numOk, q2]))
            · have q1 : ¬ 0 ≤ n := by simpa using q1
              refine ⟨_, rfl, ?_⟩
              exact iteT (done i _ hd' (by simp [numOk, q1]))
          | _ => exact iteT (iteT (done i _ hd' rfl))
        · rintro σ H1 ⟨⟨m, rfl⟩, rfl, hj⟩
          have e : isBagD c (.tuple ds) = true := by
            have : ds.all (numOk c) = true := by
              rw [List.all_eq_true]
              intro d' hd'
              obtain ⟨j, hj1, hj2⟩ := List.mem_iff_getElem.mp hd'
              exact hj j (by omega) d' (by rw [List.getElem?_eq_getElem hj1, hj2])
            simp [isBagD, this, h2]
          rw [e] at k
          exact k
      · refine iteT' (by simp [hl]; omega) ?_
        have e : isBagD c (.tuple ds) = false := by simp [isBagD, h2]
        rw [e] at k
        exact k
end
end K54
end
section
set_option Elab.async false
set_option linter.all false
set_option maxRecDepth 100000
set_option maxHeartbeats 2000000
namespace K54
open PySem L2
local macro_rules | `(tactic| walk_at "hp") => `(tactic| first | assumption | exact upd_same | (refine (upd_ne (by first | assumption | (apply Ne.symm; assumption))).trans ?_; walk_at "hp"))
local macro_rules | `(tactic| walk_at "rd1") => `(tactic| first
  | (refine ⟨_, rfl, ?_⟩)
  | (refine ⟨_, _, rfl, rfl, ?_⟩)
  | (refine ⟨(rfl : scal _ _ = true), ?_⟩)
  | (refine And.intro (by show (0 : Int) < _; decide) ?_)
  | (refine And.intro (And.intro (by decide) (by decide)) ?_)
  | (refine And.intro (Or.inr (And.intro (by decide) (by decide))) ?_)
  | (refine And.intro (And.intro (by decide) (And.intro (by decide) (by decide))) ?_)
  | (refine And.intro (by assumption) ?_)
  | (refine And.intro (And.intro (by omega) (by omega)) ?_)
  | (refine And.intro (Or.inl (And.intro (by omega) (by omega))) ?_)
  | (refine' ⟨_, _, _, _, rfl, rfl, Or.inl (Or.inl ?h1), ?h2, ?h3⟩; (case h1 => walk_at "hp"); (case h2 => rfl))
  | (refine' ⟨_, _, _, _, rfl, rfl, ?h1, ?h2, ?h3⟩; (case h1 => walk_at "hp"); (case h2 => rfl))
  | (refine' ⟨_, _, rfl, Or.inl (Or.inl (Or.inl ?h1)), ?h3⟩; (case h1 => walk_at "hp"))
  | (refine Or.inl ⟨_, rfl, ?_⟩))
local macro_rules | `(tactic| walk_at "rd") => `(tactic| repeat walk_at "rd1")

theorem cut_from1 (x : V) (xs : List V) : cutV (x :: xs) (some 1) none = xs := by
  have e : HT.sIx (x :: xs).length 0 (some 1) = 1 := by
    show (if (1 : Int) < 0 then ((1 : Int) + ((x :: xs).length : Int)).toNat else min (1 : Int).toNat (x :: xs).length) = 1
    rw [if_neg (by omega)]
    show min 1 (xs.length + 1) = 1
    omega
  unfold cutV
  rw [e]
  show List.take ((x :: xs).length - 1) ((x :: xs).drop 1) = xs
  simp
theorem not_whole1 (x : V) (xs : List V) (a : Prop) : ¬ (HT.sIx (x :: xs).length 0 (some 1) = 0 ∧ a) := by
  have e : HT.sIx (x :: xs).length 0 (some 1) = 1 := by
    show (if (1 : Int) < 0 then ((1 : Int) + ((x :: xs).length : Int)).toNat else min (1 : Int).toNat (x :: xs).length) = 1
    rw [if_neg (by omega)]
    show min 1 (xs.length + 1) = 1
    omega
  rw [e]
  simp
section
variable {P : Program} {w : World} {K : PySem.W.Frag} {mg : Str → Option Value} {base : Heap} {C CB fB aW : Addr}
/-- the words of wishes, written -/
structure WishT (P : Program) (w : World) (K : PySem.W.Frag) (mg : Str → Option Value) (C CB fB aW : Addr) : Prop extends RulT P K mg C CB fB where
  g_WORDS : mg "WORDS" = some (.ref aW)
  wd : ∀ z, ∃ r, KD K w aW z r ∧ (wordD z = none → r = none) ∧ ∀ b n, wordD z = some (b, n) → ∃ tp, r = some (.ref tp) ∧ ∀ H, SqT K H tp [.int b, .int n]
  k_DEEPEST : ∃ t, mg "DEEPEST" = some (.int 6 t)
def spIsWish (K : PySem.W.Frag) (C : Addr) (n : Nat) : Sp := fun vs H Q _ => ∃ (R dx : Addr) (c : Int) (s p : V) (v : V) (d : PyData) (L : Bool) (M : Addr → Prop), vs = [.ref R, v, .int n] ∧ H R = some (.ins C dx (rulesF (.int c) s p)) ∧ Dr L M H v d ∧
  ∀ H', Same H H' → Q (.bl (isWishD c n d)) H'
def upTo (sp : Nat → Sp) (n : Nat) : Sp := fun vs H Q E => ∃ m, n = m + 1 ∧ sp m vs H Q E
theorem ok_is_wish_ {f : Addr} {fd : FuncData} {n : Nat} (F : Fun K "_is_wish" "_is_wish" s__is_wish f fd) (T : WishT P w K mg C CB fB aW) (c_is_bag : CalG P w K mg base 2 "is_bag" (spIsBag K C)) (c__is_wish : CalG P w K mg base (2 + n) "_is_wish" (upTo (spIsWish K C) n)) :
    FnG P w K mg base (CXe P w) (2 + n + 1) f fd ["rules", "thing", "deepest"] (spIsWish K C n) := by
  refine F.okG sc__is_wish (fun vs H Q E h => ?_) (fun cdv A outer s H vs Q E hgd hr h => ?_)
  · obtain ⟨R, dx, c, s, p, v, d, L, M, rfl, _⟩ := h; rfl
  · obtain ⟨R, dx, c, sg, pl, v, d, L, M, rfl, hR, hd, k⟩ := h
    refine ⟨_, (pss_cons (ps_if (PW.pt (pw_or (pt_cmpR op_eq (pv 2) pe_int (nomark _)) (pw_or (pt_not (pt_val (pe_callB call_isi (by rfl) T.n_isinstance (by decide +kernel) (pa_cons (pv 1) (pa_cons (pe_bltn (v := .ty "tuple") (u := .type "tuple") rfl T.n_tuple (by decide +kernel) rfl) pa_nil))))) (pw_or1 (pt_cmpR op_eq (pe_callB call_len_seq (by rfl) T.n_len (by decide +kernel) (pa_cons (pv 1) pa_nil)) pe_int (nomark _)))))) (pss_one (ps_ret pe_bl)) pss_nil)
      (pss_cons (ps_if (PW.pt (pw_or (pt_not (pt_val (pe_callB call_isi (by rfl) T.n_isinstance (by decide +kernel) (pa_cons (pe_ix ix_tup (pv 1) pe_int (fun _ _ => rfl)) (pa_cons (pe_bltn (v := .ty "str") (u := .type "str") rfl T.n_str (by decide +kernel) rfl) pa_nil))))) (pw_or1 (pt_cmpR op_notIn_w (pe_ix ix_tup (pv 1) pe_int (fun _ _ => rfl)) (pe_glob (v := .ref aW) rfl T.g_WORDS rfl) (by rfl))))) (pss_one (ps_ret pe_bl)) pss_nil)
      (pss_cons (ps_asg (pe_ix ix_kdict (pe_glob (v := .ref aW) rfl T.g_WORDS rfl) (pe_ix ix_tup (pv 1) pe_int (fun _ _ => rfl)) (fun _ _ => rfl)) (pg_tup (by rfl) (pgs_cons (pg_name (i := 3) sc__is_wish.nd rfl (Or.inl rfl)) (pgs_cons (pg_name (i := 4) sc__is_wish.nd rfl (Or.inl rfl)) pgs_nil))))
      (pss_cons (ps_if (pt_cmpR op_ne (pe_callB call_len_seq (by rfl) T.n_len (by decide +kernel) (pa_cons (pv 1) pa_nil)) (pe_op op_add (pe_op op_add pe_int (pv 3)) (pv 4)) (nomark _)) (pss_one (ps_ret pe_bl)) pss_nil)
      (pss_cons (ps_for (passes_of rfl) rfl (pi_tup (pe_slice sl_tupA (pv 1) (po_some pe_int) po_none)) (pg_name (i := 5) sc__is_wish.nd rfl (Or.inl rfl))
      (pss_one (ps_if (PW.pt (pw_or (PW.pt (pw_and (pt_cmpR op_gt (pv 3) pe_int (nomark _)) (pw_and1 (pt_not (pt_val (pg_c c_is_bag hgd hr (by omega) (pa_cons (pv 0) (pa_cons (pv 5) pa_nil)))))))) (pw_or1 (PW.pt (pw_and (pt_cmpR op_gt (pv 4) pe_int (nomark _)) (pw_and1 (pt_not (pt_val (pg_c c__is_wish hgd hr (by omega) (pa_cons (pv 0) (pa_cons (pv 5) (pa_cons (pe_op op_sub (pv 2) pe_int) pa_nil)))))))))))) (pss_one (ps_ret pe_bl)) pss_nil)))
      (pss_one (ps_ret pe_bl))))))), ?_⟩
    cases n with
    | zero => exact ⟨_, rfl, (rfl : scal _ _ = true), _, rfl, iteT' (by simp) (k _ (Same.refl _))⟩
    | succ n =>
    refine ⟨_, rfl, (rfl : scal _ _ = true), _, rfl, iteF' (by simp; omega) ?_⟩
    obtain ⟨t, b, ty, hb, hi⟩ := dr_tup (K := K) hd
    refine ⟨_, rfl, _, _, _, _, _, rfl, .ty _, ty, hb, _, rfl, ?_⟩
    cases b with
    | false =>
      have e : isWishD c (n + 1) d = false := by
        cases d <;> first | rfl | (exact absurd (hi.mpr ⟨_, rfl⟩) (by simp))
      rw [e] at k
      exact iteT (iteT (k _ (Same.refl _)))
    | true =>
    obtain ⟨ds, rfl⟩ := hi.mp rfl
    cases hd with
    | @tup a xs _ he hM ht =>
    refine iteF ⟨_, rfl, a, xs, rfl, .inr (SqT.of he), (rfl : scal _ _ = true), _, rfl, ?_⟩
    cases ht with
    | nil => exact iteT' (by simp) (k _ (Same.refl _))
    | @cons x0 xr d0 dr hx0 hxr =>
    refine iteF' (by simp; omega) ?_
    obtain ⟨t0, b0, ty0, hb0, hi0⟩ := dr_str (K := K) hx0
    have ix0 : atI (x0 :: xr) 0 = some x0 := atI_nat (xs := x0 :: xr) (j := 0) (v := x0) rfl
    refine ⟨_, rfl, a, _, 0, x0, rfl, rfl, SqT.of he, ix0, _, _, _, _, _, rfl, .ty _, ty0, hb0, _, rfl, ?_⟩
    cases b0 with
    | false =>
      have e : isWishD c (n + 1) (.tuple (d0 :: dr)) = false := by
        cases d0 <;> first | rfl | (exact absurd (hi0.mpr ⟨_, rfl⟩) (by simp))
      rw [e] at k
      exact iteT (iteT (k _ (Same.refl _)))
    | true =>
    obtain ⟨z, rfl⟩ := hi0.mp rfl
    cases hx0 with
    | str =>
    obtain ⟨r, hkd, hw0, hw1⟩ := T.wd z
    refine iteF ⟨_, rfl, a, _, 0, _, rfl, rfl, SqT.of he, ix0, aW, z, r, rfl, rfl, hkd, _, rfl, ?_⟩
    cases hwz : wordD z with
    | none =>
      rw [hw0 hwz]
      have e : isWishD c (n + 1) (.tuple (.str z :: dr)) = false := by simp [isWishD, hwz]
      rw [e] at k
      exact iteT (k _ (Same.refl _))
    | some bn =>
    obtain ⟨bb, ww⟩ := bn
    obtain ⟨tp, rfl, htp⟩ := hw1 bb ww hwz
    refine iteF ⟨_, rfl, a, _, 0, _, rfl, rfl, SqT.of he, ix0, aW, z, .ref tp, rfl, rfl, hkd.get rfl, ?_⟩
    refine ⟨tp, _, rfl, htp _, rfl, ?_⟩
    refine ⟨_, _, rfl, _, _, rfl, rfl, ?_⟩
    refine ⟨_, rfl, a, _, rfl, .inr (SqT.of he), ?_⟩
    walk_at "rd"
    have hl := DrAll.len hxr
    by_cases hlen : dr.length = bb + ww
    case neg =>
      refine iteT' (by simp; omega) ?_
      have e : isWishD c (n + 1) (.tuple (.str z :: dr)) = false := by simp [isWishD, hwz, hlen]
      rw [e] at k
      exact k _ (Same.refl _)
    refine iteF' (by simp; omega) ?_
    refine ⟨_, rfl, _, rfl, a, _, rfl, SqT.of he, fun q => absurd q (not_whole1 _ _ _), fun _ q hq => ?_⟩
    rw [cut_from1]
    have s1 : Same H (upd H q (.tup xr)) := same_new hq
    have hq1 : upd H q (.tup xr) q = some (.tup xr) := upd_same
    generalize upd H q (.tup xr) = H1 at s1 hq1 ⊢
    have hR1 := s1 _ _ hR
    have hxr1 := hxr.keep (Off.same s1)
    have no : ∀ i d', dr[i]? = some d' → (if 0 < bb then isBagD c d' else isWishD c n d') = false → ∀ H', Same H H' → Q (.bl false) H' := fun i d' h1 h2 H' s' => by
      have e : isWishD c (n + 1) (.tuple (.str z :: dr)) = false := by
        have : (dr.all fun d => if 0 < bb then isBagD c d else isWishD c n d) = false := by
          rw [List.all_eq_false]
          exact ⟨d', List.mem_of_getElem? h1, by rw [h2]; simp⟩
        simp only [isWishD, hwz, this, Bool.and_false]
      rw [e] at k
      exact k _ s'
    refine ⟨_, rfl, ⟨_, SqT.of hq1⟩, for_it (walk_tup (xs := xr)) (fun i σ H' => (∃ m, σ = [some (.ref R), some (.ref a), some (.int (n + 1 : Nat)), some (.int bb), some (.int ww), m]) ∧ Same H1 H' ∧ ∀ j < i, ∀ d', dr[j]? = some d' → (if 0 < bb then isBagD c d' else isWishD c n d') = true) ⟨⟨none, rfl⟩, Same.refl _, fun j hj => absurd hj (Nat.not_lt_zero _)⟩ (fun i σ H' _ q => SqT.of (q.2.1 _ _ hq1)) ?_ ?_⟩
    · rintro i x σ H2 H3 hi ⟨⟨m, rfl⟩, s2, hj⟩ ⟨rfl, hx⟩
      obtain ⟨d', hd', dx'⟩ := DrAll.get hxr hx
      have hx3 := (dx'.keep (Off.same s1)).keep (Off.same s2)
      have hR3 := s2 _ _ hR1
      walk_at "rd"
      have go : ∀ b : Bool, (if 0 < bb then isBagD c d' else isWishD c n d') = b → b = true → ∀ j, j < i + 1 → ∀ d'', dr[j]? = some d'' → (if 0 < bb then isBagD c d'' else isWishD c n d'') = true := by
        intro b hb hb1 j hj2 d'' hd''
        rcases Nat.lt_succ_iff_lt_or_eq.mp hj2 with z | z
        · exact hj j z d'' hd''
        · subst z
          rw [hd'] at hd''
          cases hd''
          rw [hb, hb1]
      rcases wordD_some hwz with ⟨rfl, h1, h2⟩ | ⟨rfl, h1, h2⟩
      · refine iteF' (by simp) ?_
        walk_at "rd"
        refine iteT' (by simp; omega) ?_
        walk_at "rd"
        refine ⟨R, dx, c, sg, pl, x, d', L, M, ?_, hR3, hx3, fun H4 s4 => ?_⟩
        · show [V.ref R, x, V.int (((n + 1 : Nat) : Int) - 1)] = _
          rw [show (((n + 1 : Nat) : Int) - 1) = (n : Int) by omega]
        refine ⟨_, rfl, ?_⟩
        cases hb : isWishD c n d' with
        | false => exact iteT (no i d' hd' (by rw [if_neg (Nat.lt_irrefl 0)]; exact hb) _ ((s1.trans s2).trans s4))
        | true => exact iteF ⟨⟨_, rfl⟩, s2.trans s4, go _ (by rw [if_neg (Nat.lt_irrefl 0)]; exact hb) rfl⟩
      · refine iteT' (by simp; omega) ?_
        walk_at "rd"
        refine ⟨R, dx, c, sg, pl, x, d', L, M, rfl, hR3, hx3, ?_⟩
        refine ⟨_, rfl, ?_⟩
        cases hb : isBagD c d' with
        | false => exact iteT (no i d' hd' (by rw [if_pos (by omega)]; exact hb) _ (s1.trans s2))
        | true =>
          refine iteF ?_
          walk_at "rd"
          refine iteF' (by simp) ?_
          exact ⟨⟨_, rfl⟩, s2, go _ (by rw [if_pos (by omega)]; exact hb) rfl⟩
    · rintro σ H2 ⟨⟨m, rfl⟩, s2, hj⟩
      have e : isWishD c (n + 1) (.tuple (.str z :: dr)) = true := by
        have : (dr.all fun d => if 0 < bb then isBagD c d else isWishD c n d) = true := by
          rw [List.all_eq_true]
          intro d' hd'
          obtain ⟨j, hj1, hj2⟩ := List.mem_iff_getElem.mp hd'
          exact hj j (by omega) d' (by rw [List.getElem?_eq_getElem hj1, hj2])
        simp only [isWishD, hwz, this, hlen, decide_true, Bool.and_self]
      rw [e] at k
      exact k _ (s1.trans s2)
def spIsW (K : PySem.W.Frag) (C CB : Addr) : Sp := fun vs H Q E => ∃ (r v : V), vs = [r, v] ∧
  ((∃ (R dx : Addr) (c : Int) (s p : V) (d : PyData) (L : Bool) (M : Addr → Prop), r = .ref R ∧ H R = some (.ins C dx (rulesF (.int c) s p)) ∧ Dr L M H v d ∧ ∀ H', Same H H' → Q (.bl (isWishD c 6 d)) H') ∨
   (∃ t, TyX K H r t ∧ PySem.W.kitOne K t (.ref C) = some false ∧ ∀ d, H d = none → E (.ref CB) (some d) (upd H d (.xd [("value", r)]))))
theorem ok_is_wish {f : Addr} {fd : FuncData} (F : Fun K "is_wish" "is_wish" s_is_wish f fd) (T : WishT P w K mg C CB fB aW) (TK : RulK K C) (c_need_rules : CalG P w K mg base 3 "need_rules" (spNeedR K C CB)) (c__is_wish : CalG P w K mg base 9 "_is_wish" (spIsWish K C 6)) :
    FnG P w K mg base (CXe P w) 10 f fd ["rules", "thing"] (spIsW K C CB) := by
  refine F.okG sc_is_wish (fun vs H Q E h => ?_) (fun cdv A outer s H vs Q E hgd hr h => ?_)
  · obtain ⟨r, v, rfl, _⟩ := h; rfl
  · obtain ⟨r, v, rfl, h⟩ := h
    refine ⟨_, (pss_cons (ps_expr (pg_cS c_need_rules hgd hr (by decide) (fun σ => passAt (takes_of rfl rfl rfl rfl) σ) (pa_cons (pv 0) pa_nil)))
      (pss_one (ps_ret (pg_c c__is_wish hgd hr (by decide) (pa_cons (pv 0) (pa_cons (pv 1) (pa_cons (pe_glob (v := .int 6) rfl (Exists.choose_spec T.k_DEEPEST) ⟨_, rfl⟩) pa_nil))))))), ?_⟩
    rcases h with ⟨R, dx, c, sg, pl, d, L, M, rfl, hR, hd, k⟩ | ⟨t, ty, ht, k⟩
    · refine ⟨_, rfl, _, _, true, rfl, .base (TK.ty hR), TK.ic.me, fun _ => ?_, fun z => nomatch z⟩
      walk_at "rd"
      exact ⟨R, dx, c, sg, pl, v, d, L, M, rfl, hR, hd, k⟩
    · exact ⟨_, rfl, _, _, false, rfl, ty, ht, And.intro (fun z => absurd z (by decide)) (fun _ => k)⟩
end
end K54
end
section
set_option Elab.async false
set_option linter.all false
set_option maxRecDepth 100000
set_option maxHeartbeats 2000000
namespace K54
open PySem L2
local macro_rules | `(tactic| walk_at "hp") => `(tactic| first | assumption | exact upd_same | (refine (upd_ne (by first | assumption | (apply Ne.symm; assumption))).trans ?_; walk_at "hp"))
local macro_rules | `(tactic| walk_at "rd1") => `(tactic| first
  | (refine ⟨_, rfl, ?_⟩)
  | (refine ⟨_, _, rfl, rfl, ?_⟩)
  | (refine ⟨(rfl : scal _ _ = true), ?_⟩)
  | (refine And.intro (by show (0 : Int) < _; decide) ?_)
  | (refine And.intro (And.intro (by decide) (by decide)) ?_)
  | (refine And.intro (Or.inr (And.intro (by decide) (by decide))) ?_)
  | (refine And.intro (And.intro (by decide) (And.intro (by decide) (by decide))) ?_)
  | (refine And.intro (by assumption) ?_)
  | (refine And.intro (And.intro (by omega) (by omega)) ?_)
  | (refine And.intro (Or.inl (And.intro (by omega) (by omega))) ?_)
  | (refine' ⟨_, _, _, _, rfl, rfl, Or.inl (Or.inl ?h1), ?h2, ?h3⟩; (case h1 => walk_at "hp"); (case h2 => rfl))
  | (refine' ⟨_, _, _, _, rfl, rfl, ?h1, ?h2, ?h3⟩; (case h1 => walk_at "hp"); (case h2 => rfl))
  | (refine' ⟨_, _, rfl, Or.inl (Or.inl (Or.inl ?h1)), ?h3⟩; (case h1 => walk_at "hp"))
  | (refine Or.inl ⟨_, rfl, ?_⟩))
local macro_rules | `(tactic| walk_at "rd") => `(tactic| repeat walk_at "rd1")

theorem sc__law_is_bag : FnScope ["rules", "thing", "many"] ["rules", "thing"] (defScope s__law_is_bag) := ⟨rfl, rfl, rfl, by decide +kernel, rfl, by decide +kernel, by decide +kernel⟩
theorem sc__law_is_wish : FnScope ["rules", "thing", "depth", "word"] ["rules", "thing", "depth"] (defScope s__law_is_wish) := ⟨rfl, rfl, rfl, by decide +kernel, rfl, by decide +kernel, by decide +kernel⟩
theorem sc__law_rules_drawn : FnScope ["pool", "cap"] ["pool"] (defScope s__law_rules_drawn) := ⟨rfl, rfl, rfl, by decide +kernel, rfl, by decide +kernel, by decide +kernel⟩
theorem sc__law_bag_drawn : FnScope ["pool", "rules"] ["pool", "rules"] (defScope s__law_bag_drawn) := ⟨rfl, rfl, rfl, by decide +kernel, rfl, by decide +kernel, by decide +kernel⟩
theorem sc__law_wish_drawn : FnScope ["pool", "rules", "depth", "way", "bag"] ["pool", "rules", "depth"] (defScope s__law_wish_drawn) := ⟨rfl, rfl, rfl, by decide +kernel, rfl, by decide +kernel, by decide +kernel⟩
section
variable {P : Program} {w : World} {K : PySem.W.Frag} {mg : Str → Option Value} {base : Heap} {C CB fB aW : Addr}
def spLIsBag (K : PySem.W.Frag) : Sp := fun vs H Q _ => ∃ (R : Addr) (c : Int) (s p : V) (v : V) (d : PyData) (L : Bool) (M : Addr → Prop), vs = [.ref R, v] ∧ H R = some (.tup [.int c, s, p]) ∧ Dr L M H v d ∧ Q (.bl (isBagD c d)) H
theorem ok_lis_bag {f : Addr} {fd : FuncData} (F : Fun K "_law_is_bag" "_law_is_bag" s__law_is_bag f fd) (T : Blt mg) : FnG P w K mg base (CXe P w) 1 f fd ["rules", "thing"] (spLIsBag K) := by
  refine F.okG sc__law_is_bag (fun vs H Q E h => ?_) (fun cdv A outer s H vs Q E hgd hr h => ?_)
  · obtain ⟨R, c, s, p, v, d, L, M, rfl, _⟩ := h; rfl
  · obtain ⟨R, c, sg, pl, v, d, L, M, rfl, hR, hd, k⟩ := h
    refine ⟨_, (pss_cons (ps_if (PW.pt (pw_or (pt_not (pt_val (pe_callB call_isi (by rfl) T.n_isinstance (by decide +kernel) (pa_cons (pv 1) (pa_cons (pe_bltn (v := .ty "tuple") (u := .type "tuple") rfl T.n_tuple (by decide +kernel) rfl) pa_nil))))) (pw_or1 (pt_cmpR op_ne (pe_callB call_len_seq (by rfl) T.n_len (by decide +kernel) (pa_cons (pv 1) pa_nil)) pe_int (nomark _))))) (pss_one (ps_ret pe_bl)) pss_nil)
      (pss_cons (ps_for (passes_of rfl) rfl (pi_tup (pv 1)) (pg_name (i := 2) sc__law_is_bag.nd rfl (Or.inl rfl))
      (pss_one (ps_if (PW.pt (pw_or (pt_not (pt_val (pe_callB call_isi (by rfl) T.n_isinstance (by decide +kernel) (pa_cons (pv 2) (pa_cons (pe_bltn (v := .ty "int") (u := .type "int") rfl T.n_int (by decide +kernel) rfl) pa_nil))))) (pw_or (pt_val (pe_callB call_isi (by rfl) T.n_isinstance (by decide +kernel) (pa_cons (pv 2) (pa_cons (pe_bltn (v := .ty "bool") (u := .type "bool") rfl T.n_bool (by decide +kernel) rfl) pa_nil)))) (pw_or (pt_cmpR op_lt (pv 2) pe_int (nomark _)) (pw_or1 (pt_cmpR op_gt (pv 2) (pe_ix ix_tup (pv 0) pe_int (fun _ _ => rfl)) (nomark _))))))) (pss_one (ps_ret pe_bl)) pss_nil)))
      (pss_one (ps_ret pe_bl)))), ?_⟩
    obtain ⟨t, b, ty, hb, hi⟩ := dr_tup (K := K) hd
    refine ⟨_, rfl, _, _, _, _, _, rfl, .ty _, ty, hb, _, rfl, ?_⟩
    cases b with
    | false =>
      have e : isBagD c d = false := by
        cases d <;> first | rfl | (exact absurd (hi.mpr ⟨_, rfl⟩) (by simp))
      rw [e] at k
      exact iteT (iteT k)
    | true =>
      obtain ⟨ds, rfl⟩ := hi.mp rfl
      cases hd with
      | @tup a xs _ he hM ht =>
      refine iteF ?_
      have hl := DrAll.len ht
      refine ⟨_, rfl, a, xs, rfl, .inr (SqT.of he), (rfl : scal _ _ = true), _, rfl, ?_⟩
      by_cases h2 : ds.length = 2
      · refine ite2 (fun z => absurd z (by simp [hl, h2])) (fun _ => ?_)
        have done : ∀ i d', ds[i]? = some d' → numOk c d' = false → Q (.bl false) H := fun i d' h1 h3 => by
          have e : isBagD c (.tuple ds) = false := by
            have : ds.all (numOk c) = false := by
              rw [List.all_eq_false]
              exact ⟨d', List.mem_of_getElem? h1, by simp [h3]⟩
            simp [isBagD, this]
          rw [e] at k
          exact k
        refine ⟨_, rfl, _, rfl, ⟨_, SqT.of he⟩, for_it (walk_tup (xs := xs)) (fun i σ H' => (∃ m, σ = [some (.ref R), some (.ref a), m]) ∧ H' = H ∧ ∀ j < i, ∀ d', ds[j]? = some d' → numOk c d' = true) ⟨⟨none, rfl⟩, rfl, fun j hj => absurd hj (Nat.not_lt_zero _)⟩ (fun i σ H' _ q => by rw [q.2.1]; exact SqT.of he) ?_ ?_⟩
        · rintro i x σ H1 H2 hi ⟨⟨m, rfl⟩, rfl, hj⟩ ⟨rfl, hx⟩
          obtain ⟨d', hd', dx'⟩ := DrAll.get ht hx
          obtain ⟨t', b1, b2, k1, k2, k3, k4, k5⟩ := dr_knd (K := K) dx'
          refine ⟨_, rfl, _, _, _, _, _, rfl, .ty _, k1, k2, _, rfl, ?_⟩
          have hc : b1 = false ∨ (b1 = true ∧ b2 = true ∧ ∃ q, d' = .bool q) ∨ (b1 = true ∧ b2 = false ∧ ∃ n, d' = .int n ∧ x = .int n) := by
            cases b1 with
            | false => exact .inl rfl
            | true =>
              cases b2 with
              | true =>
                cases dx' <;> first | exact .inr (.inl ⟨rfl, rfl, _, rfl⟩) | (cases k5)
              | false =>
                cases dx' <;> first | exact .inr (.inr ⟨rfl, rfl, _, rfl, rfl⟩) | (cases k4)
          rcases hc with rfl | ⟨rfl, rfl, q, rfl⟩ | ⟨rfl, rfl, n, rfl, rfl⟩
          · refine iteT (done i _ hd' ?_)
            cases dx' <;> first | rfl | (cases k4)
          · exact iteF ⟨_, rfl, _, _, _, _, _, rfl, .ty _, k1, k3, _, rfl, iteT (done i _ hd' rfl)⟩
          · refine iteF ⟨_, rfl, _, _, _, _, _, rfl, .ty _, k1, k3, _, rfl, iteF ?_⟩
            walk_at "rd"
            by_cases q1 : n < 0
            · exact iteT' (by simp [q1]) (done i _ hd' (by simp [numOk]; omega))
            · refine iteF' (by simp; omega) ?_
              refine ⟨_, rfl, _, rfl, R, _, 0, _, rfl, rfl, SqT.of hR, atI_nat (xs := [V.int c, sg, pl]) (j := 0) (v := V.int c) rfl, ?_⟩
              walk_at "rd"
              by_cases q2 : c < n
              · exact iteT' (by simp [q2]) (done i _ hd' (by simp [numOk]; omega))
              · refine iteF' (by simp; omega) ?_
                refine ⟨⟨_, rfl⟩, rfl, fun j hj2 d'' hd'' => ?_⟩
                rcases Nat.lt_succ_iff_lt_or_eq.mp hj2 with z | z
                · exact hj j z d'' hd''
                · subst z
                  rw [hd'] at hd''
                  cases hd''
                  simp [numOk]
                  omega
        · rintro σ H1 ⟨⟨m, rfl⟩, rfl, hj⟩
          have e : isBagD c (.tuple ds) = true := by
            have : ds.all (numOk c) = true := by
              rw [List.all_eq_true]
              intro d' hd'
              obtain ⟨j, hj1, hj2⟩ := List.mem_iff_getElem.mp hd'
              exact hj j (by omega) d' (by rw [List.getElem?_eq_getElem hj1, hj2])
            simp [isBagD, this, h2]
          rw [e] at k
          exact k
      · refine iteT' (by simp [hl]; omega) ?_
        have e : isBagD c (.tuple ds) = false := by simp [isBagD, h2]
        rw [e] at k
        exact k
theorem wish_b1 {c : Int} {n : Nat} {z : Str} {dr : List PyData} (h : wordD z = some (1, 0)) : isWishD c (n + 1) (.tuple (.str z :: dr)) = match dr with | [d] => isBagD c d | _ => false := by
  simp only [isWishD, h]
  match dr with
  | [] => rfl
  | [d] => simp
  | d :: e :: r => simp
theorem wish_b2 {c : Int} {n : Nat} {z : Str} {dr : List PyData} (h : wordD z = some (2, 0)) : isWishD c (n + 1) (.tuple (.str z :: dr)) = match dr with | [d, e] => isBagD c d && isBagD c e | _ => false := by
  simp only [isWishD, h]
  match dr with
  | [] => rfl
  | [d] => simp
  | [d, e] => simp
  | d :: e :: g :: r => simp
theorem wish_w1 {c : Int} {n : Nat} {z : Str} {dr : List PyData} (h : wordD z = some (0, 1)) : isWishD c (n + 1) (.tuple (.str z :: dr)) = match dr with | [d] => isWishD c n d | _ => false := by
  simp only [isWishD, h]
  match dr with
  | [] => rfl
  | [d] => simp
  | d :: e :: r => simp
theorem wish_w2 {c : Int} {n : Nat} {z : Str} {dr : List PyData} (h : wordD z = some (0, 2)) : isWishD c (n + 1) (.tuple (.str z :: dr)) = match dr with | [d, e] => isWishD c n d && isWishD c n e | _ => false := by
  simp only [isWishD, h]
  match dr with
  | [] => rfl
  | [d] => simp
  | [d, e] => simp
  | d :: e :: g :: r => simp
theorem len2 {α : Type} {l : List α} (h : l.length = 2) : ∃ a b, l = [a, b] := by
  match l, h with
  | [a, b], _ => exact ⟨a, b, rfl⟩
def words3 : List Str := ["solved", "safe", "idle"]
theorem words3_bag : ∀ z ∈ words3, wordD z = some (1, 0) := by decide +kernel
def spLIsWish (K : PySem.W.Frag) (n : Nat) : Sp := fun vs H Q _ => ∃ (R : Addr) (c : Int) (s p : V) (v : V) (d : PyData) (L : Bool) (M : Addr → Prop), vs = [.ref R, v, .int n] ∧ H R = some (.tup [.int c, s, p]) ∧ Dr L M H v d ∧ ∀ H', Same H H' → Q (.bl (isWishD c n d)) H'
theorem ok_lis_wish {f : Addr} {fd : FuncData} {n : Nat} (F : Fun K "_law_is_wish" "_law_is_wish" s__law_is_wish f fd) (T : Blt mg) (c__law_is_bag : CalG P w K mg base 1 "_law_is_bag" (spLIsBag K)) (c__law_is_wish : CalG P w K mg base (1 + n) "_law_is_wish" (upTo (spLIsWish K) n)) :
    FnG P w K mg base (CXe P w) (1 + n + 1) f fd ["rules", "thing", "depth"] (spLIsWish K n) := by
  refine F.okG sc__law_is_wish (fun vs H Q E h => ?_) (fun cdv A outer s H vs Q E hgd hr h => ?_)
  · obtain ⟨R, c, s, p, v, d, L, M, rfl, _⟩ := h; rfl
  · obtain ⟨R, c, sg, pl, v, d, L, M, rfl, hR, hd, k⟩ := h
    refine ⟨_, (pss_cons (ps_if (PW.pt (pw_or (pt_cmpR op_eq (pv 2) pe_int (nomark _)) (pw_or (pt_not (pt_val (pe_callB call_isi (by rfl) T.n_isinstance (by decide +kernel) (pa_cons (pv 1) (pa_cons (pe_bltn (v := .ty "tuple") (u := .type "tuple") rfl T.n_tuple (by decide +kernel) rfl) pa_nil))))) (pw_or1 (pt_cmpR op_eq (pe_callB call_len_seq (by rfl) T.n_len (by decide +kernel) (pa_cons (pv 1) pa_nil)) pe_int (nomark _)))))) (pss_one (ps_ret pe_bl)) pss_nil)
      (pss_cons (ps_for (passes_of rfl) rfl (pi_list (pe_lstA (pa_cons pe_str (pa_cons pe_str (pa_cons pe_str pa_nil))))) (pg_name (i := 3) sc__law_is_wish.nd rfl (Or.inl rfl))
      (pss_one (ps_if (PW.pt (pw_and (pt_val (pe_callB call_isi (by rfl) T.n_isinstance (by decide +kernel) (pa_cons (pe_ix ix_tup (pv 1) pe_int (fun _ _ => rfl)) (pa_cons (pe_bltn (v := .ty "str") (u := .type "str") rfl T.n_str (by decide +kernel) rfl) pa_nil)))) (pw_and1 (pt_cmpR op_eq (pe_ix ix_tup (pv 1) pe_int (fun _ _ => rfl)) (pv 3) (nomark _))))) (pss_one (ps_ret (pe_and (pe_cmpR op_eq (pe_callB call_len_seq (by rfl) T.n_len (by decide +kernel) (pa_cons (pv 1) pa_nil)) pe_int (nomark _)) (pe_one (pg_c c__law_is_bag hgd hr (by omega) (pa_cons (pv 0) (pa_cons (pe_ix ix_tup (pv 1) pe_int (fun _ _ => rfl)) pa_nil))))))) pss_nil)))
      (pss_cons (ps_if (PW.pt (pw_and (pt_val (pe_callB call_isi (by rfl) T.n_isinstance (by decide +kernel) (pa_cons (pe_ix ix_tup (pv 1) pe_int (fun _ _ => rfl)) (pa_cons (pe_bltn (v := .ty "str") (u := .type "str") rfl T.n_str (by decide +kernel) rfl) pa_nil)))) (pw_and1 (pt_cmpR op_eq (pe_ix ix_tup (pv 1) pe_int (fun _ _ => rfl)) pe_str (nomark _))))) (pss_one (ps_ret (pe_and (pe_cmpR op_eq (pe_callB call_len_seq (by rfl) T.n_len (by decide +kernel) (pa_cons (pv 1) pa_nil)) pe_int (nomark _)) (pe_and (pg_c c__law_is_bag hgd hr (by omega) (pa_cons (pv 0) (pa_cons (pe_ix ix_tup (pv 1) pe_int (fun _ _ => rfl)) pa_nil))) (pe_one (pg_c c__law_is_bag hgd hr (by omega) (pa_cons (pv 0) (pa_cons (pe_ix ix_tup (pv 1) pe_int (fun _ _ => rfl)) pa_nil)))))))) pss_nil)
      (pss_cons (ps_if (PW.pt (pw_and (pt_val (pe_callB call_isi (by rfl) T.n_isinstance (by decide +kernel) (pa_cons (pe_ix ix_tup (pv 1) pe_int (fun _ _ => rfl)) (pa_cons (pe_bltn (v := .ty "str") (u := .type "str") rfl T.n_str (by decide +kernel) rfl) pa_nil)))) (pw_and1 (pt_cmpR op_eq (pe_ix ix_tup (pv 1) pe_int (fun _ _ => rfl)) pe_str (nomark _))))) (pss_one (ps_ret (pe_and (pe_cmpR op_eq (pe_callB call_len_seq (by rfl) T.n_len (by decide +kernel) (pa_cons (pv 1) pa_nil)) pe_int (nomark _)) (pe_one (pg_c c__law_is_wish hgd hr (by omega) (pa_cons (pv 0) (pa_cons (pe_ix ix_tup (pv 1) pe_int (fun _ _ => rfl)) (pa_cons (pe_op op_sub (pv 2) pe_int) pa_nil)))))))) pss_nil)
      (pss_cons (ps_if (PW.pt (pw_and (pt_val (pe_callB call_isi (by rfl) T.n_isinstance (by decide +kernel) (pa_cons (pe_ix ix_tup (pv 1) pe_int (fun _ _ => rfl)) (pa_cons (pe_bltn (v := .ty "str") (u := .type "str") rfl T.n_str (by decide +kernel) rfl) pa_nil)))) (pw_and (pt_cmpR op_eq (pe_ix ix_tup (pv 1) pe_int (fun _ _ => rfl)) pe_str (nomark _)) (pw_and1 (pt_cmpR op_eq (pe_callB call_len_seq (by rfl) T.n_len (by decide +kernel) (pa_cons (pv 1) pa_nil)) pe_int (nomark _)))))) (pss_one (ps_ret (pe_and (pg_c c__law_is_wish hgd hr (by omega) (pa_cons (pv 0) (pa_cons (pe_ix ix_tup (pv 1) pe_int (fun _ _ => rfl)) (pa_cons (pe_op op_sub (pv 2) pe_int) pa_nil)))) (pe_one (pg_c c__law_is_wish hgd hr (by omega) (pa_cons (pv 0) (pa_cons (pe_ix ix_tup (pv 1) pe_int (fun _ _ => rfl)) (pa_cons (pe_op op_sub (pv 2) pe_int) pa_nil)))))))) pss_nil)
      (pss_one (ps_ret pe_bl))))))), ?_⟩
    cases n with
    | zero => exact ⟨_, rfl, (rfl : scal _ _ = true), _, rfl, iteT' (by simp) (k _ (Same.refl _))⟩
    | succ n =>
    refine ⟨_, rfl, (rfl : scal _ _ = true), _, rfl, iteF' (by simp; omega) ?_⟩
    obtain ⟨t, b, ty, hb, hi⟩ := dr_tup (K := K) hd
    refine ⟨_, rfl, _, _, _, _, _, rfl, .ty _, ty, hb, _, rfl, ?_⟩
    cases b with
    | false =>
      have e : isWishD c (n + 1) d = false := by
        cases d <;> first | rfl | (exact absurd (hi.mpr ⟨_, rfl⟩) (by simp))
      rw [e] at k
      exact iteT (iteT (k _ (Same.refl _)))
    | true =>
    obtain ⟨ds, rfl⟩ := hi.mp rfl
    cases hd with
    | @tup a xs _ he hM ht =>
    refine iteF ⟨_, rfl, a, xs, rfl, .inr (SqT.of he), (rfl : scal _ _ = true), _, rfl, ?_⟩
    cases ht with
    | nil => exact iteT' (by simp) (k _ (Same.refl _))
    | @cons x0 xr d0 dr hx0 hxr =>
    refine iteF' (by simp; omega) ?_
    have hl := DrAll.len hxr
    have ix0 : atI (x0 :: xr) 0 = some x0 := atI_nat (xs := x0 :: xr) (j := 0) (v := x0) rfl
    walk_at "rd"
    refine And.intro (Nat.le_of_ble_eq_true rfl) (fun q H1 n1 => ?_)
    have he1 := n1.same _ _ he
    have hR1 := n1.same _ _ hR
    have hx01 := hx0.keep n1.off
    have hxr1 := hxr.keep n1.off
    have k1 : ∀ b, isWishD c (n + 1) (.tuple (d0 :: dr)) = b → ∀ H', Same H1 H' → Q (.bl b) H' := fun b e H' s' => by
      rw [← e]
      exact k _ (n1.same.trans s')
    clear k
    obtain ⟨t0, b0, ty0, hb0, hi0⟩ := dr_str (K := K) hx01
    refine ⟨_, rfl, ⟨_, SqL.of n1.at_⟩, for_it (walk_list (xs := words3.map V.str)) (fun i σ H' => (∃ m, σ = [some (.ref R), some (.ref a), some (.int (n + 1 : Nat)), m]) ∧ H' = H1 ∧ ∀ z, d0 = .str z → z ∉ words3.take i) ⟨⟨none, rfl⟩, rfl, fun z _ => by simp⟩ (fun i σ H' _ q => SqL.of (by rw [q.2.1]; exact n1.at_)) ?_ ?_⟩
    · rintro i x σ H2 H3 hil ⟨⟨m, rfl⟩, rfl, hw⟩ ⟨rfl, hx⟩
      rw [List.length_map] at hil
      have hx' : x = .str words3[i] := by
        rw [List.getElem?_map, List.getElem?_eq_getElem hil] at hx
        exact (Option.some.inj hx).symm
      subst hx'
      have next : (∀ z, d0 = .str z → z ≠ words3[i]) → ∀ z, d0 = .str z → z ∉ words3.take (i + 1) := fun h z hz hm => by
        rw [List.take_add_one, List.getElem?_eq_getElem hil] at hm
        rcases List.mem_append.mp hm with q | q
        · exact hw z hz q
        · exact h z hz (by simpa using q)
      refine ⟨_, rfl, a, _, 0, x0, rfl, rfl, SqT.of he1, ix0, _, _, _, _, _, rfl, .ty _, ty0, hb0, _, rfl, ?_⟩
      cases b0 with
      | false =>
        refine iteF ⟨⟨_, rfl⟩, rfl, next fun z hz => ?_⟩
        exact absurd (hi0.mpr ⟨z, hz⟩) (by simp)
      | true =>
      obtain ⟨z, rfl⟩ := hi0.mp rfl
      cases hx01 with
      | str =>
      refine iteT ⟨_, rfl, a, _, 0, _, rfl, rfl, SqT.of he1, ix0, ?_⟩
      walk_at "rd"
      by_cases hz : z = words3[i]
      case neg => exact iteF' (by simpa using hz) ⟨⟨_, rfl⟩, rfl, next fun z' hz' => by cases hz'; exact hz⟩
      refine iteT' (by simpa using hz) ?_
      have hwd : wordD z = some (1, 0) := words3_bag z (by rw [hz]; exact List.getElem_mem hil)
      walk_at "rd"
      refine ⟨a, _, rfl, .inr (SqT.of he1), ?_⟩
      walk_at "rd"
      by_cases hlen : dr.length = 1
      case neg =>
        refine iteF' (by simp; omega) (k1 false ?_ _ (Same.refl _))
        rw [wish_b1 hwd]
        match dr, hlen with
        | [], _ => rfl
        | [_], q => exact absurd rfl q
        | _ :: _ :: _, _ => rfl
      refine iteT' (by simp; omega) ?_
      obtain ⟨d1, rfl⟩ := List.length_eq_one_iff.mp hlen
      cases hxr1 with
      | @cons x1 xr1 _ _ hx1 hnil =>
      cases hnil
      refine ⟨_, rfl, _, rfl, a, _, 1, x1, rfl, rfl, SqT.of he1, atI_nat (xs := [V.str z, x1]) (j := 1) (v := x1) rfl, ?_⟩
      refine ⟨R, c, sg, pl, x1, d1, L, M, rfl, hR1, hx1, ?_⟩
      exact k1 _ (wish_b1 hwd) _ (Same.refl _)
    · rintro σ H2 ⟨⟨m, rfl⟩, rfl, hw⟩
      have hw3 : ∀ z, d0 = .str z → z ∉ words3 := hw
      -- "back"
      refine ⟨_, rfl, a, _, 0, x0, rfl, rfl, SqT.of he1, ix0, _, _, _, _, _, rfl, .ty _, ty0, hb0, _, rfl, ?_⟩
      cases b0 with
      | false =>
        have e : isWishD c (n + 1) (.tuple (d0 :: dr)) = false := by
          cases d0 <;> first | rfl | (exact absurd (hi0.mpr ⟨_, rfl⟩) (by simp))
        refine iteF ⟨_, rfl, a, _, 0, x0, rfl, rfl, SqT.of he1, ix0, _, _, _, _, _, rfl, .ty _, ty0, hb0, _, rfl, ?_⟩
        refine iteF ⟨_, rfl, a, _, 0, x0, rfl, rfl, SqT.of he1, ix0, _, _, _, _, _, rfl, .ty _, ty0, hb0, _, rfl, ?_⟩
        exact iteF (k1 _ e _ (Same.refl _))
      | true =>
      obtain ⟨z, rfl⟩ := hi0.mp rfl
      cases hx01 with
      | str =>
      have hz3 := hw3 z rfl
      refine iteT ⟨_, rfl, a, _, 0, _, rfl, rfl, SqT.of he1, ix0, ?_⟩
      walk_at "rd"
      by_cases hzb : z = "back"
      · have hwd : wordD z = some (2, 0) := by rw [hzb]; decide +kernel
        refine iteT' (by simpa using hzb) ?_
        walk_at "rd"
        refine ⟨a, _, rfl, .inr (SqT.of he1), ?_⟩
        walk_at "rd"
        by_cases hlen : dr.length = 2
        case neg =>
          refine iteF' (by simp; omega) (k1 false ?_ _ (Same.refl _))
          rw [wish_b2 hwd]
          match dr, hlen with
          | [], _ => rfl
          | [_], _ => rfl
          | [_, _], q => exact absurd rfl q
          | _ :: _ :: _ :: _, _ => rfl
        refine iteT' (by simp; omega) ?_
        obtain ⟨d1, d2, rfl⟩ := len2 hlen
        cases hxr1 with
        | @cons x1 xr1 _ _ hx1 h2 =>
        cases h2 with
        | @cons x2 xr2 _ _ hx2 hnil =>
        cases hnil
        refine ⟨_, rfl, _, rfl, a, _, 1, x1, rfl, rfl, SqT.of he1, atI_nat (xs := [V.str z, x1, x2]) (j := 1) (v := x1) rfl, ?_⟩
        refine ⟨R, c, sg, pl, x1, d1, L, M, rfl, hR1, hx1, ?_⟩
        refine ⟨_, rfl, ?_⟩
        cases hb1 : isBagD c d1 with
        | false => exact iteF (k1 false (by rw [wish_b2 hwd]; simp [hb1]) _ (Same.refl _))
        | true =>
        refine iteT ⟨_, rfl, _, rfl, a, _, 2, x2, rfl, rfl, SqT.of he1, atI_nat (xs := [V.str z, x1, x2]) (j := 2) (v := x2) rfl, ?_⟩
        refine ⟨R, c, sg, pl, x2, d2, L, M, rfl, hR1, hx2, ?_⟩
        exact k1 _ (by rw [wish_b2 hwd]; simp [hb1]) _ (Same.refl _)
      refine iteF' (by simpa using hzb) ?_
      refine ⟨_, rfl, a, _, 0, _, rfl, rfl, SqT.of he1, ix0, _, _, _, _, _, rfl, .ty _, ty0, hb0, _, rfl, ?_⟩
      refine iteT ⟨_, rfl, a, _, 0, _, rfl, rfl, SqT.of he1, ix0, ?_⟩
      walk_at "rd"
      by_cases hzn : z = "not"
      · have hwd : wordD z = some (0, 1) := by rw [hzn]; decide +kernel
        refine iteT' (by simpa using hzn) ?_
        walk_at "rd"
        refine ⟨a, _, rfl, .inr (SqT.of he1), ?_⟩
        walk_at "rd"
        by_cases hlen : dr.length = 1
        case neg =>
          refine iteF' (by simp; omega) (k1 false ?_ _ (Same.refl _))
          rw [wish_w1 hwd]
          match dr, hlen with
          | [], _ => rfl
          | [_], q => exact absurd rfl q
          | _ :: _ :: _, _ => rfl
        refine iteT' (by simp; omega) ?_
        obtain ⟨d1, rfl⟩ := List.length_eq_one_iff.mp hlen
        cases hxr1 with
        | @cons x1 xr1 _ _ hx1 hnil =>
        cases hnil
        refine ⟨_, rfl, _, rfl, a, _, 1, x1, rfl, rfl, SqT.of he1, atI_nat (xs := [V.str z, x1]) (j := 1) (v := x1) rfl, _, rfl, ?_⟩
        refine ⟨_, _, rfl, rfl, n, rfl, R, c, sg, pl, x1, d1, L, M, ?_, hR1, hx1, fun H4 s4 => k1 _ (wish_w1 hwd) _ s4⟩
        show [V.ref R, x1, V.int (((n + 1 : Nat) : Int) - 1)] = _
        rw [show (((n + 1 : Nat) : Int) - 1) = (n : Int) by omega]
      refine iteF' (by simpa using hzn) ?_
      refine ⟨_, rfl, a, _, 0, _, rfl, rfl, SqT.of he1, ix0, _, _, _, _, _, rfl, .ty _, ty0, hb0, _, rfl, ?_⟩
      refine iteT ⟨_, rfl, a, _, 0, _, rfl, rfl, SqT.of he1, ix0, ?_⟩
      walk_at "rd"
      by_cases hzw : z = "both"
      case neg =>
        refine iteF' (by simpa using hzw) (k1 false ?_ _ (Same.refl _))
        have hwd : wordD z = none := by
          simp [words3] at hz3
          obtain ⟨q1, q2, q3⟩ := hz3
          simp [wordD, q1, q2, q3, hzb, hzn, hzw]
        simp [isWishD, hwd]
      have hwd : wordD z = some (0, 2) := by rw [hzw]; decide +kernel
      refine iteT' (by simpa using hzw) ?_
      walk_at "rd"
      refine ⟨a, _, rfl, .inr (SqT.of he1), ?_⟩
      walk_at "rd"
      by_cases hlen : dr.length = 2
      case neg =>
        refine iteF' (by simp; omega) (k1 false ?_ _ (Same.refl _))
        rw [wish_w2 hwd]
        match dr, hlen with
        | [], _ => rfl
        | [_], _ => rfl
        | [_, _], q => exact absurd rfl q
        | _ :: _ :: _ :: _, _ => rfl
      refine iteT' (by simp; omega) ?_
      obtain ⟨d1, d2, rfl⟩ := len2 hlen
      cases hxr1 with
      | @cons x1 xr1 _ _ hx1 h2 =>
      cases h2 with
      | @cons x2 xr2 _ _ hx2 hnil =>
      cases hnil
      refine ⟨_, rfl, _, rfl, a, _, 1, x1, rfl, rfl, SqT.of he1, atI_nat (xs := [V.str z, x1, x2]) (j := 1) (v := x1) rfl, _, rfl, ?_⟩
      refine ⟨_, _, rfl, rfl, n, rfl, R, c, sg, pl, x1, d1, L, M, ?_, hR1, hx1, fun H4 s4 => ?_⟩
      · show [V.ref R, x1, V.int (((n + 1 : Nat) : Int) - 1)] = _
        rw [show (((n + 1 : Nat) : Int) - 1) = (n : Int) by omega]
      refine ⟨_, rfl, ?_⟩
      cases hb1 : isWishD c n d1 with
      | false => exact iteF (k1 false (by rw [wish_w2 hwd]; simp [hb1]) _ s4)
      | true =>
      refine iteT ⟨_, rfl, _, rfl, a, _, 2, x2, rfl, rfl, SqT.of (s4 _ _ he1), atI_nat (xs := [V.str z, x1, x2]) (j := 2) (v := x2) rfl, _, rfl, ?_⟩
      refine ⟨_, _, rfl, rfl, n, rfl, R, c, sg, pl, x2, d2, L, M, ?_, s4 _ _ hR1, hx2.keep (Off.same s4), fun H5 s5 => k1 _ (by rw [wish_w2 hwd]; simp [hb1]) _ (s4.trans s5)⟩
      show [V.ref R, x2, V.int (((n + 1 : Nat) : Int) - 1)] = _
      rw [show (((n + 1 : Nat) : Int) - 1) = (n : Int) by omega]
end
end K54
end
section
set_option Elab.async false
set_option linter.all false
set_option maxRecDepth 100000
set_option maxHeartbeats 2000000
namespace K54
open PySem L2
local macro_rules | `(tactic| walk_at "hp") => `(tactic| first | assumption | exact upd_same | (refine (upd_ne (by first | assumption | (apply Ne.symm; assumption))).trans ?_; walk_at "hp"))
local macro_rules | `(tactic| walk_at "rd1") => `(tactic| first
  | (refine ⟨_, rfl, ?_⟩)
  | (refine ⟨_, _, rfl, rfl, ?_⟩)
  | (refine ⟨(rfl : scal _ _ = true), ?_⟩)
  | (refine And.intro (by show (0 : Int) < _; decide) ?_)
  | (refine And.intro (And.intro (by decide) (by decide)) ?_)
  | (refine And.intro (Or.inr (And.intro (by decide) (by decide))) ?_)
  | (refine And.intro (And.intro (by decide) (And.intro (by decide) (by decide))) ?_)
  | (refine And.intro (by assumption) ?_)
  | (refine And.intro (And.intro (by omega) (by omega)) ?_)
  | (refine And.intro (Or.inl (And.intro (by omega) (by omega))) ?_)
  | (refine' ⟨_, _, _, _, rfl, rfl, Or.inl (Or.inl ?h1), ?h2, ?h3⟩; (case h1 => walk_at "hp"); (case h2 => rfl))
  | (refine' ⟨_, _, _, _, rfl, rfl, ?h1, ?h2, ?h3⟩; (case h1 => walk_at "hp"); (case h2 => rfl))
  | (refine' ⟨_, _, rfl, Or.inl (Or.inl (Or.inl ?h1)), ?h3⟩; (case h1 => walk_at "hp"))
  | (refine Or.inl ⟨_, rfl, ?_⟩))
local macro_rules | `(tactic| walk_at "rd") => `(tactic| repeat walk_at "rd1")

section
variable {P : Program} {w : World} {K : PySem.W.Frag} {mg : Str → Option Value} {base : Heap} {C CB fB aW : Addr}
def spRDrawn (K : PySem.W.Frag) : Sp := fun vs H Q _ => ∃ p, vs = [.ref p] ∧ PoolAt H p ∧ ∀ t c s pl H', (c = 1 ∨ c = 2) → H t = none → H' t = some (.tup [.int c, .bl s, .bl pl]) → Off (fun b => b = p) H H' → PoolAt H' p → Q (.ref t) H'
theorem ok_rdrawn {f : Addr} {fd : FuncData} (F : Fun K "_law_rules_drawn" "_law_rules_drawn" s__law_rules_drawn f fd) (T : Blt mg) (c__law_draw : CalG P w K mg base 1 "_law_draw" (spDraw K)) : FnG P w K mg base (CXe P w) 2 f fd ["pool"] (spRDrawn K) := by
  refine F.okG sc__law_rules_drawn (fun vs H Q E h => ?_) (fun cdv A outer s H vs Q E hgd hr h => ?_)
  · obtain ⟨p, rfl, _⟩ := h; rfl
  · obtain ⟨p, rfl, hp, k⟩ := h
    refine ⟨_, (pss_cons (ps_set (i := 1) sc__law_rules_drawn.nd rfl (Or.inl rfl) (pe_op op_add pe_int (pe_callTy call_int1 (by rfl) T.n_int (by decide +kernel) (pa_cons (pe_cmpR op_eq (pg_c c__law_draw hgd hr (by decide) (pa_cons (pv 0) (pa_cons pe_int pa_nil))) pe_int (nomark _)) pa_nil))))
      (pss_one (ps_ret (pe_tupA (pa_cons (pv 1) (pa_cons (pe_cmpR op_eq (pg_c c__law_draw hgd hr (by decide) (pa_cons (pv 0) (pa_cons pe_int pa_nil))) pe_int (nomark _)) (pa_cons (pe_cmpR op_eq (pg_c c__law_draw hgd hr (by decide) (pa_cons (pv 0) (pa_cons pe_int pa_nil))) pe_int (nomark _)) pa_nil))))))), ?_⟩
    walk_at "rd"
    refine ⟨p, 6, rfl, hp, by decide, by decide, fun r1 H1 a1 b1 o1 hp1 => ?_⟩
    walk_at "rd"
    refine .inr ⟨_, rfl, ?_⟩
    walk_at "rd"
    refine ⟨p, 2, rfl, hp1, by decide, by decide, fun r2 H2 a2 b2 o2 hp2 => ?_⟩
    walk_at "rd"
    refine ⟨p, 2, rfl, hp2, by decide, by decide, fun r3 H3 a3 b3 o3 hp3 => ?_⟩
    walk_at "rd"
    refine And.intro (Nat.le_of_ble_eq_true rfl) (fun t H4 n4 => ?_)
    have o4 : Off (fun b => b = p) H H4 := ((o1.trans o2).trans o3).trans n4.off
    have ht : H t = none := by
      cases e : H t with
      | none => rfl
      | some o =>
        have := ((o1.trans o2).trans o3) t o (hp3.ne n4.free) e
        rw [n4.free] at this
        cases this
    refine k t _ _ _ _ ?_ ht n4.at_ o4 (hp3.same n4.same)
    by_cases z : r1 = 0 <;> simp [z]
/-- a wish with no list or dict within, whatever moves -/
def Plain (p : Addr) (H : Hp) (v : V) (d : PyData) : Prop := ∀ L, Dr L (fun b => b = p) H v d
theorem Plain.keep {p : Addr} {H H' : Hp} {v : V} {d : PyData} (o : Off (fun b => b = p) H H') (h : Plain p H v d) : Plain p H' v d := fun L => (h L).keep o
theorem PoolAt.none {H H' : Hp} {p t : Addr} (hp : PoolAt H' p) (o : Off (fun b => b = p) H H') (e : H' t = none) : H t = none := by
  cases h : H t with
  | none => rfl
  | some u =>
    have := o t u (hp.ne e) h
    rw [e] at this
    cases this
def RulesT (H : Hp) (R : Addr) (c : Int) : Prop := ∃ s p, H R = some (.tup [.int c, s, p]) ∧ (c = 1 ∨ c = 2)
theorem RulesT.keep {p : Addr} {H H' : Hp} {R : Addr} {c : Int} (hp : PoolAt H p) (o : Off (fun b => b = p) H H') (h : RulesT H R c) : RulesT H' R c := by
  obtain ⟨s, q, h1, h2⟩ := h
  exact ⟨s, q, o _ _ (hp.notTup h1) h1, h2⟩
def spBDrawn (K : PySem.W.Frag) : Sp := fun vs H Q _ => ∃ (p R : Addr) (c : Int), vs = [.ref p, .ref R] ∧ PoolAt H p ∧ RulesT H R c ∧ ∀ v d H', Plain p H' v d → isBagD c d = true → Off (fun b => b = p) H H' → PoolAt H' p → Q v H'
theorem ok_bdrawn {f : Addr} {fd : FuncData} (F : Fun K "_law_bag_drawn" "_law_bag_drawn" s__law_bag_drawn f fd) (T : Blt mg) (c__law_draw : CalG P w K mg base 1 "_law_draw" (spDraw K)) : FnG P w K mg base (CXe P w) 2 f fd ["pool", "rules"] (spBDrawn K) := by
  refine F.okG sc__law_bag_drawn (fun vs H Q E h => ?_) (fun cdv A outer s H vs Q E hgd hr h => ?_)
  · obtain ⟨p, R, c, rfl, _⟩ := h; rfl
  · obtain ⟨p, R, c, rfl, hp, hR, k⟩ := h
    refine ⟨_, (pss_one (ps_ret (pe_tupA (pa_cons (pg_c c__law_draw hgd hr (by decide) (pa_cons (pv 0) (pa_cons (pe_op op_add (pe_ix ix_tup (pv 1) pe_int (fun _ _ => rfl)) pe_int) pa_nil))) (pa_cons (pg_c c__law_draw hgd hr (by decide) (pa_cons (pv 0) (pa_cons (pe_op op_add (pe_ix ix_tup (pv 1) pe_int (fun _ _ => rfl)) pe_int) pa_nil))) pa_nil))))), ?_⟩
    obtain ⟨s0, p0, hR0, hc⟩ := hR
    refine ⟨_, rfl, _, rfl, R, _, 0, .int c, rfl, rfl, SqT.of hR0, atI_nat (xs := [V.int c, s0, p0]) (j := 0) (v := V.int c) rfl, ?_⟩
    walk_at "rd"
    refine ⟨p, c + 1, rfl, hp, by omega, by omega, fun r1 H1 a1 b1 o1 hp1 => ?_⟩
    have hR1 := o1 _ _ (hp.notTup hR0) hR0
    refine ⟨_, rfl, _, rfl, R, _, 0, .int c, rfl, rfl, SqT.of hR1, atI_nat (xs := [V.int c, s0, p0]) (j := 0) (v := V.int c) rfl, ?_⟩
    walk_at "rd"
    refine ⟨p, c + 1, rfl, hp1, by omega, by omega, fun r2 H2 a2 b2 o2 hp2 => ?_⟩
    refine And.intro (Nat.le_of_ble_eq_true rfl) (fun t H3 n3 => ?_)
    refine k _ (.tuple [.int r1, .int r2]) H3 (fun L => .tup n3.at_ (hp2.ne n3.free) (.cons (.int _) (.cons (.int _) .nil))) ?_ ((o1.trans o2).trans n3.off) (hp2.same n3.same)
    simp [isBagD, numOk]
    omega
def spWD (K : PySem.W.Frag) (n : Nat) : Sp := fun vs H Q _ => ∃ (p R : Addr) (c : Int), vs = [.ref p, .ref R, .int (n + 1 : Nat)] ∧ PoolAt H p ∧ RulesT H R c ∧
  ∀ v d H', Plain p H' v d → isWishD c (n + 1) d = true → Off (fun b => b = p) H H' → PoolAt H' p → Q v H'
theorem ok_wdrawn {f : Addr} {fd : FuncData} {n : Nat} (F : Fun K "_law_wish_drawn" "_law_wish_drawn" s__law_wish_drawn f fd) (T : Blt mg) (c__law_draw : CalG P w K mg base 1 "_law_draw" (spDraw K)) (c__law_bag_drawn : CalG P w K mg base 2 "_law_bag_drawn" (spBDrawn K))
    (c__law_wish_drawn : CalG P w K mg base (2 + n) "_law_wish_drawn" (upTo (spWD K) n)) : FnG P w K mg base (CXe P w) (2 + n + 1) f fd ["pool", "rules", "depth"] (spWD K n) := by
  refine F.okG sc__law_wish_drawn (fun vs H Q E h => ?_) (fun cdv A outer s H vs Q E hgd hr h => ?_)
  · obtain ⟨p, R, c, rfl, _⟩ := h; rfl
  · obtain ⟨p, R, c, rfl, hp, hR, k⟩ := h
    refine ⟨_, (pss_cons (ps_set (i := 3) sc__law_wish_drawn.nd rfl (Or.inl rfl) (pg_c c__law_draw hgd hr (by omega) (pa_cons (pv 0) (pa_cons pe_int pa_nil))))
      (C8.pss_cut (ps_if (PW.pt (pw_and (pt_cmpR op_gt (pv 2) pe_int (nomark _)) (pw_and1 (pt_cmpR op_eq (pv 3) pe_int (nomark _))))) (pss_one (ps_ret (pe_tupA (pa_cons pe_str (pa_cons (pg_c c__law_wish_drawn hgd hr (by omega) (pa_cons (pv 0) (pa_cons (pv 1) (pa_cons (pe_op op_sub (pv 2) pe_int) pa_nil)))) pa_nil))))) pss_nil)
      (C8.pss_cut (ps_if (PW.pt (pw_and (pt_cmpR op_gt (pv 2) pe_int (nomark _)) (pw_and1 (pt_cmpR op_eq (pv 3) pe_int (nomark _))))) (pss_one (ps_ret (pe_tupA (pa_cons pe_str (pa_cons (pg_c c__law_wish_drawn hgd hr (by omega) (pa_cons (pv 0) (pa_cons (pv 1) (pa_cons (pe_op op_sub (pv 2) pe_int) pa_nil)))) (pa_cons (pg_c c__law_wish_drawn hgd hr (by omega) (pa_cons (pv 0) (pa_cons (pv 1) (pa_cons (pe_op op_sub (pv 2) pe_int) pa_nil)))) pa_nil)))))) pss_nil)
      (pss_cons (ps_set (i := 4) sc__law_wish_drawn.nd rfl (Or.inl rfl) (pg_c c__law_bag_drawn hgd hr (by omega) (pa_cons (pv 0) (pa_cons (pv 1) pa_nil))))
      (pss_cons (ps_if (pt_cmpR op_lt (pv 3) pe_int (nomark _)) (pss_one (ps_ret (pe_tupA (pa_cons pe_str (pa_cons (pv 4) pa_nil))))) pss_nil)
      (pss_cons (ps_if (pt_cmpR op_eq (pv 3) pe_int (nomark _)) (pss_one (ps_ret (pe_tupA (pa_cons pe_str (pa_cons (pv 4) pa_nil))))) pss_nil)
      (pss_cons (ps_if (pt_cmpR op_eq (pv 3) pe_int (nomark _)) (pss_one (ps_ret (pe_tupA (pa_cons pe_str (pa_cons (pv 4) (pa_cons (pg_c c__law_bag_drawn hgd hr (by omega) (pa_cons (pv 0) (pa_cons (pv 1) pa_nil))) pa_nil)))))) pss_nil)
      (pss_cons (ps_if (pt_cmpR op_eq (pv 3) pe_int (nomark _)) (pss_one (ps_ret (pe_tupA (pa_cons pe_str (pa_cons (pv 4) pa_nil))))) pss_nil)
      (pss_one (ps_ret (pe_ifExp (pt_cmpR op_gt (pv 2) pe_int (nomark _)) (pe_tupA (pa_cons pe_str (pa_cons (pe_tupA (pa_cons pe_str (pa_cons (pv 4) pa_nil))) pa_nil))) (pe_tupA (pa_cons pe_str (pa_cons (pv 4) pa_nil)))))))))))))), ?_⟩
    walk_at "rd"
    refine ⟨p, 9, rfl, hp, by decide, by decide, fun r1 H1 a1 b1 o1 hp1 => ?_⟩
    have hR1 := hR.keep hp o1
    have pw : ∀ (H' : Hp) (t : Addr) (v : V) (d : PyData) (z : Str), H' t = some (.tup [.str z, v]) → t ≠ p → Plain p H' v d → Plain p H' (.ref t) (.tuple [.str z, d]) := fun H' t v d z h1 h2 h3 L => .tup h1 h2 (.cons (.str _) (.cons (h3 L) .nil))
    have pw2 : ∀ (H' : Hp) (t : Addr) (v v' : V) (d d' : PyData) (z : Str), H' t = some (.tup [.str z, v, v']) → t ≠ p → Plain p H' v d → Plain p H' v' d' → Plain p H' (.ref t) (.tuple [.str z, d, d']) := fun H' t v v' d d' z h1 h2 h3 h4 L => .tup h1 h2 (.cons (.str _) (.cons (h3 L) (.cons (h4 L) .nil)))
    refine ⟨fun σ' H' => σ' = [some (.ref p), some (.ref R), some (.int (n + 1 : Nat)), some (.int r1), none] ∧ H1 = H', ?_, ?_⟩
    · walk_at "rd"
      by_cases hn : n = 0
      · refine iteF' (by simp [hn]) ⟨rfl, rfl⟩
      refine iteT' (by simp; omega) ?_
      walk_at "rd"
      by_cases hw : r1 = 0
      case neg => exact iteF' (by simpa using hw) ⟨rfl, rfl⟩
      refine iteT' (by simpa using hw) ?_
      obtain ⟨m, rfl⟩ : ∃ m, n = m + 1 := ⟨n - 1, by omega⟩
      walk_at "rd"
      refine ⟨p, R, c, ?_, hp1, hR1, fun v d H2 hv hd o2 hp2 => ?_⟩
      · show [V.ref p, V.ref R, V.int (((m + 1 + 1 : Nat) : Int) - 1)] = _
        rw [show (((m + 1 + 1 : Nat) : Int) - 1) = ((m + 1 : Nat) : Int) by omega]
      refine And.intro (Nat.le_of_ble_eq_true rfl) (fun t H3 n3 => ?_)
      refine k _ (.tuple [.str "not", d]) H3 (pw _ _ _ _ _ n3.at_ (hp2.ne n3.free) (hv.keep n3.off)) ?_ ((o1.trans o2).trans n3.off) (hp2.same n3.same)
      rw [wish_w1 (by decide +kernel)]
      exact hd
    rintro σ' H' ⟨rfl, rfl⟩
    refine ⟨fun σ' H' => σ' = [some (.ref p), some (.ref R), some (.int (n + 1 : Nat)), some (.int r1), none] ∧ H1 = H', ?_, ?_⟩
    · walk_at "rd"
      by_cases hn : n = 0
      · refine iteF' (by simp [hn]) ⟨rfl, rfl⟩
      refine iteT' (by simp; omega) ?_
      walk_at "rd"
      by_cases hw : r1 = 1
      case neg => exact iteF' (by simpa using hw) ⟨rfl, rfl⟩
      refine iteT' (by simpa using hw) ?_
      obtain ⟨m, rfl⟩ : ∃ m, n = m + 1 := ⟨n - 1, by omega⟩
      walk_at "rd"
      refine ⟨p, R, c, ?_, hp1, hR1, fun v d H2 hv hd o2 hp2 => ?_⟩
      · show [V.ref p, V.ref R, V.int (((m + 1 + 1 : Nat) : Int) - 1)] = _
        rw [show (((m + 1 + 1 : Nat) : Int) - 1) = ((m + 1 : Nat) : Int) by omega]
      walk_at "rd"
      refine ⟨p, R, c, ?_, hp2, hR1.keep hp1 o2, fun v2 d2 H3 hv2 hd2 o3 hp3 => ?_⟩
      · show [V.ref p, V.ref R, V.int (((m + 1 + 1 : Nat) : Int) - 1)] = _
        rw [show (((m + 1 + 1 : Nat) : Int) - 1) = ((m + 1 : Nat) : Int) by omega]
      refine And.intro (Nat.le_of_ble_eq_true rfl) (fun t H4 n4 => ?_)
      refine k _ (.tuple [.str "both", d, d2]) H4 (pw2 _ _ _ _ _ _ _ n4.at_ (hp3.ne n4.free) ((hv.keep o3).keep n4.off) (hv2.keep n4.off)) ?_ (((o1.trans o2).trans o3).trans n4.off) (hp3.same n4.same)
      rw [wish_w2 (by decide +kernel)]
      simp [hd, hd2]
    rintro σ' H' ⟨rfl, rfl⟩
    refine ⟨_, rfl, _, rfl, p, R, c, rfl, hp1, hR1, fun v d H2 hv hd o2 hp2 => ?_⟩
    have hR2 := hR1.keep hp1 o2
    have o12 := o1.trans o2
    have fin : ∀ (z : Str) (t : Addr) (H3 : Hp), wordD z = some (1, 0) → New H2 H3 t (.tup [.str z, v]) → Q (.ref t) H3 := fun z t H3 hz n3 => by
      refine k _ (.tuple [.str z, d]) H3 (pw _ _ _ _ _ n3.at_ (hp2.ne n3.free) (hv.keep n3.off)) ?_ (o12.trans n3.off) (hp2.same n3.same)
      rw [wish_b1 hz]
      exact hd
    walk_at "rd"
    refine ite2 (fun q1 => ?_) (fun q1 => ?_)
    · walk_at "rd"
      exact And.intro (Nat.le_of_ble_eq_true rfl) (fun t H3 n3 => fin _ t H3 (by decide +kernel) n3)
    walk_at "rd"
    refine ite2 (fun q2 => ?_) (fun q2 => ?_)
    · walk_at "rd"
      exact And.intro (Nat.le_of_ble_eq_true rfl) (fun t H3 n3 => fin _ t H3 (by decide +kernel) n3)
    walk_at "rd"
    refine ite2 (fun q3 => ?_) (fun q3 => ?_)
    · walk_at "rd"
      refine ⟨p, R, c, rfl, hp2, hR2, fun v2 d2 H3 hv2 hd2 o3 hp3 => ?_⟩
      refine And.intro (Nat.le_of_ble_eq_true rfl) (fun t H4 n4 => ?_)
      refine k _ (.tuple [.str "back", d, d2]) H4 (pw2 _ _ _ _ _ _ _ n4.at_ (hp3.ne n4.free) ((hv.keep o3).keep n4.off) (hv2.keep n4.off)) ?_ ((o12.trans o3).trans n4.off) (hp3.same n4.same)
      rw [wish_b2 (by decide +kernel)]
      simp [hd, hd2]
    walk_at "rd"
    refine ite2 (fun q4 => ?_) (fun q4 => ?_)
    · walk_at "rd"
      exact And.intro (Nat.le_of_ble_eq_true rfl) (fun t H3 n3 => fin _ t H3 (by decide +kernel) n3)
    walk_at "rd"
    refine ite2 (fun q5 => ?_) (fun q5 => ?_)
    · have q5 : 1 < ((n + 1 : Nat) : Int) := by simpa using q5
      walk_at "rd"
      refine And.intro (Nat.le_of_ble_eq_true rfl) (fun t H3 n3 => ?_)
      refine And.intro (Nat.le_of_ble_eq_true rfl) (fun t2 H4 n4 => ?_)
      obtain ⟨m, rfl⟩ : ∃ m, n = m + 1 := ⟨n - 1, by omega⟩
      refine k _ (.tuple [.str "not", .tuple [.str "solved", d]]) H4 (pw _ _ _ _ _ n4.at_ ((hp2.same n3.same).ne n4.free) ((pw _ _ _ _ _ n3.at_ (hp2.ne n3.free) (hv.keep n3.off)).keep n4.off)) ?_ ((o12.trans n3.off).trans n4.off) ((hp2.same n3.same).same n4.same)
      rw [wish_w1 (by decide +kernel)]
      show isWishD c (m + 1) (.tuple [.str "solved", d]) = true
      rw [wish_b1 (by decide +kernel)]
      exact hd
    · walk_at "rd"
      exact And.intro (Nat.le_of_ble_eq_true rfl) (fun t H3 n3 => fin _ t H3 (by decide +kernel) n3)
end
end K54
end
section
set_option Elab.async false
set_option linter.all false
set_option maxRecDepth 100000
set_option maxHeartbeats 2000000
namespace K54
open PySem L2
local macro_rules | `(tactic| walk_at "hp") => `(tactic| first | assumption | exact upd_same | (refine (upd_ne (by first | assumption | (apply Ne.symm; assumption))).trans ?_; walk_at "hp"))
local macro_rules | `(tactic| walk_at "rd1") => `(tactic| first
  | (refine ⟨_, rfl, ?_⟩)
  | (refine ⟨_, _, rfl, rfl, ?_⟩)
  | (refine ⟨(rfl : scal _ _ = true), ?_⟩)
  | (refine And.intro (by show (0 : Int) < _; decide) ?_)
  | (refine And.intro (And.intro (by decide) (by decide)) ?_)
  | (refine And.intro (Or.inr (And.intro (by decide) (by decide))) ?_)
  | (refine And.intro (And.intro (by decide) (And.intro (by decide) (by decide))) ?_)
  | (refine And.intro (by assumption) ?_)
  | (refine And.intro (And.intro (by omega) (by omega)) ?_)
  | (refine And.intro (Or.inl (And.intro (by omega) (by omega))) ?_)
  | (refine' ⟨_, _, _, _, rfl, rfl, Or.inl (Or.inl ?h1), ?h2, ?h3⟩; (case h1 => walk_at "hp"); (case h2 => rfl))
  | (refine' ⟨_, _, _, _, rfl, rfl, ?h1, ?h2, ?h3⟩; (case h1 => walk_at "hp"); (case h2 => rfl))
  | (refine' ⟨_, _, rfl, Or.inl (Or.inl (Or.inl ?h1)), ?h3⟩; (case h1 => walk_at "hp"))
  | (refine Or.inl ⟨_, rfl, ?_⟩))
local macro_rules | `(tactic| walk_at "rd") => `(tactic| repeat walk_at "rd1")

theorem sc__law_spoiled : FnScope ["pool", "wish", "at", "bags", "bag", "bad"] ["pool", "wish"] (defScope s__law_spoiled) := ⟨rfl, rfl, rfl, by decide +kernel, rfl, by decide +kernel, by decide +kernel⟩
theorem sc__law_deeper : FnScope ["pool", "wish", "more", "k"] ["pool", "wish", "more"] (defScope s__law_deeper) := ⟨rfl, rfl, rfl, by decide +kernel, rfl, by decide +kernel, by decide +kernel⟩
section
variable {P : Program} {w : World} {K : PySem.W.Frag} {mg : Str → Option Value} {base : Heap} {C CB fB aW : Addr}
/-- a thing that is data -/
def G (p : Addr) (L : Bool) (H : Hp) (v : V) : Prop := ∃ d, Dr L (fun b => b = p) H v d
theorem G.keep {p : Addr} {L : Bool} {H H' : Hp} {v : V} (o : Off (fun b => b = p) H H') (h : G p L H v) : G p L H' v := by
  obtain ⟨d, h⟩ := h
  exact ⟨d, h.keep o⟩
theorem Plain.g {p : Addr} {H : Hp} {v : V} {d : PyData} (h : Plain p H v d) (L : Bool) : G p L H v := ⟨d, h L⟩
theorem drAll_of {p : Addr} {L : Bool} {H : Hp} : ∀ {xs : List V}, (∀ v ∈ xs, G p L H v) → ∃ ds, DrAll L (fun b => b = p) H xs ds
  | [], _ => ⟨[], .nil⟩
  | x :: xs, h => by
    obtain ⟨d, hd⟩ := h x (List.mem_cons_self ..)
    obtain ⟨ds, hds⟩ := drAll_of (xs := xs) fun v hv => h v (List.mem_cons_of_mem _ hv)
    exact ⟨d :: ds, .cons hd hds⟩
theorem DrAll.mem {p : Addr} {L : Bool} {H : Hp} : ∀ {xs : List V} {ds : List PyData}, DrAll L (fun b => b = p) H xs ds → ∀ v ∈ xs, G p L H v
  | _, _, .nil, _, h => by cases h
  | _, _, .cons a t, v, h => by
    rcases List.mem_cons.mp h with rfl | h
    · exact ⟨_, a⟩
    · exact DrAll.mem t v h
theorem G.tup {p t : Addr} {L : Bool} {H : Hp} {xs : List V} (e : H t = some (.tup xs)) (hp : PoolAt H p) (h : ∀ v ∈ xs, G p L H v) : G p L H (.ref t) := by
  obtain ⟨ds, hds⟩ := drAll_of h
  exact ⟨_, .tup e (hp.notTup e) hds⟩
theorem G.lst {p t : Addr} {H : Hp} {xs : List V} (e : H t = some (.lst xs)) (n : t ≠ p) (h : ∀ v ∈ xs, G p true H v) : G p true H (.ref t) := by
  obtain ⟨ds, hds⟩ := drAll_of h
  exact ⟨_, .lst e n rfl hds⟩
/-- things that are data, each of them with lists or with dicts -/
def AllG (p : Addr) (H : Hp) (vs : List V) : Prop := ∀ v ∈ vs, ∃ L, G p L H v
theorem AllG.keep {p : Addr} {H H' : Hp} {vs : List V} (o : Off (fun b => b = p) H H') (h : AllG p H vs) : AllG p H' vs := fun v hv => by
  obtain ⟨L, q⟩ := h v hv
  exact ⟨L, q.keep o⟩
theorem AllG.add {p : Addr} {L : Bool} {H H' : Hp} {v : V} {vs : List V} (o : Off (fun b => b = p) H H') (A : AllG p H vs) (g : G p L H' v) : AllG p H' (v :: vs) := by
  intro u hu
  rcases List.mem_cons.mp hu with rfl | hu
  · exact ⟨L, g⟩
  · exact A.keep o u hu
theorem mem_cutV {xs : List V} {lo hi : Option Int} {v : V} (h : v ∈ cutV xs lo hi) : v ∈ xs := List.mem_of_mem_drop (List.mem_of_mem_take h)
theorem G.int (p : Addr) (L : Bool) (H : Hp) (i : Int) : G p L H (.int i) := ⟨_, .int i⟩
theorem G.bl (p : Addr) (L : Bool) (H : Hp) (b : Bool) : G p L H (.bl b) := ⟨_, .bl b⟩
theorem G.str (p : Addr) (L : Bool) (H : Hp) (z : Str) : G p L H (.str z) := ⟨_, .str z⟩
theorem G.non (p : Addr) (L : Bool) (H : Hp) : G p L H .non := ⟨_, .non⟩
/-- what is within a wish -/
theorem wish_parts {c : Int} {n : Nat} {d : PyData} (h : isWishD c n d = true) : ∃ m z dr b w, n = m + 1 ∧ d = .tuple (.str z :: dr) ∧ wordD z = some (b, w) ∧ dr.length = b + w ∧ (∀ e ∈ dr, (if 0 < b then isBagD c e else isWishD c m e) = true) := by
  cases n with
  | zero => cases h
  | succ m =>
    match d, h with
    | .tuple (.str z :: dr), h =>
      simp only [isWishD] at h
      cases hz : wordD z with
      | none => rw [hz] at h; cases h
      | some bw =>
        obtain ⟨b, w⟩ := bw
        rw [hz] at h
        simp only [Bool.and_eq_true, decide_eq_true_eq, List.all_eq_true] at h
        exact ⟨m, z, dr, b, w, rfl, rfl, hz, h.1, fun e he => h.2 e he⟩
theorem inV_two {z a b : Str} (h : inV (.str z) [.str a, .str b] = true) : z = a ∨ z = b := by
  simp only [inV, List.any_cons, List.any_nil, Bool.or_false, Bool.or_eq_true, eqV] at h
  rcases h with h | h
  · exact .inl (show a = z by simpa using h).symm
  · exact .inr (show b = z by simpa using h).symm
theorem G.flat {p : Addr} {L : Bool} {H : Hp} {v : V} (h : flatV v = true) : G p L H v := by
  cases v <;> first | exact G.int _ _ _ _ | exact G.bl _ _ _ _ | exact G.str _ _ _ _ | exact G.non _ _ _ | cases h
theorem G.flats {p : Addr} {L : Bool} {H : Hp} {xs : List V} (h : xs.all flatV = true) : ∀ u ∈ xs, G p L H u := fun u hu => G.flat (List.all_eq_true.mp h u hu)
theorem AllG.nil {p : Addr} {H : Hp} : AllG p H [] := fun v hv => by cases hv
theorem AllG.flat {p : Addr} {H : Hp} {v : V} {vs : List V} (A : AllG p H vs) (h : flatV v = true) : AllG p H (v :: vs) := A.add (L := true) (Off.refl _) (G.flat h)
theorem AllG.sub {p : Addr} {H : Hp} {vs ws : List V} (A : AllG p H vs) (h : ∀ v ∈ ws, v ∈ vs) : AllG p H ws := fun v hv => A v (h v hv)
/-- as AllG, lists within and no dicts -/
def AllT (p : Addr) (H : Hp) (vs : List V) : Prop := ∀ v ∈ vs, G p true H v
theorem AllT.add {p : Addr} {H H' : Hp} {v : V} {vs : List V} (o : Off (fun b => b = p) H H') (A : AllT p H vs) (g : G p true H' v) : AllT p H' (v :: vs) := by
  intro u hu
  rcases List.mem_cons.mp hu with rfl | hu
  · exact g
  · exact (A u hu).keep o
theorem AllT.nil {p : Addr} {H : Hp} : AllT p H [] := fun v hv => by cases hv
theorem AllT.keep {p : Addr} {H H' : Hp} {vs : List V} (o : Off (fun b => b = p) H H') (h : AllT p H vs) : AllT p H' vs := fun v hv => (h v hv).keep o
def spSpoil (K : PySem.W.Frag) (n : Nat) : Sp := fun vs H Q _ => ∃ (p : Addr) (v : V) (d : PyData) (c : Int), vs = [.ref p, v] ∧ PoolAt H p ∧ Plain p H v d ∧ isWishD c n d = true ∧
  ∀ v' L H', G p L H' v' → Off (fun b => b = p) H H' → PoolAt H' p → Q v' H'
theorem ok_spoil {f : Addr} {fd : FuncData} {n : Nat} (F : Fun K "_law_spoiled" "_law_spoiled" s__law_spoiled f fd) (T : Blt mg) (c__law_draw : CalG P w K mg base 1 "_law_draw" (spDraw K)) (c__law_pick : CalG P w K mg base 2 "_law_pick" (spPick K))
    (c__law_spoiled : CalG P w K mg base (2 + n) "_law_spoiled" (upTo (spSpoil K) n)) : FnG P w K mg base (CXe P w) (2 + n + 1) f fd ["pool", "wish"] (spSpoil K n) := by
  refine F.okG sc__law_spoiled (fun vs H Q E h => ?_) (fun cdv A outer s H vs Q E hgd hr h => ?_)
  · obtain ⟨p, v, d, c, rfl, _⟩ := h; rfl
  · obtain ⟨p, v, d, c, rfl, hp, hv, hw, k⟩ := h
    refine ⟨_, (C8.pss_cut (ps_if (PW.pt (pw_and (pt_cmpR op_in_seq (pe_ix ix_tup (pv 1) pe_int (fun _ _ => rfl)) (pe_tupA (pa_cons pe_str (pa_cons pe_str pa_nil))) (by rfl)) (pw_and1 (pt_cmpR op_gt (pg_c c__law_draw hgd hr (by omega) (pa_cons (pv 0) (pa_cons pe_int pa_nil))) pe_int (nomark _))))) (pss_cons (ps_set (i := 2) sc__law_spoiled.nd rfl (Or.inl rfl) (pe_op op_add pe_int (pg_c c__law_draw hgd hr (by omega) (pa_cons (pv 0) (pa_cons (pe_op op_sub (pe_callB call_len_seq (by rfl) T.n_len (by decide +kernel) (pa_cons (pv 1) pa_nil)) pe_int) pa_nil)))))
      (pss_one (ps_ret (pe_op op_catU (pe_op op_catU (pe_slice sl_tupU (pv 1) po_none (po_some (pv 2))) (pe_tupA (pa_cons (pg_c c__law_spoiled hgd hr (by omega) (pa_cons (pv 0) (pa_cons (pe_ix ix_tup (pv 1) (pv 2) (fun _ _ => rfl)) pa_nil))) pa_nil))) (pe_slice sl_tupU (pv 1) (po_some (pe_op op_add (pv 2) pe_int)) po_none))))) pss_nil)
      (pss_cons (ps_set (i := 3) sc__law_spoiled.nd rfl (Or.inl rfl) (pe_lstA (pa_cons (pe_tupA (pa_cons pe_int (pa_cons pe_int pa_nil))) (pa_cons (pe_tupA (pa_cons pe_int (pa_cons (pe_un un_neg pe_int) pa_nil))) (pa_cons (pe_tupA (pa_cons pe_int pa_nil)) (pa_cons (pe_tupA (pa_cons pe_int (pa_cons pe_int (pa_cons pe_int pa_nil)))) (pa_cons (pe_lstA (pa_cons pe_int (pa_cons pe_int pa_nil))) (pa_cons (pe_tupA (pa_cons pe_bl (pa_cons pe_int pa_nil))) (pa_cons (pe_tupA (pa_cons pe_int (pa_cons pe_bl pa_nil))) (pa_cons pe_non (pa_cons pe_str (pa_cons (pe_tupA (pa_cons pe_int (pa_cons pe_int pa_nil))) (pa_cons (pe_tupA (pa_cons pe_int (pa_cons pe_str pa_nil))) pa_nil)))))))))))))
      (C8.pss_cut (ps_set (i := 4) sc__law_spoiled.nd rfl (Or.inl rfl) (pg_c c__law_pick hgd hr (by omega) (pa_cons (pv 0) (pa_cons (pv 3) pa_nil))))
      (C8.pss_cut (ps_set (i := 5) sc__law_spoiled.nd rfl (Or.inl rfl) (pe_lstA (pa_cons pe_non (pa_cons (pe_tupA pa_nil) (pa_cons (pe_ix ix_tup (pv 1) pe_int (fun _ _ => rfl)) (pa_cons (pe_callTy call_list_of (by rfl) T.n_list (by decide +kernel) (pa_cons (pv 1) pa_nil)) (pa_cons (pe_op op_catU (pv 1) (pe_tupA (pa_cons pe_non pa_nil))) (pa_cons (pe_slice sl_tupU (pv 1) po_none (po_some pe_int)) (pa_cons (pe_op op_catU (pe_tupA (pa_cons pe_str pa_nil)) (pe_slice sl_tupU (pv 1) (po_some pe_int) po_none)) (pa_cons (pe_op op_catU (pe_tupA (pa_cons pe_int pa_nil)) (pe_slice sl_tupU (pv 1) (po_some pe_int) po_none)) pa_nil))))))))))
      (C8.pss_cut (ps_set (i := 5) sc__law_spoiled.nd rfl (Or.inl rfl) (pe_op op_cat (pv 5) (pe_lstA (pa_cons (pe_tupA (pa_cons pe_str (pa_cons (pv 4) pa_nil))) pa_nil))))
      (C8.pss_cut (ps_set (i := 5) sc__law_spoiled.nd rfl (Or.inl rfl) (pe_op op_cat (pv 5) (pe_lstA (pa_cons (pe_tupA (pa_cons pe_str (pa_cons (pv 4) pa_nil))) (pa_cons (pe_tupA (pa_cons pe_str (pa_cons (pe_tupA (pa_cons pe_int (pa_cons pe_int pa_nil))) (pa_cons (pv 4) pa_nil)))) (pa_cons (pe_tupA (pa_cons pe_str (pa_cons (pv 4) (pa_cons (pe_tupA (pa_cons pe_int (pa_cons pe_int pa_nil))) pa_nil)))) (pa_cons (pe_tupA (pa_cons pe_str (pa_cons (pv 4) pa_nil))) (pa_cons (pe_tupA (pa_cons pe_str (pa_cons (pv 4) pa_nil))) pa_nil))))))))
      (C8.pss_cut (ps_set (i := 5) sc__law_spoiled.nd rfl (Or.inl rfl) (pe_op op_cat (pv 5) (pe_lstA (pa_cons (pe_tupA (pa_cons pe_str (pa_cons (pv 1) pa_nil))) pa_nil))))
      (C8.pss_cut (ps_set (i := 5) sc__law_spoiled.nd rfl (Or.inl rfl) (pe_op op_cat (pv 5) (pe_lstA (pa_cons (pe_tupA (pa_cons pe_str (pa_cons (pe_tupA (pa_cons pe_int (pa_cons pe_int pa_nil))) pa_nil))) (pa_cons (pe_tupA (pa_cons pe_str (pa_cons (pe_tupA (pa_cons pe_int (pa_cons pe_int pa_nil))) (pa_cons (pe_tupA (pa_cons pe_int (pa_cons pe_int pa_nil))) pa_nil)))) (pa_cons (pe_tupA (pa_cons pe_str (pa_cons (pv 1) (pa_cons (pv 1) pa_nil)))) (pa_cons (pe_op op_catU (pe_tupA (pa_cons (pe_tupA (pa_cons (pe_ix ix_tup (pv 1) pe_int (fun _ _ => rfl)) pa_nil)) pa_nil)) (pe_slice sl_tupU (pv 1) (po_some pe_int) po_none)) (pa_cons pe_dnewA (pa_cons pe_str pa_nil)))))))))
      (pss_one (ps_ret (pg_c c__law_pick hgd hr (by omega) (pa_cons (pv 0) (pa_cons (pv 5) pa_nil))))))))))))), ?_⟩
    obtain ⟨m, z, dr, b, ww, rfl, rfl, hz, hl, he⟩ := wish_parts hw
    obtain ⟨a, xr, hva, hta, hpl, hxr⟩ : ∃ (a : Addr) (xr : List V), v = .ref a ∧ H a = some (.tup (.str z :: xr)) ∧ (∀ L, DrAll L (fun b => b = p) H xr dr) ∧ xr.length = dr.length := by
      obtain ⟨a, rfl⟩ : ∃ a, v = .ref a := by
        cases hv true with
        | tup => exact ⟨_, rfl⟩
      obtain ⟨xs, hxs⟩ : ∃ xs, H a = some (.tup xs) := by
        cases hv true with
        | tup e => exact ⟨_, e⟩
      have all : ∀ L, DrAll L (fun b => b = p) H xs (.str z :: dr) := fun L => by
        cases hv L with
        | tup e _ ht =>
          rw [hxs] at e
          cases e
          exact ht
      cases all true with
      | @cons x xr _ _ hx hxr =>
      cases hx with
      | str =>
      refine ⟨a, xr, rfl, hxs, fun L => ?_, DrAll.len hxr⟩
      cases all L with
      | cons _ t => exact t
    subst hva
    refine ⟨fun σ' H' => σ' = [some (.ref p), some (.ref a), none, none, none, none] ∧ Off (fun b => b = p) H H' ∧ PoolAt H' p, ?_, ?_⟩
    · refine ⟨_, rfl, a, _, 0, .str z, rfl, rfl, SqT.of hta, atI_nat (xs := .str z :: xr) (j := 0) (v := V.str z) rfl, ?_⟩
      refine And.intro (Nat.le_of_ble_eq_true rfl) (fun t1 H1 n1 => ?_)
      have hp1 := hp.same n1.same
      have hta1 := n1.same _ _ hta
      refine ⟨t1, _, rfl, .inr (SqT.of n1.at_), rfl, rfl, _, rfl, ?_⟩
      cases hin : inV (.str z) [.str "not", .str "both"] with
      | false => exact iteF ⟨rfl, n1.off, hp1⟩
      | true =>
      have hb0 : b = 0 := by
        rcases inV_two hin with rfl | rfl
        · have : wordD "not" = some (0, 1) := by decide +kernel
          rw [this] at hz
          cases hz
          rfl
        · have : wordD "both" = some (0, 2) := by decide +kernel
          rw [this] at hz
          cases hz
          rfl
      have hd1 : 1 ≤ dr.length ∧ dr.length ≤ 2 := by
        rcases wordD_some hz with q | q <;> omega
      refine iteT ?_
      walk_at "rd"
      refine ⟨p, 3, rfl, hp1, by decide, by decide, fun r1 H2 a1 b1 o2 hp2 => ?_⟩
      walk_at "rd"
      refine ite2 (fun q1 => ?_) (fun q1 => ?_)
      case refine_2 => exact ⟨rfl, n1.off.trans o2, hp2⟩
      have hta2 := o2 _ _ (hp1.notTup hta1) hta1
      walk_at "rd"
      refine ⟨a, _, rfl, .inr (SqT.of hta2), ?_⟩
      walk_at "rd"
      refine ⟨p, (xr.length : Int), ?_, hp2, by omega, by omega, fun r2 H3 a2 b2 o3 hp3 => ?_⟩
      · show [V.ref p, V.int (((V.str z :: xr).length : Int) - 1)] = _
        rw [show (((V.str z :: xr).length : Int) - 1) = (xr.length : Int) by rw [List.length_cons]; omega]
      obtain ⟨j, rfl⟩ := Int.eq_ofNat_of_zero_le a2
      have hj : j < xr.length := by omega
      have hta3 := o3 _ _ (hp2.notTup hta2) hta2
      have o03 := (n1.off.trans o2).trans o3
      walk_at "rd"
      have sm : ∀ {n : Nat}, n ≤ 20 → n ≤ sizeLine := fun h => Nat.le_trans h (by decide +kernel)
      have lx : xr.length ≤ 2 := by omega
      refine ⟨a, _, rfl, hta3, fun t4 H4 s4 ht4 _ => ?_⟩
      have hp4 := hp3.same s4
      have hta4 := s4 _ _ hta3
      have o04 := o03.trans (Off.same s4)
      have hget : (V.str z :: xr)[1 + j]? = some xr[j] := by
        rw [Nat.add_comm 1 j, List.getElem?_cons_succ, List.getElem?_eq_getElem hj]
      refine ⟨_, rfl, _, rfl, _, rfl, a, _, ((1 + j : Nat) : Int), xr[j], rfl, by show V.int (1 + (j : Int)) = _; rw [show (1 + (j : Int)) = ((1 + j : Nat) : Int) by omega], SqT.of hta4, atI_nat hget, ?_⟩
      obtain ⟨e, he1, he2⟩ := DrAll.get (hpl true) (List.getElem?_eq_getElem hj)
      have hpe : Plain p H xr[j] e := fun L => by
        obtain ⟨e', h1, h2⟩ := DrAll.get (hpl L) (List.getElem?_eq_getElem hj)
        rw [he1] at h1
        cases h1
        exact h2
      have hwe : isWishD c m e = true := by
        have := he e (List.mem_of_getElem? he1)
        rwa [if_neg (by omega)] at this
      refine ⟨m, rfl, p, xr[j], e, c, rfl, hp4, hpe.keep o04, hwe, fun v' L H5 g5 o5 hp5 => ?_⟩
      refine And.intro (Nat.le_of_ble_eq_true rfl) (fun t6 H6 n6 => ?_)
      have hp6 := hp5.same n6.same
      have ht46 := n6.same _ _ (o5 _ _ (hp4.notTup ht4) ht4)
      have hta6 := n6.same _ _ (o5 _ _ (hp4.notTup hta4) hta4)
      have o06 := (o04.trans o5).trans n6.off
      have l4 : (cutV (V.str z :: xr) none (some (1 + (j : Int)))).length ≤ 3 := Nat.le_trans (cutV_length _ _ _) (by rw [List.length_cons]; omega)
      refine ⟨t4, t6, _, _, rfl, rfl, ht46, n6.at_, sm (by simp only [List.length_cons, List.length_nil]; omega), fun t7 H7 s7 ht7 _ => ?_⟩
      have hp7 := hp6.same s7
      have hta7 := s7 _ _ hta6
      walk_at "rd"
      refine ⟨a, _, rfl, hta7, fun t8 H8 s8 ht8 _ => ?_⟩
      have hp8 := hp7.same s8
      have l8 : (cutV (V.str z :: xr) (some (1 + (j : Int) + 1)) none).length ≤ 3 := Nat.le_trans (cutV_length _ _ _) (by rw [List.length_cons]; omega)
      refine ⟨t7, t8, _, _, rfl, rfl, s8 _ _ ht7, ht8, sm (by simp only [List.length_cons, List.length_nil, List.length_append]; omega), fun t9 H9 s9 ht9 _ => ?_⟩
      have o09 := ((o06.trans (Off.same s7)).trans (Off.same s8)).trans (Off.same s9)
      have hp9 := hp8.same s9
      have gw : ∀ u ∈ (V.str z :: xr), G p L H9 u := fun u hu => by
        rcases List.mem_cons.mp hu with rfl | hu
        · exact G.str _ _ _ _
        · exact (DrAll.mem (hpl L) u hu).keep o09
      refine k _ L H9 (G.tup ht9 hp9 fun u hu => ?_) o09 hp9
      rcases List.mem_append.mp hu with hu | hu
      · rcases List.mem_append.mp hu with hu | hu
        · exact gw u (mem_cutV hu)
        · rw [List.mem_singleton] at hu
          subst hu
          exact (((g5.keep n6.off).keep (Off.same s7)).keep (Off.same s8)).keep (Off.same s9)
      · exact gw u (mem_cutV hu)
    · rintro σ' H0 ⟨rfl, o0, hp0⟩
      have hta0 := o0 _ _ (hp.notTup hta) hta
      have A0 : AllT p H0 [] := AllT.nil
      walk_at "rd"
      walk_at "rd"
      refine And.intro (Nat.le_of_ble_eq_true rfl) (fun q1 H1 n1 => ?_)
      have hp1 := hp0.same n1.same
      have A1 := A0.add n1.off (G.tup n1.at_ hp1 (G.flats rfl))
      walk_at "rd"
      refine And.intro (Nat.le_of_ble_eq_true rfl) (fun q2 H2 n2 => ?_)
      have hp2 := hp1.same n2.same
      have A2 := A1.add n2.off (G.tup n2.at_ hp2 (G.flats rfl))
      walk_at "rd"
      refine And.intro (Nat.le_of_ble_eq_true rfl) (fun q3 H3 n3 => ?_)
      have hp3 := hp2.same n3.same
      have A3 := A2.add n3.off (G.tup n3.at_ hp3 (G.flats rfl))
      walk_at "rd"
      refine And.intro (Nat.le_of_ble_eq_true rfl) (fun q4 H4 n4 => ?_)
      have hp4 := hp3.same n4.same
      have A4 := A3.add n4.off (G.tup n4.at_ hp4 (G.flats rfl))
      walk_at "rd"
      refine And.intro (Nat.le_of_ble_eq_true rfl) (fun q5 H5 n5 => ?_)
      have hp5 := hp4.same n5.same
      have A5 := A4.add n5.off (G.lst n5.at_ (hp4.ne n5.free) (G.flats rfl))
      walk_at "rd"
      refine And.intro (Nat.le_of_ble_eq_true rfl) (fun q6 H6 n6 => ?_)
      have hp6 := hp5.same n6.same
      have A6 := A5.add n6.off (G.tup n6.at_ hp6 (G.flats rfl))
      walk_at "rd"
      refine And.intro (Nat.le_of_ble_eq_true rfl) (fun q7 H7 n7 => ?_)
      have hp7 := hp6.same n7.same
      have A7 := A6.add n7.off (G.tup n7.at_ hp7 (G.flats rfl))
      walk_at "rd"
      refine And.intro (Nat.le_of_ble_eq_true rfl) (fun q8 H8 n8 => ?_)
      have hp8 := hp7.same n8.same
      have A8 := A7.add n8.off (G.tup n8.at_ hp8 (G.flats rfl))
      walk_at "rd"
      refine And.intro (Nat.le_of_ble_eq_true rfl) (fun q9 H9 n9 => ?_)
      have hp9 := hp8.same n9.same
      have A9 := A8.add n9.off (G.tup n9.at_ hp9 (G.flats rfl))
      walk_at "rd"
      refine And.intro (Nat.le_of_ble_eq_true rfl) (fun B H10 n10 => ?_)
      have hp10 := hp9.same n10.same
      have off10 : Off (fun b => b = p) H H10 := o0.trans (Off.same (((((((((n1.same.trans n2.same).trans n3.same).trans n4.same).trans n5.same).trans n6.same).trans n7.same).trans n8.same).trans n9.same).trans n10.same))
      have hta10 := off10 _ _ (hp.notTup hta) hta
      have hBp : B ≠ p := hp9.ne n10.free
      have AB : AllT p H10 [.ref q1, .ref q2, .ref q3, .ref q4, .ref q5, .ref q6, .ref q7, .non, .str "star", .ref q8, .ref q9] := by
        intro v hv
        simp only [List.mem_cons, List.not_mem_nil, or_false] at hv
        rcases hv with rfl | rfl | rfl | rfl | rfl | rfl | rfl | rfl | rfl | rfl | rfl
        case inr.inr.inr.inr.inr.inr.inr.inl => exact G.non _ _ _
        case inr.inr.inr.inr.inr.inr.inr.inr.inl => exact G.str _ _ _ _
        all_goals exact (A9 _ (by simp)).keep n10.off
      have eB := n10.at_
      generalize hxs : ([.ref q1, .ref q2, .ref q3, .ref q4, .ref q5, .ref q6, .ref q7, .non, .str "star", .ref q8, .ref q9] : List V) = bags at AB eB
      have hbl : bags.length = 11 := by rw [← hxs]; rfl
      clear A0 A1 A2 A3 A4 A5 A6 A7 A8 A9 n1 n2 n3 n4 n5 n6 n7 n8 n9 hp1 hp2 hp3 hp4 hp5 hp6 hp7 hp8
      refine ⟨fun σ' H' => ∃ v, σ' = [some (.ref p), some (.ref a), none, some (.ref B), some v, none] ∧ G p true H' v ∧ Off (fun b => b = p) H H' ∧ PoolAt H' p, ?_, ?_⟩
      · walk_at "rd"
        refine ⟨p, B, bags, rfl, hp10, eB, hBp, by omega, by omega, fun x H' hx off hp' => ?_⟩
        exact ⟨x, rfl, (AB x hx).keep off, off10.trans off, hp'⟩
      clear AB eB hxs hbl hp10 off10 hta10 n10 hp9
      rintro σ' G0 ⟨bag, rfl, gbag, o0', gp0⟩
      have hta0 := o0' _ _ (hp.notTup hta) hta
      have gws : ∀ (H' : Hp), Off (fun b => b = p) H H' → ∀ u ∈ (V.str z :: xr), ∀ L, G p L H' u := fun H' o' u hu L => by
        rcases List.mem_cons.mp hu with rfl | hu
        · exact G.str _ _ _ _
        · exact (DrAll.mem (hpl L) u hu).keep o'
      refine ⟨fun σ' H' => ∃ D xs, σ' = [some (.ref p), some (.ref a), none, some (.ref B), some bag, some (.ref D)] ∧ H' D = some (.lst xs) ∧ D ≠ p ∧ AllG p H' xs ∧ 0 < xs.length ∧ xs.length ≤ 8 ∧ G p true H' bag ∧ Off (fun b => b = p) H H' ∧ PoolAt H' p, ?_, ?_⟩
      · walk_at "rd"
        have sm : ∀ {n : Nat}, n ≤ 20 → n ≤ sizeLine := fun h => Nat.le_trans h (by decide +kernel)
        have lx : (V.str z :: xr).length ≤ 3 := by rw [List.length_cons]; rcases wordD_some hz with q | q <;> omega
        have lc : ∀ lo hi, (cutV (V.str z :: xr) lo hi).length ≤ 3 := fun lo hi => Nat.le_trans (cutV_length _ _ _) lx
        have S0 : Same G0 G0 := Same.refl _
        have oS : ∀ {H' : Hp}, Same G0 H' → Off (fun b => b = p) H H' := fun s => o0'.trans (Off.same s)
        refine And.intro (Nat.le_of_ble_eq_true rfl) (fun q1 H1 n1 => ?_)
        have S1 := n1.same
        have A1 : AllG p H1 [.ref q1] := AllG.nil.add n1.off (G.tup (L := true) n1.at_ (gp0.same S1) (G.flats rfl))
        refine ⟨_, rfl, a, _, 0, .str z, rfl, rfl, SqT.of (S1 _ _ hta0), atI_nat (xs := .str z :: xr) (j := 0) (v := V.str z) rfl, ?_⟩
        refine ⟨_, rfl, a, _, rfl, .inr (SqT.of (S1 _ _ hta0)), fun l hl => ?_⟩
        have n2 : New H1 (upd H1 l (.lst (V.str z :: xr))) l (.lst (V.str z :: xr)) := New.mk' hl
        generalize upd H1 l (.lst (V.str z :: xr)) = H2 at n2 ⊢
        have S2 := S1.trans n2.same
        have A2 := A1.add n2.off (G.lst n2.at_ ((gp0.same S1).ne n2.free) (fun u hu => gws _ (oS S2) u hu true))
        walk_at "rd"
        refine And.intro (Nat.le_of_ble_eq_true rfl) (fun q3 H3 n3 => ?_)
        have S3 := S2.trans n3.same
        refine ⟨a, q3, _, _, rfl, rfl, S3 _ _ hta0, n3.at_, sm (by simp only [List.length_cons, List.length_nil] at lx ⊢; omega), fun t4 H4 s4 ht4 _ => ?_⟩
        have S4 := S3.trans s4
        have A4 := (A2.keep (n3.off)).add (Off.same s4) (G.tup (L := true) ht4 (gp0.same S4) fun u hu => (List.mem_append.mp hu).elim (fun h => gws _ (oS S4) u h true) (G.flats rfl u))
        walk_at "rd"
        refine ⟨a, _, rfl, S4 _ _ hta0, fun t5 H5 s5 ht5 _ => ?_⟩
        have S5 := S4.trans s5
        have A5 := A4.add (Off.same s5) (G.tup (L := true) ht5 (gp0.same S5) fun u hu => gws _ (oS S5) u (mem_cutV hu) true)
        walk_at "rd"
        refine And.intro (Nat.le_of_ble_eq_true rfl) (fun q6 H6 n6 => ?_)
        have S6 := S5.trans n6.same
        walk_at "rd"
        refine ⟨a, _, rfl, S6 _ _ hta0, fun t7 H7 s7 ht7 _ => ?_⟩
        have S7 := S6.trans s7
        refine ⟨q6, t7, _, _, rfl, rfl, s7 _ _ n6.at_, ht7, sm (by have := lc (some 1) none; simp only [List.length_cons, List.length_nil]; omega), fun t8 H8 s8 ht8 _ => ?_⟩
        have S8 := S7.trans s8
        have A8 := ((A5.keep n6.off).keep (Off.same s7)).add (Off.same s8) (G.tup (L := true) ht8 (gp0.same S8) fun u hu => (List.mem_append.mp hu).elim (G.flats rfl u) fun h => gws _ (oS S8) u (mem_cutV h) true)
        walk_at "rd"
        refine And.intro (Nat.le_of_ble_eq_true rfl) (fun q9 H9 n9 => ?_)
        have S9 := S8.trans n9.same
        walk_at "rd"
        refine ⟨a, _, rfl, S9 _ _ hta0, fun t10 H10 s10 ht10 _ => ?_⟩
        have S10 := S9.trans s10
        refine ⟨q9, t10, _, _, rfl, rfl, s10 _ _ n9.at_, ht10, sm (by have := lc (some 1) none; simp only [List.length_cons, List.length_nil]; omega), fun t11 H11 s11 ht11 _ => ?_⟩
        have S11 := S10.trans s11
        have A11 := ((A8.keep n9.off).keep (Off.same s10)).add (Off.same s11) (G.tup (L := true) ht11 (gp0.same S11) fun u hu => (List.mem_append.mp hu).elim (G.flats rfl u) fun h => gws _ (oS S11) u (mem_cutV h) true)
        walk_at "rd"
        refine And.intro (Nat.le_of_ble_eq_true rfl) (fun D H12 n12 => ?_)
        have S12 := S11.trans n12.same
        refine ⟨D, _, rfl, n12.at_, (gp0.same S11).ne n12.free, ?_, by simp, by simp, gbag.keep (Off.same S12), oS S12, gp0.same S12⟩
        exact ((((A11.flat (v := .non) rfl).flat (v := .str z) rfl).keep n12.off).sub fun v hv => by
          simp only [List.mem_cons, List.not_mem_nil, or_false] at hv ⊢
          rcases hv with h | h | h | h | h | h | h | h <;> simp [h])
      rintro σ' G1 ⟨D, bad1, rfl, hD1, hDp1, AD1, lD0, lD1, gbag1, o1', gp1⟩
      have lz : ∀ {n : Nat}, n ≤ 40 → n ≤ sizeLine := fun h => Nat.le_trans h (by decide +kernel)
      -- one literal more behind the list
      have more : ∀ {N M : Nat} {G1 H1 H2 : Hp} {D L : Addr} {xs ys : List V} {x : V}, H1 D = some (.lst xs) → AllG p H1 xs → 0 < xs.length → xs.length ≤ N → AllG p H1 ys → ys.length ≤ M → N + M ≤ 40 → New H1 H2 L (.lst ys) → PoolAt H1 p → G p true H1 bag → Off (fun b => b = p) H H1 →
          ∀ {X : V → Hp → Prop}, (∀ D' H' zs, H' D' = some (.lst zs) → D' ≠ p → AllG p H' zs → 0 < zs.length → zs.length ≤ N + M → G p true H' bag → Off (fun b => b = p) H H' → PoolAt H' p → X (.ref D') H') → rCat (.ref D) (.ref L) H2 X := by
        intro N M G1 H1 H2 D L xs ys x hD aX l0 l1 aY l2 l3 nL hp' gb oo X kk
        refine ⟨D, L, xs, ys, rfl, rfl, nL.same _ _ hD, nL.at_, lz (by omega), fun D' hD' => ?_⟩
        have nD : New H2 (upd H2 D' (.lst (xs ++ ys))) D' (.lst (xs ++ ys)) := New.mk' hD'
        generalize upd H2 D' (.lst (xs ++ ys)) = H3 at nD ⊢
        have s13 := nL.same.trans nD.same
        refine kk D' H3 _ nD.at_ ((hp'.same nL.same).ne nD.free) (fun v hv => ?_) (by rw [List.length_append]; omega) (by rw [List.length_append]; omega) (gb.keep (Off.same s13)) (oo.trans (Off.same s13)) (hp'.same s13)
        rcases List.mem_append.mp hv with h | h
        · exact (aX.keep (Off.same s13)) v h
        · exact (aY.keep (Off.same s13)) v h
      refine ⟨fun σ' H' => ∃ D xs, σ' = [some (.ref p), some (.ref a), none, some (.ref B), some bag, some (.ref D)] ∧ H' D = some (.lst xs) ∧ D ≠ p ∧ AllG p H' xs ∧ 0 < xs.length ∧ xs.length ≤ 9 ∧ G p true H' bag ∧ Off (fun b => b = p) H H' ∧ PoolAt H' p, ?_, ?_⟩
      · walk_at "rd"
        refine And.intro (Nat.le_of_ble_eq_true rfl) (fun q1 H1 n1 => ?_)
        have A1 : AllG p H1 [.ref q1] := AllG.nil.add n1.off (G.tup (L := true) n1.at_ (gp1.same n1.same) (fun u hu => by
          simp only [List.mem_cons, List.not_mem_nil, or_false] at hu
          rcases hu with rfl | rfl
          · exact G.str _ _ _ _
          · exact gbag1.keep n1.off))
        walk_at "rd"
        refine And.intro (Nat.le_of_ble_eq_true rfl) (fun L H2 n2 => ?_)
        exact more (N := 8) (M := 1) (G1 := G1) (x := .non) (n1.same _ _ hD1) (AD1.keep n1.off) lD0 lD1 A1 (Nat.le_refl _) (by omega) n2 (gp1.same n1.same) (gbag1.keep n1.off) (o1'.trans n1.off) (fun D' H' zs h1 h2 h3 h4 h5 h6 h7 h8 => ⟨D', zs, rfl, h1, h2, h3, h4, h5, h6, h7, h8⟩)
      clear gbag1 o1' gp1 AD1 hD1 hDp1 lD0 lD1 gbag gp0 o0' hta0 D bad1
      have lc : ∀ lo hi, (cutV (V.str z :: xr) lo hi).length ≤ 3 := fun lo hi => Nat.le_trans (cutV_length _ _ _) (by rw [List.length_cons]; rcases wordD_some hz with q | q <;> omega)
      rintro σ' G2 ⟨D, bad1, rfl, hD1, hDp1, AD1, l0, l1, gb, o1', gp⟩
      have hta1 := o1' _ _ (hp.notTup hta) hta
      have og : ∀ {H' : Hp}, Same G2 H' → Off (fun b => b = p) H H' := fun s => o1'.trans (Off.same s)
      have gw : G p true G2 (.ref a) := G.tup hta1 gp fun u hu => gws _ o1' u hu true
      refine ⟨fun σ' H' => ∃ D xs, σ' = [some (.ref p), some (.ref a), none, some (.ref B), some bag, some (.ref D)] ∧ H' D = some (.lst xs) ∧ D ≠ p ∧ AllG p H' xs ∧ 0 < xs.length ∧ xs.length ≤ 14 ∧ G p true H' bag ∧ Off (fun b => b = p) H H' ∧ PoolAt H' p, ?_, ?_⟩
      · skip
        walk_at "rd"
        refine And.intro (Nat.le_of_ble_eq_true rfl) (fun q1 H1 n1 => ?_)
        have S1 : Same G2 H1 := (Same.refl _).trans n1.same
        have A1 := (AllG.nil (p := p) (H := G2)).add n1.off (G.tup (L := true) n1.at_ (gp.same S1) (fun u hu => by
          simp only [List.mem_cons, List.not_mem_nil, or_false] at hu
          rcases hu with rfl | rfl
          · exact G.str _ _ _ _
          · exact gb.keep (Off.same S1)))
        walk_at "rd"
        refine And.intro (Nat.le_of_ble_eq_true rfl) (fun q2 H2 n2 => ?_)
        have S2 : Same G2 H2 := S1.trans n2.same
        walk_at "rd"
        refine And.intro (Nat.le_of_ble_eq_true rfl) (fun q3 H3 n3 => ?_)
        have S3 : Same G2 H3 := S2.trans n3.same
        have A3 := (A1.keep n2.off).add n3.off (G.tup (L := true) n3.at_ (gp.same S3) (fun u hu => by
          simp only [List.mem_cons, List.not_mem_nil, or_false] at hu
          rcases hu with rfl | rfl | rfl
          · exact G.str _ _ _ _
          · exact G.tup (n3.same _ _ n2.at_) (gp.same S3) (G.flats rfl)
          · exact gb.keep (Off.same S3)))
        walk_at "rd"
        refine And.intro (Nat.le_of_ble_eq_true rfl) (fun q4 H4 n4 => ?_)
        have S4 : Same G2 H4 := S3.trans n4.same
        walk_at "rd"
        refine And.intro (Nat.le_of_ble_eq_true rfl) (fun q5 H5 n5 => ?_)
        have S5 : Same G2 H5 := S4.trans n5.same
        have A5 := (A3.keep n4.off).add n5.off (G.tup (L := true) n5.at_ (gp.same S5) (fun u hu => by
          simp only [List.mem_cons, List.not_mem_nil, or_false] at hu
          rcases hu with rfl | rfl | rfl
          · exact G.str _ _ _ _
          · exact gb.keep (Off.same S5)
          · exact G.tup (n5.same _ _ n4.at_) (gp.same S5) (G.flats rfl)))
        walk_at "rd"
        refine And.intro (Nat.le_of_ble_eq_true rfl) (fun q6 H6 n6 => ?_)
        have S6 : Same G2 H6 := S5.trans n6.same
        have A6 := A5.add n6.off (G.tup (L := true) n6.at_ (gp.same S6) (fun u hu => by
          simp only [List.mem_cons, List.not_mem_nil, or_false] at hu
          rcases hu with rfl | rfl
          · exact G.str _ _ _ _
          · exact gb.keep (Off.same S6)))
        walk_at "rd"
        refine And.intro (Nat.le_of_ble_eq_true rfl) (fun q7 H7 n7 => ?_)
        have S7 : Same G2 H7 := S6.trans n7.same
        have A7 := A6.add n7.off (G.tup (L := true) n7.at_ (gp.same S7) (fun u hu => by
          simp only [List.mem_cons, List.not_mem_nil, or_false] at hu
          rcases hu with rfl | rfl
          · exact G.str _ _ _ _
          · exact gb.keep (Off.same S7)))
        walk_at "rd"
        refine And.intro (Nat.le_of_ble_eq_true rfl) (fun L HL nL => ?_)
        exact more (N := 9) (M := 5) (G1 := G2) (x := .non) (S7 _ _ hD1) (AD1.keep (Off.same S7)) l0 l1 (A7.sub fun v hv => by
          simp only [List.mem_cons, List.not_mem_nil, or_false] at hv ⊢
          rcases hv with h | h | h | h | h <;> simp [h]) (Nat.le_of_ble_eq_true rfl) (by omega) nL (gp.same S7) (gb.keep (Off.same S7)) (og S7) (fun D' H' zs h1 h2 h3 h4 h5 h6 h7 h8 => ⟨D', zs, rfl, h1, h2, h3, h4, h5, h6, h7, h8⟩)
      rintro σ' G3 ⟨D, bad1, rfl, hD1, hDp1, AD1, l0, l1, gb, o1', gp⟩
      have hta1 := o1' _ _ (hp.notTup hta) hta
      have og : ∀ {H' : Hp}, Same G3 H' → Off (fun b => b = p) H H' := fun s => o1'.trans (Off.same s)
      have gw : G p true G3 (.ref a) := G.tup hta1 gp fun u hu => gws _ o1' u hu true
      refine ⟨fun σ' H' => ∃ D xs, σ' = [some (.ref p), some (.ref a), none, some (.ref B), some bag, some (.ref D)] ∧ H' D = some (.lst xs) ∧ D ≠ p ∧ AllG p H' xs ∧ 0 < xs.length ∧ xs.length ≤ 15 ∧ G p true H' bag ∧ Off (fun b => b = p) H H' ∧ PoolAt H' p, ?_, ?_⟩
      · skip
        walk_at "rd"
        refine And.intro (Nat.le_of_ble_eq_true rfl) (fun q1 H1 n1 => ?_)
        have S1 : Same G3 H1 := (Same.refl _).trans n1.same
        have A1 := (AllG.nil (p := p) (H := G3)).add n1.off (G.tup (L := true) n1.at_ (gp.same S1) (fun u hu => by
          simp only [List.mem_cons, List.not_mem_nil, or_false] at hu
          rcases hu with rfl | rfl
          · exact G.str _ _ _ _
          · exact gw.keep (Off.same S1)))
        walk_at "rd"
        refine And.intro (Nat.le_of_ble_eq_true rfl) (fun L HL nL => ?_)
        exact more (N := 14) (M := 1) (G1 := G3) (x := .non) (S1 _ _ hD1) (AD1.keep (Off.same S1)) l0 l1 (A1.sub fun v hv => by
          simp only [List.mem_cons, List.not_mem_nil, or_false] at hv ⊢
          simp [hv]) (Nat.le_of_ble_eq_true rfl) (by omega) nL (gp.same S1) (gb.keep (Off.same S1)) (og S1) (fun D' H' zs h1 h2 h3 h4 h5 h6 h7 h8 => ⟨D', zs, rfl, h1, h2, h3, h4, h5, h6, h7, h8⟩)
      rintro σ' G4 ⟨D, bad1, rfl, hD1, hDp1, AD1, l0, l1, gb, o1', gp⟩
      have hta1 := o1' _ _ (hp.notTup hta) hta
      have og : ∀ {H' : Hp}, Same G4 H' → Off (fun b => b = p) H H' := fun s => o1'.trans (Off.same s)
      have gw : G p true G4 (.ref a) := G.tup hta1 gp fun u hu => gws _ o1' u hu true
      refine ⟨fun σ' H' => ∃ D xs, σ' = [some (.ref p), some (.ref a), none, some (.ref B), some bag, some (.ref D)] ∧ H' D = some (.lst xs) ∧ D ≠ p ∧ AllG p H' xs ∧ 0 < xs.length ∧ xs.length ≤ 21 ∧ G p true H' bag ∧ Off (fun b => b = p) H H' ∧ PoolAt H' p, ?_, ?_⟩
      · skip
        walk_at "rd"
        refine And.intro (Nat.le_of_ble_eq_true rfl) (fun q1 H1 n1 => ?_)
        have S1 : Same G4 H1 := (Same.refl _).trans n1.same
        walk_at "rd"
        refine And.intro (Nat.le_of_ble_eq_true rfl) (fun q2 H2 n2 => ?_)
        have S2 : Same G4 H2 := S1.trans n2.same
        have A2 := ((AllG.nil (p := p) (H := G4)).keep n1.off).add n2.off (G.tup (L := true) n2.at_ (gp.same S2) (fun u hu => by
          simp only [List.mem_cons, List.not_mem_nil, or_false] at hu
          rcases hu with rfl | rfl
          · exact G.str _ _ _ _
          · exact G.tup (n2.same _ _ n1.at_) (gp.same S2) (G.flats rfl)))
        walk_at "rd"
        refine And.intro (Nat.le_of_ble_eq_true rfl) (fun q3 H3 n3 => ?_)
        have S3 : Same G4 H3 := S2.trans n3.same
        walk_at "rd"
        refine And.intro (Nat.le_of_ble_eq_true rfl) (fun q4 H4 n4 => ?_)
        have S4 : Same G4 H4 := S3.trans n4.same
        walk_at "rd"
        refine And.intro (Nat.le_of_ble_eq_true rfl) (fun q5 H5 n5 => ?_)
        have S5 : Same G4 H5 := S4.trans n5.same
        have A5 := ((A2.keep n3.off).keep n4.off).add n5.off (G.tup (L := true) n5.at_ (gp.same S5) (fun u hu => by
          simp only [List.mem_cons, List.not_mem_nil, or_false] at hu
          rcases hu with rfl | rfl | rfl
          · exact G.str _ _ _ _
          · exact G.tup (n5.same _ _ (n4.same _ _ n3.at_)) (gp.same S5) (G.flats rfl)
          · exact G.tup (n5.same _ _ n4.at_) (gp.same S5) (G.flats rfl)))
        walk_at "rd"
        refine And.intro (Nat.le_of_ble_eq_true rfl) (fun q6 H6 n6 => ?_)
        have S6 : Same G4 H6 := S5.trans n6.same
        have A6 := A5.add n6.off (G.tup (L := true) n6.at_ (gp.same S6) (fun u hu => by
          simp only [List.mem_cons, List.not_mem_nil, or_false] at hu
          rcases hu with rfl | rfl | rfl
          · exact G.str _ _ _ _
          · exact gw.keep (Off.same S6)
          · exact gw.keep (Off.same S6)))
        walk_at "rd"
        refine ⟨a, _, 0, .str z, rfl, rfl, SqT.of (S6 _ _ hta1), atI_nat (xs := .str z :: xr) (j := 0) (v := V.str z) rfl, ?_⟩
        walk_at "rd"
        refine And.intro (Nat.le_of_ble_eq_true rfl) (fun q7 H7 n7 => ?_)
        have S7 : Same G4 H7 := S6.trans n7.same
        walk_at "rd"
        refine And.intro (Nat.le_of_ble_eq_true rfl) (fun q8 H8 n8 => ?_)
        have S8 : Same G4 H8 := S7.trans n8.same
        walk_at "rd"
        refine ⟨a, _, rfl, S8 _ _ hta1, fun tc Hc sc htc _ => ?_⟩
        have Sc : Same G4 Hc := S8.trans sc
        refine ⟨q8, tc, _, _, rfl, rfl, sc _ _ n8.at_, htc, lz (by have := lc (some 1) none; simp only [List.length_cons, List.length_nil]; omega), fun td Hd sd htd _ => ?_⟩
        have Sd : Same G4 Hd := Sc.trans sd
        have g1 : G p true Hd (.ref q7) := G.tup (sd _ _ (sc _ _ (n8.same _ _ n7.at_))) (gp.same Sd) (G.flats rfl)
        have Ad := (((A6.keep n7.off).keep n8.off).keep (Off.same sc)).add (Off.same sd) (G.tup (L := true) htd (gp.same Sd) fun u hu => (List.mem_append.mp hu).elim (fun h => by rw [List.mem_singleton] at h; rw [h]; exact g1) fun h => gws _ (og Sd) u (mem_cutV h) true)
        walk_at "rd"
        refine fun q9 H9 n9 => ?_
        have S9 : Same G4 H9 := Sd.trans n9.same
        have A9 := Ad.add (L := false) n9.off ⟨_, .dct n9.at_ ((gp.same Sd).ne n9.free) rfl⟩
        have As := A9.flat (v := .str "not") rfl
        walk_at "rd"
        refine And.intro (Nat.le_of_ble_eq_true rfl) (fun L HL nL => ?_)
        exact more (N := 15) (M := 6) (G1 := G4) (x := .non) (S9 _ _ hD1) (AD1.keep (Off.same S9)) l0 l1 (As.sub fun v hv => by
          simp only [List.mem_cons, List.not_mem_nil, or_false] at hv ⊢
          rcases hv with h | h | h | h | h | h <;> simp [h]) (Nat.le_of_ble_eq_true rfl) (by omega) nL (gp.same S9) (gb.keep (Off.same S9)) (og S9) (fun D' H' zs h1 h2 h3 h4 h5 h6 h7 h8 => ⟨D', zs, rfl, h1, h2, h3, h4, h5, h6, h7, h8⟩)
      rintro σ' G9 ⟨D, bad1, rfl, hD1, hDp1, AD1, l0, l1, gb, o1', gp⟩
      walk_at "rd"
      refine ⟨p, D, bad1, rfl, gp, hD1, hDp1, l0, by omega, fun x H' hx off hp' => ?_⟩
      obtain ⟨L, g⟩ := AD1 x hx
      exact k x L H' (g.keep off) (o1'.trans off) hp'
end
end K54
end
section
set_option Elab.async false
set_option linter.all false
set_option maxRecDepth 100000
set_option maxHeartbeats 2000000
namespace K54
open PySem L2
local macro_rules | `(tactic| walk_at "hp") => `(tactic| first | assumption | exact upd_same | (refine (upd_ne (by first | assumption | (apply Ne.symm; assumption))).trans ?_; walk_at "hp"))
local macro_rules | `(tactic| walk_at "rd1") => `(tactic| first
  | (refine ⟨_, rfl, ?_⟩)
  | (refine ⟨_, _, rfl, rfl, ?_⟩)
  | (refine ⟨(rfl : scal _ _ = true), ?_⟩)
  | (refine And.intro (by show (0 : Int) < _; decide) ?_)
  | (refine And.intro (And.intro (by decide) (by decide)) ?_)
  | (refine And.intro (Or.inr (And.intro (by decide) (by decide))) ?_)
  | (refine And.intro (And.intro (by decide) (And.intro (by decide) (by decide))) ?_)
  | (refine And.intro (by assumption) ?_)
  | (refine And.intro (And.intro (by omega) (by omega)) ?_)
  | (refine And.intro (Or.inl (And.intro (by omega) (by omega))) ?_)
  | (refine' ⟨_, _, _, _, rfl, rfl, Or.inl (Or.inl ?h1), ?h2, ?h3⟩; (case h1 => walk_at "hp"); (case h2 => rfl))
  | (refine' ⟨_, _, _, _, rfl, rfl, ?h1, ?h2, ?h3⟩; (case h1 => walk_at "hp"); (case h2 => rfl))
  | (refine' ⟨_, _, rfl, Or.inl (Or.inl (Or.inl ?h1)), ?h3⟩; (case h1 => walk_at "hp"))
  | (refine Or.inl ⟨_, rfl, ?_⟩))
local macro_rules | `(tactic| walk_at "rd") => `(tactic| repeat walk_at "rd1")

theorem sc__law_refused : FnScope ["thing", "seen", "e"] ["thing"] (defScope s__law_refused) := ⟨rfl, rfl, rfl, by decide +kernel, rfl, by decide +kernel, by decide +kernel⟩
theorem sc_law : FnScope ["script", "pool", "plain", "rules", "k", "wish", "things", "thing", "told", "strange"] ["script"] (defScope s_law) := ⟨rfl, rfl, rfl, by decide +kernel, rfl, by decide +kernel, by decide +kernel⟩
section
variable {P : Program} {w : World} {K : PySem.W.Frag} {mg : Str → Option Value} {base : Heap} {C CB fB aW : Addr}
theorem Plain.two {p t : Addr} {H : Hp} {v : V} {d : PyData} {z : Str} (h1 : H t = some (.tup [.str z, v])) (hp : PoolAt H p) (h3 : Plain p H v d) : Plain p H (.ref t) (.tuple [.str z, d]) := fun L => .tup h1 (hp.notTup h1) (.cons (.str _) (.cons (h3 L) .nil))
theorem Plain.three {p t : Addr} {H : Hp} {v v' : V} {d d' : PyData} {z : Str} (h1 : H t = some (.tup [.str z, v, v'])) (hp : PoolAt H p) (h3 : Plain p H v d) (h4 : Plain p H v' d') : Plain p H (.ref t) (.tuple [.str z, d, d']) := fun L => .tup h1 (hp.notTup h1) (.cons (.str _) (.cons (h3 L) (.cons (h4 L) .nil)))
theorem Plain.ints {p t : Addr} {H : Hp} {i j : Int} (h1 : H t = some (.tup [.int i, .int j])) (hp : PoolAt H p) : Plain p H (.ref t) (.tuple [.int i, .int j]) := fun L => .tup h1 (hp.notTup h1) (.cons (.int _) (.cons (.int _) .nil))
def spDeeper (K : PySem.W.Frag) : Sp := fun vs H Q _ => ∃ (p : Addr) (v : V) (d : PyData) (n : Nat), vs = [.ref p, v, .int n] ∧ PoolAt H p ∧ Plain p H v d ∧ n ≤ 100 ∧ ∀ v' d' H', Plain p H' v' d' → Off (fun b => b = p) H H' → PoolAt H' p → Q v' H'
theorem ok_deeper {f : Addr} {fd : FuncData} (F : Fun K "_law_deeper" "_law_deeper" s__law_deeper f fd) (T : Blt mg) (c__law_draw : CalG P w K mg base 1 "_law_draw" (spDraw K)) (c__law_pick : CalG P w K mg base 2 "_law_pick" (spPick K)) : FnG P w K mg base (CXe P w) 3 f fd ["pool", "wish", "more"] (spDeeper K) := by
  refine F.okG sc__law_deeper (fun vs H Q E h => ?_) (fun cdv A outer s H vs Q E hgd hr h => ?_)
  · obtain ⟨p, v, d, n, rfl, _⟩ := h; rfl
  · obtain ⟨p, v, d, n, rfl, hp, hv, hn, k⟩ := h
    refine ⟨_, (pss_cons (ps_for (passes_of rfl) rfl (pi_range1 (by rfl) T.n_range (pa_cons (pv 2) pa_nil)) (pg_name (i := 3) sc__law_deeper.nd rfl (Or.inl rfl))
      (pss_one (ps_if (pt_cmpR op_eq (pg_c c__law_draw hgd hr (by decide) (pa_cons (pv 0) (pa_cons pe_int pa_nil))) pe_int (nomark _)) (pss_one (ps_set (i := 1) sc__law_deeper.nd rfl (Or.inl rfl) (pe_tupA (pa_cons pe_str (pa_cons (pv 1) pa_nil))))) (pss_one (ps_set (i := 1) sc__law_deeper.nd rfl (Or.inl rfl) (pg_c c__law_pick hgd hr (by decide) (pa_cons (pv 0) (pa_cons (pe_lstA (pa_cons (pe_tupA (pa_cons pe_str (pa_cons (pv 1) (pa_cons (pe_tupA (pa_cons pe_str (pa_cons (pe_tupA (pa_cons pe_int (pa_cons pe_int pa_nil))) pa_nil))) pa_nil)))) (pa_cons (pe_tupA (pa_cons pe_str (pa_cons (pe_tupA (pa_cons pe_str (pa_cons (pe_tupA (pa_cons pe_int (pa_cons pe_int pa_nil))) pa_nil))) (pa_cons (pv 1) pa_nil)))) pa_nil))) pa_nil))))))))
      (pss_one (ps_ret (pv 1)))), ?_⟩
    walk_at "rd"
    refine ⟨by omega, by omega, ?_⟩
    rw [Int.toNat_natCast]
    refine for_range (n := n) (fun i σ H' => ∃ (v' : V) (d' : PyData) (kv : Option V), σ = [some (.ref p), some v', some (.int n), kv] ∧ Plain p H' v' d' ∧ Off (fun b => b = p) H H' ∧ PoolAt H' p) ⟨v, d, none, rfl, hv, Off.refl _, hp⟩ ?_ ?_
    · rintro i σ H1 hi ⟨v1, d1, kv, rfl, hv1, o1, hp1⟩
      walk_at "rd"
      refine ⟨p, 2, rfl, hp1, by decide, by decide, fun r H2 a2 b2 o2 hp2 => ?_⟩
      have hv2 := hv1.keep o2
      walk_at "rd"
      refine ite2 (fun q => ?_) (fun q => ?_)
      · walk_at "rd"
        refine And.intro (Nat.le_of_ble_eq_true rfl) (fun t H3 n3 => ?_)
        have hp3 := hp2.same n3.same
        exact ⟨_, _, _, rfl, Plain.two n3.at_ hp3 (hv2.keep n3.off), (o1.trans o2).trans n3.off, hp3⟩
      · walk_at "rd"
        refine And.intro (Nat.le_of_ble_eq_true rfl) (fun t1 H3 n3 => ?_)
        have hp3 := hp2.same n3.same
        walk_at "rd"
        refine And.intro (Nat.le_of_ble_eq_true rfl) (fun t2 H4 n4 => ?_)
        have hp4 := hp3.same n4.same
        walk_at "rd"
        refine And.intro (Nat.le_of_ble_eq_true rfl) (fun t3 H5 n5 => ?_)
        have hp5 := hp4.same n5.same
        have w3 := Plain.three n5.at_ hp5 (((hv2.keep n3.off).keep n4.off).keep n5.off) ((Plain.two n4.at_ hp4 ((Plain.ints n3.at_ hp3).keep n4.off)).keep n5.off)
        walk_at "rd"
        refine And.intro (Nat.le_of_ble_eq_true rfl) (fun t4 H6 n6 => ?_)
        have hp6 := hp5.same n6.same
        walk_at "rd"
        refine And.intro (Nat.le_of_ble_eq_true rfl) (fun t5 H7 n7 => ?_)
        have hp7 := hp6.same n7.same
        walk_at "rd"
        refine And.intro (Nat.le_of_ble_eq_true rfl) (fun t6 H8 n8 => ?_)
        have hp8 := hp7.same n8.same
        have s28 := ((((n3.same.trans n4.same).trans n5.same).trans n6.same).trans n7.same).trans n8.same
        have w6 := Plain.three n8.at_ hp8 ((Plain.two n7.at_ hp7 ((Plain.ints n6.at_ hp6).keep n7.off)).keep n8.off) (hv2.keep (Off.same s28))
        walk_at "rd"
        refine And.intro (Nat.le_of_ble_eq_true rfl) (fun B H9 n9 => ?_)
        have hp9 := hp8.same n9.same
        refine ⟨p, B, _, rfl, hp9, n9.at_, hp8.ne n9.free, by simp, by simp, fun x H' hx off hp' => ?_⟩
        have oo := ((o1.trans o2).trans (Off.same (s28.trans n9.same))).trans off
        have s59 := ((n6.same.trans n7.same).trans n8.same).trans n9.same
        simp only [List.mem_cons, List.not_mem_nil, or_false] at hx
        rcases hx with rfl | rfl
        · exact ⟨_, _, _, rfl, (w3.keep (Off.same s59)).keep off, oo, hp'⟩
        · exact ⟨_, _, _, rfl, (w6.keep n9.off).keep off, oo, hp'⟩
    · rintro σ H1 ⟨v1, d1, kv, rfl, hv1, o1, hp1⟩
      exact ⟨_, rfl, k v1 d1 H1 hv1 o1 hp1⟩
/-- a thing that is no book of rules, and is equal to itself -/
def Strange (H : Hp) (v : V) : Prop := ∃ (d : PyData) (L : Bool) (M : Addr → Prop), Dr L M H v d ∧ ((SeqAt.shaped d = true ∧ PyData.eqv d d = true) ∨ ∃ a, v = .ref a ∧ H a = some (.dK []) ∧ ¬ M a)
def spRefused (K : PySem.W.Frag) : Sp := fun vs H Q _ => ∃ v, vs = [v] ∧ Strange H v ∧ ∀ H', Q (.bl true) H'
theorem ok_refused {f : Addr} {fd : FuncData} (F : Fun K "_law_refused" "_law_refused" s__law_refused f fd) (T : RulT P K mg C CB fB) (TK : RulK K C) (c_is_wish : CalG P w K mg base 10 "is_wish" (spIsW K C CB)) : FnG P w K mg base (CXe P w) 11 f fd ["thing"] (spRefused K) := by
  refine F.okG sc__law_refused (fun vs H Q E h => ?_) (fun cdv A outer s H vs Q E hgd hr h => ?_)
  · obtain ⟨v, rfl, _⟩ := h; rfl
  · obtain ⟨v, rfl, ⟨d, L, M, hd, hs⟩, k⟩ := h
    refine ⟨_, pss_cons (ps_set (i := 1) sc__law_refused.nd rfl (Or.inl rfl) pe_bl) (pss_cons (ps_try_as (i := 2) rfl rfl sc__law_refused.nd rfl rfl ⟨rfl, by decide, .inl T.x_BadRules.gC⟩ takes0
        (fun W pn xe tk _ => pss_one (ps_expr (pg_cS c_is_wish hgd hr (by decide) (fun σ => passAt tk σ) (pa_cons (pv 0) (pa_cons (pe_tupA (pa_cons pe_str (pa_cons (pe_tupA (pa_cons pe_int (pa_cons pe_int pa_nil))) pa_nil))) pa_nil)))))
        (fun a oe cls d pn hz hf => pss_one (ps_set (i := 1) sc__law_refused.nd rfl (Or.inl rfl) (pe_cmpR (op_eqAny hr.units) (pe_xf T.x_BadRules.xf T.x_BadRules.noN hz hf (pv 2)) (pv 0) (nomark _)))))
      (pss_one (ps_ret (pv 1)))), ?_⟩
    walk_at "rd"
    refine And.intro (Nat.le_of_ble_eq_true rfl) (fun t1 H1 n1 => ?_)
    refine And.intro (Nat.le_of_ble_eq_true rfl) (fun t2 H2 n2 => ?_)
    have hd2 := hd.keep (Off.same (n1.same.trans n2.same))
    obtain ⟨t, ty, ht⟩ := TK.no hd2
    refine ⟨v, .ref t2, rfl, .inr ⟨t, ty, ht, fun e he => ?_⟩⟩
    refine ⟨true, T.x_BadRules.te, fun _ a ha => ?_, fun z => nomatch z⟩
    refine ⟨_, rfl, rfl, rfl, e, _, v, rfl, upd_same, rfl, ?_⟩
    have s3 : Same H2 (upd H2 e (.xd [("value", v)])) := same_new he
    refine ⟨_, rfl, ?_⟩
    rcases hs with ⟨h1, h2⟩ | ⟨a', rfl, h1, h2⟩
    · have hd3 := hd2.keep (Off.same s3)
      refine .inl ⟨d, d, L, L, M, M, hd3, hd3, h1, h1, ?_⟩
      rw [h2]
      exact ⟨_, rfl, k _⟩
    · have h3 := s3 _ _ ((n1.same.trans n2.same) _ _ h1)
      exact .inr ⟨a', a', rfl, rfl, h3, h3, ⟨_, rfl, k _⟩⟩
end
end K54
end
section
set_option Elab.async false
set_option linter.all false
set_option maxRecDepth 100000
set_option maxHeartbeats 2000000
namespace K54
open PySem L2
local macro_rules | `(tactic| walk_at "hp") => `(tactic| first | assumption | exact upd_same | (refine (upd_ne (by first | assumption | (apply Ne.symm; assumption))).trans ?_; walk_at "hp"))
local macro_rules | `(tactic| walk_at "rd1") => `(tactic| first
  | (refine ⟨_, rfl, ?_⟩)
  | (refine ⟨_, _, rfl, rfl, ?_⟩)
  | (refine ⟨(rfl : scal _ _ = true), ?_⟩)
  | (refine And.intro (by show (0 : Int) < _; decide) ?_)
  | (refine And.intro (And.intro (by decide) (by decide)) ?_)
  | (refine And.intro (Or.inr (And.intro (by decide) (by decide))) ?_)
  | (refine And.intro (And.intro (by decide) (And.intro (by decide) (by decide))) ?_)
  | (refine And.intro (by assumption) ?_)
  | (refine And.intro (And.intro (by omega) (by omega)) ?_)
  | (refine And.intro (Or.inl (And.intro (by omega) (by omega))) ?_)
  | (refine' ⟨_, _, _, _, rfl, rfl, Or.inl (Or.inl ?h1), ?h2, ?h3⟩; (case h1 => walk_at "hp"); (case h2 => rfl))
  | (refine' ⟨_, _, _, _, rfl, rfl, ?h1, ?h2, ?h3⟩; (case h1 => walk_at "hp"); (case h2 => rfl))
  | (refine' ⟨_, _, rfl, Or.inl (Or.inl (Or.inl ?h1)), ?h3⟩; (case h1 => walk_at "hp"))
  | (refine Or.inl ⟨_, rfl, ?_⟩))
local macro_rules | `(tactic| walk_at "rd") => `(tactic| repeat walk_at "rd1")

section
variable {P : Program} {w : World} {K : PySem.W.Frag} {mg : Str → Option Value} {base : Heap} {C CB fB aW : Addr}
theorem wish_mono {c : Int} : ∀ {n m : Nat} {d : PyData}, isWishD c n d = true → n ≤ m → isWishD c m d = true
  | 0, _, _, h, _ => by cases h
  | n + 1, 0, _, _, hm => absurd hm (by omega)
  | n + 1, m + 1, d, h, hm => by
    obtain ⟨n', z, dr, b, w, e, rfl, hz, hl, he⟩ := wish_parts h
    cases e
    have : (dr.all fun d => if 0 < b then isBagD c d else isWishD c m d) = true := by
      rw [List.all_eq_true]
      intro e' he'
      have q := he e' he'
      split
      · rename_i hb; rwa [if_pos hb] at q
      · rename_i hb; rw [if_neg hb] at q; exact wish_mono q (by omega)
    simp only [isWishD, hz, this, hl, decide_true, Bool.and_self]
def spLaw (K : PySem.W.Frag) : Sp := fun vs H Q _ => ∃ (a : Addr) (ns : List Int), vs = [.ref a] ∧ SqL K H a (ns.map V.int) ∧ ns.length ≤ 63 ∧ ∀ H', Q (.bl true) H'
def atMost (N : Nat) (sp : Nat → Sp) : Sp := fun vs H Q E => ∃ n, n ≤ N ∧ sp n vs H Q E
theorem ok_law {f : Addr} {fd : FuncData} (F : Fun K "law" "law" s_law f fd) (T : RulT P K mg C CB fB) (TK : RulK K C) (m_Rules : MakG P w K mg base 4 "Rules" C (spRInit K C CB) []) (c__law_pool : CalG P w K mg base 1 "_law_pool" (spPool K)) (c__law_draw : CalG P w K mg base 1 "_law_draw" (spDraw K)) (c__law_pick : CalG P w K mg base 2 "_law_pick" (spPick K))
    (c__law_rules_drawn : CalG P w K mg base 2 "_law_rules_drawn" (spRDrawn K)) (c__law_wish_drawn : CalG P w K mg base 8 "_law_wish_drawn" (atMost 5 (spWD K))) (c__law_spoiled : CalG P w K mg base 9 "_law_spoiled" (atMost 6 (spSpoil K))) (c__law_deeper : CalG P w K mg base 3 "_law_deeper" (spDeeper K))
    (c_is_wish : CalG P w K mg base 10 "is_wish" (spIsW K C CB)) (c__law_is_wish : CalG P w K mg base 8 "_law_is_wish" (spLIsWish K 6)) (c__law_refused : CalG P w K mg base 11 "_law_refused" (spRefused K)) :
    FnG P w K mg base (CXe P w) 12 f fd ["script"] (spLaw K) := by
  refine F.okG sc_law (fun vs H Q E h => ?_) (fun cdv A outer s H vs Q E hgd hr h => ?_)
  · obtain ⟨a, ns, rfl, _⟩ := h; rfl
  · obtain ⟨a, ns, rfl, hs, hl, k⟩ := h
    refine ⟨_, (pss_cons (ps_set (i := 1) sc_law.nd rfl (Or.inl rfl) (pg_c c__law_pool hgd hr (by decide) (pa_cons (pv 0) pa_nil)))
      (pss_cons (ps_set (i := 2) sc_law.nd rfl (Or.inl rfl) (pg_c c__law_rules_drawn hgd hr (by decide) (pa_cons (pv 1) pa_nil)))
      (pss_cons (ps_set (i := 3) sc_law.nd rfl (Or.inl rfl) (pg_mk m_Rules hgd hr (by decide) (pa_cons (pe_ix ix_tup (pv 2) pe_int (fun _ _ => rfl)) (pa_cons (pe_ix ix_tup (pv 2) pe_int (fun _ _ => rfl)) (pa_cons (pe_ix ix_tup (pv 2) pe_int (fun _ _ => rfl)) pa_nil)))))
      (pss_cons (ps_for (passes_of rfl) rfl (pi_range1 (by rfl) T.n_range (pa_cons pe_int pa_nil)) (pg_name (i := 4) sc_law.nd rfl (Or.inl rfl))
      (pss_cons (ps_set (i := 5) sc_law.nd rfl (Or.inl rfl) (pg_c c__law_wish_drawn hgd hr (by decide) (pa_cons (pv 1) (pa_cons (pv 2) (pa_cons (pe_op op_add pe_int (pg_c c__law_draw hgd hr (by decide) (pa_cons (pv 1) (pa_cons pe_int pa_nil)))) pa_nil)))))
      (pss_cons (ps_set (i := 6) sc_law.nd rfl (Or.inl rfl) (pe_lstA (pa_cons (pv 5) (pa_cons (pg_c c__law_spoiled hgd hr (by decide) (pa_cons (pv 1) (pa_cons (pv 5) pa_nil))) (pa_cons (pg_c c__law_deeper hgd hr (by decide) (pa_cons (pv 1) (pa_cons (pv 5) (pa_cons (pe_op op_add pe_int (pg_c c__law_draw hgd hr (by decide) (pa_cons (pv 1) (pa_cons pe_int pa_nil)))) pa_nil)))) pa_nil)))))
      (pss_cons (ps_for (passes_of rfl) rfl (pi_list (pv 6)) (pg_name (i := 7) sc_law.nd rfl (Or.inl rfl))
      (pss_cons (ps_set (i := 8) sc_law.nd rfl (Or.inl rfl) (pg_c c_is_wish hgd hr (by decide) (pa_cons (pv 3) (pa_cons (pv 7) pa_nil))))
      (pss_one (ps_if (PW.pt (pw_or (pt_not (pt_val (pe_callB call_isi (by rfl) T.n_isinstance (by decide +kernel) (pa_cons (pv 8) (pa_cons (pe_bltn (v := .ty "bool") (u := .type "bool") rfl T.n_bool (by decide +kernel) rfl) pa_nil))))) (pw_or1 (pt_cmpR op_ne (pv 8) (pg_c c__law_is_wish hgd hr (by decide) (pa_cons (pv 2) (pa_cons (pv 7) (pa_cons pe_int pa_nil)))) (nomark _))))) (pss_one (ps_ret pe_bl)) pss_nil))))
      (pss_one (ps_if (pt_cmpR op_notBl (pg_c c_is_wish hgd hr (by decide) (pa_cons (pv 3) (pa_cons (pv 5) pa_nil))) pe_bl (nomark _)) (pss_one (ps_ret pe_bl)) pss_nil))))))
      (pss_cons (ps_set (i := 9) sc_law.nd rfl (Or.inl rfl) (pg_c c__law_pick hgd hr (by decide) (pa_cons (pv 1) (pa_cons (pe_lstA (pa_cons pe_non (pa_cons pe_int (pa_cons pe_str (pa_cons (pe_tupA pa_nil) (pa_cons (pe_lstA pa_nil) (pa_cons pe_dnewA (pa_cons (pv 2) (pa_cons pe_str pa_nil))))))))) pa_nil))))
      (pss_one (ps_ret (pg_c c__law_refused hgd hr (by decide) (pa_cons (pv 9) pa_nil))))))))), ?_⟩
    refine ⟨_, rfl, a, ns, rfl, hs, hl, fun p H1 np s1 hp1 => ?_⟩
    refine ⟨_, rfl, p, rfl, hp1, fun t c sg pl H2 hc nt ht o2 hp2 => ?_⟩
    have hcr : 1 ≤ c ∧ c ≤ 2 := by omega
    refine ⟨_, rfl, t, _, 0, .int c, rfl, rfl, SqT.of ht, atI_nat (xs := [V.int c, .bl sg, .bl pl]) (j := 0) (v := .int c) rfl, ?_⟩
    refine ⟨_, rfl, t, _, 1, .bl sg, rfl, rfl, SqT.of ht, atI_nat (xs := [V.int c, .bl sg, .bl pl]) (j := 1) (v := .bl sg) rfl, ?_⟩
    refine ⟨_, rfl, t, _, 2, .bl pl, rfl, rfl, SqT.of ht, atI_nat (xs := [V.int c, .bl sg, .bl pl]) (j := 2) (v := .bl pl) rfl, ?_⟩
    refine fun x dx nx ndx nex => make_rules hcr.1 hcr.2 nx ndx (fun H3 s3 hx3 => ⟨rfl, ?_⟩)
    have ht3 := s3 _ _ ht
    have hp3 := hp2.same s3
    walk_at "rd"
    refine ⟨by decide, by decide, ?_⟩
    have hxp : ∀ {H' : Hp} {fs : List (Str × V)}, PoolAt H' p → H' x = some (.ins C dx fs) → x ≠ p := fun h e z => by
      obtain ⟨xs, hq⟩ := h.isL
      rw [← z, e] at hq
      cases hq
    have hR : ∀ {H' : Hp}, H' t = some (.tup [.int c, .bl sg, .bl pl]) → RulesT H' t c := fun h => ⟨_, _, h, hc⟩
    refine for_range (n := 4) (fun i σ H' => (∃ o4 o5 o6 o7 o8, σ = [some (.ref a), some (.ref p), some (.ref t), some (.ref x), o4, o5, o6, o7, o8, none]) ∧ H' x = some (.ins C dx (rulesF (.int c) (.bl sg) (.bl pl))) ∧ H' t = some (.tup [.int c, .bl sg, .bl pl]) ∧ PoolAt H' p) ⟨⟨_, _, _, _, _, rfl⟩, hx3, ht3, hp3⟩ ?_ ?_
    · rintro i σ G0 hi ⟨⟨o4, o5, o6, o7, o8, rfl⟩, hx0, ht0, gp0⟩
      walk_at "rd"
      refine ⟨p, 6, rfl, gp0, by decide, by decide, fun r1 G1 a1 b1 u1 gp1 => ?_⟩
      have ht1 := u1 _ _ (gp0.notTup ht0) ht0
      have hx1 := u1 _ _ (hxp gp0 hx0) hx0
      obtain ⟨n, rfl⟩ := Int.eq_ofNat_of_zero_le a1
      walk_at "rd"
      refine ⟨n, by omega, p, t, c, by show [V.ref p, V.ref t, V.int (1 + (n : Int))] = _; rw [show (1 + (n : Int)) = ((n + 1 : Nat) : Int) by omega], gp1, hR ht1, fun v d G2 hv hd u2 gp2 => ?_⟩
      have ht2 := u2 _ _ (gp1.notTup ht1) ht1
      have hx2 := u2 _ _ (hxp gp1 hx1) hx1
      walk_at "rd"
      refine ⟨n + 1, by omega, p, v, d, c, rfl, gp2, hv, hd, fun v2 L G3 g3 u3 gp3 => ?_⟩
      have ht3 := u3 _ _ (gp2.notTup ht2) ht2
      have hx3 := u3 _ _ (hxp gp2 hx2) hx2
      walk_at "rd"
      refine ⟨p, 7, rfl, gp3, by decide, by decide, fun r4 G4 a4 b4 u4 gp4 => ?_⟩
      have ht4 := u4 _ _ (gp3.notTup ht3) ht3
      have hx4 := u4 _ _ (hxp gp3 hx3) hx3
      obtain ⟨n4, rfl⟩ := Int.eq_ofNat_of_zero_le a4
      have hv4 := (hv.keep u3).keep u4
      walk_at "rd"
      refine ⟨p, v, d, n4 + 1, by show [V.ref p, v, V.int (1 + (n4 : Int))] = _; rw [show (1 + (n4 : Int)) = ((n4 + 1 : Nat) : Int) by omega], gp4, hv4, by omega, fun v5 d5 G5 hv5 u5 gp5 => ?_⟩
      have ht5 := u5 _ _ (gp4.notTup ht4) ht4
      have hx5 := u5 _ _ (hxp gp4 hx4) hx4
      have g5 := (g3.keep u4).keep u5
      walk_at "rd"
      refine And.intro (Nat.le_of_ble_eq_true rfl) (fun B G6 n6 => ?_)
      have ht6 := n6.same _ _ ht5
      have hx6 := n6.same _ _ hx5
      have gp6 := gp5.same n6.same
      have all6 : ∀ u ∈ [v, v2, v5], ∃ L, G p L G6 u := fun u hu => by
        simp only [List.mem_cons, List.not_mem_nil, or_false] at hu
        rcases hu with rfl | rfl | rfl
        · exact ⟨true, ((hv4.keep u5).keep n6.off).g _⟩
        · exact ⟨L, g5.keep n6.off⟩
        · exact ⟨true, (hv5.keep n6.off).g _⟩
      have hv6 := (hv4.keep u5).keep n6.off
      refine ⟨_, rfl, _, rfl, ⟨_, SqL.of n6.at_⟩, for_it (walk_list (xs := [v, v2, v5])) (fun j σ H' => (∃ o7 o8, σ = [some (.ref a), some (.ref p), some (.ref t), some (.ref x), some (.int (0 + (i : Nat))), some v, some (.ref B), o7, o8, none]) ∧ Same G6 H') ⟨⟨_, _, rfl⟩, Same.refl _⟩ (fun j σ H' _ q => SqL.of (q.2 _ _ n6.at_)) ?_ ?_⟩
      · rintro j y σ G7 G8 hj ⟨⟨o7, o8, rfl⟩, s7⟩ ⟨rfl, hy⟩
        obtain ⟨L', d', hd'⟩ := all6 y (List.mem_of_getElem? hy)
        have hd7 := hd'.keep (Off.same s7)
        walk_at "rd"
        refine ⟨.ref x, y, rfl, .inl ⟨x, dx, c, .bl sg, .bl pl, d', L', _, rfl, s7 _ _ hx6, hd7, fun G9 s9 => ?_⟩⟩
        refine ⟨_, rfl, _, _, _, _, _, rfl, .ty _, .base (.bl _), kit_ty (b := "bool") (r := true) (by decide +kernel), _, rfl, ?_⟩
        refine iteF ?_
        walk_at "rd"
        refine ⟨t, c, .bl sg, .bl pl, y, d', L', _, rfl, s9 _ _ (s7 _ _ ht6), hd7.keep (Off.same s9), fun G10 s10 => ?_⟩
        refine ⟨rfl, _, rfl, iteF' (by simp) ?_⟩
        exact ⟨⟨_, _, rfl⟩, (s7.trans s9).trans s10⟩
      · rintro σ G7 ⟨⟨o7, o8, rfl⟩, s7⟩
        have hw6 : isWishD c 6 d = true := wish_mono hd (by omega)
        walk_at "rd"
        refine ⟨.ref x, v, rfl, .inl ⟨x, dx, c, .bl sg, .bl pl, d, true, _, rfl, s7 _ _ hx6, (hv6 true).keep (Off.same s7), fun G9 s9 => ?_⟩⟩
        rw [hw6]
        refine ⟨true, true, rfl, rfl, _, rfl, iteF' (by simp) ?_⟩
        have s79 := s7.trans s9
        exact ⟨⟨_, _, _, _, _, rfl⟩, s79 _ _ hx6, s79 _ _ ht6, gp6.same s79⟩
    · rintro σ G0 ⟨⟨o4, o5, o6, o7, o8, rfl⟩, hx0, ht0, gp0⟩
      walk_at "rd"
      refine And.intro (Nat.le_of_ble_eq_true rfl) (fun q1 G1 n1 => ?_)
      walk_at "rd"
      refine And.intro (Nat.le_of_ble_eq_true rfl) (fun q2 G2 n2 => ?_)
      walk_at "rd"
      refine fun q3 G3 n3 => ?_
      walk_at "rd"
      refine And.intro (Nat.le_of_ble_eq_true rfl) (fun B G4 n4 => ?_)
      have gp1 := gp0.same n1.same
      have gp2 := gp1.same n2.same
      have gp3 := gp2.same n3.same
      have gp4 := gp3.same n4.same
      refine ⟨p, B, _, rfl, gp4, n4.at_, gp3.ne n4.free, by simp, by simp, fun y G5 hy u5 gp5 => ?_⟩
      have e1 : G5 q1 = some (.tup []) := u5 _ _ (gp0.ne n1.free) (n4.same _ _ (n3.same _ _ (n2.same _ _ n1.at_)))
      have e2 : G5 q2 = some (.lst []) := u5 _ _ (gp1.ne n2.free) (n4.same _ _ (n3.same _ _ n2.at_))
      have e3 : G5 q3 = some (.dK []) := u5 _ _ (gp2.ne n3.free) (n4.same _ _ n3.at_)
      have e4 : G5 t = some (.tup [.int c, .bl sg, .bl pl]) := u5 _ _ (gp0.notTup ht0) (n4.same _ _ (n3.same _ _ (n2.same _ _ (n1.same _ _ ht0))))
      have st : Strange G5 y := by
        simp only [List.mem_cons, List.not_mem_nil, or_false] at hy
        rcases hy with rfl | rfl | rfl | rfl | rfl | rfl | rfl | rfl
        · exact ⟨.none, true, (fun _ => False), .non, .inl ⟨by decide +kernel, by decide +kernel⟩⟩
        · exact ⟨.int 0, true, (fun _ => False), .int 0, .inl ⟨by decide +kernel, by decide +kernel⟩⟩
        · exact ⟨.str "", true, (fun _ => False), .str "", .inl ⟨by decide +kernel, by decide +kernel⟩⟩
        · exact ⟨.tuple [], true, (fun _ => False), .tup e1 (fun z => z) .nil, .inl ⟨by decide +kernel, by decide +kernel⟩⟩
        · exact ⟨.list [], true, (fun _ => False), .lst e2 (fun z => z) rfl .nil, .inl ⟨by decide +kernel, by decide +kernel⟩⟩
        · exact ⟨.dict [], false, (fun _ => False), .dct e3 (fun z => z) rfl, .inr ⟨q3, rfl, e3, fun z => z⟩⟩
        · refine ⟨.tuple [.int c, .bool sg, .bool pl], true, (fun _ => False), .tup e4 (fun z => z) (.cons (.int _) (.cons (.bl _) (.cons (.bl _) .nil))), .inl ?_⟩
          rcases hc with rfl | rfl <;> cases sg <;> cases pl <;> exact ⟨by decide +kernel, by decide +kernel⟩
        · exact ⟨.str "solved", true, (fun _ => False), .str "solved", .inl ⟨by decide +kernel, by decide +kernel⟩⟩
      walk_at "rd"
      exact fun H' => k H'
theorem sq_K {K : PySem.W.Frag} {p : Addr} {od : Option Addr} {us : Array Value} {n : Nat} {sl : Array (Option Value)} {b c : Nat} {t1 t2 : Tok} (l : K.lookup p = some ⟨.type "tuple", od, .seq us n, sl⟩) (r : us.toList = [.int b t1, .int c t2]) : ∀ H, SqT K H p [.int b, .int c] := fun H => by
  refine .inr ⟨_, us, n, l, rfl, rfl, ?_, ?_⟩
  · rw [← Array.length_toList, r]
    exact Nat.le_of_ble_eq_true rfl
  · rw [r]
    exact .cons ⟨_, rfl⟩ (.cons ⟨_, rfl⟩ .nil)
theorem wd_mk {w : World} {K : PySem.W.Frag} {aW : Addr} {es : Array DictEntry} {n : Nat} {h1 h2 h3 h4 h5 h6 : Int} {t1 t2 t3 t4 t5 t6 : Tok} {p1 p2 p3 p4 p5 p6 : Addr} (l : K.lookup aW = some ⟨.type "dict", none, .dict es n, #[]⟩) (lit : PySem.W.KeysLit w.params es.toList) (low : (aW == sysModules) = false)
    (he : es.toList = [⟨h1, .str "solved" t1, .ref p1⟩, ⟨h2, .str "safe" t2, .ref p2⟩, ⟨h3, .str "back" t3, .ref p3⟩, ⟨h4, .str "idle" t4, .ref p4⟩, ⟨h5, .str "not" t5, .ref p5⟩, ⟨h6, .str "both" t6, .ref p6⟩])
    (u1 : ∀ H, SqT K H p1 [.int 1, .int 0]) (u2 : ∀ H, SqT K H p2 [.int 1, .int 0]) (u3 : ∀ H, SqT K H p3 [.int 2, .int 0]) (u4 : ∀ H, SqT K H p4 [.int 1, .int 0]) (u5 : ∀ H, SqT K H p5 [.int 0, .int 1]) (u6 : ∀ H, SqT K H p6 [.int 0, .int 2]) :
    ∀ z, ∃ r, KD K w aW z r ∧ (wordD z = none → r = none) ∧ ∀ b n, wordD z = some (b, n) → ∃ tp, r = some (.ref tp) ∧ ∀ H, SqT K H tp [.int b, .int n] := by
  intro z
  have mk : ∀ r, PySem.W.nsIn K aW z = some r → KD K w aW z r := fun r h => ⟨_, _, l, lit, low, h⟩
  have fnd : PySem.W.nsIn K aW z = some (if z = "solved" then some (.ref p1) else if z = "safe" then some (.ref p2) else if z = "back" then some (.ref p3) else if z = "idle" then some (.ref p4) else if z = "not" then some (.ref p5) else if z = "both" then some (.ref p6) else none) := by
    unfold PySem.W.nsIn
    rw [l]
    dsimp only
    rw [he]
    have e : ∀ (a : Str) (t : Tok), (Value.str a t).isStr z = decide (z = a) := fun a t => by
      show (a == z) = _
      by_cases q : z = a
      · simp [q]
      · have : ¬ a = z := fun h => q h.symm
        simp [q, this]
    by_cases q1 : z = "solved"
    · subst q1; rfl
    by_cases q2 : z = "safe"
    · subst q2; rfl
    by_cases q3 : z = "back"
    · subst q3; rfl
    by_cases q4 : z = "idle"
    · subst q4; rfl
    by_cases q5 : z = "not"
    · subst q5; rfl
    by_cases q6 : z = "both"
    · subst q6; rfl
    simp [List.find?, e, q1, q2, q3, q4, q5, q6, DictEntry.refKey]
  refine ⟨_, mk _ fnd, fun h => ?_, fun b n h => ?_⟩
  · unfold wordD at h
    repeat' split at h
    all_goals first | (cases h; done) | skip
    simp [*]
  · unfold wordD at h
    repeat' split at h
    all_goals first | (cases h; done) | skip
    all_goals cases h
    all_goals simp only [*, if_true, if_false]
    all_goals first | exact ⟨_, rfl, u1⟩ | exact ⟨_, rfl, u3⟩ | exact ⟨_, rfl, u5⟩ | exact ⟨_, rfl, u6⟩ | skip
    all_goals first | exact ⟨_, rfl, u2⟩ | exact ⟨_, rfl, u4⟩ | skip
end
end K54
end
section
set_option Elab.async false
set_option linter.all false
set_option maxRecDepth 100000
set_option maxHeartbeats 2000000
namespace K54
open PySem L2 PyProof.Rows
/-- what the top has left, and the law's promise over it -/
theorem all_mk {P : Program} {w : World} {K : PySem.W.Frag} {h : Heap} {mg : Str → Option Value} {fa C f_is_whole f_is_bag f_Rules_init f_need_rules f__is_wish f_is_wish f__law_pool f__law_draw f__law_pick f__law_rules_drawn f__law_bag_drawn f__law_wish_drawn f__law_is_bag f__law_is_wish f__law_spoiled f__law_deeper f__law_refused f_law CB fB aW p1 p2 p3 p4 p5 p6 : Addr} {d_is_whole d_is_bag d_Rules_init d_need_rules d__is_wish d_is_wish d__law_pool d__law_draw d__law_pick d__law_rules_drawn d__law_bag_drawn d__law_wish_drawn d__law_is_bag d__law_is_wish d__law_spoiled d__law_deeper d__law_refused d_law : FuncData} {t_DEEPEST t1 t2 t3 t4 t5 t6 ta1 ta2 ta3 ta4 ta5 ta6 tb1 tb2 tb3 tb4 tb5 tb6 : Tok} {esW : Array DictEntry} {nW n1 n2 n3 n4 n5 n6 : Nat} {h1 h2 h3 h4 h5 h6 : Int} {o1 o2 o3 o4 o5 o6 : Option Addr} {us1 us2 us3 us4 us5 us6 : Array Value} {sl1 sl2 sl3 sl4 sl5 sl6 : Array (Option Value)}
    (X : K.In h) (G : h.Ns mainGlobals mg) (hfa : mg "law" = some (.ref fa))
    (aC_Rules : PySem.W.nsIn K mainGlobals "Rules" = some (some (.ref C))) (cC_Rules : Cls K C)
    (n_Rules_cap : NoAttr K C "cap")
    (n_Rules_strong : NoAttr K C "strong")
    (n_Rules_pull : NoAttr K C "pull")
    (a_is_whole : PySem.W.nsIn K mainGlobals "is_whole" = some (some (.ref f_is_whole))) (F_is_whole : Fun K "is_whole" "is_whole" s_is_whole f_is_whole d_is_whole)
    (a_is_bag : PySem.W.nsIn K mainGlobals "is_bag" = some (some (.ref f_is_bag))) (F_is_bag : Fun K "is_bag" "is_bag" s_is_bag f_is_bag d_is_bag)
    (mC_Rules : Mk K C f_Rules_init)
    (F_Rules_init : FunD K "__init__" "Rules.__init__" (defArgs s_Rules_init) (defBody s_Rules_init) (defScope s_Rules_init) [.int 1, .bl false, .bl false] [] f_Rules_init d_Rules_init)
    (a_need_rules : PySem.W.nsIn K mainGlobals "need_rules" = some (some (.ref f_need_rules))) (F_need_rules : Fun K "need_rules" "need_rules" s_need_rules f_need_rules d_need_rules)
    (a__is_wish : PySem.W.nsIn K mainGlobals "_is_wish" = some (some (.ref f__is_wish))) (F__is_wish : Fun K "_is_wish" "_is_wish" s__is_wish f__is_wish d__is_wish)
    (a_is_wish : PySem.W.nsIn K mainGlobals "is_wish" = some (some (.ref f_is_wish))) (F_is_wish : Fun K "is_wish" "is_wish" s_is_wish f_is_wish d_is_wish)
    (a__law_pool : PySem.W.nsIn K mainGlobals "_law_pool" = some (some (.ref f__law_pool))) (F__law_pool : Fun K "_law_pool" "_law_pool" s__law_pool f__law_pool d__law_pool)
    (a__law_draw : PySem.W.nsIn K mainGlobals "_law_draw" = some (some (.ref f__law_draw))) (F__law_draw : Fun K "_law_draw" "_law_draw" s__law_draw f__law_draw d__law_draw)
    (a__law_pick : PySem.W.nsIn K mainGlobals "_law_pick" = some (some (.ref f__law_pick))) (F__law_pick : Fun K "_law_pick" "_law_pick" s__law_pick f__law_pick d__law_pick)
    (a__law_rules_drawn : PySem.W.nsIn K mainGlobals "_law_rules_drawn" = some (some (.ref f__law_rules_drawn))) (F__law_rules_drawn : Fun K "_law_rules_drawn" "_law_rules_drawn" s__law_rules_drawn f__law_rules_drawn d__law_rules_drawn)
    (a__law_bag_drawn : PySem.W.nsIn K mainGlobals "_law_bag_drawn" = some (some (.ref f__law_bag_drawn))) (F__law_bag_drawn : Fun K "_law_bag_drawn" "_law_bag_drawn" s__law_bag_drawn f__law_bag_drawn d__law_bag_drawn)
    (a__law_wish_drawn : PySem.W.nsIn K mainGlobals "_law_wish_drawn" = some (some (.ref f__law_wish_drawn))) (F__law_wish_drawn : Fun K "_law_wish_drawn" "_law_wish_drawn" s__law_wish_drawn f__law_wish_drawn d__law_wish_drawn)
    (a__law_is_bag : PySem.W.nsIn K mainGlobals "_law_is_bag" = some (some (.ref f__law_is_bag))) (F__law_is_bag : Fun K "_law_is_bag" "_law_is_bag" s__law_is_bag f__law_is_bag d__law_is_bag)
    (a__law_is_wish : PySem.W.nsIn K mainGlobals "_law_is_wish" = some (some (.ref f__law_is_wish))) (F__law_is_wish : Fun K "_law_is_wish" "_law_is_wish" s__law_is_wish f__law_is_wish d__law_is_wish)
    (a__law_spoiled : PySem.W.nsIn K mainGlobals "_law_spoiled" = some (some (.ref f__law_spoiled))) (F__law_spoiled : Fun K "_law_spoiled" "_law_spoiled" s__law_spoiled f__law_spoiled d__law_spoiled)
    (a__law_deeper : PySem.W.nsIn K mainGlobals "_law_deeper" = some (some (.ref f__law_deeper))) (F__law_deeper : Fun K "_law_deeper" "_law_deeper" s__law_deeper f__law_deeper d__law_deeper)
    (a__law_refused : PySem.W.nsIn K mainGlobals "_law_refused" = some (some (.ref f__law_refused))) (F__law_refused : Fun K "_law_refused" "_law_refused" s__law_refused f__law_refused d__law_refused)
    (a_law : PySem.W.nsIn K mainGlobals "law" = some (some (.ref f_law))) (F_law : Fun K "law" "law" s_law f_law d_law)
    (x_BadRules : RX.ErrT P K mg "BadRules" "value" CB fB)
    (z_isinstance : PySem.W.nsIn K mainGlobals "isinstance" = some none)
    (z_int : PySem.W.nsIn K mainGlobals "int" = some none)
    (z_bool : PySem.W.nsIn K mainGlobals "bool" = some none)
    (z_list : PySem.W.nsIn K mainGlobals "list" = some none)
    (z_len : PySem.W.nsIn K mainGlobals "len" = some none)
    (z_range : PySem.W.nsIn K mainGlobals "range" = some none)
    (z_abs : PySem.W.nsIn K mainGlobals "abs" = some none)
    (z_tuple : PySem.W.nsIn K mainGlobals "tuple" = some none)
    (z_str : PySem.W.nsIn K mainGlobals "str" = some none)
    (k_DEEPEST : PySem.W.nsIn K mainGlobals "DEEPEST" = some (some (.int 6 t_DEEPEST)))
    (gW : PySem.W.nsIn K mainGlobals "WORDS" = some (some (.ref aW)))
    (lW : K.lookup aW = some ⟨.type "dict", none, .dict esW nW, #[]⟩)
    (litW : PySem.W.KeysLit w.params esW.toList)
    (lowW : (aW == sysModules) = false)
    (heW : esW.toList = [⟨h1, .str "solved" t1, .ref p1⟩, ⟨h2, .str "safe" t2, .ref p2⟩, ⟨h3, .str "back" t3, .ref p3⟩, ⟨h4, .str "idle" t4, .ref p4⟩, ⟨h5, .str "not" t5, .ref p5⟩, ⟨h6, .str "both" t6, .ref p6⟩])
    (q1 : K.lookup p1 = some ⟨.type "tuple", o1, .seq us1 n1, sl1⟩)
    (r1 : us1.toList = [.int 1 ta1, .int 0 tb1])
    (q2 : K.lookup p2 = some ⟨.type "tuple", o2, .seq us2 n2, sl2⟩)
    (r2 : us2.toList = [.int 1 ta2, .int 0 tb2])
    (q3 : K.lookup p3 = some ⟨.type "tuple", o3, .seq us3 n3, sl3⟩)
    (r3 : us3.toList = [.int 2 ta3, .int 0 tb3])
    (q4 : K.lookup p4 = some ⟨.type "tuple", o4, .seq us4 n4, sl4⟩)
    (r4 : us4.toList = [.int 1 ta4, .int 0 tb4])
    (q5 : K.lookup p5 = some ⟨.type "tuple", o5, .seq us5 n5, sl5⟩)
    (r5 : us5.toList = [.int 0 ta5, .int 1 tb5])
    (q6 : K.lookup p6 = some ⟨.type "tuple", o6, .seq us6 n6, sl6⟩)
    (r6 : us6.toList = [.int 0 ta6, .int 2 tb6])
    (icC : C8.InsC K C)
    (kk_NoneType : PySem.W.kitOne K (.type "NoneType") (.ref C) = some false)
    (kk_int : PySem.W.kitOne K (.type "int") (.ref C) = some false)
    (kk_bool : PySem.W.kitOne K (.type "bool") (.ref C) = some false)
    (kk_str : PySem.W.kitOne K (.type "str") (.ref C) = some false)
    (kk_tuple : PySem.W.kitOne K (.type "tuple") (.ref C) = some false)
    (kk_list : PySem.W.kitOne K (.type "list") (.ref C) = some false)
    (kk_dict : PySem.W.kitOne K (.type "dict") (.ref C) = some false) :
    ∃ fd : FuncData, (∀ (s : Shared) (u : Value), BindsTo s fd ⟨[u], []⟩ [("script", u)]) ∧ ∀ base : Heap, K.In base → base.Ns mainGlobals mg → FnG P w K mg base (CXe P w) 12 fa fd ["script"] (spLaw K) := by
  have e := hfa.symm.trans (PySem.W.mg_of X G a_law)
  cases e
  have B : Blt mg := ⟨PySem.W.mg_none_of X G z_isinstance, PySem.W.mg_none_of X G z_int, PySem.W.mg_none_of X G z_bool, PySem.W.mg_none_of X G z_list, PySem.W.mg_none_of X G z_len, PySem.W.mg_none_of X G z_range, PySem.W.mg_none_of X G z_abs, PySem.W.mg_none_of X G z_tuple, PySem.W.mg_none_of X G z_str⟩
  have T : RulT P K mg C CB fB := { toBlt := B, cl := cC_Rules, a_cap := n_Rules_cap, a_strong := n_Rules_strong, a_pull := n_Rules_pull, g_Rules := PySem.W.mg_of X G aC_Rules, x_BadRules := x_BadRules }
  have TK : RulK K C := ⟨icC, kk_NoneType, kk_int, kk_bool, kk_str, kk_tuple, kk_list, kk_dict⟩
  have TW : WishT P w K mg C CB fB aW := { toRulT := T, g_WORDS := PySem.W.mg_of X G gW, wd := wd_mk lW litW lowW heW (sq_K q1 r1) (sq_K q2 r2) (sq_K q3 r3) (sq_K q4 r4) (sq_K q5 r5) (sq_K q6 r6), k_DEEPEST := ⟨_, PySem.W.mg_of X G k_DEEPEST⟩ }
  refine ⟨d_law, ?_, fun base _ _ => ?_⟩
  · obtain ⟨oc, od, kV, doc, pm, an, cdv, ct, osl, rfl, lk, hcd⟩ := F_law.ex
    exact fun s v => .of_eq rfl
  have b_is_whole := F_is_whole.binds (ps := ["thing"]) fun _ _ _ _ _ _ us hl => match us, hl with | [_], _ => rfl
  have b_is_bag := F_is_bag.binds (ps := ["rules", "thing"]) fun _ _ _ _ _ _ us hl => match us, hl with | [_, _], _ => rfl
  obtain ⟨ds0_Rules_init, v0_Rules_init, b0_Rules_init⟩ := F_Rules_init.binds1 (ps := ["self", "cap", "strong", "pull"]) 4 3 (by simp) rfl fun T kV doc pm an cdv ct us its h1 h2 => match us, its, h1, h2 with | [_, _, _, _], [_, _, _], _, _ => ⟨_, rfl, rfl⟩
  have b_need_rules := F_need_rules.binds (ps := ["rules"]) fun _ _ _ _ _ _ us hl => match us, hl with | [_], _ => rfl
  have b__is_wish := F__is_wish.binds (ps := ["rules", "thing", "deepest"]) fun _ _ _ _ _ _ us hl => match us, hl with | [_, _, _], _ => rfl
  have b_is_wish := F_is_wish.binds (ps := ["rules", "thing"]) fun _ _ _ _ _ _ us hl => match us, hl with | [_, _], _ => rfl
  have b__law_pool := F__law_pool.binds (ps := ["script"]) fun _ _ _ _ _ _ us hl => match us, hl with | [_], _ => rfl
  have b__law_draw := F__law_draw.binds (ps := ["pool", "many"]) fun _ _ _ _ _ _ us hl => match us, hl with | [_, _], _ => rfl
  have b__law_pick := F__law_pick.binds (ps := ["pool", "items"]) fun _ _ _ _ _ _ us hl => match us, hl with | [_, _], _ => rfl
  have b__law_rules_drawn := F__law_rules_drawn.binds (ps := ["pool"]) fun _ _ _ _ _ _ us hl => match us, hl with | [_], _ => rfl
  have b__law_bag_drawn := F__law_bag_drawn.binds (ps := ["pool", "rules"]) fun _ _ _ _ _ _ us hl => match us, hl with | [_, _], _ => rfl
  have b__law_wish_drawn := F__law_wish_drawn.binds (ps := ["pool", "rules", "depth"]) fun _ _ _ _ _ _ us hl => match us, hl with | [_, _, _], _ => rfl
  have b__law_is_bag := F__law_is_bag.binds (ps := ["rules", "thing"]) fun _ _ _ _ _ _ us hl => match us, hl with | [_, _], _ => rfl
  have b__law_is_wish := F__law_is_wish.binds (ps := ["rules", "thing", "depth"]) fun _ _ _ _ _ _ us hl => match us, hl with | [_, _, _], _ => rfl
  have b__law_spoiled := F__law_spoiled.binds (ps := ["pool", "wish"]) fun _ _ _ _ _ _ us hl => match us, hl with | [_, _], _ => rfl
  have b__law_deeper := F__law_deeper.binds (ps := ["pool", "wish", "more"]) fun _ _ _ _ _ _ us hl => match us, hl with | [_, _, _], _ => rfl
  have b__law_refused := F__law_refused.binds (ps := ["thing"]) fun _ _ _ _ _ _ us hl => match us, hl with | [_], _ => rfl
  have c_is_whole : CalG P w K mg base 1 "is_whole" (spWhole K) := ⟨f_is_whole, d_is_whole, _, ok_whole F_is_whole B, PySem.W.mg_of X G a_is_whole, F_is_whole.kp, b_is_whole⟩
  have c_is_bag : CalG P w K mg base 2 "is_bag" (spIsBag K C) := ⟨f_is_bag, d_is_bag, _, ok_is_bag F_is_bag T c_is_whole, PySem.W.mg_of X G a_is_bag, F_is_bag.kp, b_is_bag⟩
  have hI_Rules := ok_rinit (w := w) (base := base) F_Rules_init T c_is_whole
  have m_Rules : MakG P w K mg base 4 "Rules" C (spRInit K C CB) [] := ⟨f_Rules_init, d_Rules_init, _, ds0_Rules_init, hI_Rules, mC_Rules, PySem.W.mg_of X G aC_Rules, b0_Rules_init, v0_Rules_init⟩
  have c_need_rules : CalG P w K mg base 3 "need_rules" (spNeedR K C CB) := ⟨f_need_rules, d_need_rules, _, ok_needR F_need_rules T, PySem.W.mg_of X G a_need_rules, F_need_rules.kp, b_need_rules⟩
  have c__is_wish := fun n => calG_rec (w := w) (base := base) (k := 2) (x := "_is_wish") (sp := spIsWish K C) (PySem.W.mg_of X G a__is_wish) F__is_wish.kp b__is_wish (fun n c_self => ok_is_wish_ F__is_wish TW c_is_bag c_self) n
  have c_is_wish : CalG P w K mg base 10 "is_wish" (spIsW K C CB) := ⟨f_is_wish, d_is_wish, _, ok_is_wish F_is_wish TW TK c_need_rules (c__is_wish 6), PySem.W.mg_of X G a_is_wish, F_is_wish.kp, b_is_wish⟩
  have c__law_pool : CalG P w K mg base 1 "_law_pool" (spPool K) := ⟨f__law_pool, d__law_pool, _, ok_pool F__law_pool B, PySem.W.mg_of X G a__law_pool, F__law_pool.kp, b__law_pool⟩
  have c__law_draw : CalG P w K mg base 1 "_law_draw" (spDraw K) := ⟨f__law_draw, d__law_draw, _, ok_draw F__law_draw B, PySem.W.mg_of X G a__law_draw, F__law_draw.kp, b__law_draw⟩
  have c__law_pick : CalG P w K mg base 2 "_law_pick" (spPick K) := ⟨f__law_pick, d__law_pick, _, ok_pick F__law_pick B c__law_draw, PySem.W.mg_of X G a__law_pick, F__law_pick.kp, b__law_pick⟩
  have c__law_rules_drawn : CalG P w K mg base 2 "_law_rules_drawn" (spRDrawn K) := ⟨f__law_rules_drawn, d__law_rules_drawn, _, ok_rdrawn F__law_rules_drawn B c__law_draw, PySem.W.mg_of X G a__law_rules_drawn, F__law_rules_drawn.kp, b__law_rules_drawn⟩
  have c__law_bag_drawn : CalG P w K mg base 2 "_law_bag_drawn" (spBDrawn K) := ⟨f__law_bag_drawn, d__law_bag_drawn, _, ok_bdrawn F__law_bag_drawn B c__law_draw, PySem.W.mg_of X G a__law_bag_drawn, F__law_bag_drawn.kp, b__law_bag_drawn⟩
  have c__law_wish_drawn : CalG P w K mg base 8 "_law_wish_drawn" (atMost 5 (spWD K)) := calG_upto (k := 2) (sp := spWD K) (PySem.W.mg_of X G a__law_wish_drawn) F__law_wish_drawn.kp b__law_wish_drawn (fun n c_self => ok_wdrawn F__law_wish_drawn B c__law_draw c__law_bag_drawn c_self) 5
  have c__law_is_bag : CalG P w K mg base 1 "_law_is_bag" (spLIsBag K) := ⟨f__law_is_bag, d__law_is_bag, _, ok_lis_bag F__law_is_bag B, PySem.W.mg_of X G a__law_is_bag, F__law_is_bag.kp, b__law_is_bag⟩
  have c__law_is_wish := fun n => calG_rec (w := w) (base := base) (k := 1) (x := "_law_is_wish") (sp := spLIsWish K) (PySem.W.mg_of X G a__law_is_wish) F__law_is_wish.kp b__law_is_wish (fun n c_self => ok_lis_wish F__law_is_wish B c__law_is_bag c_self) n
  have c__law_spoiled : CalG P w K mg base 9 "_law_spoiled" (atMost 6 (spSpoil K)) := calG_upto (k := 2) (sp := spSpoil K) (PySem.W.mg_of X G a__law_spoiled) F__law_spoiled.kp b__law_spoiled (fun n c_self => ok_spoil F__law_spoiled B c__law_draw c__law_pick c_self) 6
  have c__law_deeper : CalG P w K mg base 3 "_law_deeper" (spDeeper K) := ⟨f__law_deeper, d__law_deeper, _, ok_deeper F__law_deeper B c__law_draw c__law_pick, PySem.W.mg_of X G a__law_deeper, F__law_deeper.kp, b__law_deeper⟩
  have c__law_refused : CalG P w K mg base 11 "_law_refused" (spRefused K) := ⟨f__law_refused, d__law_refused, _, ok_refused F__law_refused T TK c_is_wish, PySem.W.mg_of X G a__law_refused, F__law_refused.kp, b__law_refused⟩
  exact ok_law F_law T TK m_Rules c__law_pool c__law_draw c__law_pick c__law_rules_drawn c__law_wish_drawn c__law_spoiled c__law_deeper c_is_wish (c__law_is_wish 6) c__law_refused
theorem walk {l : PySem.W.OpenLaw} {q : Program} {loose : List Str} {XP : (Str → Option Value) → Heap → Prop} {YP : World → Heap → Prop} {d : DefRec} {K : Params → PySem.W.Frag} (hn : l.most = some 63) (hdf : d.params.defaults = [])
    (hY : ∀ (w : World) (h : Heap), YP w h → (K w.params).In h)
    (F : ∀ (w : World) (mg : Str → Option Value) (fa : Addr) (h : Heap), (K w.params).In h → h.Ns mainGlobals mg → mg d.name = some (.ref fa) →
      ∃ fd : FuncData, (∀ (s : Shared) (u : Value), BindsTo s fd ⟨[u], []⟩ [("script", u)]) ∧ ∀ base : Heap, (K w.params).In base → base.Ns mainGlobals mg → FnG l.prog w (K w.params) mg base (CXe l.prog w) 12 fa fd ["script"] (spLaw (K w.params))) :
    PySem.W.WalkO q loose XP YP l.row.toRowW d [] (fun f vs => PySem.call f vs) :=
  L2.walk_ofG (n := 63) (k := 12) (x := "script") (CX := fun w => CXe l.prog w) (sp := fun w => spLaw (K w.params)) hn (by decide) hdf ⟨rfl, by decide, by decide⟩ hY F (fun _ _ a ns hl _ hS => ⟨a, ns, rfl, hS, hl, fun _ => rfl⟩) fun w H s e s' z => by
    obtain ⟨_, _, _, _, _, _, _, _, _, _, _, _, hE⟩ := z
    exact hE
end K54
end
section
set_option Elab.async false
set_option maxRecDepth 100000
open PySem PySem.W PyProof.Rows
set_option maxRecDepth 100000 in
set_option maxHeartbeats 0 in
theorem PySem.Challenge.cw_roomsthrough_k54_wishes_judged_holds : PySem.Challenge.rw_roomsthrough_k54_wishes_judged.Holds := by
  w_on; o_law; k_head; (case hw => w_witness2)
  k_fill
  refine K54.walk (l := PySem.Challenge.rw_roomsthrough_k54_wishes_judged) rfl rfl (fun w h Y => PySem.W.kIn_of Y) ?F
  case F =>
    intro w mg fa h KX G hmg
    refine' K54.all_mk KX G hmg ?aC_Rules ?cC_Rules ?n_Rules_cap ?n_Rules_strong ?n_Rules_pull ?a_is_whole ?F_is_whole ?a_is_bag ?F_is_bag ?mC_Rules ?F_Rules_init ?a_need_rules ?F_need_rules ?a__is_wish ?F__is_wish ?a_is_wish ?F_is_wish ?a__law_pool ?F__law_pool ?a__law_draw ?F__law_draw ?a__law_pick ?F__law_pick ?a__law_rules_drawn ?F__law_rules_drawn ?a__law_bag_drawn ?F__law_bag_drawn ?a__law_wish_drawn ?F__law_wish_drawn ?a__law_is_bag ?F__law_is_bag ?a__law_is_wish ?F__law_is_wish ?a__law_spoiled ?F__law_spoiled ?a__law_deeper ?F__law_deeper ?a__law_refused ?F__law_refused ?a_law ?F_law ?x_BadRules ?z_isinstance ?z_int ?z_bool ?z_list ?z_len ?z_range ?z_abs ?z_tuple ?z_str ?k_DEEPEST ?gW ?lW ?litW ?lowW ?heW ?q1 ?r1 ?q2 ?r2 ?q3 ?r3 ?q4 ?r4 ?q5 ?r5 ?q6 ?r6 ?icC ?kk_NoneType ?kk_int ?kk_bool ?kk_str ?kk_tuple ?kk_list ?kk_dict
    (case aC_Rules => k_is)
    (case cC_Rules => exact ⟨by k_is, by k_is, by k_is, by k_is⟩)
    (case n_Rules_cap => unfold L2.NoAttr; k_is)
    (case n_Rules_strong => unfold L2.NoAttr; k_is)
    (case n_Rules_pull => unfold L2.NoAttr; k_is)
    (case a_is_whole => k_is)
    (case F_is_whole => (refine' L2.fun_mk ?l_is_whole ?c_is_whole ?q_is_whole; (case l_is_whole => k_is); (case c_is_whole => k_is); (case q_is_whole => k_is)))
    (case a_is_bag => k_is)
    (case F_is_bag => (refine' L2.fun_mk ?l_is_bag ?c_is_bag ?q_is_bag; (case l_is_bag => k_is); (case c_is_bag => k_is); (case q_is_bag => k_is)))
    (case mC_Rules => refine' ⟨?a_Rules, ?b_Rules, ?c2_Rules, ?d_Rules⟩; (case a_Rules => k_is); (case b_Rules => k_is); (case c2_Rules => k_is); (case d_Rules => k_is))
    (case F_Rules_init => refine' L2.funD_mk ?l_Rules_init ?c_Rules_init ?k_Rules_init ?t_Rules_init ?u_Rules_init ?v_Rules_init ?ne_Rules_init; (case l_Rules_init => k_is); (case c_Rules_init => k_is); (case k_Rules_init => k_is); (case t_Rules_init => k_is); (case u_Rules_init => rfl); (case v_Rules_init => exact .cons ⟨_, rfl⟩ (.cons rfl (.cons rfl .nil))); (case ne_Rules_init => exact List.cons_ne_nil _ _))
    (case a_need_rules => k_is)
    (case F_need_rules => (refine' L2.fun_mk ?l_need_rules ?c_need_rules ?q_need_rules; (case l_need_rules => k_is); (case c_need_rules => k_is); (case q_need_rules => k_is)))
    (case a__is_wish => k_is)
    (case F__is_wish => (refine' L2.fun_mk ?l__is_wish ?c__is_wish ?q__is_wish; (case l__is_wish => k_is); (case c__is_wish => k_is); (case q__is_wish => k_is)))
    (case a_is_wish => k_is)
    (case F_is_wish => (refine' L2.fun_mk ?l_is_wish ?c_is_wish ?q_is_wish; (case l_is_wish => k_is); (case c_is_wish => k_is); (case q_is_wish => k_is)))
    (case a__law_pool => k_is)
    (case F__law_pool => (refine' L2.fun_mk ?l__law_pool ?c__law_pool ?q__law_pool; (case l__law_pool => k_is); (case c__law_pool => k_is); (case q__law_pool => k_is)))
    (case a__law_draw => k_is)
    (case F__law_draw => (refine' L2.fun_mk ?l__law_draw ?c__law_draw ?q__law_draw; (case l__law_draw => k_is); (case c__law_draw => k_is); (case q__law_draw => k_is)))
    (case a__law_pick => k_is)
    (case F__law_pick => (refine' L2.fun_mk ?l__law_pick ?c__law_pick ?q__law_pick; (case l__law_pick => k_is); (case c__law_pick => k_is); (case q__law_pick => k_is)))
    (case a__law_rules_drawn => k_is)
    (case F__law_rules_drawn => (refine' L2.fun_mk ?l__law_rules_drawn ?c__law_rules_drawn ?q__law_rules_drawn; (case l__law_rules_drawn => k_is); (case c__law_rules_drawn => k_is); (case q__law_rules_drawn => k_is)))
    (case a__law_bag_drawn => k_is)
    (case F__law_bag_drawn => (refine' L2.fun_mk ?l__law_bag_drawn ?c__law_bag_drawn ?q__law_bag_drawn; (case l__law_bag_drawn => k_is); (case c__law_bag_drawn => k_is); (case q__law_bag_drawn => k_is)))
    (case a__law_wish_drawn => k_is)
    (case F__law_wish_drawn => (refine' L2.fun_mk ?l__law_wish_drawn ?c__law_wish_drawn ?q__law_wish_drawn; (case l__law_wish_drawn => k_is); (case c__law_wish_drawn => k_is); (case q__law_wish_drawn => k_is)))
    (case a__law_is_bag => k_is)
    (case F__law_is_bag => (refine' L2.fun_mk ?l__law_is_bag ?c__law_is_bag ?q__law_is_bag; (case l__law_is_bag => k_is); (case c__law_is_bag => k_is); (case q__law_is_bag => k_is)))
    (case a__law_is_wish => k_is)
    (case F__law_is_wish => (refine' L2.fun_mk ?l__law_is_wish ?c__law_is_wish ?q__law_is_wish; (case l__law_is_wish => k_is); (case c__law_is_wish => k_is); (case q__law_is_wish => k_is)))
    (case a__law_spoiled => k_is)
    (case F__law_spoiled => (refine' L2.fun_mk ?l__law_spoiled ?c__law_spoiled ?q__law_spoiled; (case l__law_spoiled => k_is); (case c__law_spoiled => k_is); (case q__law_spoiled => k_is)))
    (case a__law_deeper => k_is)
    (case F__law_deeper => (refine' L2.fun_mk ?l__law_deeper ?c__law_deeper ?q__law_deeper; (case l__law_deeper => k_is); (case c__law_deeper => k_is); (case q__law_deeper => k_is)))
    (case a__law_refused => k_is)
    (case F__law_refused => (refine' L2.fun_mk ?l__law_refused ?c__law_refused ?q__law_refused; (case l__law_refused => k_is); (case c__law_refused => k_is); (case q__law_refused => k_is)))
    (case a_law => k_is)
    (case F_law => (refine' L2.fun_mk ?l_law ?c_law ?q_law; (case l_law => k_is); (case c_law => k_is); (case q_law => k_is)))
    (case x_BadRules =>
      refine' RX.errT_mk KX G ?y_BadRules_gC ?y_BadRules_cls ?y_BadRules_rv ?y_BadRules_sa ?y_BadRules_ga ?y_BadRules_gg ?y_BadRules_noN ?y_BadRules_iC ?y_BadRules_tC ?y_BadRules_kC ?y_BadRules_exC ?y_BadRules_tyC ?y_BadRules_hdC ?y_BadRules_icC ?y_BadRules_sC ?y_BadRules_veC ?y_BadRules_selfM ?y_BadRules_up ?y_BadRules_third ?y_BadRules_noS ?y_BadRules_top ?y_BadRules_fl ?y_BadRules_bd ?y_BadRules_l ?y_BadRules_cd ?y_BadRules_lc ?y_BadRules_v2 ?y_BadRules_vf ?y_BadRules_lcc ?y_BadRules_ln
      (case y_BadRules_gC => k_is); (case y_BadRules_cls => k_is); (case y_BadRules_rv => decide +kernel); (case y_BadRules_sa => k_is); (case y_BadRules_ga => k_is); (case y_BadRules_gg => k_is); (case y_BadRules_noN => k_is); (case y_BadRules_iC => k_is); (case y_BadRules_tC => k_is); (case y_BadRules_kC => k_is); (case y_BadRules_exC => k_is); (case y_BadRules_tyC => k_is); (case y_BadRules_hdC => k_is); (case y_BadRules_icC => k_is); (case y_BadRules_sC => first | rfl | k_is); (case y_BadRules_veC => k_is); (case y_BadRules_selfM => k_is); (case y_BadRules_up => ks_is); (case y_BadRules_third => k_is); (case y_BadRules_noS => k_is); (case y_BadRules_top => decide +kernel); (case y_BadRules_fl => decide +kernel); (case y_BadRules_bd => intros; rfl); (case y_BadRules_l => k_is); (case y_BadRules_cd => k_is); (case y_BadRules_lc => k_is); (case y_BadRules_v2 => rfl); (case y_BadRules_vf => decide +kernel); (case y_BadRules_lcc => k_is); (case y_BadRules_ln => rfl))
    (case z_isinstance => k_is)
    (case z_int => k_is)
    (case z_bool => k_is)
    (case z_list => k_is)
    (case z_len => k_is)
    (case z_range => k_is)
    (case z_abs => k_is)
    (case z_tuple => k_is)
    (case z_str => k_is)
    (case k_DEEPEST => k_is)
    (case gW => k_is)
    (case lW => k_is)
    (case litW => k_keys)
    (case lowW => decide)
    (case heW => rfl)
    (case q1 => k_is)
    (case r1 => rfl)
    (case q2 => k_is)
    (case r2 => rfl)
    (case q3 => k_is)
    (case r3 => rfl)
    (case q4 => k_is)
    (case r4 => rfl)
    (case q5 => k_is)
    (case r5 => rfl)
    (case q6 => k_is)
    (case r6 => rfl)
    (case icC =>
      refine' ⟨⟨?qa1, ?qa2, ?qa3, ?qa4⟩, ?qe, ?qf, ?qg, ?qh, ?qi⟩
      (case qa1 => k_is); (case qa2 => k_is); (case qa3 => k_is); (case qa4 => k_is); (case qe => k_is); (case qf => k_is); (case qg => k_is); (case qh => k_is); (case qi => first | k_is | kit_is | (unfold PySem.W.kitOne; simp)))
    (case kk_NoneType => kit_is)
    (case kk_int => kit_is)
    (case kk_bool => kit_is)
    (case kk_str => kit_is)
    (case kk_tuple => kit_is)
    (case kk_list => kit_is)
    (case kk_dict => kit_is)
end
