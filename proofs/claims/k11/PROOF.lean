import PyProof.Rows.All
import Wide.All
import OpenK.AllK
import Wide.FinOn
import PyProof.EqAt
import PyProof.EqKinds
import PyProof.TupleCall
import HandS.ForMost
import HandS.ForExc
import HandS.ExcField
import HandS.ExcInit
import HandS.IsInst
import HandS.Defaults
import HandS.Small
import KE.KExcSuper
import KE.KExcMake
import HandS.Codes
import HandS.Evl
import HandS.Walk
import KE.GoesEnum
import HandS.Zip0
import HandS.Translate
import HandS.Replace
import PyProof.Rows.StrRev
import KE.KEqDict
import HandS.More
import HandS.TupAny
import HandS.Style
import HandS.Star
import HandS.SortInts
import HandS.Conv
import PyProof.ListStr
import HandS.Exc
import KE.KEqSeq
import HandS.DeepEq
import KE.KRevSl
import KE.KDictKeyed
import PyProof.Rows.TupDisplay
import PyProof.P3Eq
import PySem.Challenge.RW_roomsthrough_k11_whole_states_met_by_ste
section
set_option Elab.async false
set_option linter.all false
set_option maxRecDepth 100000
set_option maxHeartbeats 2000000
/-! # The errors of the package: each with an __init__ that says super().__init__(text) and keeps one value. -/
namespace RX
open PySem PySem.W PySem.Calls PyProof.Rows PySem.HandSPX
/-! ### the text of such an __init__, its field a letter -/
def eA (fld : Str) (p1 p2 : Pos) : Arguments := { posonlyargs := [], args := [{ arg := "self", annotation := none, pos := p1 }, { arg := fld, annotation := none, pos := p2 }], vararg := none, kwonlyargs := [], kw_defaults := [], kwarg := none, defaults := [] }
def eB (fld msg : Str) (q1 q2 q3 q4 q5 q6 q7 q8 q9 q10 : Pos) : List Stmt :=
  [.Expr (.Call (.Attribute (.Call (.Name "super" q1) [] [] q2) "__init__" q3) [.Constant (.str msg) 0 q4] [] q5) q6,
   .Assign [.Attribute (.Name "self" q7) fld q8] (.Name fld q9) q10]
def eS (fld : Str) : Scope := { kind := .function, names := [("self", .local), (fld, .local), ("__class__", .free), ("super", .globalImplicit)], isGenerator := false, isCoroutine := false, more := [] }
/-- what the top says of the class at C, whose __init__ stands at fI and sees the class by the cell at cc -/
structure ErrT (prog : Program) (K : Frag) (mg : Str → Option Value) (cn fld : Str) (C fI : Addr) : Prop where
  gC : mg cn = some (.ref C)
  cls : ∃ nm q N bs bm sn sub ab col dd k0 k1 k2 k3 k5, K.lookup C = some (excClassObj nm q C N bs bm true sn sub ab col dd k0 k1 k2 k3 k5 "ValueError.__new__") ∧ refsVE bm = true
  sa : findIn K (.ref C) "__setattr__" = some (some (.builtin "object.__setattr__"))
  xf : L2.XfC K C
  noN : findIn K (.ref C) fld = some none
  iC : findIn K (.ref C) "__init__" = some (some (.ref fI))
  tC : typeIn K (.ref fI) = some (.type "function")
  kC : keepIn K (.ref C) = true
  exC : subIn K (.ref C) (.type "BaseException") = some true
  tyC : typeIn K (.ref C) = some (.type "type")
  hdC : hasDictIn K C = true
  te : exmOne K (.ref C) (.ref C) = some true
  veC : subIn K (.ref C) (.type "ValueError") = some true
  selfM : mroIn K C (.ref C) = some true
  up : ks_superIn K C C "__init__" = some (some (.builtin "ValueError.__init__"))
  third : nsIn K cStatics "thirdparty.any" = some none
  noS : nsIn K mainGlobals "super" = some none
  top : (prog.main.scope.names.lookup ("super" : Str)).isSome = false
  fl : (eS fld).names.lookup fld = some .local ∧ (fld == ("self" : Str)) = false ∧ (eS fld).names.lookup ("super" : Str) = some .globalImplicit ∧ (eS fld).names.lookup ("__class__" : Str) = some .free ∧ (fld == ("__debug__" : Str)) = false
  bd : ∀ (qual : Str) (body : List Stmt) (doc pm : Value) (an : Option Addr) (cd ct : Value) (cc : Addr) (p1 p2 : Pos) (a b : Value), bindArgs (ksFn "__init__" qual (eA fld p1 p2) body (eS fld) .none .none doc pm an cd ct cc) ⟨[a, b], []⟩ = pure [(("self" : Str), a), (fld, b)]
  fn : ∃ (oc : Value) (od : Option Addr) (doc pm : Value) (an : Option Addr) (cda cc : Addr) (ct : Value) (osl : Array (Option Value)) (msg : Str) (qual : Str) (p1 p2 q1 q2 q3 q4 q5 q6 q7 q8 q9 q10 : Pos)
    (ccl cl : Value) (cdd cld : Option Addr) (ccs csl : Array (Option Value)) (vs : Array Value) (file : Str) (tf : Tok),
    K.lookup fI = some ⟨oc, od, .func (ksFn "__init__" qual (eA fld p1 p2) (eB fld msg q1 q2 q3 q4 q5 q6 q7 q8 q9 q10) (eS fld) .none .none doc pm an (.ref cda) ct cc), osl⟩ ∧ codeIn K (.ref cda) qual = true ∧
    K.lookup cda = some ⟨ccl, cdd, .fields vs, ccs⟩ ∧ vs[2]? = some (.str file tf) ∧ ((prog.main.file : Str) == file) = true ∧ K.lookup cc = some ⟨cl, cld, .cell (some (.ref C)), csl⟩ ∧ (q3.endLine == q5.line) = true
/-- what such an __init__ leaves of a fresh exception at x -/
structure ErrEnd (h h' : Heap) (fld : Str) (x C dx : Addr) (v : Value) : Prop where
  keep : ∀ b o, b ≠ x → h.get? b = some o → h'.get? b = some o
  obj : ∃ t1, h'.get? x = some { cls := .ref C, dict := some dx, data := .fields #[.ref t1, .none, .none, .none, .bool false, .none] }
  dbig : h.objs.size ≤ dx
  dne : dx ≠ x
  ns : h'.Ns1 dx (fun y => if y = fld then some v else none)
theorem size1 (v : Value) : [v].length ≤ sizeLine := by
  rw [sizeLine_eq]; exact (by decide : 1 ≤ 16777216)
section
variable {prog : Program} {w : World} {A : Around} {E : Value → Shared → Prop} {R : Result → Shared → Prop} {s : Shared} {K : Frag} {mg : Str → Option Value} {g : Heap} {cn fld : Str} {C fI : Addr}
theorem err_init (T : ErrT prog K mg cn fld C fI) {x t0 : Addr} {v : Value} (M : L2.Mod K mg g) (hg : ∀ b o, g.get? b = some o → s.heap.get? b = some o) (hx : s.heap.get? x = some (excO C t0)) (hnx : K.lookup x = none) (hroom : A.depth < recursionLimit)
    (hq : ∀ h' tk dx, ErrEnd s.heap h' fld x C dx v → R (.ok (.ret .none)) { s with heap := h', toks := tk }) :
    codeAny (model prog w) A (.call (.ref fI) ⟨[.ref x, v], []⟩) R s := by
  obtain ⟨oc, od, doc, pm, an, cda, cc, ct, osl, msg, qual, p1, p2, q1, q2, q3, q4, q5, q6, q7, q8, q9, q10, ccl, cl, cdd, cld, ccs, csl, vs, file, tf, ho, hcd, hcode, hvs, hfile, hcell, hpos⟩ := T.fn
  obtain ⟨nm, q, N, bs, bm, sn, sub, ab, col, dd, k0, k1, k2, k3, k5, hC, hbm⟩ := T.cls
  obtain ⟨hfl, hfs, hsu, hcs, hfd⟩ := T.fl
  have X : K.In s.heap := M.kin.keeps hg
  have hcl : clsIn K C = some { name := nm, bases := bs, mro := .ref C :: bm, ns := N, qualname := q, hasDict := true, slotNames := sn, subclasses := sub, abstract := ab, collection := col, hasDel := false } := by unfold clsIn; rw [hC] <;> rfl
  have hfs' : ("self" == fld) = false := by
    have : ¬ fld = ("self" : Str) := by simpa using hfs
    simpa using fun z => this z.symm
  refine ks_codeAny_call_defAt (fd := ksFn "__init__" qual (eA fld p1 p2) (eB fld msg q1 q2 q3 q4 q5 q6 q7 q8 q9 q10) (eS fld) .none .none doc pm an (.ref cda) ct cc) (binds := [("self", .ref x), (fld, v)])
    hroom (X _ _ ho) rfl (M.nolimit.keeps hg) (codeRec_of X hcd) rfl ?hb ?hc ?hl (fun h1 hns k => ?_) rfl rfl rfl
  case hb => exact BindsTo.of_eq (T.bd _ _ _ _ _ _ _ _ _ _ _ _)
  case hc => 
    intro y hy
    simp only [ksFn, eS, List.mem_cons, List.not_mem_nil, or_false] at hy
    rcases hy with rfl | rfl | rfl | rfl <;> (intro z; cases z)
  case hl =>
    intro y hy
    simp only [List.mem_cons, List.not_mem_nil, or_false] at hy
    rcases hy with rfl | rfl
    · rfl
    · exact hfl
  have k : ∀ b o, s.heap.get? b = some o → h1.get? b = some o := k
  have X1 : K.In h1 := X.keeps k
  have hx1 := k _ _ hx
  have M1 : ∀ b o, g.get? b = some o → h1.get? b = some o := fun b o e => k b o (hg b o e)
  have mself : (fun y => List.lookup y ([("self", .ref x), (fld, v)] : List (Str × Value)).reverse) "self" = some (.ref x) := by
    simp only [List.reverse_cons, List.reverse_nil, List.nil_append, List.cons_append, List.lookup]
    rw [hfs']
    rfl
  have mfld : (fun y => List.lookup y ([("self", .ref x), (fld, v)] : List (Str × Value)).reverse) fld = some v := by
    simp [List.reverse_cons, List.lookup]
  refine ks_wpAt_execs_cons (ks_wpAt_Expr_any (ks_wpAt_MethodCall (pl := (do return (← importBound (.Call (.Name "super" q1) [] [] q2) (callEnv (ksFn "__init__" qual (eA fld p1 p2) (eB fld msg q1 q2 q3 q4 q5 q6 q7 q8 q9 q10) (eS fld) .none .none doc pm an (.ref cda) ct cc) s.heap.objs.size fI)).getD true)) ?_ ?he))
  case he =>
    show (do let ov ← _; standAt q3.atName; methodCall _ _ _ _ _ ov _ _ _) = _
    unfold methodCall methodCallPos
    rw [hpos]
    rfl
  have hD : ∃ oD, h1.get? C = some oD ∧ oD.data = .cls { name := nm, bases := bs, mro := .ref C :: bm, ns := N, qualname := q, hasDict := true, slotNames := sn, subclasses := sub, abstract := ab, collection := col, hasDel := false } := ⟨_, X1 _ _ hC, rfl⟩
  obtain ⟨oD, hD1, hD2⟩ := hD
  refine ks_wpAt_super_base hsu hcs rfl rfl (X1 _ _ ho) rfl rfl rfl (X1 _ _ hcode) rfl hvs hfile T.top ?_
  obtain ⟨mb, hmb, hmb2⟩ := M.blt
  refine ks_loadName_global rfl hsu (loadGlobal_builtin (mg := mg) (mb := mb) (M.glob.keeps M1) (mg_none_of M.kin M.glob T.noS) (hmb.keeps M1) ((hmb2 _ (by decide)).trans (by decide +kernel)) ⟨rfl, ?_⟩)
  refine wpAny_loadName_free rfl hcs rfl ⟨_, X1 _ _ hcell, rfl⟩ ?_
  refine wpAny_loadName_local rfl rfl hns mself ?_
  refine ks_wpAny_isType_cls hD1 hD2 ⟨rfl, ?_⟩
  refine ks_wpAny_call_super hD1 hD2 hx1 rfl (fun c z => by cases z) (looks_mroIn X1 T.selfM) (fun h2 e2 k2 => ?_)
  have X2 : K.In h2 := X1.keeps k2
  have hx2 := k2 _ _ hx1
  have I2 : InstAt h2 x (excO C t0) C none := ⟨hx2, rfl, rfl, trivial⟩
  have hf2 : alongIn K "__init__" (((.ref C :: bm : List Value).dropWhile (· != .ref C)).drop 1) = some (some (.builtin "ValueError.__init__")) := by
    have := T.up
    unfold ks_superIn at this
    rw [hcl] at this
    exact this
  refine kxs_getMethod kxs_ValueError e2 (looks_opaque X2 T.third) (l₀ := .ref C :: bm) (fun A Q E s k q => wpAny_bind ((looks_clsIn X2 hcl) A _ E s k (wpAny_pure q))) rfl X2 hf2 (I2.type.andThen (looks_subIn X2 T.veC)) (ks_ne X2 I2 hcl) rfl ?_
  -- the wrapper is called with the text
  have hu3 : (h2.push (kxs_mw "ValueError.__init__" x)).get? h2.objs.size = some (kxs_mw "ValueError.__init__" x) := Heap.get?_push_at rfl rfl
  have k3 : ∀ b o, h2.get? b = some o → (h2.push (kxs_mw "ValueError.__init__" x)).get? b = some o := fun b o e => Heap.get?_push_of_some _ e
  refine kxs_callWith (i := "ValueError.__init__") (x := x) rfl (evalArgs_plain ?_)
  refine spliced_more (Calls.Constant_str ?_)
  refine spliced_none ?_
  refine ⟨hu3, ?_⟩
  have hx3 := k3 _ _ hx2
  have hC3 := k3 _ _ (X2 _ _ hC)
  show wpAny (model prog w) (A.deeper _) (call (.ref h2.objs.size) [.str msg _]) _ _ _
  refine wpAny_call (codeAny_of_tree ?_)
  show wpAny _ (A.deeper _).in1 (callAny (.ref h2.objs.size) ⟨[.str msg _], []⟩) _ _ _
  simp only [callAny]
  refine wpAny_bind (wpAny_load hu3 ?_)
  simp only [kxs_mw, show (Value.type "method-wrapper" == Value.type "method" || Value.type "method-wrapper" == Value.type "builtin_function_or_method" || Value.type "method-wrapper" == Value.type "method-wrapper") = true by decide, if_true]
  refine KFB.if_so (by decide) ?_
  refine wpAny_bind (check_bound_init F.excBase_ValueError.toExcCallFacts hC3 hx3 rfl ?_)
  refine wpAny_bind (wpAny_pure (wpAny_pure ?_))
  refine ⟨plainId_quiet F.excBase_ValueError.init.plain _, codeAny_builtin F.excBase_ValueError.initEntry ?_⟩
  refine exc_init_tree (cls := .ref C) (t0 := t0) (dv := none) (c2 := .none) (c3 := .none) (b4 := .bool false) hx3 (size1 _) (fun h4 k4 hx4 ht4 => ?_)
  -- self.field = value
  have k14 : ∀ b o, b ≠ x → h1.get? b = some o → h4.get? b = some o := fun b o hb e => k4 b o hb (k3 _ _ (k2 _ _ e))
  have X4 : K.In h4 := fun a o e => k14 a o (fun z => by rw [z, hnx] at e; cases e) (X1 a o e)
  have hL : s.heap.objs.size ≠ x := Nat.ne_of_gt (Heap.lt_size hx)
  have hn4 : h4.Ns s.heap.objs.size (fun y => List.lookup y ([("self", .ref x), (fld, v)] : List (Str × Value)).reverse) := hns.at (fun o e => k14 _ _ hL e)
  show PySem.wpAt _ _ _ (execs _ _) _ _ _
  refine ks_wpAt_execs_cons (ks_wpAt_Assign_Attr ?_)
  have hfl' : (callEnv (ksFn "__init__" qual (eA fld p1 p2) (eB fld msg q1 q2 q3 q4 q5 q6 q7 q8 q9 q10) (eS fld) .none .none doc pm an (.ref cda) ct cc) s.heap.objs.size fI).kindOf fld = some .local := hfl
  refine wpAt_of_wpAny (wpAny_Name ?_ hfd)
  refine wpAny_loadName_local (m := fun y => List.lookup y ([("self", .ref x), (fld, v)] : List (Str × Value)).reverse) (v := v) rfl hfl' hn4 mfld ?_
  refine wpAny_Name ?_
  refine wpAny_loadName_local (m := fun y => List.lookup y ([("self", .ref x), (fld, v)] : List (Str × Value)).reverse) (v := .ref x) rfl rfl hn4 mself ?_
  have hx5 : h4.get? x = some (excO C _) := hx4
  refine set_plain X4 (ox := excO C _) (od := none) ⟨hx5, rfl, rfl, trivial⟩ T.sa ?_
  refine exc_osa X4 hx5 hcl (show refsVE (.ref C :: bm) = true from hbm) rfl T.noN (fun h5 tk5 dx k5' dn dne hx6 hn5 => ?_)
  show PySem.wpAt _ _ _ (execs _ _) _ _ _
  have big : s.heap.objs.size ≤ dx := Nat.le_trans (Nat.le_of_lt hn4.lt) dn
  refine wpAt_of_wpAny (wpAny_execs_nil (hq h5 tk5 dx ⟨fun b o hb e => k5' b o hb (k14 b o hb (k b o e)), ⟨_, hx6⟩, big, dne, hn5⟩))
/-- a made error -/
structure ErrMade (h h' : Heap) (fld : Str) (e C d : Addr) (v : Value) : Prop where
  keep : ∀ b o, h.get? b = some o → h'.get? b = some o
  new : h.objs.size ≤ e
  obj : ∃ oe vs, h'.get? e = some oe ∧ oe.cls = .ref C ∧ oe.dict = some d ∧ oe.data = .fields vs ∧ vs[1]? = some .none
  dbig : h.objs.size ≤ d
  dne : d ≠ e
  ns : h'.Ns1 d (fun y => if y = fld then some v else none)
theorem err_made (T : ErrT prog K mg cn fld C fI) {v : Value} (M : L2.Mod K mg g) (hg : ∀ b o, g.get? b = some o → s.heap.get? b = some o) (hroom : A.depth + 1 < recursionLimit)
    (hq : ∀ h' tk e d, ErrMade s.heap h' fld e C d v → R (.ok (.ret (.ref e))) { s with heap := h', toks := tk }) :
    codeAny (model prog w) A (.call (.ref C) ⟨[v], []⟩) R s := by
  obtain ⟨nm, q, N, bs, bm, sn, sub, ab, col, dd, k0, k1, k2, k3, k5, hC, hbm⟩ := T.cls
  have X : K.In s.heap := M.kin.keeps hg
  obtain ⟨hp, gs, dr, tk, os⟩ := s
  have k : ∀ b o, hp.get? b = some o → ((hp.push (kdv_tup [v])).push (excO C hp.objs.size)).get? b = some o := fun b o e => Heap.get?_push_of_some _ (Heap.get?_push_of_some _ e)
  have hget : ((hp.push (kdv_tup [v])).push (excO C hp.objs.size)).get? (hp.objs.size + 1) = some (excO C hp.objs.size) := by heap_get
  have hnx : K.lookup (hp.objs.size + 1) = none := by
    cases e : K.lookup (hp.objs.size + 1) with
    | none => rfl
    | some o =>
      have z : hp.get? (hp.objs.size + 1) = some o := X _ _ e
      exact absurd (Nat.lt_of_succ_lt (Heap.lt_size z)) (Nat.lt_irrefl _)
  refine call_own F.excBase_ValueError (fun X => refsVE_contains X bm hbm) (X _ _ hC) (looks_findIn X T.iC) (fun self => bind_fn X self T.tC) (size1 v) ?_
  refine err_init (s := ⟨(hp.push (kdv_tup [v])).push (excO C hp.objs.size), gs, dr, tk, os⟩) (g := g) T M (fun b o e => k b o (hg b o e)) hget hnx ?_ fun h' tk' dx ⟨k', hx, dn, dne, hns⟩ => ?_
  · show A.depth + 1 < recursionLimit
    exact hroom
  · obtain ⟨t1, hx⟩ := hx
    have old : ∀ b o, hp.get? b = some o → h'.get? b = some o := fun b o e => k' b o (Nat.ne_of_lt (Nat.lt_succ_of_lt (Heap.lt_size e))) (k b o e)
    have z : hp.objs.size + 1 + 1 ≤ dx := by
      first
        | (simpa only [Heap.size_push] using dn)
        | exact dn
        | (have q := dn; rw [Heap.size_push, Heap.size_push] at q; exact q)
    exact ⟨rfl, hq h' tk' (hp.objs.size + 1) dx ⟨old, Nat.le_succ _, ⟨_, _, hx, rfl, rfl, rfl, rfl⟩, Nat.le_trans (Nat.le_trans (Nat.le_succ _) (Nat.le_succ _)) z, dne, hns⟩⟩
end
end RX
namespace L2
open PySem PySem.Spec PyProof.Rows
theorem relO_one {fld : Str} {v : V} {v' : Value} (r : RelV v v') (f : Str) : RelO (List.lookup f [(fld, v)]) (if f = fld then some v' else none) := by
  by_cases hw : f = fld
  · subst hw
    rw [if_pos rfl]
    have q : List.lookup f [(f, v)] = some v := by simp [List.lookup]
    rw [q]; exact r
  · rw [if_neg hw]
    have qw : (f == fld) = false := by simpa using hw
    have q2 : List.lookup f [(fld, v)] = none := by simp [List.lookup, qw]
    rw [q2]; trivial
section
variable {X : Cx} {C fI : Addr} {cn fld : Str}
/-- Err(e): its own dict d is new and holds the field -/
def tMkErr (fld : Str) (C : Addr) (ta : TA) : St → Hp → XK → Prop := fun σ H Q => ta σ H fun vs H1 => ∃ v, vs = [v] ∧ ∀ d, H1 d = none → Q (.ref C) (some d) (upd H1 d (.xd [(fld, v)]))
theorem pmk_err {a : Expr} {ta : TA} {p pos : Pos} {k : Nat} (T : RX.ErrT X.prog X.K X.mg cn fld C fI) (hr : Room k X.A) (ha : PA X [a] ta) (hg : Gl X cn := by rfl) (hdb : (cn == ("__debug__" : Str)) = false := by decide)
    (he : starEach (a :: []) X.env = (false, eval a X.env) :: starEach [] X.env := by rfl) (hpl : (backTo pos (starEach [] X.env)).any (·.1) = false := by rfl) :
    PMk X (.Call (.Name cn p) [a] [] pos) (tMkErr fld C ta) := by
  intro pins s σ H Q I h
  refine wpAny_Call_Name_kw (ld_glob I hg T.gC ?_ hdb)
  refine PySem.W.callWith_K (h₀ := X.base) I.ok.mod.kin T.kC (thn (ha.run pos pins s σ H _ I h) fun us s1 hh => ?_) he hpl
  obtain ⟨vs, H1, I1, r1, v, ev, q1⟩ := hh
  subst ev
  refine ⟨I1.kIn, ?_⟩
  cases r1 with
  | cons rv rn =>
    rename_i v' us'
    cases rn
    show wpAny _ _ (call (.ref C) [v']) _ _ _
    have hbk := I1.bk
    obtain ⟨hp, g, dr, tk, os⟩ := s1
    refine wpAny_call (RX.err_made T I1.mod hbk (by have := hr.dp; omega) fun h' tk' e d M => ?_)
    show MkP X pins σ Q (.ref e) ⟨h', g, dr, tk', os⟩
    obtain ⟨oe, fv, hoe, hc, hd, hdat, h1⟩ := M.obj
    have hns := M.ns
    obtain ⟨G', g1, g2⟩ := restrict h' fun b => decide (b ≠ e)
    have gk : ∀ b, b ≠ e → G'.get? b = h'.get? b := fun b hb => g1 b (decide_eq_true hb)
    have ge : G'.get? e = none := g2 e (by simp)
    have old : ∀ b o, hp.get? b = some o → G'.get? b = some o := fun b o q => (gk b (Nat.ne_of_lt (Nat.lt_of_lt_of_le (Heap.lt_size q) M.new))).trans (M.keep b o q)
    have ob : ObjOk X.prog X.w (upd H1 d (.xd [(fld, v)])) G' d (.xd [(fld, v)]) :=
      ⟨_, hns.at (fun o q => (gk d M.dne).trans q), fun f => relO_one rv f⟩
    have J : Inv X pins σ (upd H1 d (.xd [(fld, v)])) ⟨G', g, dr, tk', os⟩ := I1.laid (t' := tk') old M.dbig ob
    refine ⟨e, oe, fv, ⟨G', g, dr, tk', os⟩, _, .ref C, some d, rfl, J, fun b o q => ?_, ge, hoe, ⟨hc, hd⟩, hdat, h1, ?_, rfl, I1.bare, raises_own T.exC T.tyC, q1 d (I1.hok.fresh M.dbig)⟩
    · by_cases hb : b = e
      · have q' : G'.get? b = some o := q
        rw [hb, ge] at q'; cases q'
      · exact (gk b hb).symm.trans q
    · rw [upd_ne (Ne.symm M.dne)]
      exact I1.hok.fresh M.new
/-- raise Err(e) -/
def tRaiseErr (fld : Str) (C : Addr) (W : WX) (ta : TA) : TS := fun _ σ H => tMkErr fld C ta σ H fun cls d H' => W cls d σ H'
theorem ps_raiseErr {a : Expr} {ta : TA} {W : WX} {p pos pos2 : Pos} {k : Nat} (hc : X.calm = true) (T : RX.ErrT X.prog X.K X.mg cn fld C fI) (hr : Room k X.A) (tk : Takes X W) (ha : PA X [a] ta) (hg : Gl X cn := by rfl) (hdb : (cn == ("__debug__" : Str)) = false := by decide)
    (he : starEach (a :: []) X.env = (false, eval a X.env) :: starEach [] X.env := by rfl) (hpl : (backTo pos (starEach [] X.env)).any (·.1) = false := by rfl) :
    PS X (.Raise (some (.Call (.Name cn p) [a] [] pos)) none pos2) (tRaiseErr fld C W ta) := ps_raise hc tk (pmk_err T hr ha hg hdb he hpl)
end
end L2
end
section
set_option Elab.async false
set_option linter.all false
set_option maxRecDepth 100000
set_option maxHeartbeats 2000000
/-! # Calls within which nothing is being shown: what repr needs to be told. -/
namespace L2
open PySem PySem.Spec PyProof.Rows
/-- as FnOk, but only where no repr is under way around the call -/
structure FnG (P : Program) (w : World) (K : PySem.W.Frag) (mg : Str → Option Value) (base : Heap)
    (CX : CXT) (k : Nat) (f : Addr) (fd : FuncData) (ps : List Str) (sp : Sp) : Prop where
  len : ∀ vs H Q E, sp vs H Q E → vs.length = ps.length
  run : ∀ (A : Around) (outer : List Env) (s : Shared) (H : Hp) (args : Args) (us : List Value)
    (vs : List V) (Q : VK) (E : XK), A.guards = some [] → Room k A → Env0 P w K mg base A outer s H →
    BindsTo s fd args (ps.zip us) → Vals vs us → sp vs H Q E →
    codeAny (model P w) A (.call (.ref f) args) (CR CX outer P w H s Q E) s
section
variable {P : Program} {w : World} {K : PySem.W.Frag} {mg : Str → Option Value} {base : Heap}
  {CX : CXT} {k j : Nat} {f : Addr} {fd : FuncData} {ps : List Str} {sp sp' : Sp}
theorem FnOk.g (F : FnOk P w K mg base CX k f fd ps sp) : FnG P w K mg base CX k f fd ps sp :=
  ⟨F.len, fun A o s H a us vs Q E _ => F.run A o s H a us vs Q E⟩
theorem FnG.mono (F : FnG P w K mg base CX j f fd ps sp) (h : j ≤ k) : FnG P w K mg base CX k f fd ps sp :=
  ⟨F.len, fun A o s H a us vs Q E hg hr => F.run A o s H a us vs Q E hg (hr.mono h)⟩
theorem FnG.imp (F : FnG P w K mg base CX k f fd ps sp) (h : ∀ vs H Q E, sp' vs H Q E → sp vs H Q E) :
    FnG P w K mg base CX k f fd ps sp' :=
  ⟨fun vs H Q E q => F.len vs H Q E (h _ _ _ _ q),
   fun A o s H a us vs Q E hg hr he hb hv hs => F.run A o s H a us vs Q E hg hr he hb hv (h _ _ _ _ hs)⟩
end
/-- a def by its body, where nothing is being shown -/
theorem fn_ofG {CX : CXT} {P : Program} {w : World} {K : PySem.W.Frag} {mg : Str → Option Value} {base : Heap}
    {k : Nat} {f : Addr} {name qual : Str} {params : Arguments} {body : List Stmt} {scope : Scope}
    {dV kV doc pm cdv ct oc : Value} {an od : Option Addr} {osl : Array (Option Value)} {N ps : List Str} {sp : Sp}
    (lk : K.lookup f = some ⟨oc, od, .func (PySem.W.fnOf name qual params body scope dV kV doc pm an cdv ct), osl⟩)
    (hcd : PySem.W.codeIn K cdv qual = true) (S : FnScope N ps scope)
    (len : ∀ vs H Q E, sp vs H Q E → vs.length = ps.length)
    (hbody : ∀ (A : Around) (outer : List Env) (s : Shared) (H : Hp) (vs : List V) (Q : VK) (E : XK),
      A.guards = some [] → Room k (A.deeper (envOfC qual scope s.heap.objs.size f cdv)) → sp vs H Q E →
      ∃ t, PSs (cxOf CX P w K mg base N qual scope f cdv A outer s H E) body t ∧
        t { nx := fun _ H' => Q .non H', rt := Q } (start N vs) H) :
    FnG P w K mg base CX (k + 1) f (PySem.W.fnOf name qual params body scope dV kV doc pm an cdv ct) ps sp := by
  constructor
  · exact len
  intro A outer s H args us vs Q E hgd hr e0 hb r hsp
  have lenV := len _ _ _ _ hsp
  have kept : ∀ b o, base.get? b = some o → s.heap.get? b = some o := fun b o e => (e0.bs b o e).1
  have KX : K.In s.heap := e0.mod.kin.keeps kept
  have noLim : s.heap.NoLimit := e0.mod.nolimit.keeps kept
  have kinds : ∀ y ∈ ps.zip us, scope.names.lookup y.1 = some .local ∨
      (scope.names.lookup y.1 = some .cell ∧ ((cellsFrom (s.heap.objs.size + 1) scope.names []).lookup y.1).isSome = true) := by
    rintro ⟨n, v⟩ hy
    have hn : n ∈ ps := (List.of_mem_zip hy).1
    rcases S.par n hn with z | z
    · exact Or.inl z
    · exact Or.inr ⟨z, PySem.W.cellsFrom_some _ _ _ (Or.inl z)⟩
  refine codeAny_call_function hr.depth (KX _ _ lk) rfl S.co S.gen rfl (PySem.W.codeRec_of KX hcd) ?_
  apply hb
  refine wpAny_newFunctionEnv_cells S.kind kinds ?_
  rintro env rfl s1 x
  refine ⟨noLim.keeps x.toInCall.keep, codeAny_func ?_⟩
  obtain ⟨t, ht, hq⟩ := hbody A outer s H vs Q E hgd (hr.deeper _) hsp
  have I := inv_start (CX := CX) (E := E) S hr.hd e0 lenV r x
  refine wpAny_mono (ht.run [] s1 (start N vs) H _ I hq) ?_ (fun _ _ z => z)
  intro fl s' hs
  have done : ∀ {σ' : St} {H' : Hp} {v : V} {u : Value},
      Inv (cxOf CX P w K mg base N qual scope f cdv A outer s H E) [] σ' H' s' → RelV v u → Q v H' →
      CE outer P w H s Q u s' := by
    intro σ' H' v u J rv q
    exact ⟨v, H', J.os, J.bare, J.base, J.hok, rv, q⟩
  match fl, hs with
  | .ret u, hs => obtain ⟨v, σ', H', J, rv, q⟩ := hs; exact done J rv q
  | .next, hs => obtain ⟨σ', H', J, q⟩ := hs; exact done (v := .non) (u := .none) J rfl q
  | .brk, hs => obtain ⟨_, _, _, q⟩ := hs; exact q.elim
  | .cont, hs => obtain ⟨_, _, _, q⟩ := hs; exact q.elim
section
variable {X : Cx} {CX : CXT} {k : Nat} {f C : Addr} {fd : FuncData} {ps : List Str} {sp : Sp} {dvs : List V} {ds : List Value} {E : XK} {x m : Str} {p pos apos : Pos} {e o : Expr} {es : List Expr} {ta : TE} {t : TA}
theorem run_fnG {pins : List (Addr × Obj)} {σ : St} {H : Hp} {s : Shared} {Q : VK} {us : List Value} {vs : List V}
    (F : FnG X.prog X.w X.K X.mg X.base CX k f fd ps sp) (hgd : X.A.guards = some []) (hr : Room k X.A) (hb : Binds X.K fd ps ds) (hd : Vals dvs ds)
    (hx : Passes CX X E) (I : Inv X pins σ H s) (r : Vals vs us) (h : sp (vs ++ dvs) H Q E) :
    wpAny (model X.prog X.w) X.A (call (.ref f) us) (EP X pins σ Q) X.xe s := by
  have r2 := r.append hd
  have hl : (us ++ ds).length = ps.length := r2.length.symm.trans (F.len _ _ _ _ h)
  apply wpAny_call
  refine codeAny_mono (F.run X.A X.stack s H ⟨us, []⟩ (us ++ ds) (vs ++ dvs) Q E hgd hr I.env0 (hb s us I.kIn hl) r2 h) ?_
  intro r s' hq
  match r, hq with
  | .error e, hq => exact hx pins σ H s e s' I hq
  | .ok (.ret u), hq => exact I.after hq
  | .ok .next, hq => exact False.elim hq
  | .ok .brk, hq => exact False.elim hq
  | .ok .cont, hq => exact False.elim hq
theorem pg_call (F : FnG X.prog X.w X.K X.mg X.base CX k f fd ps sp) (hgd : X.A.guards = some []) (hr : Room k X.A) (hg : Gl X x) (hm : X.mg x = some (.ref f))
    (hk : PySem.W.keepIn X.K (.ref f) = true) (hb : Binds X.K fd ps ds) (hd : Vals dvs ds) (hx : Passes CX X E)
    (ha : PA X (e :: es) t) (hdb : (x == ("__debug__" : Str)) = false := by decide)
    (he : starEach (e :: es) X.env = (false, eval e X.env) :: starEach es X.env := by rfl)
    (hpl : (backTo pos (starEach es X.env)).any (·.1) = false := by rfl) :
    PE X (.Call (.Name x p) (e :: es) [] pos) (tCall sp dvs E t) := by
  constructor
  intro pins s σ H Q I h
  refine wpAny_Call_Name_kw (ld_glob I hg hm ?_ hdb)
  refine PySem.W.callWith_K (h₀ := X.base) I.ok.mod.kin hk (thn (ha.run pos pins s σ H _ I h) ?_) he hpl
  rintro us s1 ⟨vs, H1, I1, r, q⟩
  exact ⟨I1.kIn, run_fnG F hgd hr hb hd hx I1 r q⟩
theorem pg_meth {pl : Sem Bool} (he : PE X o ta) (c : Cls X.K C) (hm : Meth X.K C m f) (F : FnG X.prog X.w X.K X.mg X.base CX k f fd ps sp)
    (hgd : X.A.guards = some []) (hr : Room k X.A) (hb : Binds X.K fd ps ds) (hd : Vals dvs ds) (hx : Passes CX X E) (ha : PA X (e :: es) t)
    (hst : starEach (e :: es) X.env = (false, eval e X.env) :: starEach es X.env := by rfl)
    (hpl : (backTo pos (starEach es X.env)).any (·.1) = false := by rfl)
    (ht : eval (.Call (.Attribute o m apos) (e :: es) [] pos) X.env =
      (do let ov ← eval o X.env; standAt apos.atName; let (f, first) ← holding [ov] (getMethod ov m pl); callWith pos f first (backTo pos (starEach (e :: es) X.env)) (backToKw pos (keywordEach [] X.env))) := by rfl) :
    PE X (.Call (.Attribute o m apos) (e :: es) [] pos) (tMeth C m sp dvs E ta t) := by
  constructor
  intro pins s σ H Q I h
  refine PySem.W.methodCall_KW (pl := pl) (thn (he.run pins s σ H _ I h) ?_) ht
  rintro u s1 ⟨x, H1, I1, rx, a, dx, fs, ex, ea, l, q⟩
  subst ex
  cases (show u = Value.ref a from rx)
  refine getmeth_ok I1 ea c hm l ?_
  refine PySem.W.callWith_K (first := [.ref a]) (h₀ := X.base) I.ok.mod.kin hm.kp (thn (ha.run pos pins s1 σ H1 _ I1 q) ?_) hst hpl
  rintro us s2 ⟨vs, H2, I2, r, q2⟩
  exact ⟨I2.kIn, run_fnG (us := .ref a :: us) (vs := .ref a :: vs) F hgd hr hb hd hx I2 (.cons rfl r) q2⟩
end
/-- the law's own call, at the heap behind the top -/
theorem law_callG {P : Program} {w : World} {K : PySem.W.Frag} {mg mb : Str → Option Value} {CX : CXT} {k : Nat} {fa a : Addr} {fd : FuncData} {x : Str} {sp : Sp} {s₁ : Shared} {vs : List Value} {ns : List Int}
    (KX : K.In s₁.heap) (hns : s₁.heap.Ns mainGlobals mg) (hb : s₁.heap.Ns builtinsNs mb) (hbb : ∀ x : Str, x ≠ "__name__" → mb x = bootBuiltins x)
    (hlim : s₁.heap.NoLimit) (hg : s₁.gens = #[]) (ha : s₁.heap.get? a = some { cls := .type "list", data := .seq vs.toArray })
    (hi : IntsAre vs ns) (hl : ns.length ≤ sizeLine) (hr : Room k callerA)
    (F : ∀ base : Heap, K.In base → base.Ns mainGlobals mg → FnG P w K mg base CX k fa fd [x] sp)
    (hbind : ∀ (s : Shared) (u : Value), BindsTo s fd ⟨[u], []⟩ [(x, u)])
    (hsp : ∀ H : Hp, Only H → SqL K H a (ns.map V.int) → sp [.ref a] H (fun v _ => v = .bl true) fun _ _ _ => False)
    (hCX : ∀ H e s', CX [] H s₁ (fun _ _ _ => False) e s' → False) :
    codeAny (model P w) callerA (.call (.ref fa) ⟨[.ref a], []⟩)
      (fun r s' => r = .ok (.ret (.bool true)) ∧ OldK s₁.heap s'.heap ∧ s'.os = s₁.os ∧ AllBare s'.gens) s₁ := by
  have rv := vals_ints hi
  have lenV := hi.length
  have core : ∀ H : Hp, Only H → SqL K H a (ns.map V.int) → HOk P w H s₁.heap → (∀ b, H b ≠ none → b = a) → (H a ≠ none → K.lookup a = none) →
      codeAny (model P w) callerA (.call (.ref fa) ⟨[.ref a], []⟩)
        (fun r s' => r = .ok (.ret (.bool true)) ∧ OldK s₁.heap s'.heap ∧ s'.os = s₁.os ∧ AllBare s'.gens) s₁ := by
    intro H hO hS hok hA hK
    have toB : ∀ {b : Addr} {o : Obj}, s₁.heap.get? b = some o → H b = none → (hidT s₁.heap H).get? b = some o := hidT_get
    have notA : ∀ {b : Addr} {o : Obj} {es : Array DictEntry} {ep : Nat}, s₁.heap.get? b = some o → o.data = .dict es ep → H b = none := by
      intro b o es ep e d
      cases q : H b with
      | none => rfl
      | some u =>
        cases (hA b (by rw [q]; simp))
        rw [ha] at e
        cases e
        exact nomatch (show Data.seq vs.toArray _ = Data.dict es ep from d)
    have toNs : ∀ {b : Addr} {m : Str → Option Value}, s₁.heap.Ns b m → (hidT s₁.heap H).Ns b m := by
      rintro b m ⟨o, es, ep, e, d, r⟩
      exact ⟨o, es, ep, toB e (notA e d), d, r⟩
    have inB : K.In (hidT s₁.heap H) := by
      intro b o e
      refine toB (KX b o e) ?_
      cases q : H b with
      | none => rfl
      | some u =>
        cases (hA b (by rw [q]; simp))
        have z := hK (by rw [q]; simp)
        rw [z] at e
        cases e
    have hM : Mod K mg (hidT s₁.heap H) := by
      obtain ⟨mc, h1, h2⟩ := hlim
      exact ⟨inB, toNs hns, ⟨mb, toNs hb, hbb⟩, ⟨mc, toNs h1, h2⟩⟩
    have e0 : Env0 P w K mg (hidT s₁.heap H) callerA [] s₁ H :=
      { frames := rfl, mod := hM, bs := fun b o e => of_hidT e, bsz := Nat.le_of_eq (hidT_size _ _), funs := trivial,
        frf := fun b hb => absurd (show b ∈ ([] : List Addr) from hb) (by simp), hok := hok, bare := .of_eq hg }
    have run := (F _ inB (toNs hns)).run callerA [] s₁ H ⟨[.ref a], []⟩ [.ref a] [.ref a] _ _ rfl hr e0 (hbind s₁ (.ref a)) (.cons rfl .nil) (hsp H hO hS)
    refine codeAny_mono run ?_
    intro r s' h
    match r, h with
    | .error e, h => exact (hCX H e s' h).elim
    | .ok .next, h => exact False.elim h
    | .ok .brk, h => exact False.elim h
    | .ok .cont, h => exact False.elim h
    | .ok (.ret u), h =>
      obtain ⟨v, H', os, bare, un, hok', r', q⟩ := h
      cases (show v = V.bl true from q)
      cases (show u = Value.bool true from r')
      refine ⟨rfl, OldK.of_keep ?_, os, bare⟩
      intro b o e
      cases q2 : H b with
      | none => exact un.keep b o e q2 (by intro z; exact absurd (show b ∈ ([] : List Addr) from z) (by simp)) (by simp)
      | some u2 =>
        rcases hO b with z | ⟨ob, xs, z⟩
        · rw [q2] at z
          cases z
        · obtain ⟨e1, _⟩ := hok b _ z
          obtain ⟨e2, _⟩ := hok' b _ (un.frzs b ob _ z)
          rw [e] at e1
          cases e1
          exact e2
  cases hk : K.lookup a with
  | some o =>
    have e := KX a o hk
    rw [ha] at e
    cases e
    refine core (fun _ => none) (fun _ => Or.inl rfl) (Or.inr ⟨_, vs.toArray, _, hk, rfl, rfl, rfl, ?_, ?_⟩) ?_ (fun b z => absurd rfl z) (fun z => absurd rfl z)
    · rw [List.size_toArray, lenV]
      exact hl
    · simpa using rv
    · intro b u z
      exact nomatch (show (none : Option HO) = some u from z)
  | none =>
    have hif : ∀ b, b ≠ a → (fun b => if b = a then some (HO.frz { cls := .type "list", data := .seq vs.toArray } (.lst (ns.map V.int))) else none) b = none := fun b h => if_neg h
    refine core (fun b => if b = a then some (.frz { cls := .type "list", data := .seq vs.toArray } (.lst (ns.map V.int))) else none) ?_ (Or.inl (Or.inr ⟨_, if_pos rfl⟩)) ?_ ?_ (fun _ => hk)
    · intro b
      by_cases h : b = a
      · exact Or.inr ⟨_, _, if_pos h⟩
      · exact Or.inl (hif b h)
    · intro b u z
      by_cases h : b = a
      · subst h
        cases (if_pos rfl).symm.trans z
        refine ⟨ha, ?_, vs, _, rv, ha⟩
        rw [List.length_map]
        exact hl
      · cases (hif b h).symm.trans z
    · intro b z
      by_cases h : b = a
      · exact h
      · exact absurd (hif b h) z
theorem walk_ofG {l : PySem.W.OpenLaw} {n k : Nat} {q : Program} {loose : List Str} {XP : (Str → Option Value) → Heap → Prop} {YP : World → Heap → Prop} {d : DefRec} {K : Params → PySem.W.Frag} {CX : World → CXT} {sp : World → Sp} {x : Str}
    (hn : l.most = some n) (hn2 : n ≤ sizeLine) (hdf : d.params.defaults = []) (hr : Room k callerA) (hY : ∀ (w : World) (h : Heap), YP w h → (K w.params).In h)
    (F : ∀ (w : World) (mg : Str → Option Value) (fa : Addr) (h : Heap), (K w.params).In h → h.Ns mainGlobals mg → mg d.name = some (.ref fa) →
      ∃ fd : FuncData, (∀ (s : Shared) (u : Value), BindsTo s fd ⟨[u], []⟩ [(x, u)]) ∧ ∀ base : Heap, (K w.params).In base → base.Ns mainGlobals mg → FnG l.prog w (K w.params) mg base (CX w) k fa fd [x] (sp w))
    (hsp : ∀ (w : World) (H : Hp) (a : Addr) (ns : List Int), ns.length ≤ n → Only H → SqL (K w.params) H a (ns.map V.int) → sp w [.ref a] H (fun v _ => v = .bl true) fun _ _ _ => False)
    (hCX : ∀ (w : World) (H : Hp) (s : Shared) (e : Value) (s' : Shared), CX w [] H s (fun _ _ _ => False) e s' → False) :
    PySem.W.WalkO q loose XP YP l.row.toRowW d [] (fun f vs => PySem.call f vs) := by
  refine Att.attach_call hn hdf ?_
  intro w s₀ s₁ mg mb fa o pm cd doc a vs ns G Y ho hd hcd hmg hobj hints hlen hg
  have KX := hY w _ Y
  obtain ⟨fd, hb, hF⟩ := F w mg fa _ KX G.T.g hmg
  exact law_callG KX G.T.g G.T.b G.T.builtins G.T.nolimit hg hobj hints (Nat.le_trans hlen hn2) hr hF hb
    (fun H hO hS => hsp w H a ns hlen hO hS) (fun H e s' => hCX w H s₁ e s')
end L2
end
section
set_option Elab.async false
set_option linter.all false
set_option maxRecDepth 100000
set_option maxHeartbeats 2000000
/-! # Data that stands still: what a value shows, and repr of it. -/
namespace L2
open PySem PySem.Spec PyProof.Rows
-- the value v is the datum d at the heap H; its lists and dicts stand at no address of M. L: lists may be in it, but no dict; else the empty dict, but no list
mutual
inductive Dr (L : Bool) (M : Addr → Prop) (H : Hp) : V → PyData → Prop
  | non : Dr L M H .non .none
  | bl (b : Bool) : Dr L M H (.bl b) (.bool b)
  | int (i : Int) : Dr L M H (.int i) (.int i)
  | str (x : Str) : Dr L M H (.str x) (.str x)
  | lst {a : Addr} {xs : List V} {ds : List PyData} (e : H a = some (.lst xs)) (n : ¬ M a) (l : L = true) (t : DrAll L M H xs ds) : Dr L M H (.ref a) (.list ds)
  | tup {a : Addr} {xs : List V} {ds : List PyData} (e : H a = some (.tup xs)) (n : ¬ M a) (t : DrAll L M H xs ds) : Dr L M H (.ref a) (.tuple ds)
  | dct {a : Addr} (e : H a = some (.dK [])) (n : ¬ M a) (l : L = false) : Dr L M H (.ref a) (.dict [])
inductive DrAll (L : Bool) (M : Addr → Prop) (H : Hp) : List V → List PyData → Prop
  | nil : DrAll L M H [] []
  | cons {v : V} {vs : List V} {d : PyData} {ds : List PyData} (h : Dr L M H v d) (t : DrAll L M H vs ds) : DrAll L M H (v :: vs) (d :: ds)
end
/-- what is tracked off M stays -/
def Off (M : Addr → Prop) (H H' : Hp) : Prop := ∀ b o, ¬ M b → H b = some o → H' b = some o
theorem Off.refl {M : Addr → Prop} (H : Hp) : Off M H H := fun _ _ _ e => e
theorem Off.trans {M : Addr → Prop} {H H1 H2 : Hp} (a : Off M H H1) (b : Off M H1 H2) : Off M H H2 := fun c o n e => b c o n (a c o n e)
theorem Off.new {M : Addr → Prop} {H : Hp} {p : Addr} {o : HO} (h : H p = none) : Off M H (upd H p o) := fun b u _ e => by
  rw [upd_ne (ne_of_none e h)]; exact e
theorem Off.mut {M : Addr → Prop} {H : Hp} {p : Addr} {o : HO} (h : M p) : Off M H (upd H p o) := fun b u n e => by
  rw [upd_ne (fun z => n (by rw [z]; exact h))]; exact e
theorem Off.same {M : Addr → Prop} {H H' : Hp} (h : Same H H') : Off M H H' := fun b o _ e => h b o e
section
variable {L : Bool} {M M' : Addr → Prop} {H H' : Hp}
mutual
theorem Dr.keep (h : Off M H H') : ∀ {v : V} {d : PyData}, Dr L M H v d → Dr L M H' v d
  | _, _, .non => .non
  | _, _, .bl b => .bl b
  | _, _, .int i => .int i
  | _, _, .str x => .str x
  | _, _, .lst e n l t => .lst (h _ _ n e) n l (DrAll.keep h t)
  | _, _, .tup e n t => .tup (h _ _ n e) n (DrAll.keep h t)
  | _, _, .dct e n l => .dct (h _ _ n e) n l
theorem DrAll.keep (h : Off M H H') : ∀ {vs : List V} {ds : List PyData}, DrAll L M H vs ds → DrAll L M H' vs ds
  | _, _, .nil => .nil
  | _, _, .cons a t => .cons (Dr.keep h a) (DrAll.keep h t)
end
mutual
/-- more may move, if it is nothing that is tracked -/
theorem Dr.wide (h : ∀ a, M' a → M a ∨ H a = none) : ∀ {v : V} {d : PyData}, Dr L M H v d → Dr L M' H v d
  | _, _, .non => .non
  | _, _, .bl b => .bl b
  | _, _, .int i => .int i
  | _, _, .str x => .str x
  | _, _, .lst e n l t => .lst e (fun z => (h _ z).elim n fun q => by rw [q] at e; cases e) l (DrAll.wide h t)
  | _, _, .tup e n t => .tup e (fun z => (h _ z).elim n fun q => by rw [q] at e; cases e) (DrAll.wide h t)
  | _, _, .dct e n l => .dct e (fun z => (h _ z).elim n fun q => by rw [q] at e; cases e) l
theorem DrAll.wide (h : ∀ a, M' a → M a ∨ H a = none) : ∀ {vs : List V} {ds : List PyData}, DrAll L M H vs ds → DrAll L M' H vs ds
  | _, _, .nil => .nil
  | _, _, .cons a t => .cons (Dr.wide h a) (DrAll.wide h t)
end
mutual
theorem Dr.noDict : ∀ {v : V} {d : PyData}, Dr true M H v d → d.hasDict = false
  | _, _, .non => rfl
  | _, _, .bl _ => rfl
  | _, _, .int _ => rfl
  | _, _, .str _ => rfl
  | _, _, .lst _ _ _ t => by simpa [PyData.hasDict] using DrAll.noDict t
  | _, _, .tup _ _ t => by simpa [PyData.hasDict] using DrAll.noDict t
  | _, _, .dct _ _ l => by cases l
theorem DrAll.noDict : ∀ {vs : List V} {ds : List PyData}, DrAll true M H vs ds → PyData.hasDictAll ds = false
  | _, _, .nil => rfl
  | _, _, .cons a t => by simp [PyData.hasDictAll, Dr.noDict a, DrAll.noDict t]
end
mutual
theorem Dr.reads {P : Program} {w : World} {h : Heap} (ok : HOk P w H h) : ∀ {v : V} {d : PyData} {u : Value}, Dr L M H v d → RelV v u → ∃ as, Reads h u d as ∧ (L = false → sysModules ∉ as)
  | _, _, _, .non, r => by
    cases (show _ = Value.none from r)
    exact ⟨[], .none, fun _ => by simp⟩
  | _, _, _, .bl b, r => by
    cases (show _ = Value.bool b from r)
    exact ⟨[], .bool b, fun _ => by simp⟩
  | _, _, _, .int i, r => by
    obtain ⟨t, rfl⟩ := (show ∃ t, _ = Value.int i t from r)
    exact ⟨[], .int i t, fun _ => by simp⟩
  | _, _, _, .str x, r => by
    obtain ⟨t, rfl⟩ := (show ∃ t, _ = Value.str x t from r)
    exact ⟨[], .str x t, fun _ => by simp⟩
  | _, _, _, .lst (a := a) e n l t, r => by
    cases (show _ = Value.ref a from r)
    obtain ⟨_, its, m, rv, ho⟩ := ok a _ e
    obtain ⟨as, hr, _⟩ := DrAll.reads ok t rv
    exact ⟨a :: as, .list ho rfl rfl (by simpa using hr), fun z => by rw [l] at z; cases z⟩
  | _, _, _, .tup (a := a) e n t, r => by
    cases (show _ = Value.ref a from r)
    obtain ⟨_, its, rv, o, ho, hc, m, hd⟩ := ok a _ e
    obtain ⟨as, hr, hs⟩ := DrAll.reads ok t rv
    exact ⟨as, .tuple ho hc hd (by simpa using hr), hs⟩
  | _, _, _, .dct (a := a) e n l, r => by
    cases (show _ = Value.ref a from r)
    obtain ⟨_, hn, vs, kv, o, es, ep, ho, hc, hd, hrest⟩ := ok a _ e
    cases kv
    obtain ⟨_, hp, _⟩ := hrest
    have hes : es.toList = [] := by
      generalize es.toList = l at hp
      cases hp
      rfl
    refine ⟨[a], ?_, fun _ z => ?_⟩
    · have q : Reads h (.ref a) (.dict []) (a :: [] ++ []) := .dict ho hc.1 hd (by rw [hes]; exact .nil) (by rw [hes]; exact .nil)
      simpa using q
    · simp only [List.mem_singleton] at z
      rw [← z] at hn
      simp at hn
theorem DrAll.reads {P : Program} {w : World} {h : Heap} (ok : HOk P w H h) : ∀ {vs : List V} {ds : List PyData} {us : List Value}, DrAll L M H vs ds → Vals vs us → ∃ as, ReadsAll h us ds as ∧ (L = false → sysModules ∉ as)
  | _, _, _, .nil, .nil => ⟨[], .nil, fun _ => by simp⟩
  | _, _, _, .cons a t, .cons r rs => by
    obtain ⟨as, h1, s1⟩ := Dr.reads ok a r
    obtain ⟨bs, h2, s2⟩ := DrAll.reads ok t rs
    exact ⟨as ++ bs, .cons h1 h2, fun z y => (List.mem_append.mp y).elim (s1 z) (s2 z)⟩
end
end
/-- repr(x), x a datum, where nothing is being shown -/
def rRepr : List V → Hp → VK → Prop := fun xs H Q => ∃ (v : V) (d : PyData) (L : Bool) (M : Addr → Prop), xs = [v] ∧ Dr L M H v d ∧ d.showable = true ∧ d.depth ≤ 60 ∧ d.shown.length ≤ sizeLine ∧ Q (.str d.shown) H
theorem call_reprD {X : Cx} {k : Nat} (hgd : X.A.guards = some []) (hr : Room k X.A) : CallR X (.builtin "repr") rRepr := by
  intro pins s σ H xs us Q I r h
  obtain ⟨v, d, L, M, rfl, hd, hs, hdep, hz, q⟩ := h
  obtain ⟨u, rfl, ru⟩ : ∃ u, us = [u] ∧ RelV v u := by
    cases r with
    | cons r1 r2 => cases r2; exact ⟨_, rfl, r1⟩
  have hu := hr.un
  obtain ⟨as, hreads, hsys⟩ := hd.reads I.hok ru
  have hsm : d.hasDict = true → sysModules ∉ as := by
    intro z
    cases L with
    | false => exact hsys rfl
    | true => rw [hd.noDict] at z; cases z
  cases hd with
  | non =>
    cases (show u = Value.none from ru)
    exact PySem.P.repr_of_none ⟨.str _, H, I.tok _, ⟨_, rfl⟩, q⟩
  | bl b =>
    cases (show u = Value.bool b from ru)
    exact PySem.P.repr_of_bool ⟨.str _, H, I.tok _, ⟨_, rfl⟩, by simpa [PyData.shown] using q⟩
  | int i =>
    obtain ⟨t, rfl⟩ := (show ∃ t, u = Value.int i t from ru)
    exact PySem.P.repr_of_int (by simpa [PyData.showable] using hs) ⟨.str _, H, I.tok _, ⟨_, rfl⟩, by simpa [PyData.shown] using q⟩
  | str x =>
    obtain ⟨t, rfl⟩ := (show ∃ t, u = Value.str x t from ru)
    exact PySem.P.repr_of_str ⟨.str _, H, I.tok _, ⟨_, rfl⟩, by simpa [PyData.shown] using q⟩ (by simpa [PyData.shown] using hz)
  | @lst a xs ds e n l t =>
    cases (show u = Value.ref a from ru)
    exact repr_of_reads' hreads hs hsm hgd (by omega) (fun _ _ z => z) (fun h' u' tk hk => ⟨.str _, H, I.kept (t' := tk) hk, ⟨u', rfl⟩, q⟩) hz
  | @tup a xs ds e n t =>
    cases (show u = Value.ref a from ru)
    exact repr_of_reads' hreads hs hsm hgd (by omega) (fun _ _ z => z) (fun h' u' tk hk => ⟨.str _, H, I.kept (t' := tk) hk, ⟨u', rfl⟩, q⟩) hz
  | @dct a e n l =>
    cases (show u = Value.ref a from ru)
    exact repr_of_reads' hreads hs hsm hgd (by omega) (fun _ _ z => z) (fun h' u' tk hk => ⟨.str _, H, I.kept (t' := tk) hk, ⟨u', rfl⟩, q⟩) hz
end L2
end
section
set_option Elab.async false
set_option linter.all false
set_option maxRecDepth 100000
set_option maxHeartbeats 2000000
/-! # == and != of an instance whose class has an __eq__ of its own, with anything. -/
namespace L2
open PySem PySem.Spec PyProof.Rows
section
variable {X : Cx} {pins : List (Addr × Obj)} {σ : St} {H : Hp} {s : Shared}
theorem tyOf_looks {M : Model} {x : V} {u t : Value} (I : Inv X pins σ H s) (rx : RelV x u) (ty : TyOf X.K H x t) : PySem.W.Looks M s.heap (typeOf u) t := by
  have viaRef : ∀ {a : Addr} {o : Obj} {T : String}, s.heap.get? a = some o → o.cls = .type T → PySem.W.Looks M s.heap (typeOf (.ref a)) (.type T) := by
    intro a o T ho hc A Q E s' k q
    exact wpAny_typeOf ⟨o, k _ _ ho, hc⟩ q
  cases ty with
  | non => cases (show u = Value.none from rx); exact fun A Q E s' k q => wpAny_typeOf (PySem.typeIs_none s') q
  | bl b => cases (show u = Value.bool b from rx); exact fun A Q E s' k q => wpAny_typeOf (PySem.typeIs_bool s' b) q
  | int i => obtain ⟨t, rfl⟩ := (show ∃ t, u = Value.int i t from rx); exact fun A Q E s' k q => wpAny_typeOf (typeIs_int s' i t) q
  | str y => obtain ⟨t, rfl⟩ := (show ∃ t, u = Value.str y t from rx); exact fun A Q E s' k q => wpAny_typeOf (typeIs_str s' y t) q
  | flt y => obtain ⟨t, rfl⟩ := (show ∃ t, u = Value.float y t from rx); exact fun A Q E s' k q => wpAny_typeOf (PySem.typeIs_float s' y t) q
  | @lst a xs e =>
    cases (show u = Value.ref a from rx)
    obtain ⟨_, its, m, _, ho⟩ := I.hok a _ e
    exact viaRef ho rfl
  | @frz a o xs e =>
    cases (show u = Value.ref a from rx)
    obtain ⟨_, _, its, m, _, ho⟩ := I.hok a _ e
    exact viaRef ho rfl
  | @tup a xs e =>
    cases (show u = Value.ref a from rx)
    obtain ⟨_, its, _, o, ho, hc, _⟩ := I.hok a _ e
    exact viaRef ho hc
  | @dK a kvs e =>
    cases (show u = Value.ref a from rx)
    obtain ⟨_, _, vs, _, o, es, ep, ho, hc, _⟩ := I.hok a _ e
    exact viaRef ho hc.1
  | @dT a kvs e =>
    cases (show u = Value.ref a from rx)
    obtain ⟨_, _, xs, _, o, es, ep, ho, hc, _⟩ := I.hok a _ e
    exact viaRef ho hc.1
  | @ins a C dx fs e cl ha hn htk hm =>
    cases (show u = Value.ref a from rx)
    obtain ⟨mA, O, _⟩ := ins_get I.hok e
    obtain ⟨od, J, _⟩ := O.look
    exact J.type
end
section
variable {X : Cx} {CX : CXT} {C f : Addr} {fd : FuncData} {ps : List Str} {sp : Sp} {n : Nat} {E : XK}
/-- what the top says of a class with an __eq__ of its own, at f -/
structure EqC (K : PySem.W.Frag) (C f : Addr) : Prop where
  eq : PySem.W.findIn K (.ref C) "__eq__" = some (some (.ref f))
  ne : PySem.W.findIn K (.ref C) "__ne__" = some (some (.builtin "object.__ne__"))
  fn : PySem.W.isFn K (.ref f) = true
  ob : PySem.W.mroIn K C (.type "object") = some true
def rEqO (K : PySem.W.Frag) (C : Addr) (sp : Sp) (E : XK) : R2 := fun x y H Q => ∃ a dx fs t, x = .ref a ∧ H a = some (.ins C dx fs) ∧ TyOf K H y t ∧ PySem.W.notFirst K C t = true ∧ sp [x, y] H (fun v H' => ∃ b, v = .bl b ∧ Q (.bl b) H') E
def rNeO (K : PySem.W.Frag) (C : Addr) (sp : Sp) (E : XK) : R2 := fun x y H Q => ∃ a dx fs t, x = .ref a ∧ H a = some (.ins C dx fs) ∧ TyOf K H y t ∧ PySem.W.notFirst K C t = true ∧ sp [x, y] H (fun v H' => ∃ b, v = .bl b ∧ Q (.bl (!b)) H') E
theorem op_eqO (T : EqC X.K C f) (F : FnG X.prog X.w X.K X.mg X.base CX n f fd ps sp) (hgd : X.A.guards = some []) (hr : Room n X.A) (hb : Binds X.K fd ps []) (hx : Passes CX X E) : OpR X (compareOp .Eq) (rEqO X.K C sp E) := by
  intro pins s σ H x y v u Q I rx ry h
  obtain ⟨a, dx, fs, t, rfl, ha, ty, hn, q⟩ := h
  cases (show v = Value.ref a from rx)
  obtain ⟨mA, O, _⟩ := ins_get I.hok ha
  obtain ⟨od, J, _⟩ := O.look
  obtain ⟨m, hF⟩ := I.fr
  show wpAny (model X.prog X.w) X.A (richCompare .Eq (.ref a) u) (EP X pins σ Q) X.xe s
  refine PySem.W.cmp_K (op := .Eq) (tb := t) hr.units0 hF I.ok.mod.kin J (tyOf_looks I ry ty) hn T.eq T.fn ?_
  refine wpAny_mono (run_fnG (us := [.ref a, u]) (vs := [.ref a, y]) F hgd hr hb .nil hx I (.cons rfl (.cons ry .nil)) q) ?_ (fun _ _ z => z)
  rintro w s' ⟨v', H', I', rv, b, rfl, q'⟩
  cases (show w = Value.bool b from rv)
  exact ⟨.bl b, H', I', rfl, q'⟩
theorem ne_body {A : Around} {M : Model} {a : Addr} {b : Value} {Q : Fin → Shared → Prop} {E' : Value → Shared → Prop} {s : Shared} (hu : A.units < cLine)
    (h : wpAny M A (callSpecialIfBound? (.ref a) "__eq__" [b]) (fun r s' => ∃ k, r = some (.bool k) ∧ Q (.done (.ret (.bool (!k)))) s') E' s) :
    wpAny M A (Builtin.«object.__ne__» ⟨[.ref a, b], []⟩) Q E' s := by
  unfold Builtin.«object.__ne__»
  repeat (first | with_reducible refine wpAny_cRoomFor hu ?_ | (with_reducible refine wpAny_bind (wpAny_mono h ?_ fun _ _ z => z)) | wp_step)
  rintro r s' ⟨k, rfl, hq⟩
  exact wpAny_bind (wpAny_of_eq (show truthy (.bool k) = pure k from rfl) (wpAny_pure hq))
theorem op_neO (T : EqC X.K C f) (F : FnG X.prog X.w X.K X.mg X.base CX n f fd ps sp) (hgd : X.A.guards = some []) (hr : Room (n + 1) X.A) (hb : Binds X.K fd ps []) (hx : Passes CX X E) : OpR X (compareOp .NotEq) (rNeO X.K C sp E) := by
  intro pins s σ H x y v u Q I rx ry h
  obtain ⟨a, dx, fs, t, rfl, ha, ty, hn, q⟩ := h
  cases (show v = Value.ref a from rx)
  obtain ⟨mA, O, _⟩ := ins_get I.hok ha
  obtain ⟨od, J, _⟩ := O.look
  have X0 : X.K.In s.heap := I.kIn
  have hb2 := tyOf_looks (M := model X.prog X.w) I ry ty
  -- the method called within object.__ne__
  have inner : wpAny (model X.prog X.w) X.A.in1 (call (.ref f) [.ref a, u]) (fun w s' => ∃ k, w = .bool k ∧ EP X pins σ Q (.bool (!k)) s') X.xe s := by
    have r2 : Vals [V.ref a, y] [Value.ref a, u] := .cons rfl (.cons ry .nil)
    have hl : ([Value.ref a, u] ++ ([] : List Value)).length = ps.length := r2.length.symm.trans (F.len _ _ _ _ q)
    apply wpAny_call
    refine codeAny_mono (F.run X.A.in1 X.stack s H ⟨[.ref a, u], []⟩ ([.ref a, u] ++ []) [.ref a, y] _ E hgd hr.in1 I.env0.in1 (hb s [.ref a, u] X0 hl) (by simpa using r2) q) ?_
    intro r s' hq
    match r, hq with
    | .error e, hq => exact hx pins σ H s e s' I hq
    | .ok (.ret w), hq =>
      obtain ⟨v', H', I', rv, b, rfl, q'⟩ := I.after hq
      cases (show w = Value.bool b from rv)
      exact ⟨b, rfl, .bl (!b), H', I', rfl, q'⟩
    | .ok .next, hq => exact False.elim hq
    | .ok .brk, hq => exact False.elim hq
    | .ok .cont, hq => exact False.elim hq
  have one : wpAny (model X.prog X.w) X.A (tryCompare (.ref a) "__ne__" u) (fun r s' => ∃ k, r = some (.bool k) ∧ EP X pins σ Q (.bool k) s') X.xe s := by
    unfold tryCompare
    refine wpAny_bind ?_
    simp only [callSpecialIfBound?, bindSpecialIfBound?]
    refine wpAny_holding (wpAny_bind (wpAny_bind (wpAny_bind (J.type.here ((PySem.W.looks_findIn X0 T.ne).here ?_)))))
    refine wpAny_bind (wpAny_askSetting (wpAny_ite ?_))
    have sub : PySem.W.Looks (model X.prog X.w) s.heap (isInstance (.ref a) (.type "object")) true := J.type.andThen (PySem.W.looks_mroIn X0 T.ob)
    have called : wpAny (model X.prog X.w) X.A (call (.builtin "object.__ne__") [.ref a, u]) (fun w s' => ∃ k, w = .bool k ∧ EP X pins σ Q (.bool k) s') X.xe s := by
      refine wpAny_call (codeAny_call_builtin PySem.F.cmp_object.ne.plain PySem.F.cmpEntry_ne (PySem.W.check_slot PySem.F.cmpKind_ne PySem.F.cmpSplit_ne sub (PySem.F.cmpArgs_ne _ _) ?_))
      refine ne_body (by have := hr.un; show X.A.units + 1 < cLine; omega) ?_
      refine PySem.W.ifBound_K X0 J T.eq T.fn (wpAny_mono inner ?_ fun _ _ z => z)
      rintro w s' ⟨k, rfl, z⟩
      exact ⟨k, rfl, !k, rfl, z⟩
    have fin : wpAny (model X.prog X.w) X.A (call (.builtin "object.__ne__") ([.ref a] ++ [u]) >>= fun v => pure (some v)) (fun r s' => wpAny (model X.prog X.w) X.A (match r with
        | some .notImplemented => pure none
        | none => pure none
        | some v => pure (some v)) (fun r s' => ∃ k, r = some (.bool k) ∧ EP X pins σ Q (.bool k) s') X.xe s') X.xe s := by
      refine wpAny_bind (wpAny_mono called ?_ fun _ _ z => z)
      rintro w s' ⟨k, rfl, z⟩
      exact wpAny_pure (wpAny_pure ⟨k, rfl, z⟩)
    split
    · exact wpAny_bind (wpAny_of_eq (PySem.F.cmp_object.ne.bind _) (wpAny_pure fin))
    · exact wpAny_tryCatch (wpAny_bind (wpAny_of_eq (PySem.F.cmp_object.ne.bind _) (wpAny_pure fin)))
  show wpAny (model X.prog X.w) X.A (richCompare .NotEq (.ref a) u) (EP X pins σ Q) X.xe s
  unfold richCompare
  simp only [PySem.oneThing_ref]
  refine wpAny_holding (wpAny_bind (wpAny_cRoomFor hr.units0 ?_))
  refine wpAny_bind (J.type.here (wpAny_bind (hb2.here ?_)))
  split
  · rename_i z
    have e : PySem.W.subIn X.K t (.ref C) = some false := by
      rcases Bool.or_eq_true_iff.mp hn with e | e
      · rw [beq_iff_eq.mp e] at z
        simp at z
      · exact beq_iff_eq.mp e
    refine wpAny_bind ((PySem.W.looks_subIn X0 e).here ?_)
    simp only [Bool.false_eq_true, if_false]
    refine wpAny_bind (wpAny_mono one ?_ fun _ _ z => z)
    rintro r s' ⟨k, rfl, z⟩
    exact wpAny_pure z
  · refine wpAny_bind (wpAny_pure ?_)
    simp only [Bool.false_eq_true, if_false]
    refine wpAny_bind (wpAny_mono one ?_ fun _ _ z => z)
    rintro r s' ⟨k, rfl, z⟩
    exact wpAny_pure z
end
end L2
end
section
set_option Elab.async false
set_option linter.all false
set_option maxRecDepth 100000
set_option maxHeartbeats 2000000
/-! # range(n) as a value, walked later. -/
namespace L2
open PySem PySem.Spec PyProof.Rows
section
variable {X : Cx}
theorem cr_rangeOne : CallR X (.type "range") (fun vs H Q => ∃ j, vs = [V.int j] ∧ ∀ p, H p = none → Q (.ref p) (upd H p (.rng 0 j))) := by
  intro pins s σ H vs us Q I r h
  obtain ⟨j, rfl, q⟩ := h
  obtain ⟨u, rfl, t, rfl⟩ : ∃ u, us = [u] ∧ ∃ t, u = Value.int j t := by
    cases r with
    | cons r1 r2 => cases r2; exact ⟨_, rfl, r1⟩
  have hf : H s.heap.objs.size = none := I.hok.fresh (Nat.le_refl _)
  refine call_range_1 ⟨.ref s.heap.objs.size, upd H s.heap.objs.size (.rng 0 j), ?_, rfl, q _ hf⟩
  exact I.laid (fun b o e => Heap.get?_push_of_some _ e) (Nat.le_refl _) ⟨_, t, _, Heap.get?_push_size _ rfl⟩
/-- for .. in r, r a range object that is tracked -/
def iRngV (te : TE) : TI := fun σ H R => te σ H fun x H1 => ∃ a lo hi, x = .ref a ∧ H1 a = some (.rng lo hi) ∧ -(2 ^ 62) ≤ lo ∧ lo < 2 ^ 62 ∧ -(2 ^ 62) ≤ hi ∧ hi < 2 ^ 62 ∧ R (Itr lo (hi - lo).toNat) H1
theorem pi_rngV {tg e : Expr} {te : TE} (he : PE X e te) : PI X tg e (iRngV te) := by
  constructor
  intro pins s σ H R I h
  refine thn (he.run pins s σ H _ I h) ?_
  rintro v s1 ⟨x, H1, I1, r1, a, lo, hi, rfl, ha, h1, h2, h3, h4, q⟩
  cases (show v = Value.ref a from r1)
  obtain ⟨t, u, w, ho⟩ := (show ObjOk X.prog X.w H1 s1.heap a (.rng lo hi) from I1.hok a _ ha)
  refine wpAny_pyIter_range (show IsRange s1.heap a lo hi 1 t u w from ho) (small_one h1 h2 h3 h4) ?_
  refine ⟨s1.heap.objs.size, [s1.heap.objs.size], _, _, H1, rfl, I1.kept (t' := s1.toks) (fun b o e => Heap.get?_push_of_some _ e), turn_range _ lo (hi - lo).toNat, ?_, ?_, q⟩
  · have e1 : lo + ((0 : Nat) : Int) * 1 = lo := by simp
    have e2 : (((hi - lo).toNat : Nat) : Int) - ((0 : Nat) : Int) = Builtin.Range.rangeSize lo hi 1 := by
      rw [rangeSize_one]
      split <;> omega
    show IsRangeIter _ _ (lo + ((0 : Nat) : Int) * 1) ((((hi - lo).toNat : Nat) : Int) - ((0 : Nat) : Int)) 1
    rw [e1, e2]
    exact Heap.get?_push_size _ rfl
  · intro b hb
    cases (by simpa using hb : b = s1.heap.objs.size)
    exact I1.fpOk (Nat.le_refl _) (I1.hok.fresh (Nat.le_refl _))
end
end L2
end
section
set_option Elab.async false
set_option linter.all false
set_option maxRecDepth 100000
set_option maxHeartbeats 2000000
/-! # Defs, classes and methods as one fact each. -/
namespace L2
open PySem PySem.Spec PyProof.Rows
abbrev CXe (P : Program) (w : World) : CXT := L2.CX P w
/-- a def of the module, called by its name -/
structure CalG (P : Program) (w : World) (K : PySem.W.Frag) (mg : Str → Option Value) (base : Heap) (k : Nat) (x : Str) (sp : Sp) : Prop where
  ex : ∃ (f : Addr) (fd : FuncData) (ps : List Str), FnG P w K mg base (CXe P w) k f fd ps sp ∧ mg x = some (.ref f) ∧ PySem.W.keepIn K (.ref f) = true ∧ Binds K fd ps []
/-- a class, called: its __init__ at sp, dvs its last defaults -/
structure MakG (P : Program) (w : World) (K : PySem.W.Frag) (mg : Str → Option Value) (base : Heap) (k : Nat) (x : Str) (C : Addr) (sp : Sp) (dvs : List V) : Prop where
  ex : ∃ (f : Addr) (fd : FuncData) (ps : List Str) (ds : List Value), FnG P w K mg base (CXe P w) k f fd ps sp ∧ Mk K C f ∧ mg x = some (.ref C) ∧ Binds K fd ps ds ∧ Vals dvs ds
/-- a method -/
structure MetG (P : Program) (w : World) (K : PySem.W.Frag) (mg : Str → Option Value) (base : Heap) (k : Nat) (C : Addr) (m : Str) (sp : Sp) : Prop where
  ex : ∃ (f : Addr) (fd : FuncData) (ps : List Str), FnG P w K mg base (CXe P w) k f fd ps sp ∧ Cls K C ∧ Meth K C m f ∧ Binds K fd ps []
section
variable {X : Cx} {k j : Nat} {x m : Str} {C : Addr} {sp : Sp} {dvs : List V} {e o : Expr} {es : List Expr} {ta : TE} {t : TA} {p pos apos : Pos} {E : St → XK}
theorem run_fnGS {pins : List (Addr × Obj)} {σ : St} {H : Hp} {s : Shared} {Q : VK} {us : List Value} {vs : List V} {CX : CXT} {f : Addr} {fd : FuncData} {ps : List Str} {E : XK}
    (F : FnG X.prog X.w X.K X.mg X.base CX k f fd ps sp) (hgd : X.A.guards = some []) (hr : Room k X.A) (hb : Binds X.K fd ps [])
    (hx : PassesAt CX X σ E) (I : Inv X pins σ H s) (r : Vals vs us) (h : sp vs H Q E) :
    wpAny (model X.prog X.w) X.A (call (.ref f) us) (EP X pins σ Q) X.xe s := by
  have hl : (us ++ []).length = ps.length := by
    rw [List.append_nil]
    exact r.length.symm.trans (F.len _ _ _ _ h)
  have hbb := hb s us I.kIn hl
  rw [List.append_nil] at hbb
  apply wpAny_call
  refine codeAny_mono (F.run X.A X.stack s H ⟨us, []⟩ us vs Q E hgd hr I.env0 hbb r h) ?_
  intro r s' hq
  match r, hq with
  | .error e, hq => exact hx pins H s e s' I hq
  | .ok (.ret u), hq => exact I.after hq
  | .ok .next, hq => exact False.elim hq
  | .ok .brk, hq => exact False.elim hq
  | .ok .cont, hq => exact False.elim hq
/-- f(e, ..): E says by the slots what is wanted of an exception -/
theorem pg_cS (c : CalG X.prog X.w X.K X.mg X.base k x sp) (hgd : X.A.guards = some []) (hr : Room j X.A) (hk : k ≤ j) (hx : ∀ σ, PassesAt (CXe X.prog X.w) X σ (E σ))
    (ha : PA X (e :: es) t) (hg : Gl X x := by rfl) (hdb : (x == ("__debug__" : Str)) = false := by decide)
    (he : starEach (e :: es) X.env = (false, eval e X.env) :: starEach es X.env := by rfl)
    (hpl : (backTo pos (starEach es X.env)).any (·.1) = false := by rfl) :
    PE X (.Call (.Name x p) (e :: es) [] pos) (tCallS sp E t) := by
  obtain ⟨f, fd, ps, F, hm, kp, hb⟩ := c.ex
  constructor
  intro pins s σ H Q I h
  refine wpAny_Call_Name_kw (ld_glob I hg hm ?_ hdb)
  refine PySem.W.callWith_K (h₀ := X.base) I.ok.mod.kin kp (thn (ha.run pos pins s σ H _ I h) ?_) he hpl
  rintro us s1 ⟨vs, H1, I1, r, q⟩
  exact ⟨I1.kIn, run_fnGS F hgd (hr.mono hk) hb (hx σ) I1 r q⟩
/-- where no exception leaves -/
theorem pg_c (c : CalG X.prog X.w X.K X.mg X.base k x sp) (hgd : X.A.guards = some []) (hr : Room j X.A) (hk : k ≤ j)
    (ha : PA X (e :: es) t) (hg : Gl X x := by rfl) (hdb : (x == ("__debug__" : Str)) = false := by decide)
    (he : starEach (e :: es) X.env = (false, eval e X.env) :: starEach es X.env := by rfl)
    (hpl : (backTo pos (starEach es X.env)).any (·.1) = false := by rfl) :
    PE X (.Call (.Name x p) (e :: es) [] pos) (tCallS sp (fun _ => E0) t) :=
  pg_cS c hgd hr hk (fun σ pins H s e s' I c => passL pins σ H s e s' I c) ha hg hdb he hpl
def tMakeS (C : Addr) (sp : Sp) (dvs : List V) (E : St → XK) (t : TA) : TE := fun σ H Q => t σ H fun vs H1 => ∀ x dx, H1 x = none → H1 dx = none → dx ≠ x →
  sp (.ref x :: (vs ++ dvs)) (upd (upd H1 dx (.own x)) x (.ins C dx [])) (fun v H2 => v = .non ∧ Q (.ref x) H2) (E σ)
theorem run_makeGS {pins : List (Addr × Obj)} {σ : St} {H : Hp} {s : Shared} {Q : VK} {us ds : List Value} {vs : List V} {CX : CXT} {f : Addr} {fd : FuncData} {ps : List Str} {E : XK}
    (M : Mk X.K C f) (F : FnG X.prog X.w X.K X.mg X.base CX k f fd ps sp) (hgd : X.A.guards = some []) (hr : Room (k + 1) X.A) (hb : Binds X.K fd ps ds) (hd : Vals dvs ds)
    (hx : PassesAt CX X σ E) (I : Inv X pins σ H s) (r : Vals vs us)
    (h : ∀ x dx, H x = none → H dx = none → dx ≠ x → sp (.ref x :: (vs ++ dvs)) (upd (upd H dx (.own x)) x (.ins C dx [])) (fun v H2 => v = .non ∧ Q (.ref x) H2) E) :
    wpAny (model X.prog X.w) X.A (call (.ref C) us) (EP X pins σ Q) X.xe s := by
  have q0 := h (s.heap.objs.size + 1) s.heap.objs.size (I.hok.fresh (Nat.le_succ _)) (I.hok.fresh (Nat.le_refl _)) (Nat.ne_of_lt (Nat.lt_succ_self _))
  have I2 := Inv.made (C := C) I
  have r2 : Vals (V.ref (s.heap.objs.size + 1) :: (vs ++ dvs)) (Value.ref (s.heap.objs.size + 1) :: (us ++ ds)) := Paired.cons rfl (r.append hd)
  have hl : (Value.ref (s.heap.objs.size + 1) :: us ++ ds).length = ps.length := r2.length.symm.trans (F.len _ _ _ _ q0)
  have gd : (X.A.under (.builtin "type.__call__" ⟨.ref C :: us, []⟩)).guards = some [] := by
    have z : (X.A.under (.builtin "type.__call__" ⟨.ref C :: us, []⟩)).guards = X.A.guards := by
      first | rfl | simp [Around.under, Code.guards, pushGuards, guardIds]
    rw [z, hgd]
  apply wpAny_call
  refine make_map (f := f) I.kIn M.makes M.init (beq_iff_eq.mp M.fn) ?_
  refine codeAny_mono (F.run _ X.stack _ _ ⟨Value.ref (s.heap.objs.size + 1) :: us, []⟩ (Value.ref (s.heap.objs.size + 1) :: (us ++ ds)) _ _ E gd (hr.make C us []) (I2.env0.make C us []) (hb _ (Value.ref (s.heap.objs.size + 1) :: us) I2.kIn hl) r2 q0) ?_
  intro r s' hq
  match r, hq with
  | .error e, hq => exact hx pins _ _ e s' I2 hq
  | .ok (.ret u), hq =>
    obtain ⟨v, H', I3, rv, ev, q3⟩ := I2.after hq
    subst ev
    exact ⟨rv, ⟨V.ref (s.heap.objs.size + 1), H', I3, rfl, q3⟩⟩
  | .ok .next, hq => exact False.elim hq
  | .ok .brk, hq => exact False.elim hq
  | .ok .cont, hq => exact False.elim hq
theorem pg_mkS (c : MakG X.prog X.w X.K X.mg X.base k x C sp dvs) (hgd : X.A.guards = some []) (hr : Room j X.A) (hk : k + 1 ≤ j) (hx : ∀ σ, PassesAt (CXe X.prog X.w) X σ (E σ))
    (ha : PA X (e :: es) t) (hg : Gl X x := by rfl) (hdb : (x == ("__debug__" : Str)) = false := by decide)
    (he : starEach (e :: es) X.env = (false, eval e X.env) :: starEach es X.env := by rfl)
    (hpl : (backTo pos (starEach es X.env)).any (·.1) = false := by rfl) :
    PE X (.Call (.Name x p) (e :: es) [] pos) (tMakeS C sp dvs E t) := by
  obtain ⟨f, fd, ps, ds, F, M, hm, hb, hd⟩ := c.ex
  constructor
  intro pins s σ H Q I h
  refine wpAny_Call_Name_kw (ld_glob I hg hm ?_ hdb)
  refine PySem.W.callWith_K (h₀ := X.base) I.ok.mod.kin M.kp (thn (ha.run pos pins s σ H _ I h) ?_) he hpl
  rintro us s1 ⟨vs, H1, I1, r, q⟩
  exact ⟨I1.kIn, run_makeGS M F hgd (hr.mono hk) hb hd (hx σ) I1 r q⟩
theorem pg_mk (c : MakG X.prog X.w X.K X.mg X.base k x C sp dvs) (hgd : X.A.guards = some []) (hr : Room j X.A) (hk : k + 1 ≤ j)
    (ha : PA X (e :: es) t) (hg : Gl X x := by rfl) (hdb : (x == ("__debug__" : Str)) = false := by decide)
    (he : starEach (e :: es) X.env = (false, eval e X.env) :: starEach es X.env := by rfl)
    (hpl : (backTo pos (starEach es X.env)).any (·.1) = false := by rfl) :
    PE X (.Call (.Name x p) (e :: es) [] pos) (tMakeS C sp dvs (fun _ => E0) t) :=
  pg_mkS c hgd hr hk (fun σ pins H s e s' I c => passL pins σ H s e s' I c) ha hg hdb he hpl
theorem pg_mk0 (c : MakG X.prog X.w X.K X.mg X.base k x C sp dvs) (hgd : X.A.guards = some []) (hr : Room j X.A) (hk : k + 1 ≤ j)
    (hg : Gl X x := by rfl) (hdb : (x == ("__debug__" : Str)) = false := by decide) :
    PE X (.Call (.Name x p) [] [] pos) (tMakeS C sp dvs (fun _ => E0) tNil) := by
  obtain ⟨f, fd, ps, ds, F, M, hm, hb, hd⟩ := c.ex
  constructor
  intro pins s σ H Q I h
  refine wpAny_Call_Name_kw (ld_glob I hg hm ?_ hdb)
  exact PySem.W.callWith_K0 I.kIn M.kp (run_makeGS (us := []) M F hgd (hr.mono hk) hb hd (fun pins H s e s' I c => passL pins σ H s e s' I c) I .nil h)
def tMethX6 (C : Addr) (m : Str) (sp : Sp) (E : St → XK) (ta : TE) (t : TA) : TE := fun σ H Q => ta σ H fun x H1 => ∃ a dx fs, x = .ref a ∧ H1 a = some (.ins C dx fs) ∧ fs.lookup m = none ∧
  t σ H1 fun vs H2 => sp (x :: vs) H2 Q (E σ)
theorem pg_mtS {pl : Sem Bool} (c : MetG X.prog X.w X.K X.mg X.base k C m sp) (hgd : X.A.guards = some []) (hr : Room j X.A) (hk : k ≤ j) (hx : ∀ σ, PassesAt (CXe X.prog X.w) X σ (E σ)) (ho : PE X o ta) (ha : PA X (e :: es) t)
    (hst : starEach (e :: es) X.env = (false, eval e X.env) :: starEach es X.env := by rfl)
    (hpl : (backTo pos (starEach es X.env)).any (·.1) = false := by rfl)
    (ht : eval (.Call (.Attribute o m apos) (e :: es) [] pos) X.env =
      (do let ov ← eval o X.env; standAt apos.atName; let (f, first) ← holding [ov] (getMethod ov m pl); callWith pos f first (backTo pos (starEach (e :: es) X.env)) (backToKw pos (keywordEach [] X.env))) := by rfl) :
    PE X (.Call (.Attribute o m apos) (e :: es) [] pos) (tMethX6 C m sp E ta t) := by
  obtain ⟨f, fd, ps, F, cl, hm, hb⟩ := c.ex
  constructor
  intro pins s σ H Q I h
  refine PySem.W.methodCall_KW (pl := pl) (thn (ho.run pins s σ H _ I h) ?_) ht
  rintro u s1 ⟨x, H1, I1, rx, a, dx, fs, ex, ea, l, q⟩
  subst ex
  cases (show u = Value.ref a from rx)
  refine getmeth_ok I1 ea cl hm l ?_
  refine PySem.W.callWith_K (first := [.ref a]) (h₀ := X.base) I.ok.mod.kin hm.kp (thn (ha.run pos pins s1 σ H1 _ I1 q) ?_) hst hpl
  rintro us s2 ⟨vs, H2, I2, r, q2⟩
  exact ⟨I2.kIn, run_fnGS (us := .ref a :: us) (vs := .ref a :: vs) F hgd (hr.mono hk) hb (hx σ) I2 (.cons rfl r) q2⟩
theorem pg_mt {pl : Sem Bool} (c : MetG X.prog X.w X.K X.mg X.base k C m sp) (hgd : X.A.guards = some []) (hr : Room j X.A) (hk : k ≤ j) (ho : PE X o ta) (ha : PA X (e :: es) t)
    (hst : starEach (e :: es) X.env = (false, eval e X.env) :: starEach es X.env := by rfl)
    (hpl : (backTo pos (starEach es X.env)).any (·.1) = false := by rfl)
    (ht : eval (.Call (.Attribute o m apos) (e :: es) [] pos) X.env =
      (do let ov ← eval o X.env; standAt apos.atName; let (f, first) ← holding [ov] (getMethod ov m pl); callWith pos f first (backTo pos (starEach (e :: es) X.env)) (backToKw pos (keywordEach [] X.env))) := by rfl) :
    PE X (.Call (.Attribute o m apos) (e :: es) [] pos) (tMethX6 C m sp (fun _ => E0) ta t) :=
  pg_mtS c hgd hr hk (fun σ pins H s e s' I c => passL pins σ H s e s' I c) ho ha hst hpl ht
theorem pg_mt0 {pl : Sem Bool} (c : MetG X.prog X.w X.K X.mg X.base k C m sp) (hgd : X.A.guards = some []) (hr : Room j X.A) (hk : k ≤ j) (ho : PE X o ta)
    (ht : eval (.Call (.Attribute o m apos) [] [] pos) X.env =
      (do let ov ← eval o X.env; standAt apos.atName; let (f, first) ← holding [ov] (getMethod ov m pl); callWith pos f first (backTo pos (starEach [] X.env)) (backToKw pos (keywordEach [] X.env))) := by rfl) :
    PE X (.Call (.Attribute o m apos) [] [] pos) (tMethX6 C m sp (fun _ => E0) ta tNil) := by
  obtain ⟨f, fd, ps, F, cl, hm, hb⟩ := c.ex
  constructor
  intro pins s σ H Q I h
  refine PySem.W.methodCall_KW (pl := pl) (thn (ho.run pins s σ H _ I h) ?_) ht
  rintro u s1 ⟨x, H1, I1, rx, a, dx, fs, ex, ea, l, q⟩
  subst ex
  cases (show u = Value.ref a from rx)
  refine getmeth_ok I1 ea cl hm l ?_
  exact PySem.W.callWith_K0 (first := [.ref a]) I1.kIn hm.kp (run_fnGS (us := [.ref a]) (vs := [.ref a]) F hgd (hr.mono hk) hb (fun pins H s e s' I c => passL pins σ H s e s' I c) I1 (.cons rfl .nil) q)
end
section
variable {P : Program} {w : World} {K : PySem.W.Frag} {mg : Str → Option Value} {base : Heap} {x qual : Str} {f : Addr} {fd : FuncData} {N ps : List Str} {k : Nat} {sp : Sp}
/-- a def by its body: it may raise, and nothing is being shown around it -/
theorem Fun.okG {st : Stmt} (F : Fun K x qual st f fd) (S : FnScope N ps (defScope st)) (len : ∀ vs H Q E, sp vs H Q E → vs.length = ps.length)
    (hbody : ∀ (cdv : Value) (A : Around) (outer : List Env) (s : Shared) (H : Hp) (vs : List V) (Q : VK) (E : XK), (A.deeper (envOfC qual (defScope st) s.heap.objs.size f cdv)).guards = some [] →
      Room k (A.deeper (envOfC qual (defScope st) s.heap.objs.size f cdv)) → sp vs H Q E →
      ∃ t, PSs (cxOf (CXe P w) P w K mg base N qual (defScope st) f cdv A outer s H E) (defBody st) t ∧ t { nx := fun _ H' => Q .non H', rt := Q } (start N vs) H) :
    FnG P w K mg base (CXe P w) (k + 1) f fd ps sp := by
  obtain ⟨oc, od, kV, doc, pm, an, cdv, ct, osl, rfl, lk, hcd⟩ := F.ex
  exact fn_ofG lk hcd S len fun A outer s H vs Q E hg hr hsp => hbody cdv A outer s H vs Q E hg hr hsp
theorem FunD.okG {params : Arguments} {body : List Stmt} {scope : Scope} {dvs : List V} {kws : List (Str × V)} (F : FunD K x qual params body scope dvs kws f fd) (S : FnScope N ps scope) (len : ∀ vs H Q E, sp vs H Q E → vs.length = ps.length)
    (hbody : ∀ (cdv : Value) (A : Around) (outer : List Env) (s : Shared) (H : Hp) (vs : List V) (Q : VK) (E : XK), (A.deeper (envOfC qual scope s.heap.objs.size f cdv)).guards = some [] →
      Room k (A.deeper (envOfC qual scope s.heap.objs.size f cdv)) → sp vs H Q E →
      ∃ t, PSs (cxOf (CXe P w) P w K mg base N qual scope f cdv A outer s H E) body t ∧ t { nx := fun _ H' => Q .non H', rt := Q } (start N vs) H) :
    FnG P w K mg base (CXe P w) (k + 1) f fd ps sp := by
  obtain ⟨oc, od, dV, kV, doc, pm, an, cdv, ct, osl, rfl, lk, hcd, _, _⟩ := F.ex
  exact fn_ofG lk hcd S len fun A outer s H vs Q E hg hr hsp => hbody cdv A outer s H vs Q E hg hr hsp
end
/-- the type of a tracked value, where it is one of the common ones -/
def tyN (H : Hp) : V → Option String
  | .non => some "NoneType"
  | .bl _ => some "bool"
  | .int _ => some "int"
  | .str _ => some "str"
  | .ref a => match H a with
    | some (.lst _) => some "list"
    | some (.tup _) => some "tuple"
    | some (.dK _) => some "dict"
    | some (.dT _) => some "dict"
    | _ => none
  | _ => none
theorem tyN_of {K : PySem.W.Frag} {H : Hp} {v : V} {n : String} (h : tyN H v = some n) : TyOf K H v (.type n) := by
  cases v with
  | non => cases h; exact .non
  | bl b => cases h; exact .bl b
  | int i => cases h; exact .int i
  | str x => cases h; exact .str x
  | byt b => cases h
  | flt b => cases h
  | ty t => cases h
  | ref a =>
    simp only [tyN] at h
    cases e : H a with
    | none => rw [e] at h; cases h
    | some o =>
      rw [e] at h
      cases o <;> simp only at h <;> first | (cases h; done) | skip
      all_goals first
        | (cases h; exact .lst e)
        | (cases h; exact .tup e)
        | (cases h; exact .dK e)
        | (cases h; exact .dT e)
end L2
end
section
set_option Elab.async false
set_option linter.all false
set_option maxRecDepth 100000
set_option maxHeartbeats 2000000
/-! # New objects, the heap behind them a letter. -/
namespace L2
open PySem PySem.Spec PyProof.Rows
theorem same_new {H : Hp} {p : Addr} {o : HO} (h : H p = none) : Same H (upd H p o) := fun b u e => by
  rw [upd_ne (ne_of_none e h)]; exact e
/-- o stands at p, new, in H2; else H2 is H -/
structure New (H H2 : Hp) (p : Addr) (o : HO) : Prop where
  free : H p = none
  at_ : H2 p = some o
  same : Same H H2
  rest : ∀ b, b ≠ p → H2 b = H b
theorem New.mk' {H : Hp} {p : Addr} {o : HO} (h : H p = none) : New H (upd H p o) p o := ⟨h, upd_same, same_new h, fun _ hb => upd_ne hb⟩
theorem New.off {M : Addr → Prop} {H H2 : Hp} {p : Addr} {o : HO} (n : New H H2 p o) : Off M H H2 := Off.same n.same
section
variable {X : Cx} {es : List Expr} {t : TA} {pos : Pos}
def tTupA (t : TA) : TE := fun σ H Q => t σ H fun xs H1 => xs.length ≤ sizeLine ∧ ∀ p H2, New H1 H2 p (.tup xs) → Q (.ref p) H2
def tLstA (t : TA) : TE := fun σ H Q => t σ H fun xs H1 => xs.length ≤ sizeLine ∧ ∀ p H2, New H1 H2 p (.lst xs) → Q (.ref p) H2
theorem pe_tupA {x1} (h : PA X es t) : PE X (.Tuple es x1 pos) (tTupA t) := by
  constructor
  intro pins s σ H Q I hq
  refine wpAny_Tuple_spliced (thn (h.run pos pins s σ H _ I hq) ?_)
  rintro us s1 ⟨xs, H1, I1, r, z, q⟩
  refine ⟨by rw [← r.length]; exact z, ?_⟩
  have hf : H1 s1.heap.objs.size = none := I1.hok.fresh (Nat.le_refl _)
  refine ⟨.ref s1.heap.objs.size, upd H1 s1.heap.objs.size (.tup xs), ?_, rfl, q _ _ (New.mk' hf)⟩
  exact I1.laid (t' := s1.toks) (fun b u e => Heap.get?_push_of_some _ e) (Nat.le_refl _) ⟨z, us, r, _, Heap.get?_push_size _ rfl, rfl, _, rfl⟩
theorem pe_lstA (h : PA X es t) : PE X (.List es pos) (tLstA t) := by
  constructor
  intro pins s σ H Q I hq
  refine wpAny_List_spliced (thn (h.run pos pins s σ H _ I hq) ?_)
  rintro us s1 ⟨xs, H1, I1, r, z, q⟩
  refine ⟨by rw [← r.length]; exact z, ?_⟩
  have hf : H1 s1.heap.objs.size = none := I1.hok.fresh (Nat.le_refl _)
  refine ⟨.ref s1.heap.objs.size, upd H1 s1.heap.objs.size (.lst xs), ?_, rfl, q _ _ (New.mk' hf)⟩
  exact I1.laid (t' := s1.toks) (fun b u e => Heap.get?_push_of_some _ e) (Nat.le_refl _) ⟨z, us, 0, r, Heap.get?_push_size _ rfl⟩
def tDNewA : TE := fun _ H Q => ∀ p H2, New H H2 p (.dK []) → Q (.ref p) H2
theorem pe_dnewA : PE X (.Dict [] [] pos) tDNewA := by
  constructor
  intro pins s σ H Q I hq
  exact pe_dnewK.run pins s σ H Q I fun p hp => hq p _ (New.mk' hp)
end
end L2
end
section
set_option Elab.async false
set_option linter.all false
set_option maxRecDepth 100000
set_option maxHeartbeats 2000000
/-! # What the top leaves, each fact from facts that are looked up. -/
namespace L2
open PySem PySem.Spec PyProof.Rows
theorem funD_mk {K : PySem.W.Frag} {x qual : Str} {params : Arguments} {body : List Stmt} {scope : Scope} {dvs : List V} {f T : Addr} {oc : Value} {od an : Option Addr} {osl : Array (Option Value)} {kV doc pm cdv ct : Value} {o : Obj} {its : List Value} {n : Nat}
    (l : K.lookup f = some ⟨oc, od, .func (PySem.W.fnOf x qual params body scope (.ref T) kV doc pm an cdv ct), osl⟩) (c : PySem.W.codeIn K cdv qual = true) (k : PySem.W.keepIn K (.ref f) = true)
    (t : K.lookup T = some o) (u : o.data = .seq its.toArray n) (v : Vals dvs its) (ne : dvs ≠ []) : FunD K x qual params body scope dvs [] f (PySem.W.fnOf x qual params body scope (.ref T) kV doc pm an cdv ct) :=
  ⟨⟨oc, od, _, kV, doc, pm, an, cdv, ct, osl, rfl, l, c, .inr ⟨ne, T, o, its, n, rfl, t, u, v⟩, .inl rfl⟩, k⟩
end L2
namespace RX
open PySem PySem.W PySem.Calls PyProof.Rows PySem.HandSPX
theorem te_of {K : Frag} {S : Addr} (a : subIn K (.ref S) (.type "BaseException") = some true) (b : isClsIn K S = true) (c : typeIn K (.ref S) = some (.type "type")) (d : subIn K (.ref S) (.ref S) = some true) : exmOne K (.ref S) (.ref S) = some true := by
  have b' : (clsIn K S).isSome = true := b
  simp [exmOne, kitCls, a, b', c, d]
/-- an error of the package, from facts that are looked up -/
theorem errT_mk {prog : Program} {K : Frag} {mg : Str → Option Value} {h : Heap} {cn fld : Str} {C fI : Addr} (X : K.In h) (G : h.Ns mainGlobals mg)
    {nm q : Str} {N : Addr} {bs bm : List Value} {sn : List Str} {sub : List Value} {ab : Bool} {col : Option Bool} {dd : Option Addr} {k0 k1 k2 k3 k5 : Option Value}
    {oc : Value} {od : Option Addr} {doc pm : Value} {an : Option Addr} {cda cc : Addr} {ct : Value} {osl : Array (Option Value)} {msg : Str} {qual : Str} {p1 p2 q1 q2 q3 q4 q5 q6 q7 q8 q9 q10 : Pos}
    {ccl cl : Value} {cdd cld : Option Addr} {ccs csl : Array (Option Value)} {vs : Array Value} {file : Str} {tf : Tok}
    (gC : nsIn K mainGlobals cn = some (some (.ref C)))
    (cls : K.lookup C = some (excClassObj nm q C N bs bm true sn sub ab col dd k0 k1 k2 k3 k5 "ValueError.__new__")) (rv : refsVE bm = true)
    (sa : findIn K (.ref C) "__setattr__" = some (some (.builtin "object.__setattr__")))
    (ga : findIn K (.ref C) "__getattribute__" = some (some (.builtin "BaseException.__getattribute__"))) (gg : findIn K (.ref C) "__getattr__" = some none)
    (noN : findIn K (.ref C) fld = some none) (iC : findIn K (.ref C) "__init__" = some (some (.ref fI))) (tC : typeIn K (.ref fI) = some (.type "function")) (kC : keepIn K (.ref C) = true)
    (exC : subIn K (.ref C) (.type "BaseException") = some true) (tyC : typeIn K (.ref C) = some (.type "type")) (hdC : hasDictIn K C = true)
    (icC : isClsIn K C = true) (sC : subIn K (.ref C) (.ref C) = some true)
    (veC : subIn K (.ref C) (.type "ValueError") = some true) (selfM : mroIn K C (.ref C) = some true) (up : ks_superIn K C C "__init__" = some (some (.builtin "ValueError.__init__")))
    (third : nsIn K cStatics "thirdparty.any" = some none) (noS : nsIn K mainGlobals "super" = some none) (top : (prog.main.scope.names.lookup ("super" : Str)).isSome = false)
    (fl : (eS fld).names.lookup fld = some .local ∧ (fld == ("self" : Str)) = false ∧ (eS fld).names.lookup ("super" : Str) = some .globalImplicit ∧ (eS fld).names.lookup ("__class__" : Str) = some .free ∧ (fld == ("__debug__" : Str)) = false)
    (bd : ∀ (qual : Str) (body : List Stmt) (doc pm : Value) (an : Option Addr) (cd ct : Value) (cc : Addr) (p1 p2 : Pos) (a b : Value), bindArgs (ksFn "__init__" qual (eA fld p1 p2) body (eS fld) .none .none doc pm an cd ct cc) ⟨[a, b], []⟩ = pure [(("self" : Str), a), (fld, b)])
    (l : K.lookup fI = some ⟨oc, od, .func (ksFn "__init__" qual (eA fld p1 p2) (eB fld msg q1 q2 q3 q4 q5 q6 q7 q8 q9 q10) (eS fld) .none .none doc pm an (.ref cda) ct cc), osl⟩) (cd : codeIn K (.ref cda) qual = true)
    (lc : K.lookup cda = some ⟨ccl, cdd, .fields vs, ccs⟩) (v2 : vs[2]? = some (.str file tf)) (vf : ((prog.main.file : Str) == file) = true) (lcc : K.lookup cc = some ⟨cl, cld, .cell (some (.ref C)), csl⟩) (ln : (q3.endLine == q5.line) = true) :
    ErrT prog K mg cn fld C fI :=
  { gC := mg_of X G gC, cls := ⟨nm, q, N, bs, bm, sn, sub, ab, col, dd, k0, k1, k2, k3, k5, cls, rv⟩, sa := sa, xf := ⟨ga, gg, exC, hdC⟩, noN := noN, iC := iC, tC := tC, kC := kC, exC := exC, tyC := tyC, hdC := hdC, te := te_of exC icC tyC sC, veC := veC, selfM := selfM, up := up, third := third,
    noS := noS, top := top, fl := fl, bd := bd, fn := ⟨oc, od, doc, pm, an, cda, cc, ct, osl, msg, qual, p1, p2, q1, q2, q3, q4, q5, q6, q7, q8, q9, q10, ccl, cl, cdd, cld, ccs, csl, vs, file, tf, l, cd, lc, v2, vf, lcc, ln⟩ }
end RX
end
section
set_option Elab.async false
set_option linter.all false
set_option maxRecDepth 100000
set_option maxHeartbeats 2000000
/-! # enumerate of a tuple, and of a list or a tuple. -/
namespace L2
open PySem PySem.Spec PyProof.Rows
theorem meets_en1 {v : Value} {o : Obj} {Z : Heap → Prop} (B : Begins v o Z) :
    Meets (Builtin.«enumerate.__new__» ⟨[.type "enumerate", v], []⟩) (fun _ R s => Z s.heap ∧ R (.ok (.ret (.ref (s.heap.push o).objs.size)))
      { s with heap := (s.heap.push o).push { cls := .type "enumerate", data := .fields #[.none, .bool false, .ref s.heap.objs.size, rawInt 0, .none, .none] } }) :=
  .of_wp fun prog w A R s q => by
    obtain ⟨hp, ge, dr, tk, os⟩ := s
    obtain ⟨z1, q⟩ := q
    have hs := sub_enumerate
    have step : ∀ {A' : Around} {E : Value → Shared → Prop} {Q : Value → Shared → Prop}, Q (.ref hp.objs.size) ⟨hp.push o, ge, dr, tk, os⟩ → wpAny (model prog w) A' (pyIter v) Q E ⟨hp, ge, dr, tk, os⟩ := fun u => B.iter prog w _ _ ⟨hp, ge, dr, tk, os⟩ _ z1 u
    wp_walk using step
    refine wpAny_stack_any fun sk => wpAny_pure ?_
    split
    · rename_i c _ _ _ _ _
      cases (c == Value.type "enumerate") <;> (wp_walk using step; exact ⟨_, rfl, q⟩)
    · wp_walk using step
      exact ⟨_, rfl, q⟩
section
variable {prog : Program} {w : World} {A : Around} {E : Value → Shared → Prop} {s : Shared}
/-- enumerate(v): its two new cells -/
theorem call_en {v : Value} {o : Obj} {Z : Heap → Prop} {Q : Value → Shared → Prop} (B : Begins v o Z) (z1 : Z s.heap)
    (q : ∀ h', IsEnum h' (s.heap.objs.size + 1) s.heap.objs.size 0 .none → h'.get? s.heap.objs.size = some o → h'.objs.size = s.heap.objs.size + 2 → (∀ b u, s.heap.get? b = some u → h'.get? b = some u) → Q (.ref (s.heap.objs.size + 1)) { s with heap := h' }) :
    wpAny (model prog w) A (call (.type "enumerate") [v]) Q E s := by
  refine callType_new F.called_enumerate (by decide) (F.typeCall_enumerate_1 _) (F.newCall_enumerate_1 _) (fun obj => F.args_object_init_2 obj _) F.entry_enumerate_new (meets_en1 B) ⟨z1, ?_⟩
  have e1 : (s.heap.push o).objs.size = s.heap.objs.size + 1 := Heap.size_push ..
  show _ ∧ _
  rw [e1]
  have he : IsEnum ((s.heap.push o).push { cls := .type "enumerate", data := .fields #[.none, .bool false, .ref s.heap.objs.size, rawInt 0, .none, .none] }) (s.heap.objs.size + 1) s.heap.objs.size 0 .none := by
    have u := Heap.get?_push_size (s.heap.push o) (o := { cls := .type "enumerate", data := .fields #[.none, .bool false, .ref s.heap.objs.size, rawInt 0, .none, .none] }) rfl
    rwa [e1] at u
  exact ⟨⟨_, he, rfl⟩, q _ he (Heap.get?_push_of_some _ (Heap.get?_push_size _ B.free)) (by rw [Heap.size_push, e1]) fun b u x => Heap.get?_push_of_some _ (Heap.get?_push_of_some _ x)⟩
end
/-- the tuple at a, each item in a new pair -/
def IteT (K : PySem.W.Frag) (a : Addr) : It :=
  ⟨fun i H => ∃ (xs : List V) (x : V), SqT K H a xs ∧ xs[i]? = some x, fun i H v H' => ∃ T x, v = .ref T ∧ H T = none ∧ H' = upd H T (.tup [.int (i : Nat), x]) ∧ ∀ xs, SqT K H a xs → xs[i]? = some x, fun i H => ∃ xs : List V, SqT K H a xs ∧ xs.length ≤ i⟩
theorem turn_enT {P : Program} {w : World} {K : PySem.W.Frag} {elts : List Expr} {kk : Nat} {tpos : Pos} (a e it : Addr) :
    Turn P w K (.Tuple elts kk tpos) (IteT K a) [e, it] e (fun i h => (∃ old, IsEnum h e it ((i : Nat) : Int) old) ∧ h.IsTupleIter it a i ∧ e ≠ it) where
  mem := by simp
  obj := fun i h st b hb => by
    obtain ⟨⟨old, he⟩, ⟨o, ho, hc, hd⟩, _⟩ := st
    rcases (by simpa using hb : b = e ∨ b = it) with z | z
    · exact z ▸ ⟨_, he, fun v q => nomatch q⟩
    · exact z ▸ ⟨o, ho, fun v q => by rw [hd] at q; cases q⟩
  keep := fun i h h' st k => ⟨let ⟨old, he⟩ := st.1; ⟨old, k e (by simp) _ he⟩, st.2.1.at fun o q => k it (by simp) o q, st.2.2⟩
  item := by
    intro X hP hw hK hc i pins s σ H E I hf st hg
    subst hP hw hK
    obtain ⟨⟨old, he⟩, hit, hne⟩ := st
    obtain ⟨xs, x, hq, hx⟩ := hg
    obtain ⟨its, rv, p, hz⟩ := I.tuple hq
    obtain ⟨u, hu, ru⟩ := rv.get hx
    have hel : e < s.heap.objs.size := Heap.lt_size he
    have hil : it < s.heap.objs.size := by obtain ⟨_, q, _⟩ := hit; exact Heap.lt_size q
    have ht : s.heap.IsTuple a its.toArray := p
    have hai : a ≠ it := by
      rintro rfl
      obtain ⟨o1, q1, c1, _⟩ := hit
      obtain ⟨o2, q2, c2, _⟩ := ht
      rw [q1] at q2
      cases q2
      exact absurd (Value.type.inj (c1.symm.trans c2)) (by decide)
    have hea : e ≠ a := by
      rintro rfl
      obtain ⟨o2, q2, c2, _⟩ := ht
      rw [he] at q2
      cases q2
      exact absurd (Value.type.inj (c2 : Value.type "enumerate" = .type "tuple")) (by decide)
    have hlt : i < its.toArray.size := by
      have := (List.getElem?_eq_some_iff.mp (by simpa using hu : its[i]? = some u)).1
      simpa using this
    refine wpAny_pyNext_enum_itemD (Draws.tuple (A := X.A.in1) (I.ok.hd hc) it a hai its.toArray) he ⟨hit, ht⟩ hlt hne (by simp [hne, hea]) fun x' h' tk hx' ho hst hT hsz hk => ?_
    have eu : x' = u := by
      have : its.toArray[i]? = some u := by simpa using hu
      exact Option.some.inj (hx'.symm.trans this)
    subst eu
    refine ⟨_, rfl, wpAny_letOwnedTupleGo_enum (s := { s with heap := h', toks := tk + 1 }) ho fun h'' he' sb => ?_⟩
    have hT2 : h''.get? s.heap.objs.size = some { cls := .type "tuple", data := .seq #[.int i tk, x'] } := (sb.2 _ (Nat.ne_of_gt hel)).trans hT
    have nw : ObjOk X.prog X.w (upd H s.heap.objs.size (.tup [.int (i : Nat), x])) h'' s.heap.objs.size (.tup [.int (i : Nat), x]) :=
      ⟨by show 2 ≤ sizeLine; decide, [.int i tk, x'], .cons ⟨_, rfl⟩ (.cons ru .nil), ⟨_, hT2, rfl, _, rfl⟩⟩
    have I1 : Inv X pins σ (upd H s.heap.objs.size (.tup [.int (i : Nat), x])) { s with heap := h'', toks := tk + 1 } :=
      I.turnedNew (ch := [e, it]) (fun b ob hb q => (sb.2 b (fun z => hb (by simp [z]))).trans (hk b ob (fun z => hb (by simp [z])) (fun z => hb (by simp [z])) q)) hf (Nat.le_refl _) nw
    refine ⟨.ref s.heap.objs.size, _, I1, rfl, ⟨_, x, rfl, I.hok.fresh (Nat.le_refl _), rfl, fun ys hy => by rw [I.tuple_inj hy hq]; exact hx⟩, ⟨⟨x', ?_⟩, hst.1.at fun o q => (sb.2 it (Ne.symm hne)).trans q, hne⟩, fun b hb => ?_⟩
    · rw [show ((i + 1 : Nat) : Int) = (i : Int) + 1 by omega]
      exact he'
    · have hb' : b < s.heap.objs.size := by
        rcases (by simpa using hb : b = e ∨ b = it) with z | z
        · exact z ▸ hel
        · exact z ▸ hil
      rw [upd_ne (Nat.ne_of_lt hb')]
      exact (hf b hb).1
  done := by
    intro X hP hw hK hc i pins s σ H E I hf st hg
    subst hP hw hK
    obtain ⟨⟨old, he⟩, hit, hne⟩ := st
    obtain ⟨xs, hq, hx⟩ := hg
    obtain ⟨its, rv, p, hz⟩ := I.tuple hq
    have ht : s.heap.IsTuple a its.toArray := p
    have hl := rv.length
    obtain ⟨f0, f1, f2, f3, f4, f5⟩ := hf it (by simp)
    have hT : s.TypeIs (.ref e) "enumerate" := ⟨_, he, rfl⟩
    have nn : its.toArray[i]? = none := by simp; omega
    unfold pyNext
    refine wpAny_bind (wpAny_attempt (wpAny_callSpecial?_slot (name := Str.ofString "__next__") hT F.slot_enumerate_next (wpAny_call_entry F.slot_enumerate_next hT F.entry_enumerate_next ?_ (F.args_enumerate_next_1 _))))
    show wpAny _ X.A.in1 (field (.ref e) 2 >>= _) _ _ s
    refine wpAny_bind (wpAny_field he rfl (x := .ref it) rfl (wpAny_bind (RZ.nextOf_tuple_end (A := X.A.in1) (I.ok.hd hc) hit ht nn fun h' y hy ht' => ?_)))
    obtain ⟨o, q1, q2⟩ := ht'
    refine wpAny_bind (wpAny_isInstance (T := "StopIteration") (b := true) ⟨o, q1, q2⟩ isSubtype_stop (wpAny_pure ⟨rfl, ?_⟩))
    exact I.turned (t' := s.toks) (fun b o hb q => hy b o hb q) f0 f1 f3 f4 f5
  self := fun A i s Q E st h => let ⟨⟨_, he⟩, _⟩ := st; wpAny_pyIter_enum he h
theorem walk_enT {K : PySem.W.Frag} {a : Addr} {xs : List V} : Walk (IteT K a) xs.length (fun H => SqT K H a xs) (YPair (fun i => some (.int (i : Nat))) (fun i => xs[i]?)) :=
  ⟨fun i _ hi q => ⟨xs, xs[i], q, by simp [hi]⟩, fun _ q => ⟨xs, q, Nat.le_refl _⟩, fun i H v H' _ q ⟨T, x, h1, h2, h3, h4⟩ => ⟨T, .int (i : Nat), x, h1, h2, h3, rfl, h4 xs q⟩⟩
section
variable {X : Cx} {e : Expr} {ta : TA} {p pos tpos : Pos} {elts : List Expr} {kk : Nat}
/-- enumerate(v), v a list or a tuple -/
def iEnum2 (K : PySem.W.Frag) (ta : TA) : TI := fun σ H R => ta σ H fun vs H1 => ∃ a xs, vs = [.ref a] ∧ (SqL K H1 a xs ∨ SqT K H1 a xs) ∧
  ∀ (J : It) (G : Hp → Prop), Walk J xs.length G (YPair (fun i => some (.int (i : Nat))) (fun i => xs[i]?)) → (∀ H', Same H1 H' → G H') → R J H1
theorem pi_enum2 (hg : Gl X "enumerate") (hm : X.mg "enumerate" = none) (ha : PA X [e] ta) (hs : starEach [e] X.env = [(false, eval e X.env)] := by rfl) : PI X (.Tuple elts kk tpos) (.Call (.Name "enumerate" p) [e] [] pos) (iEnum2 X.K ta) := by
  refine ⟨fun pins s σ H R I h => ?_⟩
  refine Call_ (ld_blt I hg hm boot_enumerate (PyProof.Rows.callWith_type1 (thn (ha.run pos pins s σ H _ I h) fun us s1 ⟨vs, H1, I1, r1, q1⟩ => ?_) hs rfl))
  obtain ⟨a, xs, ex, q1, q2⟩ := q1
  subst ex
  cases r1 with
  | cons r rr =>
    cases rr
    cases r
    have big : ∀ (b : Addr), b ∈ [s1.heap.objs.size + 1, s1.heap.objs.size] → FpOk X pins H1 b := fun b hb => by
      have hle : s1.heap.objs.size ≤ b := by
        rcases (by simpa using hb : b = s1.heap.objs.size + 1 ∨ b = s1.heap.objs.size) with z | z
        · exact z ▸ Nat.le_succ _
        · exact z ▸ Nat.le_refl _
      exact I1.fpOk hle (I1.hok.fresh hle)
    rcases q1 with hq | hq
    · have q := q2 _ _ walk_enum fun H' s' => s'.seq hq
      obtain ⟨its, rv, p', hz⟩ := I1.list hq
      refine call_en (begins_list a its.toArray) p'.isList fun h' he ho hsz hk => wpAny_pyIter_enum he ?_
      exact ⟨s1.heap.objs.size + 1, [s1.heap.objs.size + 1, s1.heap.objs.size], _, _, H1, rfl, I1.kept (t' := s1.toks) hk, turn_enum a (s1.heap.objs.size + 1) s1.heap.objs.size, ⟨⟨.none, he⟩, ⟨_, ho, rfl, rfl⟩, Nat.succ_ne_self _⟩, big, q⟩
    · have q := q2 _ _ walk_enT fun H' s' => hq.imp (fun z => z.imp (fun e => s' _ _ e) (fun ⟨o, e⟩ => ⟨o, s' _ _ e⟩)) id
      obtain ⟨its, rv, p', hz⟩ := I1.tuple hq
      refine call_en (begins_tuple a its.toArray) (show s1.heap.IsTuple a its.toArray from p') fun h' he ho hsz hk => wpAny_pyIter_enum he ?_
      exact ⟨s1.heap.objs.size + 1, [s1.heap.objs.size + 1, s1.heap.objs.size], _, _, H1, rfl, I1.kept (t' := s1.toks) hk, turn_enT a (s1.heap.objs.size + 1) s1.heap.objs.size, ⟨⟨.none, he⟩, ⟨_, ho, rfl, rfl⟩, Nat.succ_ne_self _⟩, big, q⟩
end
section
variable {X : Cx}
/-- tuple(v), v a list or a tuple that stands: a tuple of the same things stands then, the old one or a new one -/
def rTup2 : List V → Hp → VK → Prop := fun xs H Q => ∃ a ys, xs = [.ref a] ∧ (H a = some (.lst ys) ∨ H a = some (.tup ys)) ∧ ∀ t H', Same H H' → H' t = some (.tup ys) → (H t = none ∨ t = a) → Q (.ref t) H'
theorem cr_tup2 : CallR X (.type "tuple") rTup2 := fun pins s σ H xs us Q I rv h => by
  obtain ⟨a, ys, rfl, h1, k⟩ := h
  refine call_tuple_of pins s σ H [.ref a] us Q I rv ⟨a, ys, rfl, ?_⟩
  rcases h1 with e | e
  · exact .inl ⟨SqL.of e, fun l hl => k l _ (same_new hl) upd_same (.inl hl)⟩
  · exact .inr ⟨SqT.of e, k a H (Same.refl _) e (.inr rfl)⟩
end
end L2
end
section
set_option Elab.async false
set_option linter.all false
set_option maxRecDepth 100000
set_option maxHeartbeats 2000000
/-! # text.translate(a dict of signs for signs), text[::-1], text.index(a sign that is there) -/
namespace L2
open PySem PySem.Spec PyProof.Rows PySem.Builtin PySem.Builtin.Str
/-- what the dict tells of each sign: one ASCII sign, or nothing -/
def Swaps (f : Key → Option Value) (one : Nat → Nat) : Prop := ∀ c : Nat, (∃ (e : Nat) (t : Tok), f (.inl (c : Int)) = some (.str ⟨#[e]⟩ t) ∧ e < 128 ∧ one c = e) ∨ (f (.inl (c : Int)) = none ∧ one c = c)
section
variable {P : Program} {w : World} {A : Around} {E : Value → Shared → Prop} {s : Shared} {d : Addr} {c : Nat} {one : Nat → Nat}
theorem sw_mapOf {h h' : Heap} {f : Key → Option Value} (m : h.MapOf (mixKind P w) d f) (k : ∀ b o, h.get? b = some o → h'.get? b = some o) : h'.MapOf (mixKind P w) d f := by
  obtain ⟨ob, es, ep, q, rest⟩ := m
  exact ⟨ob, es, ep, k _ _ q, rest⟩
theorem sw_look {f : Key → Option Value} {Q : Mapped → Shared → Prop} (quiet : A.handled = none) (low : (d == sysModules) = false) (m : s.heap.MapOf (mixKind P w) d f) (sw : Swaps f one)
    (hit : one c < 128 → ∀ h1 k1, (∀ b o, s.heap.get? b = some o → h1.get? b = some o) → Q (.text ⟨#[one c]⟩) { s with heap := h1, toks := k1 })
    (miss : one c = c → ∀ h1 k1, (∀ b o, s.heap.get? b = some o → h1.get? b = some o) → Q .keep { s with heap := h1, toks := k1 }) : wpAny (model P w) A (tableLookup (.ref d) c) Q E s := by
  unfold tableLookup
  refine wpAny_bind (wpAny_attempt (wpAny_bind (wpAny_mkInt ?_)))
  rcases sw c with ⟨e, t, q1, q2, q3⟩ | ⟨q1, q3⟩
  · refine wpAny_getItem_of (knd := mixKind P w) (k := Sum.inl (c : Int)) (kV_is (k := Sum.inl (c : Int)) ⟨_, rfl⟩) m q1 ?_
    show wpAny _ _ (do let o ← asInt? (Value.str ⟨#[e]⟩ t); _) _ _ _
    refine wpAny_bind (wpAny_of_eq (a := none) rfl ?_)
    refine wpAny_bind (wpAny_of_eq (a := some ⟨#[e]⟩) rfl ?_)
    rw [← q3]
    exact wpAny_pure (hit (q3 ▸ q2) s.heap _ fun _ _ z => z)
  · refine wpAny_getItem_missing_of (knd := mixKind P w) (k := Sum.inl (c : Int)) (kV_is (k := Sum.inl (c : Int)) ⟨_, rfl⟩) low quiet m q1 fun h1 x new => ?_
    show wpAny _ _ (do let b ← isInstance (.ref x) (.type "LookupError"); _) _ _ _
    obtain ⟨ob, t, o1, o2, _⟩ := new.there
    refine wpAny_bind (wpAny_isInstance (T := "KeyError") (b := true) ⟨ob, o1, o2⟩ key_is_lookup ?_)
    rw [if_pos rfl]
    exact wpAny_bind (wpAny_rule (wpAny_pure (miss q3 h1 _ new.keeps)))
end
theorem sw_fold (one : Nat → Nat) : ∀ (l : List Nat) (acc : Array Nat), List.foldl (fun r (p : Str) => r ++ p.cps) acc (l.map fun c => (⟨#[one c]⟩ : Str)) = acc ++ (l.map one).toArray
  | [], acc => by simp
  | a :: l, acc => by
    rw [List.map_cons, List.foldl_cons, sw_fold one l]
    apply Array.toList_inj.mp
    simp
/-- what stands ahead of each turn -/
def SwAt (one : Nat → Nat) (x : List Nat) (ascii : Bool) (s : Shared) (rest : List Nat) (st : List Str × Nat × Bool × List (Nat × Option Nat) × Bool) (s1 : Shared) : Prop :=
  ∃ (done : List Nat) (ps : List Str) (kn : List (Nat × Option Nat)) (h1 : Heap) (k1 : Nat), x = done ++ rest ∧ st = (ps, done.length, ascii, kn, false) ∧ ps.reverse = done.map (fun c => (⟨#[one c]⟩ : Str)) ∧
    (∀ c a, List.lookup c kn = some a → a = some (one c)) ∧ s1 = { s with heap := h1, toks := k1 } ∧ ∀ b o, s.heap.get? b = some o → h1.get? b = some o
theorem SwAt.step {one : Nat → Nat} {x : List Nat} {ascii : Bool} {s : Shared} {rest done : List Nat} {c : Nat} {ps : List Str} {kn : List (Nat × Option Nat)} {h1 : Heap} {k1 : Nat} (q1 : x = done ++ c :: rest)
    (q2 : ps.reverse = done.map (fun c => (⟨#[one c]⟩ : Str))) (q3 : ∀ c a, List.lookup c kn = some a → a = some (one c)) (q4 : ∀ b o, s.heap.get? b = some o → h1.get? b = some o) :
    SwAt one x ascii s rest (⟨#[one c]⟩ :: ps, done.length + 1, ascii, kn, false) { s with heap := h1, toks := k1 } :=
  ⟨done ++ [c], _, kn, h1, k1, by rw [q1, List.append_assoc]; rfl, by rw [List.length_append]; rfl, by rw [List.reverse_cons, q2, List.map_append]; rfl, q3, rfl, q4⟩
theorem sw_meets {P : Program} {w : World} (one : Nat → Nat) (x : List Nat) (t : Tok) (d : Addr) (low : (d == sysModules) = false) (short : x.length ≤ 16000000) : MeetsIn P w («str.translate» ⟨[.str (SX.S x) t, .ref d], []⟩) (fun A R s =>
    A.handled = none ∧ (∃ f, s.heap.MapOf (mixKind P w) d f ∧ Swaps f one) ∧ ∀ (v : Value) (h1 : Heap) (k1 : Nat), (∀ b o, s.heap.get? b = some o → h1.get? b = some o) → (∃ t1, v = .str (SX.S (x.map one)) t1) → R (.ok (.ret v)) { s with heap := h1, toks := k1 }) := by
  refine .of_wp fun A R s hyp => ?_
  obtain ⟨quiet, ⟨f, m, sw⟩, fin⟩ := hyp
  have quiet1 : A.in1.handled = none := quiet
  show wpAny _ _ (if ((SX.S x).length == 0) = true then (do rule "str.translate.empty"; ret (.str (SX.S x) t)) else (do
    let st ← forIn (SX.S x).cps (([], 0, (SX.S x).cps.all fun y => decide (y < 128), [], false) : List Str × Nat × Bool × List (Nat × Option Nat) × Bool) _
    _)) _ _ s
  by_cases none0 : ((SX.S x).length == 0) = true
  · rw [if_pos none0]
    have hx : x = [] := by
      rw [beq_iff_eq, SX.S_len] at none0
      exact List.eq_nil_of_length_eq_zero none0
    subst hx
    exact wpAny_bind (wpAny_rule (wpAny_pure ⟨_, rfl, fin _ s.heap s.toks (fun _ _ z => z) ⟨t, rfl⟩⟩))
  rw [if_neg none0]
  generalize ((SX.S x).cps.all fun y => decide (y < 128)) = ascii
  refine wpAny_bind (MeetsSeq2.wpAny_forIn_array _ (SwAt one x ascii s) _ (fun c rest st s1 I => ?turn) (fun st s1 I => ?last) (SX.S x).cps ([], 0, ascii, [], false) ?first)
  case first => exact ⟨[], [], [], s.heap, s.toks, by show x = [] ++ x.toArray.toList; simp, rfl, rfl, fun c a z => (by rw [List.lookup_nil] at z; cases z), rfl, fun _ _ z => z⟩
  case turn =>
    obtain ⟨done, ps, kn, h1, k1, e1, e2, e3, e4, e5, e6⟩ := I
    subst e2
    subst e5
    have few : done.length ≤ 16000000 := by
      have := congrArg List.length e1
      rw [List.length_append] at this
      omega
    have m1 : ({ s with heap := h1, toks := k1 } : Shared).heap.MapOf (mixKind P w) d f := sw_mapOf m e6
    have known1 : ∀ c' a, List.lookup c' ((c, some (one c)) :: kn) = some a → a = some (one c') := fun c' a z => by
      rcases lookup_new z with ⟨y1, y2⟩ | y
      · rw [y2, y1]
      · exact e4 c' a y
    show wpAny _ _ (if tooLong done.length = true then _ else (if ascii = true then _ else _)) _ _ _
    rw [show tooLong done.length = false from PyProof.Rows.short24 (by omega), if_neg Bool.false_ne_true]
    cases ascii with
    | true =>
      rw [if_pos rfl]
      cases lk : List.lookup c kn with
      | some a =>
        have ea := e4 c a lk
        subst ea
        exact wpAny_bind (wpAny_pure (wpAny_pure (SwAt.step e1 e3 e4 e6)))
      | none =>
        refine wpAny_bind (sw_look (one := one) quiet1 low m1 sw (fun lt h2 k2 k3 => ?_) (fun eq h2 k2 k3 => ?_))
        · have q := SwAt.step (ascii := true) (k1 := k2) (kn := (c, some (one c)) :: kn) e1 e3 known1 (fun b o z => k3 b o (e6 b o z))
          have cond : (((⟨#[one c]⟩ : Str).length == 1) && ((⟨#[one c]⟩ : Str).cps.all fun y => decide (y < 128))) = true := by
            have : decide (one c < 128) = true := decide_eq_true lt
            simp [Str.length, this]
          simp only [cond, if_true]
          refine wpAny_bind (wpAny_pure ?_)
          exact wpAny_pure q
        · have q := SwAt.step (ascii := true) (k1 := k2) (kn := (c, some (one c)) :: kn) e1 e3 known1 (fun b o z => k3 b o (e6 b o z))
          rw [eq] at q
          refine wpAny_bind (wpAny_pure ?_)
          exact wpAny_pure q
    | false =>
      rw [if_neg Bool.false_ne_true]
      show wpAny _ _ (if false = true then _ else _) _ _ _
      rw [if_neg Bool.false_ne_true]
      refine wpAny_bind (sw_look (one := one) quiet1 low m1 sw (fun lt h2 k2 k3 => ?_) (fun eq h2 k2 k3 => ?_))
      · exact wpAny_pure (SwAt.step (ascii := false) (k1 := k2) e1 e3 e4 (fun b o z => k3 b o (e6 b o z)))
      · have q := SwAt.step (ascii := false) (k1 := k2) e1 e3 e4 (fun b o z => k3 b o (e6 b o z))
        rw [eq] at q
        exact wpAny_pure q
  case last =>
    obtain ⟨done, ps, kn, h1, k1, e1, e2, e3, e4, e5, e6⟩ := I
    subst e2
    subst e5
    have all : x = done := by rw [e1, List.append_nil]
    show wpAny _ _ (if tooLong done.length = true then _ else retStr { cps := List.foldl (fun acc (p : Str) => acc ++ p.cps) #[] ps.reverse }) _ _ _
    rw [show tooLong done.length = false from PyProof.Rows.short24 (by rw [← all]; omega), if_neg Bool.false_ne_true, e3, sw_fold, ← all]
    have ev : (⟨#[] ++ (x.map one).toArray⟩ : Str) = SX.S (x.map one) := by rw [Array.empty_append]
    rw [ev]
    exact wpAny_bind (wpAny_mkStr (wpAny_pure ⟨_, rfl, fin _ h1 _ e6 ⟨_, rfl⟩⟩) (by rw [SX.S_len, List.length_map, sizeLine_eq]; omega))
/-- the same of a dict at a tracked address -/
def SwapsK (kvs : List (Key × V)) (one : Nat → Nat) : Prop := ∀ c : Nat, (∃ e : Nat, valV kvs (.inl (c : Int)) = some (.str ⟨#[e]⟩) ∧ e < 128 ∧ one c = e) ∨ (valV kvs (.inl (c : Int)) = none ∧ one c = c)
section
variable {X : Cx}
theorem mt_swaps (one : Nat → Nat) (hc : X.calm = true) : MtR X "str.translate" (fun x xs H Q => ∃ (z : Str) (d : Addr) (kvs : List (Key × V)), x = .str z ∧ xs = [.ref d] ∧ H d = some (.dK kvs) ∧ SwapsK kvs one ∧ z.length ≤ 16000000 ∧ Q (.str ⟨(z.cps.toList.map one).toArray⟩) H) := by
  intro pins s σ H x xs v us Q I rx rs h
  obtain ⟨z, d, kvs, rfl, rfl, hd, sw, hl, q⟩ := h
  obtain ⟨t, rfl⟩ := rx
  cases rs with
  | cons r1 rs =>
    cases rs
    cases r1
    obtain ⟨_, low, vs, rel, dd⟩ := dk_of I.hok hd
    have ez : z = SX.S z.cps.toList := by cases z with | mk c => show (⟨c⟩ : Str) = ⟨c.toList.toArray⟩; simp
    have sw1 : Swaps (valueAt vs) one := fun c => by
      have rv := rel.val (.inl (c : Int))
      rcases sw c with ⟨e, q1, q2, q3⟩ | ⟨q1, q3⟩
      · rw [q1] at rv
        obtain ⟨u, hu, ru⟩ := RelO.some_of (v := .str ⟨#[e]⟩) (o := valueAt vs (.inl (c : Int))) rv
        obtain ⟨t2, rfl⟩ := ru
        exact .inl ⟨e, t2, hu, q2, q3⟩
      · rw [q1] at rv
        refine .inr ⟨?_, q3⟩
        cases hv : valueAt vs (.inl (c : Int)) with
        | none => rfl
        | some y => rw [hv] at rv; exact False.elim rv
    have hl2 : z.cps.toList.length ≤ 16000000 := by simpa [Str.length] using hl
    rw [ez]
    refine call_meetsIn F.slot_str_translate (typeIs_str _ _ _) F.entry_str_translate (F.args_str_translate_2 _ _) (sw_meets one z.cps.toList t d low hl2) ⟨I.ok.hd hc, ⟨valueAt vs, dd.mapOf, sw1⟩, ?_⟩
    intro v h1 k1 keep ⟨t1, e⟩
    subst e
    exact ⟨.str _, H, I.kept (t' := k1) keep, ⟨t1, rfl⟩, q⟩
/-- text.index(sign), where it is -/
theorem mt_signAt : MtR X "str.index" (fun x xs H Q => ∃ (z : Str) (c : Nat), x = .str z ∧ xs = [.str ⟨#[c]⟩] ∧ c ∈ z.cps.toList ∧ Q (.int (Txt.find z ⟨#[c]⟩)) H) := by
  intro pins s σ H x xs v us Q I rx rs h
  obtain ⟨z, c, rfl, rfl, hm, q⟩ := h
  have f := PySem.StrLaws.found_one z c
  rw [decide_eq_true hm] at f
  cases ho : Builtin.Str.occurrences z ⟨#[c]⟩ 0 z.length 1 with
  | nil => rw [ho] at f; cases f
  | cons i rest =>
    refine mt_sindex pins s σ H _ _ v us Q I rx rs ⟨z, _, i, rest, rfl, rfl, ho, ?_⟩
    have e : Txt.find z ⟨#[c]⟩ = (i : Int) := by
      unfold Txt.find
      rw [ho]
    rw [← e]
    exact q
/-- text[::-1] -/
def revS (z : Str) : Str := ⟨z.cps.toList.reverse.toArray⟩
theorem sliceBy_rev (z : Str) (u : Tok) : Txt.sliceBy z none none (-1, u) = revS z := by
  have h := step_rev_list z u
  have e : (List.range z.length).map (fun k => z.cps.getD (z.length - 1 - k) 0) = z.cps.toList.reverse := by
    refine List.ext_getElem (by simp [Str.length]) fun i h1 h2 => ?_
    rw [List.length_map, List.length_range] at h1
    have h3 : z.length - 1 - i < z.cps.size := by
      have : z.length = z.cps.size := rfl
      omega
    rw [List.getElem_map, List.getElem_range, List.getElem_reverse]
    simp [Array.getD, h3]
    rfl
  rw [e] at h
  generalize Txt.sliceBy z none none (-1, u) = y at h
  cases y with
  | mk c =>
    show (⟨c⟩ : Str) = ⟨z.cps.toList.reverse.toArray⟩
    have : c.toList = z.cps.toList.reverse := h
    rw [← this]
def tRevS (te : TE) : TE := fun σ H Q => te σ H fun x H1 => ∃ z, x = .str z ∧ z.length ≤ sizeLine ∧ Q (.str (revS z)) H1
theorem pe_revS {e : Expr} {te : TE} {k : Nat} {p1 p2 p3 pos : Pos} (he : PE X e te) : PE X (.Subscript e (.Slice none none (some (.UnaryOp .USub (.Constant (.int 1) k p1) p2)) p3) pos) (tRevS te) := by
  refine ⟨fun pins s σ H Q I hyp => ?_⟩
  refine Subscript_ (thn (he.run pins s σ H _ I hyp) fun v s1 ⟨x, H1, I1, r1, z, ex, hz, q⟩ => ?_)
  subst ex
  obtain ⟨t, rfl⟩ := r1
  have neg : PO X (some (.UnaryOp .USub (.Constant (.int 1) k p1) p2)) (tPart (tUn (rU fun i => .int (-i)) (tC (.int 1)))) := po_some (pe_un un_neg pe_int)
  refine wpAny_Slice (thn (po_none.run pins s1 σ H1 (fun o H2 => o = none ∧ H2 = H1) I1 ⟨rfl, rfl⟩) fun vl s2 ⟨l, H2, I2, pl, el, e2⟩ => ?_)
  subst el
  subst e2
  refine thn (po_none.run pins s2 σ H2 (fun o H3 => o = none ∧ H3 = H2) I2 ⟨rfl, rfl⟩) fun vu s3 ⟨u, H3, I3, pu, eu, e3⟩ => ?_
  subst eu
  subst e3
  refine thn (neg.run pins s3 σ H3 (fun o H4 => o = some (-1) ∧ H4 = H3) I3 ⟨1, rfl, -1, rfl, rfl, rfl⟩) fun vs s4 ⟨o, H4, I4, ps, eo, e4⟩ => ?_
  subst eo
  subst e4
  have I5 : Inv X pins σ H4 { s4 with heap := s4.heap.push { cls := .type "slice", data := .fields #[vl, vu, vs] } } := I4.kept (t' := s4.toks) fun b ob q => Heap.get?_push_of_some _ q
  obtain ⟨l1, rfl, el1⟩ := IsPart.raw pl
  obtain ⟨u1, rfl, eu1⟩ := IsPart.raw pu
  obtain ⟨st1, rfl, es1⟩ := IsPart.raw ps
  have l0 : l1 = none := by cases l1 with | none => rfl | some y => cases el1
  have u0 : u1 = none := by cases u1 with | none => rfl | some y => cases eu1
  subst l0
  subst u0
  obtain ⟨tk, rfl⟩ : ∃ tk, st1 = some (-1, tk) := by
    cases st1 with
    | none => cases es1
    | some y =>
      obtain ⟨y1, y2⟩ := y
      have : y1 = -1 := Option.some.inj es1
      subst this
      exact ⟨y2, rfl⟩
  show wpAny (model X.prog X.w) X.A (subscriptTail e (.Slice none none (some (.UnaryOp .USub (.Constant (.int 1) k p1) p2)) p3) (.str z t) (.ref s4.heap.objs.size)) (EP X pins σ Q) X.xe { s4 with heap := s4.heap.push { cls := .type "slice", data := .fields #[_, _, _] } }
  refine tail_any (ops := [.str z t, .ref s4.heap.objs.size]) (typeIs_str _ _ _) F.slot_str_getitem.lookup ?_ (by with_unfolding_all rfl)
  refine wpAny_getItem_str_slice (l := none) (u := none) (st := some (-1, tk)) ⟨_, Heap.get?_push_size _ rfl, rfl, rfl⟩ rfl ?_
  have hl : (revS z).length ≤ sizeLine := by
    have : (revS z).length = z.length := by simp [revS, Str.length]
    rw [this]
    exact hz
  have em : ∀ st : Str, Txt.sliceBy z none none (-1, tk) = st → sliceMade z t none none (some (-1, tk)) = .str st := fun st h => by
    unfold Txt.sliceBy at h
    unfold sliceMade
    have no : ¬ ((((some ((-1 : Int), tk)).map (·.1)).getD 1 == 1 && (slicePicked z none none (some (-1, tk))).length == z.length) = true) := by
      have : ((((some ((-1 : Int), tk)).map (·.1)).getD 1 == 1)) = false := rfl
      rw [this, Bool.false_and]
      exact Bool.false_ne_true
    rw [if_neg no] at h ⊢
    rw [h]
  rw [em _ (sliceBy_rev z tk)]
  exact ⟨hl, .str _, _, I5.tok _, ⟨_, rfl⟩, q⟩
end
end L2
end
section
set_option Elab.async false
set_option linter.all false
set_option maxRecDepth 100000
set_option maxHeartbeats 2000000
/-! # A written dict asked for texts; == of data; a def that calls itself. -/
namespace L2
open PySem PySem.Spec PyProof.Rows
/-- what the written dict at a has for a text -/
structure KD (K : PySem.W.Frag) (w : World) (a : Addr) (x : Str) (r : Option Value) : Prop where
  ex : ∃ es n, K.lookup a = some ⟨.type "dict", none, .dict es n, #[]⟩ ∧ PySem.W.KeysLit w.params es.toList ∧ (a == sysModules) = false ∧ PySem.W.nsIn K a x = some r
theorem KD.get {K : PySem.W.Frag} {w : World} {a : Addr} {x : Str} {u : Value} {v : V} (h : KD K w a x (some u)) (r : RelV v u) : KDct K w a x v := by
  obtain ⟨es, n, h1, h2, _, h4⟩ := h.ex
  exact ⟨es, n, u, h1, h2, h4, r⟩
/-- t not in d, d a written dict -/
theorem op_notIn_w {X : Cx} : OpR X (compareOp .NotIn) (fun x y H Q => ∃ (p : Addr) (z : Str) (r : Option Value), x = .str z ∧ y = .ref p ∧ KD X.K X.w p z r ∧ Q (.bl (!r.isSome)) H) := by
  intro pins s σ H x y v u Q I rx ry h
  obtain ⟨p, z, r, rfl, rfl, ⟨es, n, hl, hk, low, hm⟩, q⟩ := h
  obtain rfl : u = Value.ref p := ry
  obtain ⟨t, rfl⟩ := (show ∃ t, v = Value.str z t from rx)
  have hm' := PySem.W.mapOf_K (prog := X.prog) (w := X.w) I.kIn hl hk
  refine wpAny_notIn_of (strKind_is X.prog X.w z t) low hm' ?_
  rw [PySem.W.find_K hl hm]
  exact ⟨.bl _, H, I.tok _, rfl, q⟩
theorem iteT' {c : Prop} [Decidable c] {A B : Prop} (h : c) (a : A) : if c then A else B := by rw [if_pos h]; exact a
theorem iteF' {c : Prop} [Decidable c] {A B : Prop} (h : ¬ c) (b : B) : if c then A else B := by rw [if_neg h]; exact b
/-- one of two readings -/
theorem op_either {X : Cx} {f : Value → Value → Sem Value} {r1 r2 : R2} (h1 : OpR X f r1) (h2 : OpR X f r2) : OpR X f (fun x y H Q => r1 x y H Q ∨ r2 x y H Q) := by
  intro pins s σ H x y v u Q I rx ry h
  rcases h with h | h
  · exact h1 pins s σ H x y v u Q I rx ry h
  · exact h2 pins s σ H x y v u Q I rx ry h
def rEqDr : R2 := fun x y H Q => ∃ (d e : PyData) (L L' : Bool) (M M' : Addr → Prop), Dr L M H x d ∧ Dr L' M' H y e ∧ SeqAt.shaped d = true ∧ SeqAt.shaped e = true ∧ Q (.bl (PyData.eqv d e)) H
theorem op_eqDr {X : Cx} (hu : X.A.units + 64 < cLine) : OpR X (compareOp .Eq) rEqDr := by
  intro pins s σ H x y v u Q I rx ry h
  obtain ⟨d, e, L, L', M, M', hd, he, sd, se, q⟩ := h
  obtain ⟨as, r1, _⟩ := Dr.reads I.hok hd rx
  obtain ⟨bs, r2, _⟩ := Dr.reads I.hok he ry
  exact SeqAt.compareEq_shaped r1 r2 sd se hu ⟨.bl _, H, I, rfl, q⟩
def rEqNil : R2 := fun x y H Q => ∃ a b, x = .ref a ∧ y = .ref b ∧ H a = some (.dK []) ∧ H b = some (.dK []) ∧ Q (.bl true) H
theorem op_eqNil {X : Cx} (hu : X.A.units < cLine) : OpR X (compareOp .Eq) rEqNil := by
  intro pins s σ H x y v u Q I rx ry h
  obtain ⟨a, b, rfl, rfl, ha, hb, q⟩ := h
  obtain rfl : v = Value.ref a := rx
  obtain rfl : u = Value.ref b := ry
  obtain ⟨_, na, va, ka, da⟩ := dk_of I.hok ha
  obtain ⟨_, nb, vb, kb, db⟩ := dk_of I.hok hb
  cases ka
  cases kb
  exact PySem.W.keq_eq (r := true) na nb da db hu (fun _ => .nil) ⟨.bl true, H, I, rfl, q⟩
/-- data of any kind but dicts, or two empty dicts -/
theorem op_eqAny {X : Cx} (hu : X.A.units + 64 < cLine) : OpR X (compareOp .Eq) (fun x y H Q => rEqDr x y H Q ∨ rEqNil x y H Q) := op_either (op_eqDr hu) (op_eqNil (Nat.lt_of_le_of_lt (Nat.le_add_right _ 64) hu))
/-- t + u of tuples that are tracked: a tuple of both stands then, new or one of the two -/
def rCatU : R2 := fun x y H Q => ∃ a b xs ys, x = .ref a ∧ y = .ref b ∧ H a = some (.tup xs) ∧ H b = some (.tup ys) ∧ xs.length + ys.length ≤ sizeLine ∧ ∀ t H', Same H H' → H' t = some (.tup (xs ++ ys)) → (H t = none ∨ t = a ∨ t = b) → Q (.ref t) H'
theorem op_catU {X : Cx} : OpR X (binaryOp .Add) rCatU := by
  intro pins s σ H x y v u Q I rx ry h
  obtain ⟨a, b, xs, ys, rfl, rfl, ha, hb, hz, k⟩ := h
  refine op_catA pins s σ H _ _ v u Q I rx ry ⟨a, b, xs, ys, rfl, rfl, SqT.of ha, SqT.of hb, hz, fun e => ?_, fun _ e => ?_, fun _ _ p hp => k p _ (same_new hp) upd_same (.inl hp)⟩
  · subst e; exact k b H (Same.refl _) hb (.inr (.inr rfl))
  · subst e; exact k a H (Same.refl _) (by rw [List.append_nil]; exact ha) (.inr (.inl rfl))
/-- t[lo:hi] of a tracked tuple -/
def rSlU : V → Option Int → Option Int → Hp → VK → Prop := fun x lo hi H Q => ∃ a xs, x = .ref a ∧ H a = some (.tup xs) ∧ ∀ t H', Same H H' → H' t = some (.tup (cutV xs lo hi)) → (H t = none ∨ t = a) → Q (.ref t) H'
theorem cutV_whole {xs : List V} {lo hi : Option Int} (h : HT.sIx xs.length 0 lo = 0 ∧ HT.sIx xs.length xs.length hi = xs.length) : cutV xs lo hi = xs := by
  unfold cutV
  rw [h.1, h.2]
  simp
theorem sl_tupU {X : Cx} : SlR X rSlU := by
  intro pins s σ H x v vl vu lo hi sl Q I rx hs pl pu h
  obtain ⟨a, xs, rfl, ha, k⟩ := h
  exact sl_tupA pins s σ H _ v vl vu lo hi sl Q I rx hs pl pu ⟨a, xs, rfl, SqT.of ha, fun z => k a H (Same.refl _) (by rw [cutV_whole z]; exact ha) (.inr rfl), fun _ p hp => k p _ (same_new hp) upd_same (.inl hp)⟩
/-- a promise that is never asked for -/
theorem FnG.void {P : Program} {w : World} {K : PySem.W.Frag} {mg : Str → Option Value} {base : Heap} {CX : CXT} {k : Nat} {f : Addr} {fd : FuncData} {ps : List Str} : FnG P w K mg base CX k f fd ps (fun _ _ _ _ => False) :=
  ⟨fun _ _ _ _ h => h.elim, fun _ _ _ _ _ _ _ _ _ _ _ _ _ _ h => h.elim⟩
/-- a def that calls itself: by the depth -/
theorem fnG_rec {P : Program} {w : World} {K : PySem.W.Frag} {mg : Str → Option Value} {base : Heap} {k : Nat} {x : Str} {f : Addr} {fd : FuncData} {ps : List Str} {sp : Nat → Sp}
    (hm : mg x = some (.ref f)) (kp : PySem.W.keepIn K (.ref f) = true) (hb : Binds K fd ps [])
    (step : ∀ n, CalG P w K mg base (k + n) x (fun vs H Q E => ∃ m, n = m + 1 ∧ sp m vs H Q E) → FnG P w K mg base (CXe P w) (k + n + 1) f fd ps (sp n)) : ∀ n, FnG P w K mg base (CXe P w) (k + n + 1) f fd ps (sp n) := by
  intro n
  induction n with
  | zero => 
    refine step 0 ⟨f, fd, ps, FnG.imp FnG.void ?_, hm, kp, hb⟩
    rintro vs H Q E ⟨m, e, _⟩
    exact absurd e (by omega)
  | succ n ih =>
    refine step (n + 1) ⟨f, fd, ps, FnG.imp ih ?_, hm, kp, hb⟩
    rintro vs H Q E ⟨m, e, h⟩
    obtain rfl : n = m := by omega
    exact h
theorem calG_rec {P : Program} {w : World} {K : PySem.W.Frag} {mg : Str → Option Value} {base : Heap} {k : Nat} {x : Str} {f : Addr} {fd : FuncData} {ps : List Str} {sp : Nat → Sp}
    (hm : mg x = some (.ref f)) (kp : PySem.W.keepIn K (.ref f) = true) (hb : Binds K fd ps [])
    (step : ∀ n, CalG P w K mg base (k + n) x (fun vs H Q E => ∃ m, n = m + 1 ∧ sp m vs H Q E) → FnG P w K mg base (CXe P w) (k + n + 1) f fd ps (sp n)) (n : Nat) : CalG P w K mg base (k + n + 1) x (sp n) :=
  ⟨f, fd, ps, fnG_rec hm kp hb step n, hm, kp, hb⟩
/-- called with any depth up to N -/
theorem calG_upto {P : Program} {w : World} {K : PySem.W.Frag} {mg : Str → Option Value} {base : Heap} {k : Nat} {x : Str} {f : Addr} {fd : FuncData} {ps : List Str} {sp : Nat → Sp}
    (hm : mg x = some (.ref f)) (kp : PySem.W.keepIn K (.ref f) = true) (hb : Binds K fd ps [])
    (step : ∀ n, CalG P w K mg base (k + n) x (fun vs H Q E => ∃ m, n = m + 1 ∧ sp m vs H Q E) → FnG P w K mg base (CXe P w) (k + n + 1) f fd ps (sp n)) (N : Nat) : CalG P w K mg base (k + N + 1) x (fun vs H Q E => ∃ n, n ≤ N ∧ sp n vs H Q E) := by
  refine ⟨f, fd, ps, ⟨?_, ?_⟩, hm, kp, hb⟩
  · rintro vs H Q E ⟨n, _, h⟩
    exact (fnG_rec hm kp hb step n).len vs H Q E h
  · rintro A o s H a us vs Q E hg hr he hb' hv ⟨n, hn, hs⟩
    exact (fnG_rec hm kp hb step n).run A o s H a us vs Q E hg (hr.mono (by omega)) he hb' hv hs
end L2
end
section
set_option Elab.async false
set_option linter.all false
set_option maxRecDepth 100000
set_option maxHeartbeats 2000000
/-! # d.get(k, x) of a written dict; stars in a list; sorted ints. -/
namespace L2
open PySem PySem.Spec PyProof.Rows
/-- a written dict stands at a -/
structure KIsD (K : PySem.W.Frag) (w : World) (a : Addr) : Prop where
  ex : ∃ es n, K.lookup a = some ⟨.type "dict", none, .dict es n, #[]⟩ ∧ PySem.W.KeysLit w.params es.toList ∧ (a == sysModules) = false
theorem KD.is {K : PySem.W.Frag} {w : World} {a : Addr} {x : Str} {r : Option Value} (h : KD K w a x r) : KIsD K w a := by
  obtain ⟨es, n, h1, h2, h3, _⟩ := h.ex
  exact ⟨es, n, h1, h2, h3⟩
def tKGet2 (K : PySem.W.Frag) (w : World) (td ty tx : TE) : TE := fun σ H Q => td σ H fun x H1 => ∃ a, x = .ref a ∧ KIsD K w a ∧ ty σ H1 fun y H2 => tx σ H2 fun z H3 => ∃ (k : Str) (r : Option Value) (v : V), y = .str k ∧ KD K w a k r ∧ (r = none → v = z) ∧ (∀ u, r = some u → RelV v u) ∧ Q v H3
section
variable {X : Cx} {o e f : Expr} {apos cpos : Pos} {td ty tx : TE}
theorem pe_kget2 (ho : PE X o td) (he : PE X e ty) (hf : PE X f tx) (m : M2 X o "get" apos e f cpos) : PE X (.Call (.Attribute o "get" apos) [e, f] [] cpos) (tKGet2 X.K X.w td ty tx) := by
  refine ⟨fun pins s σ H Q I h => ?_⟩
  refine wpAny_Call_method m.base m.few m.line PySem.F.plainAttrs_dict PySem.F.slot_dict_get PySem.F.type_dict_get (thn (ho.run pins s σ H _ I h) fun u s1 ⟨x, H1, I1, rx, a, ex, d, q1⟩ => ?_)
  subst ex
  obtain rfl : u = Value.ref a := rx
  obtain ⟨es, n, hl, hk, low⟩ := d.ex
  refine ⟨(PySem.W.mapOf_K (prog := X.prog) (w := X.w) I1.kIn hl hk).typeIs, fun b q => by cases q; exact ⟨_, I1.kIn _ _ hl, rfl⟩, ?_⟩
  rw [m.trees]
  refine Calls.callWith_builtin rfl (Calls.evalArgs_plain (Calls.spliced_cons (thn (he.run pins s1 σ H1 _ I1 q1) fun iv s2 ⟨y, H2, I2, ry, q2⟩ =>
    Calls.spliced_cons (thn (hf.run pins s2 σ H2 _ I2 q2) fun fv s3 ⟨z, H3, I3, rz, k, r, v, ey, kd, h1, h2, q3⟩ => Calls.spliced_nil ?_))))
  subst ey
  obtain ⟨t, rfl⟩ := (show ∃ t, iv = Value.str k t from ry)
  obtain ⟨es', n', hl', hk', low', hn⟩ := kd.ex
  have dm := PySem.W.mapOf_K (prog := X.prog) (w := X.w) I3.kIn hl' hk'
  refine call_meetsIn PySem.F.slot_dict_get dm.typeIs PySem.F.entry_dict_get (PySem.F.args_dict_get_3 _ _ _) (meets_dict_get_default (strKind X.prog X.w) a (strKind_is X.prog X.w k t) low' fv) ⟨_, dm, ?_⟩
  rw [PySem.W.find_K hl' hn]
  cases r with
  | none =>
    rw [h1 rfl] at q3
    exact ⟨z, H3, I3.tok _, rz, q3⟩
  | some u => exact ⟨v, H3, I3.tok _, h2 u rfl, q3⟩
end
end L2
end
section
set_option Elab.async false
set_option linter.all false
set_option maxRecDepth 100000
set_option maxHeartbeats 2000000
/-! # What is shown of data, bounded -/
namespace L2
open PySem PySem.Spec PyProof.Rows
/-- d can be shown, so deep and so long at most -/
structure Sh (d : PyData) (n l : Nat) : Prop where
  ok : d.showable = true
  deep : d.depth ≤ n
  len : d.shown.length ≤ l
theorem Sh.mono {d : PyData} {n l n' l' : Nat} (h : Sh d n l) (h1 : n ≤ n') (h2 : l ≤ l') : Sh d n' l' := ⟨h.ok, Nat.le_trans h.deep h1, Nat.le_trans h.len h2⟩
theorem sh_all {n : Nat} : ∀ {ds : List PyData}, (∀ d ∈ ds, d.showable = true ∧ d.depth ≤ n) → PyData.showableAll ds = true ∧ PyData.depthAll ds ≤ n
  | [], _ => ⟨rfl, Nat.zero_le _⟩
  | d :: r, h => by
    obtain ⟨a, b⟩ := sh_all (ds := r) fun x hx => h x (List.mem_cons_of_mem _ hx)
    obtain ⟨c, e⟩ := h d (List.mem_cons_self ..)
    constructor
    · simp only [PyData.showableAll, a, c, Bool.and_self]
    · simp only [PyData.depthAll]
      omega
theorem sum_shown {l : Nat} : ∀ {ds : List PyData}, (∀ d ∈ ds, d.shown.length ≤ l) → (ds.map fun d => d.shown.length + 2).sum ≤ ds.length * (l + 2)
  | [], _ => by simp
  | d :: r, h => by
    have a := sum_shown (ds := r) fun x hx => h x (List.mem_cons_of_mem _ hx)
    have b := h d (List.mem_cons_self ..)
    simp only [List.map_cons, List.sum_cons, List.length_cons, Nat.succ_mul]
    omega
theorem piled_shown (d : PyData) (r : List PyData) : piled (PyData.shownAll (d :: r)) = ((d :: r).map fun d => d.shown.length + 2).sum := by
  unfold piled
  rw [PyProof.Rows.shownAll_eq_map, List.map_map]
  rfl
theorem tuple_len (ds : List PyData) : (PyData.tuple ds).shown.length ≤ (ds.map fun d => d.shown.length + 2).sum + 3 := by
  rw [PyData.shown_tuple, strLen_append, strLen_append]
  have x : ("(" : Str).length = 1 := rfl
  have y : ((if (ds.length == 1) = true then ",)" else ")" : String) : Str).length ≤ 2 := by
    split <;> decide +kernel
  rw [x]
  cases ds with
  | nil =>
    have : (Str.join ", " (PyData.shownAll [])).length = 0 := rfl
    rw [this]
    simp only [List.map_nil, List.sum_nil]
    omega
  | cons d r =>
    have j := join_length_add (PyData.shownAll (d :: r)) (by simp [PyData.shownAll])
    rw [piled_shown] at j
    omega
theorem list_len (ds : List PyData) : (PyData.list ds).shown.length ≤ (ds.map fun d => d.shown.length + 2).sum + 3 := by
  rw [PyData.shown_list, strLen_append, strLen_append]
  have x : ("[" : Str).length = 1 := rfl
  have y : ("]" : Str).length = 1 := rfl
  rw [x, y]
  cases ds with
  | nil =>
    have : (Str.join ", " (PyData.shownAll [])).length = 0 := rfl
    rw [this]
    simp only [List.map_nil, List.sum_nil]
    omega
  | cons d r =>
    have j := join_length_add (PyData.shownAll (d :: r)) (by simp [PyData.shownAll])
    rw [piled_shown] at j
    omega
theorem Sh.tuple {ds : List PyData} {n l m : Nat} (h : ∀ d ∈ ds, Sh d n l) (hm : ds.length ≤ m) : Sh (.tuple ds) (n + 1) (m * (l + 2) + 3) := by
  obtain ⟨a, b⟩ := sh_all (n := n) (ds := ds) fun d hd => ⟨(h d hd).ok, (h d hd).deep⟩
  refine ⟨a, ?_, ?_⟩
  · simp only [PyData.depth]; omega
  · have c := tuple_len ds
    have d := sum_shown (l := l) (ds := ds) fun d hd => (h d hd).len
    have e : ds.length * (l + 2) ≤ m * (l + 2) := Nat.mul_le_mul_right _ hm
    omega
theorem Sh.list {ds : List PyData} {n l m : Nat} (h : ∀ d ∈ ds, Sh d n l) (hm : ds.length ≤ m) : Sh (.list ds) (n + 1) (m * (l + 2) + 3) := by
  obtain ⟨a, b⟩ := sh_all (n := n) (ds := ds) fun d hd => ⟨(h d hd).ok, (h d hd).deep⟩
  refine ⟨a, ?_, ?_⟩
  · simp only [PyData.depth]; omega
  · have c := list_len ds
    have d := sum_shown (l := l) (ds := ds) fun d hd => (h d hd).len
    have e : ds.length * (l + 2) ≤ m * (l + 2) := Nat.mul_le_mul_right _ hm
    omega
theorem small_int : ∀ n : Fin 1000, (PyData.int (n.val : Int)).shown.length ≤ 3 ∧ (PyData.int (n.val : Int)).showable = true := by decide +kernel
theorem Sh.int {i : Int} (h0 : 0 ≤ i) (h1 : i < 1000) : Sh (.int i) 0 3 := by
  obtain ⟨k, rfl⟩ := Int.eq_ofNat_of_zero_le h0
  obtain ⟨a, b⟩ := small_int ⟨k, by omega⟩
  exact ⟨b, Nat.le_refl _, a⟩
theorem Sh.ints {xs : List Int} {m : Nat} (h : ∀ x ∈ xs, 0 ≤ x ∧ x < 1000) (hm : xs.length ≤ m) : Sh (.tuple (xs.map .int)) 1 (m * 5 + 3) := by
  refine Sh.tuple (n := 0) (l := 3) (fun d hd => ?_) (by simpa using hm)
  obtain ⟨x, hx, rfl⟩ := List.mem_map.mp hd
  exact Sh.int (h x hx).1 (h x hx).2
theorem Sh.non : Sh .none 0 4 := ⟨rfl, Nat.le_refl _, by decide +kernel⟩
theorem Sh.fit {d : PyData} {n l : Nat} (h : Sh d n l) (h1 : n ≤ 60) (h2 : l ≤ 1000000) : d.showable = true ∧ d.depth ≤ 60 ∧ d.shown.length ≤ sizeLine :=
  ⟨h.ok, Nat.le_trans h.deep h1, Nat.le_trans h.len (Nat.le_trans h2 (by decide +kernel))⟩
end L2
end
section
set_option Elab.async false
set_option linter.all false
set_option maxRecDepth 100000
set_option maxHeartbeats 2000000
/-! # list(text) -/
namespace L2
open PySem PySem.Spec PyProof.Rows
def signsV (z : Str) : List V := z.cps.toList.map fun c => V.str ⟨#[c]⟩
theorem call_list_text {X : Cx} (hcalm : X.calm = true) : CallR X (.type "list") (fun xs H Q => ∃ z : Str, xs = [.str z] ∧ z.length ≤ 16000000 ∧ ∀ l, H l = none → Q (.ref l) (upd H l (.lst (signsV z)))) := by
  intro pins s σ H xs us Q I r h
  obtain ⟨z, rfl, hz, q⟩ := h
  obtain ⟨u, rfl, t, rfl⟩ := vals1 r
  have hz2 : z.cps.size ≤ 16000000 := hz
  have hle : z.cps.size ≤ sizeLine := Nat.le_trans hz2 (by decide +kernel)
  refine call_list_str (I.ok.hd hcalm) z t (fun h' tk acc' c' kp e it => ?_) hle
  obtain ⟨hsz, hit⟩ := it
  have hv : Vals ((List.range acc'.toList.length).map fun j => V.str ⟨#[z.cps.getD j 0]⟩) acc'.toList := vals_of_get _ _ fun j u hj => by
    rw [Array.getElem?_toList] at hj
    obtain ⟨c, tk2, hc, rfl⟩ := hit j u hj
    refine ⟨tk2, ?_⟩
    have hlt : j < z.cps.size := (Array.getElem?_eq_some_iff.mp hc).1
    rw [Array.getElem?_eq_getElem hlt] at hc
    simp [Array.getD, hlt, Option.some.inj hc]
  have he : ((List.range acc'.toList.length).map fun j => V.str ⟨#[z.cps.getD j 0]⟩) = signsV z := by
    unfold signsV
    apply List.ext_getElem?
    intro j
    rw [List.getElem?_map, List.getElem?_map, Array.length_toList, hsz]
    by_cases hj : j < z.cps.size
    · rw [List.getElem?_range hj, Array.getElem?_toList, Array.getElem?_eq_getElem hj]
      simp [Array.getD, hj]
    · rw [List.getElem?_eq_none (by simpa using hj), Array.getElem?_toList, Array.getElem?_eq_none (by simpa using hj)]
      rfl
  rw [he] at hv
  have hl : (signsV z).length ≤ sizeLine := by
    unfold signsV
    rw [List.length_map, Array.length_toList]
    exact Nat.le_trans hz2 (by decide +kernel)
  exact ⟨.ref s.heap.objs.size, _, I.laid (t' := tk) kp (Nat.le_refl _) (show ObjOk X.prog X.w _ h' _ (.lst (signsV z)) from ⟨hl, acc'.toList, c', hv, e⟩), rfl, q _ (I.hok.fresh (Nat.le_refl _))⟩
end L2
end
section
set_option Elab.async false
set_option linter.all false
set_option maxRecDepth 100000
set_option maxHeartbeats 2000000
/-! # a try with several clauses 'except X as e' -/
namespace L2
open PySem PySem.Spec PyProof.Rows
/-- the clauses of a try, and what they want of an exception of the body -/
inductive Clauses (X : Cx) (Wout : WX) : List ExceptHandler → (Ends → WX) → Prop
  | nil : Clauses X Wout [] fun _ => Wout
  | cons {x n : Str} {c : Value} {i : Nat} {suite : List Stmt} {b₀ : Stmt} {np pos : Pos} {ts : Addr → Value → Option Addr → TS} {hds : List ExceptHandler} {W : Ends → WX}
      (hi : X.N[i]? = some n) (hl : X.env.kindOf n = some .local) (hc : Names X x c)
      (hs : ∀ (a : Addr) (oe : Obj) (cls : Value) (d : Option Addr) (pn : List (Addr × Obj)), Zc cls d oe → (∃ vs, oe.data = .fields vs) → PSs (X.suite a ((a, oe) :: pn)) (b₀ :: suite) (ts a cls d))
      (r : Clauses X Wout hds W) : Clauses X Wout (.ExceptHandler (some (.Name x np)) (some n) (b₀ :: suite) pos :: hds) fun D => wAs X.K c i ts (W D) D
section
variable {X : Cx} {Wout : WX} {a : Addr} {B : Heap} {sI s' : Shared} {pins : List (Addr × Obj)} {cls : Value} {d : Option Addr}
/-- no frame is an exception's object -/
theorem notFrame {h : Heap} {o : Obj} {vs : Array Value} (ff : h.FunFrames B (X.env :: X.outer)) (e : h.get? a = some o) (dd : o.data = .fields vs) : a ∉ frs (X.env :: X.outer) := fun hm => by
  obtain ⟨_, o', e', nf⟩ := ff.mem hm
  rw [e] at e'
  cases e'
  exact nf _ dd
/-- the clauses, one behind another, where the exception has landed -/
theorem cls_land (hs : X.stack = X.env :: X.outer) (hf : X.env.frame = some X.env.locals) (hN : X.N.Nodup) (tk : Takes X Wout) {D : Ends} {σ : St} {H : Hp} (J : Inv X pins σ H sI)
    (nb : ∀ b o, sI.heap.get? b = some o → b ∉ frs X.stack → B.get? b = some o) (na : H a = none) (os : s'.os = sI.os) (ag : AllBare s'.gens) :
    ∀ {hds : List ExceptHandler} {W : Ends → WX}, Clauses X Wout hds W → ∀ {h : Heap}, HandSPX.FlyingZ B (X.env :: X.outer) a (Zc cls d) h → sI.heap.UpToSlots h → W D cls d σ H →
      wpAny (model X.prog X.w) X.A (handleBy (.ref a) X.env hds) (SP X pins D) X.xe { s' with heap := h } := by
  have ok := J.ok
  have hfr : X.A.frames = some (X.env :: X.outer) := by rw [ok.frames, hs]
  intro hds W q
  induction q with
  | nil =>
    intro h fl up wish
    refine wpAny_handleBy_nil ?_
    obtain ⟨k1, k2, k3, oe, vs, T, oT, ts', he, hz, hd, h1, hr⟩ := id fl
    have go : wpAny (model X.prog X.w) X.A (setFlight (.ref a) X.env.frame) (fun _ s4 => wpAny (model X.prog X.w) X.A (throw (.ref a) : Sem Flow) (SP X pins D) X.xe s4) X.xe { s' with heap := h } := by
      rw [hf]
      refine HandSPX.setFlight_upZ fl fun h4 hh4 up4 => wpAny_throw (tk _ _ ?_)
      exact ⟨a, B, sI, pins, σ, H, cls, d, rfl, J, nb, up.trans up4, .inr (.inr (by rw [hs]; exact hh4)), na, os, ag, wish⟩
    unfold PySem.passOn
    refine wpAny_bind (wpAny_field he hd h1 ?_)
    rw [if_neg (show ¬ ((Value.ref T == Value.none) = true) from by simp)]
    first
      | exact wpAny_bind (wpAny_pure (wpAny_bind go))
      | exact wpAny_bind go
  | @cons x n c i suite b₀ np pos ts hds W hi hl hc hsu r ih =>
    intro h fl up wish
    obtain ⟨b, hb, yes, no⟩ := wish
    have land : ∀ {h4 : Heap}, HandSPX.FlyingZ B (X.env :: X.outer) a (Zc cls d) h4 → sI.heap.UpToSlots h4 →
        ∃ oe vs, h4.get? a = some oe ∧ Zc cls d oe ∧ oe.data = .fields vs ∧ Inv X pins σ H { s' with heap := h4 } ∧ Inv (X.suite a ((a, oe) :: (X.pn ++ pins))) [] σ H { s' with heap := h4 } := by
      intro h4 f4 u4
      have J4 : Inv X pins σ H { s' with heap := h4 } := J.landed nb f4.1 u4 os ag
      obtain ⟨oe, vs, e, hz, hd⟩ := f4.there
      have nf := notFrame (X := X) f4.2.2.1 e hd
      refine ⟨oe, vs, e, hz, hd, J4, J4.suite e hd na (fun z => nf ?_) fun hm => ?_⟩
      · exact List.mem_filterMap.mpr ⟨X.env, List.mem_cons_self, by rw [hf, z]⟩
      · obtain ⟨v, hv, q⟩ := List.mem_filterMap.mp hm
        exact nf (List.mem_filterMap.mpr ⟨v, List.mem_cons_of_mem _ hv, q⟩)
    obtain ⟨oe, vs, he, hz, hd, J3, S3⟩ := land fl up
    refine wpAny_handleBy_cons (codeAny_handlers_test ?_) (by intro q; cases q)
    have look : PySem.W.Looks (model X.prog X.w) h (typeOf (.ref a)) cls := fun A Q E s k q => wpAny_typeOf_ref (k _ _ he) (by rw [hz.1]; exact q)
    have match_ := PySem.W.exm_one (M := model X.prog X.w) J3.kIn look hb
    have named : ∀ {Q : Value → Shared → Prop} {E : Value → Shared → Prop}, Q c { s' with heap := h } → wpAny (model X.prog X.w) (X.A.mark (some (.ref a))) (eval (.Name x np) X.env) Q E { s' with heap := h } := fun {Q E} q => by
      obtain ⟨hg, nd, hm | ⟨hm, hv, hne⟩⟩ := hc
      · exact ld_glob (X := X.suite a ((a, oe) :: (X.pn ++ pins))) S3 hg hm q nd
      · exact ld_blt (X := X.suite a ((a, oe) :: (X.pn ++ pins))) S3 hg hm hv q hne nd
    refine named (match_.here ?_)
    cases b with
    | false => exact ih fl up (no rfl)
    | true =>
      refine codeAny_handlers_suite_as ?_
      refine HandSPX.lands_againZ fl fun h4 fl4 up4 => ?_
      obtain ⟨oe4, vs4, he4, hz4, hd4, J4, S4⟩ := land fl4 (up.trans up4)
      refine store_ok (X := X.suite a ((a, oe4) :: (X.pn ++ pins))) (v := .ref a) S4 hN hi (.inl hl) rfl (fun s5 S5 => ?_) (.inr hl)
      refine wpAny_mono ((hsu a oe4 cls d (X.pn ++ pins) hz4 ⟨_, hd4⟩).run [] s5 _ H _ S5 (yes rfl a na)) (fun f s6 out => ?_) (fun _ _ z => False.elim z)
      have drop : ∀ {σ6 : St} {H6 : Hp} {Q : Shared → Prop}, Inv (X.suite a ((a, oe4) :: (X.pn ++ pins))) [] σ6 H6 s6 → (∀ s7, Inv X pins (σ6.set i none) H6 s7 → Q s7) →
          wpAny (model X.prog X.w) X.A (do bindName X.env n .none; unbindBehindTheSuite X.env n pos) (fun _ s7 => Q s7) X.xe s6 := fun {σ6 H6 Q} S6 k => gone_ok (S6.unsuite ok) hN hi hl k
      cases f with
      | ret u =>
        obtain ⟨v6, σ6, H6, S6, r6, q6⟩ := out
        exact drop S6 fun s7 J7 => ⟨_, _, _, J7, r6, q6⟩
      | next =>
        obtain ⟨σ6, H6, S6, q6⟩ := out
        exact drop S6 fun s7 J7 => ⟨_, _, J7, q6⟩
      | brk =>
        obtain ⟨σ6, H6, S6, q6⟩ := out
        exact drop S6 fun s7 J7 => ⟨_, _, J7, q6⟩
      | cont =>
        obtain ⟨σ6, H6, S6, q6⟩ := out
        exact drop S6 fun s7 J7 => ⟨_, _, J7, q6⟩
end
section
variable {X : Cx} {body : List Stmt} {h₀ : ExceptHandler} {hds : List ExceptHandler} {pos : Pos} {tb : WX → TS} {Wout : WX} {W : Ends → WX}
theorem ps_try_cls (hs : X.stack = X.env :: X.outer) (hf : X.env.frame = some X.env.locals) (hN : X.N.Nodup) (tk : Takes X Wout) (q : Clauses X Wout (h₀ :: hds) W)
    (hb : ∀ (W' : WX) (pn : List (Addr × Obj)) (xe : Value → Shared → Prop), Takes (X.tr pn xe) W' → PassesOwn (model X.prog X.w) X.A X.env xe → PSs (X.tr pn xe) body (tb W')) :
    PS X (.Try body (h₀ :: hds) [] [] pos) (fun D σ H => tb (W D) D σ H) := by
  refine ⟨fun pins s σ H D I h => ?_⟩
  have hfr : X.A.frames = some (X.env :: X.outer) := by rw [I.ok.frames, hs]
  refine wpAny_Try_except ?_
  refine wpAny_mono ((hb (W D) (X.pn ++ pins) (fun e s₁ => wpAny (model X.prog X.w) X.A (noteFrame e X.env) (fun _ s₂ => wpAny (model X.prog X.w) X.A (setFlight e none) (fun _ s₃ =>
    wpAny (model X.prog X.w) X.A (handleBy e X.env (h₀ :: hds)) (SP X pins D) X.xe s₃) X.xe s₂) X.xe s₁) (fun u s' xx => ?_) PassesOwn.looking).run [] s σ H D (I.toTry _) h) (fun f s1 out => ?_) (fun e s1 z => z)
  · obtain ⟨a, B, sI, pins', σ', H', cls, d, rfl, J, nb, up, sky, na, os, ag, wish⟩ := xx
    refine Sky.land Zc.steady hfr hf (by rw [← hs]; exact sky) fun h3 fl3 up3 => ?_
    exact cls_land hs hf hN tk (J.ofTry I.ok) nb na os ag q fl3 (up.trans up3) wish
  · cases f with
    | ret u =>
      obtain ⟨v, σ', H', J, r, z⟩ := out
      exact ⟨v, σ', H', J.ofTry I.ok, r, z⟩
    | next =>
      obtain ⟨σ', H', J, z⟩ := out
      exact wpAny_execs_nil ⟨σ', H', J.ofTry I.ok, z⟩
    | brk =>
      obtain ⟨σ', H', J, z⟩ := out
      exact ⟨σ', H', J.ofTry I.ok, z⟩
    | cont =>
      obtain ⟨σ', H', J, z⟩ := out
      exact ⟨σ', H', J.ofTry I.ok, z⟩
end
end L2
end
section
set_option Elab.async false
set_option linter.all false
set_option maxRecDepth 100000
set_option maxHeartbeats 2000000
/-! # {} != {} -/
namespace L2
open PySem PySem.Spec PyProof.Rows
section
variable {X : Cx}
def rNeE : R2 := fun x y H Q => ∃ a b, x = .ref a ∧ y = .ref b ∧ H a = some (.dK []) ∧ H b = some (.dK []) ∧ Q (.bl false) H
theorem op_neE (hu : X.A.units + 64 < cLine) : OpR X (compareOp .NotEq) rNeE := by
  intro pins s σ H x y v u Q I rx ry h
  obtain ⟨a, b, rfl, rfl, ha, hb, q⟩ := h
  cases (show v = Value.ref a from rx)
  cases (show u = Value.ref b from ry)
  obtain ⟨_, ya, va, ra, da⟩ := (show ObjOk X.prog X.w H s.heap a (.dK []) from I.hok a _ ha)
  obtain ⟨_, yb, vb, rb, db⟩ := (show ObjOk X.prog X.w H s.heap b (.dK []) from I.hok b _ hb)
  show wpAny (model X.prog X.w) X.A (richCompare .NotEq (.ref a) (.ref b)) (EP X pins σ Q) X.xe s
  have hn : va = [] := by cases ra; rfl
  have hm : vb = [] := by cases rb; rfl
  subst hn hm
  refine wpAny_richCompare_same_room (op := .NotEq) da.typeIs db.typeIs PySem.F.slot_dict_ne (wpAny_call_entry PySem.F.slot_dict_ne da.typeIs PySem.F.entry_dict_ne ?_ (PySem.F.args_dict_ne_2 _ _)) (by omega)
  show wpAny _ _ (Builtin.Dict.dictSlotArgs "__ne__" ⟨[.ref a, .ref b], []⟩ >>= _) _ _ s
  refine wpAny_bind ?_
  unfold Builtin.Dict.dictSlotArgs
  refine wpAny_bind (wpAny_notOrdered_dict da.typeIs ?_)
  show wpAny _ _ (pure (Value.ref a, Value.ref b)) _ _ s
  refine wpAny_pure ?_
  refine wpAny_bind (wpAny_isInstance (T := "dict") db.typeIs PySem.F.sub_dict_dict ?_)
  simp only [Bool.not_true, Bool.false_eq_true, if_false]
  refine wpAny_bind (wpAny_pure (wpAny_bind (wpAny_pure ?_)))
  refine wpAny_bind (PySem.W.samePairsP ya yb da db (r := true) (fun _ => .nil) ?_)
  refine wpAny_pure ⟨_, rfl, fun x => (nomatch x), ?_⟩
  exact ⟨.bl false, H, I, rfl, q⟩
end
end L2
end
section
set_option Elab.async false
set_option linter.all false
set_option maxRecDepth 100000
set_option maxHeartbeats 2000000
/-! # a tuple, read from behind: t[::-1] -/
namespace HT
open PySem PySem.Spec PyProof.Rows
section
variable {prog : Program} {w : World} {A : Around} {E : Value → Shared → Prop} {s : Shared}
theorem adjust_rev (n : Nat) : Builtin.Slice.sliceAdjust none none (-1) (n : Int) = ((n : Int) - 1, -1) := by
  unfold Builtin.Slice.sliceAdjust
  rfl
theorem places_rev (n : Nat) : Builtin.Slice.slicePlaces ((n : Int) - 1) (-1) (-1) = n := by
  unfold Builtin.Slice.slicePlaces
  have h1 : ¬ ((-1 : Int) > 0) := by omega
  simp only [h1, if_false]
  have e : (-(-1 : Int)) = 1 := by decide
  rw [e, Int.ediv_one]
  split <;> omega
theorem fm_congr {α β : Type} {f g : α → Option β} : ∀ {l : List α}, (∀ x ∈ l, f x = g x) → l.filterMap f = l.filterMap g
  | [], _ => rfl
  | x :: r, h => by rw [List.filterMap_cons, List.filterMap_cons, h x (List.mem_cons_self ..), fm_congr fun y hy => h y (List.mem_cons_of_mem _ hy)]
theorem pick_rev (xs : Array Value) : ((List.range xs.size).filterMap fun (k : Nat) => xs[(((xs.size : Int) - 1) + (k : Int) * (-1)).toNat]?).toArray = xs.toList.reverse.toArray := by
  have e : (List.range xs.size).filterMap (fun (k : Nat) => xs[(((xs.size : Int) - 1) + (k : Int) * (-1)).toNat]?) = ((List.range xs.size).map fun k => xs.size - 1 - k).filterMap (xs[·]?) := by
    rw [List.filterMap_map]
    refine fm_congr fun k hk => ?_
    have := List.mem_range.mp hk
    have e2 : (((xs.size : Int) - 1) + (k : Int) * (-1)).toNat = xs.size - 1 - k := by omega
    show xs[_]? = xs[_]?
    rw [e2]
  rw [e, PySem.W.krv_range, List.filterMap_reverse, PySem.W.krv_all]
theorem sliceApplied_rev {sl : Addr} {vl vu vs : Value} {n : Nat} {Q : Int × Int × Nat → Shared → Prop} (hs : s.heap.IsSliceOf sl vl vu vs) (pl : IsPart vl none) (pu : IsPart vu none) (ps : IsPart vs (some (-1)))
    (h : Q ((n : Int) - 1, -1, n) s) : wpAny (model prog w) A (Builtin.Slice.sliceApplied (.ref sl) (pure (n : Int))) Q E s := by
  obtain ⟨os, hos, hcs, hds⟩ := id hs
  unfold Builtin.Slice.sliceApplied Builtin.Slice.sliceFields
  refine wpAny_bind (wpAny_bind (wpAny_field hos hds (x := vl) rfl (wpAny_bind (wpAny_field hos hds (x := vu) rfl (wpAny_bind (wpAny_field hos hds (x := vs) rfl (wpAny_pure ?_)))))))
  refine wpAny_bind (slicePart_ ps ?_)
  show wpAny _ _ (if ((-1 : Int) == 0) = true then _ else _) _ _ s
  rw [if_neg (by decide)]
  refine wpAny_bind (slicePart_ pl (wpAny_bind (slicePart_ pu (wpAny_bind (wpAny_pure ?_)))))
  show wpAny _ _ (match Builtin.Slice.sliceAdjust none none (-1) (n : Int) with | (lo, hi) => pure (lo, (-1 : Int), Builtin.Slice.slicePlaces lo hi (-1))) _ _ s
  rw [adjust_rev n]
  show wpAny _ _ (pure ((n : Int) - 1, (-1 : Int), Builtin.Slice.slicePlaces ((n : Int) - 1) (-1) (-1))) _ _ s
  rw [places_rev]
  exact wpAny_pure h
theorem getItem_tuple_rev {t sl : Addr} {items : Array Value} {vl vu vs : Value} {Q : Value → Shared → Prop} (ht : IsTup s.heap t items) (hs : s.heap.IsSliceOf sl vl vu vs) (pl : IsPart vl none) (pu : IsPart vu none) (ps : IsPart vs (some (-1)))
    (h : Q (.ref s.heap.objs.size) { s with heap := s.heap.push { cls := .type "tuple", data := .seq items.toList.reverse.toArray } })
    (hsz : items.size ≤ sizeLine) : wpAny (model prog w) A (getItem (.ref t) (.ref sl)) Q E s := by
  have htake : sizeOk (.seq items.toList.reverse.toArray) := by
    show items.toList.reverse.toArray.size ≤ sizeLine
    rw [List.size_toArray, List.length_reverse, Array.length_toList]
    omega
  obtain ⟨os, hos, hcs, hds⟩ := id hs
  have hTs : s.TypeIs (.ref sl) "slice" := ⟨os, hos, hcs⟩
  unfold getItem
  try with_reducible refine wpAny_holding ?_
  first | refine wpAny_bind (wpAny_pure ?_) | skip
  refine wpAny_bind (wpAny_sequenceKey ht.typeIs (by decide) ?_)
  refine wpAny_bind (wpAny_callSpecial?_slot (name := Str.ofString "__getitem__") ht.typeIs PyProof.Rows.slot_tuple_getitem
    (wpAny_call_entry PyProof.Rows.slot_tuple_getitem ht.typeIs entry_tuple_getitem ?_ (args_tuple_getitem _ _)))
  show wpAny _ _ (Builtin.Tuple.tupleItemsOf (.ref t) >>= _) _ _ s
  refine wpAny_bind (tupleItemsOf_ ht ?_)
  refine wpAny_bind (wpAny_typeOf hTs ?_)
  rw [if_pos (by decide)]
  refine wpAny_bind (sliceApplied_rev hs pl pu ps ?_)
  have hno : ¬ (((items.size : Int) - 1 == 0 && (-1 : Int) == 1 && items.size == items.size) = true) := by
    intro q
    rw [Bool.and_eq_true, Bool.and_eq_true] at q
    exact absurd q.1.2 (by decide)
  show wpAny _ _ (if ((items.size : Int) - 1 == 0 && (-1 : Int) == 1 && items.size == items.size) = true then _ else _) _ _ s
  rw [if_neg hno, pick_rev]
  first
    | exact wpAny_bind (m := Builtin.Tuple.tupleExact _) (wpAny_newObj_type (wpAny_pure ⟨_, rfl, wpAny_pure h⟩) htake)
    | exact wpAny_bind (m := Builtin.Tuple.tupleExact _) (wpAny_newObj_type (wpAny_bind (wpAny_pure (wpAny_pure ⟨_, rfl, wpAny_pure h⟩))) htake)
    | exact wpAny_bind (wpAny_bind (m := Builtin.Tuple.tupleExact _) (wpAny_newObj_type (wpAny_pure (wpAny_pure ⟨_, rfl, wpAny_pure h⟩)) htake))
    | exact wpAny_bind (wpAny_bind (m := Builtin.Tuple.tupleExact _) (wpAny_newObj_type (wpAny_pure ⟨_, rfl, wpAny_pure h⟩) htake))
end
end HT
namespace L2
open PySem PySem.Spec PyProof.Rows
section
variable {X : Cx}
/-- t[::-1] -/
def tRevT (te : TE) : TE := fun σ H Q => te σ H fun x H1 => ∃ a xs, x = .ref a ∧ H1 a = some (.tup xs) ∧ ∀ p, H1 p = none → Q (.ref p) (upd H1 p (.tup xs.reverse))
theorem pe_revT {e : Expr} {te : TE} {k : Nat} {p1 p2 p3 pos : Pos} (he : PE X e te) : PE X (.Subscript e (.Slice none none (some (.UnaryOp .USub (.Constant (.int 1) k p1) p2)) p3) pos) (tRevT te) := by
  refine ⟨fun pins s σ H Q I h => ?_⟩
  refine Subscript_ (thn (he.run pins s σ H _ I h) fun v s1 ⟨x, H1, I1, r1, q1⟩ => ?_)
  obtain ⟨a, xs, ex, hx, q⟩ := q1
  subst ex
  cases r1
  have hst : PO X (some (.UnaryOp .USub (.Constant (.int 1) k p1) p2)) (tPart (tUn (rU fun i => .int (-i)) (tC (.int 1)))) := po_some (pe_un un_neg pe_int)
  refine wpAny_Slice (thn (po_none.run pins s1 σ H1 (fun o H2 => o = none ∧ H2 = H1) I1 ⟨rfl, rfl⟩) fun vl s2 ⟨l, H2, I2, pl, el, e2⟩ => ?_)
  subst el e2
  refine thn (po_none.run pins s2 σ H2 (fun o H3 => o = none ∧ H3 = H2) I2 ⟨rfl, rfl⟩) fun vu s3 ⟨u, H3, I3, pu, eu, e3⟩ => ?_
  subst eu e3
  refine thn (hst.run pins s3 σ H3 (fun o H4 => o = some (-1) ∧ H4 = H3) I3 ⟨1, rfl, -1, rfl, rfl, rfl⟩) fun vs s4 ⟨o, H4, I4, ps, eo, e4⟩ => ?_
  subst eo e4
  have I5 : Inv X pins σ H4 { s4 with heap := s4.heap.push { cls := .type "slice", data := .fields #[vl, vu, vs] } } := I4.kept (t' := s4.toks) fun b ob q => Heap.get?_push_of_some _ q
  obtain ⟨its, r, ht, hz⟩ := I5.tuple (SqT.of hx)
  have hlen := r.length
  show wpAny (model X.prog X.w) X.A (subscriptTail e (.Slice none none (some (.UnaryOp .USub (.Constant (.int 1) k p1) p2)) p3) (.ref a) (.ref s4.heap.objs.size)) (EP X pins σ Q) X.xe { s4 with heap := s4.heap.push { cls := .type "slice", data := .fields #[vl, vu, vs] } }
  refine tail_any (ops := [.ref a, .ref s4.heap.objs.size]) ht.typeIs (PyProof.Rows.slot_tuple_getitem.lookup) ?_ (by with_unfolding_all rfl)
  refine HT.getItem_tuple_rev ht (Heap.IsSliceOf.new _ vl vu vs) pl pu ps ?_ (by rw [List.size_toArray]; omega)
  refine ⟨.ref _, _, I5.laid (t' := s4.toks) (o := .tup xs.reverse) (fun b ob q => Heap.get?_push_of_some _ q) (Nat.le_refl _) ?_, rfl, q _ (I5.hok.fresh (Nat.le_refl _))⟩
  exact ⟨by rw [List.length_reverse]; omega, _, r.reverse, IsTup.new _ _⟩
end
end L2
end
section
set_option Elab.async false
set_option linter.all false
set_option maxRecDepth 100000
set_option maxHeartbeats 2000000
/-! # Dicts whose keys are tuples of any depth (ints, texts, such tuples); their values are flags. -/
namespace L2
open PySem PySem.Spec PyProof.Rows
mutual
/-- the value v is this key -/
inductive NkIs (H : Hp) : NestedKey → V → Prop
  | int (i : Int) : NkIs H (.num i) (.int i)
  | str (x : Str) : NkIs H (.text x) (.str x)
  | tup {a : Addr} {ks : List NestedKey} {vs : List V} (e : H a = some (.tup vs)) (t : NkAll H ks vs) : NkIs H (.tup ks) (.ref a)
inductive NkAll (H : Hp) : List NestedKey → List V → Prop
  | nil : NkAll H [] []
  | cons {k : NestedKey} {v : V} {ks : List NestedKey} {vs : List V} (h : NkIs H k v) (t : NkAll H ks vs) : NkAll H (k :: ks) (v :: vs)
end
mutual
/-- it is so as long as the tuples stand -/
theorem NkIs.tups {H H' : Hp} (s : ∀ a xs, H a = some (.tup xs) → H' a = some (.tup xs)) : ∀ {k : NestedKey} {v : V}, NkIs H k v → NkIs H' k v
  | _, _, .int i => .int i
  | _, _, .str x => .str x
  | _, _, .tup e t => .tup (s _ _ e) (NkAll.tups s t)
theorem NkAll.tups {H H' : Hp} (s : ∀ a xs, H a = some (.tup xs) → H' a = some (.tup xs)) : ∀ {ks : List NestedKey} {vs : List V}, NkAll H ks vs → NkAll H' ks vs
  | _, _, .nil => .nil
  | _, _, .cons h t => .cons (NkIs.tups s h) (NkAll.tups s t)
end
mutual
theorem nk_is {P : Program} {w : World} {H : Hp} {h : Heap} (ok : HOk P w H h) : ∀ {k : NestedKey} {v : V} {u : Value}, NkIs H k v → RelV v u → NestedIs h k u
  | _, _, _, .int i, r => by
    obtain ⟨t, rfl⟩ := r
    exact .int i t
  | _, _, _, .str x, r => by
    obtain ⟨t, rfl⟩ := r
    exact .text x t
  | _, _, u, .tup e t, r => by
    cases (show u = Value.ref _ from r)
    obtain ⟨_, its, rv, ⟨o, ho, hc, n, hd⟩⟩ := ok _ _ e
    exact .tup ho hc hd (nk_all ok t rv)
theorem nk_all {P : Program} {w : World} {H : Hp} {h : Heap} (ok : HOk P w H h) : ∀ {ks : List NestedKey} {vs : List V} {us : List Value}, NkAll H ks vs → Vals vs us → NestedAll h ks us
  | _, _, _, .nil, r => by cases r; exact .nil
  | _, _, _, .cons a t, r => by
    cases r with
    | cons ra rt => exact .cons (nk_is ok a ra) (nk_all ok t rt)
end
/-- a dict with these keys, where they stand, and these values -/
def NkAt (P : Program) (w : World) (h : Heap) (d : Addr) (xs : List (NestedKey × Addr × Value)) : Prop :=
  xs.length ≤ sizeLine ∧ (d == sysModules) = false ∧ ∃ o es ep, h.get? d = some o ∧ o.ExactDict ∧ o.data = .dict es ep ∧ es.toList = xs.map (entryOfKey (nestedKind P w)) ∧ (xs.map (·.1)).Nodup
def nkO (P : Program) (w : World) (d : Addr) (xs : List (NestedKey × Addr × Value)) : HO := .ext fun h => NkAt P w h d xs
/-- its keys stand -/
def NkKeys (H : Hp) (xs : List (NestedKey × Addr × Value)) : Prop := ∀ y ∈ xs, NkIs H y.1 (.ref y.2.1) ∧ y.1.depth ≤ 8
theorem nk_ok {P : Program} {w : World} {H : Hp} {h : Heap} {d : Addr} {xs : List (NestedKey × Addr × Value)} (a : NkAt P w h d xs) : ObjOk P w H h d (nkO P w d xs) := by
  refine ⟨a, ?_, fun h1 h2 q k => ?_⟩
  · obtain ⟨_, _, o, _, _, ho, _⟩ := a
    exact ⟨o, ho⟩
  · obtain ⟨z, hd, o, es, ep, ho, r⟩ := q
    exact ⟨z, hd, o, es, ep, k _ ho, r⟩
theorem nk_at {P : Program} {w : World} {H : Hp} {h : Heap} {d : Addr} {xs : List (NestedKey × Addr × Value)} (ok : HOk P w H h) (e : H d = some (nkO P w d xs)) (hk : NkKeys H xs) : xs.length ≤ sizeLine ∧ (d == sysModules) = false ∧ h.DictOfH (nestedKind P w) d xs := by
  obtain ⟨⟨z, hd, o, es, ep, ho, h1, h2, h3, h4⟩, _⟩ := ok _ _ e
  exact ⟨z, hd, o, es, ep, ho, h1, h2, h3, fun y hy => ⟨nk_is ok (hk y hy).1 rfl, (hk y hy).2⟩, h4⟩
theorem nkAt_of {P : Program} {w : World} {h : Heap} {d : Addr} {xs : List (NestedKey × Addr × Value)} (z : xs.length ≤ sizeLine) (hd : (d == sysModules) = false) (m : h.DictOfH (nestedKind P w) d xs) : NkAt P w h d xs := by
  obtain ⟨o, es, ep, ho, h1, h2, h3, _, h4⟩ := m
  exact ⟨z, hd, o, es, ep, ho, h1, h2, h3, h4⟩
def rNotInNk (P : Program) (w : World) : R2 := fun x y H Q => ∃ d xs b k, x = .ref b ∧ y = .ref d ∧ H d = some (nkO P w d xs) ∧ NkKeys H xs ∧ NkIs H k (.ref b) ∧ k.depth ≤ 8 ∧ Q (.bl (!(atKey xs k).isSome)) H
def rSetNk (P : Program) (w : World) : TSet := fun o i v H Q => ∃ d xs b k c, o = .ref d ∧ i = .ref b ∧ v = .bl c ∧ H d = some (nkO P w d xs) ∧ NkKeys H xs ∧ NkIs H k (.ref b) ∧ k.depth ≤ 8 ∧ xs.length < sizeLine ∧ Q (upd H d (nkO P w d (storedH xs k b (.bool c))))
theorem storedH_len {xs : List (NestedKey × Addr × Value)} {k : NestedKey} {a : Addr} {v : Value} : (storedH xs k a v).length ≤ xs.length + 1 := by
  unfold storedH
  split
  · rw [List.length_map]; omega
  · rw [List.length_append]; simp
section
variable {X : Cx}
/-- key not in dict -/
theorem op_notInNk (hu : X.A.units + 9 < cLine) : OpR X (compareOp .NotIn) (rNotInNk X.prog X.w) := by
  intro pins s σ H x y v u Q I rx ry h
  obtain ⟨d, xs, b, k, rfl, rfl, e, hk, kb, kd, q⟩ := h
  cases (show v = Value.ref b from rx)
  cases (show u = Value.ref d from ry)
  obtain ⟨z, hd, m⟩ := nk_at I.hok e hk
  exact wpAny_notIn_heap (knd := nestedKind X.prog X.w) (show X.A.units + 1 + 8 < cLine by omega) ⟨nk_is I.hok kb rfl, kd⟩ hd m ⟨.bl _, H, I.tok _, rfl, q⟩
/-- dict[key] = flag -/
theorem set_nk (hu : X.A.units + 9 < cLine) : PSet X (rSetNk X.prog X.w) := by
  intro pins s σ H o i v ov iv u Q I ro ri rv h
  obtain ⟨d, xs, b, k, c, rfl, rfl, rfl, e, hk, kb, kd, hl, q⟩ := h
  cases (show ov = Value.ref d from ro)
  cases (show iv = Value.ref b from ri)
  cases (show u = Value.bool c from rv)
  obtain ⟨z, hd, m⟩ := nk_at I.hok e hk
  refine wpAny_setItem_heap (hsz := z) (knd := nestedKind X.prog X.w) (show X.A.units + 1 + 8 < cLine by omega) ⟨nk_is I.hok kb rfl, kd⟩ m fun h' m' hs => ⟨_, ?_, q⟩
  have sl := storedH_len (xs := xs) (k := k) (a := b) (v := .bool c)
  have he : ∃ q, h'.get? d = some q := let ⟨q, _, _, hq, _⟩ := m'; ⟨q, hq⟩
  exact d_write I (by rw [e]; exact True.intro) hs he (nk_ok (nkAt_of (by omega) hd m'))
/-- {key: flag} -/
def tNk1 (P : Program) (w : World) (tk tv : TE) : TE := fun σ H Q => ∀ d, H d = none → tk σ (upd H d (nkO P w d [])) fun x H1 => tv σ H1 fun y H2 => ∃ b k c, x = .ref b ∧ y = .bl c ∧ H2 d = some (nkO P w d []) ∧ NkIs H2 k (.ref b) ∧ k.depth ≤ 8 ∧ Q (.ref d) (upd H2 d (nkO P w d [(k, b, .bool c)]))
theorem pe_nk1 {k v : Expr} {tk tv : TE} {pos : Pos} (hu : X.A.units + 9 < cLine) (hk : PE X k tk) (hv : PE X v tv) : PE X (.Dict [some k] [v] pos) (tNk1 X.prog X.w tk tv) := by
  refine ⟨fun pins s σ H Q I q => ?_⟩
  have hn := I.hok.fresh (Nat.le_refl s.heap.objs.size)
  have hb : (s.heap.objs.size == sysModules) = false := beq_eq_false_iff_ne.mpr (Ne.symm (Nat.ne_of_lt I.big))
  have a0 : NkAt X.prog X.w (s.heap.push { cls := .type "dict", data := .dict #[] }) s.heap.objs.size [] :=
    ⟨Nat.zero_le _, hb, _, #[], 0, Heap.get?_push_size _ rfl, ⟨rfl, rfl, rfl⟩, rfl, rfl, List.nodup_nil⟩
  have I1 := I.laid (a := s.heap.objs.size) (o := nkO X.prog X.w s.heap.objs.size []) (h' := s.heap.push { cls := .type "dict", data := .dict #[] }) (t' := s.toks) (fun _ _ q => Heap.get?_push_of_some _ q) (Nat.le_refl _) (nk_ok a0)
  refine wpAny_Dict_any (by rfl) (by rfl) (fun z => by cases z) (by simp) ?_
  refine pairTrees_cons_walk (thn (hk.run pins _ σ _ _ I1 (q _ hn)) fun u s1 ⟨x, H1, I2, rx, q1⟩ => thn (hv.run pins s1 σ H1 _ I2 q1) fun w2 s2 ⟨y, H2, I3, ry, b, ky, c, ex, ey, e, kb, kd, q2⟩ => pairTrees_nil_walk ?_)
  subst ex ey
  cases (show u = Value.ref b from rx)
  cases (show w2 = Value.bool c from ry)
  obtain ⟨z, hd, m⟩ := nk_at I3.hok e (fun y hy => by cases hy)
  unfold storeAll
  rw [List.forIn_cons]
  refine wpAny_bind (wpAny_bind (wpAny_dictSet_heap (hsz := z) (knd := nestedKind X.prog X.w) (show X.A.units + 8 < cLine by omega) ⟨nk_is I3.hok kb rfl, kd⟩ m fun h' m' hs => wpAny_pure ?_))
  show wpAny _ _ (forIn [] PUnit.unit _) _ _ _
  rw [List.forIn_nil]
  refine wpAny_pure ⟨.ref s.heap.objs.size, _, ?_, rfl, q2⟩
  have he : ∃ q, h'.get? s.heap.objs.size = some q := let ⟨q, _, _, hq, _⟩ := m'; ⟨q, hq⟩
  have e1 : storedH ([] : List (NestedKey × Addr × Value)) ky b (.bool c) = [(ky, b, .bool c)] := rfl
  rw [e1] at m'
  exact d_write I3 (by rw [e]; exact True.intro) hs he (nk_ok (nkAt_of (by rw [sizeLine_eq]; exact Nat.le_of_ble_eq_true rfl) hd m'))
end
end L2
end
section
set_option Elab.async false
set_option linter.all false
set_option maxRecDepth 100000
set_option maxHeartbeats 2000000
namespace K11
open PySem L2
local macro_rules | `(tactic| walk_at "hp") => `(tactic| first | assumption | exact upd_same | (refine (upd_ne (by first | assumption | (apply Ne.symm; assumption))).trans ?_; walk_at "hp"))
local macro_rules | `(tactic| walk_at "rd1") => `(tactic| first
  | (refine ⟨_, rfl, ?_⟩)
  | (refine ⟨_, _, rfl, rfl, ?_⟩)
  | (refine ⟨(rfl : scal _ _ = true), ?_⟩)
  | (refine And.intro (by show (0 : Int) < _; decide) ?_)
  | (refine And.intro (And.intro (by decide) (by decide)) ?_)
  | (refine And.intro (Or.inr (And.intro (by decide) (by decide))) ?_)
  | (refine And.intro (And.intro (by decide) (And.intro (by decide) (by decide))) ?_)
  | (refine And.intro (by assumption) ?_)
  | (refine And.intro (And.intro (by omega) (by omega)) ?_)
  | (refine And.intro (Or.inl (And.intro (by omega) (by omega))) ?_)
  | (refine' ⟨_, _, _, _, rfl, rfl, Or.inl (Or.inl ?h1), ?h2, ?h3⟩; (case h1 => walk_at "hp"); (case h2 => rfl))
  | (refine' ⟨_, _, _, _, rfl, rfl, ?h1, ?h2, ?h3⟩; (case h1 => walk_at "hp"); (case h2 => rfl))
  | (refine' ⟨_, _, rfl, Or.inl (Or.inl (Or.inl ?h1)), ?h3⟩; (case h1 => walk_at "hp"))
  | (refine Or.inl ⟨_, rfl, ?_⟩))
local macro_rules | `(tactic| walk_at "rd") => `(tactic| repeat walk_at "rd1")
def top (i : Nat) : Stmt := PySem.Challenge.pw_roomsthrough_k11_whole_states_met_by_ste.main.body.getD i (.Pass ⟨0, 0, 0, 0⟩)
abbrev s__wall : Stmt := top 0
abbrev s_BadRules_init : Stmt := inClass (top 3) 0
abbrev s_BadBag_init : Stmt := inClass (top 4) 0
abbrev s_BadRoom_init : Stmt := inClass (top 5) 0
abbrev s_BadCell_init : Stmt := inClass (top 6) 0
abbrev s_is_whole : Stmt := top 8
abbrev s_is_row : Stmt := top 9
abbrev s_is_ascending : Stmt := top 10
abbrev s_is_bag : Stmt := top 12
abbrev s_need_bag : Stmt := top 13
abbrev s_first_state : Stmt := top 19
abbrev s_can_lie : Stmt := top 20
abbrev s_moved : Stmt := top 21
abbrev s_moves : Stmt := top 22
abbrev s__with_one : Stmt := top 23
abbrev s__entered : Stmt := top 24
abbrev s__is_gate_open : Stmt := top 25
abbrev s__changed_bag : Stmt := top 26
abbrev s__pushed : Stmt := top 27
abbrev s__pulled : Stmt := top 28
abbrev s_Room_init : Stmt := inClass (top 36) 0
abbrev s_Room_eq : Stmt := inClass (top 36) 1
abbrev s_Room_cell : Stmt := inClass (top 36) 2
abbrev s_Room_mouth : Stmt := inClass (top 36) 3
abbrev s_Room_mirrored : Stmt := inClass (top 36) 4
abbrev s_need_room : Stmt := top 37
abbrev s__need_lines : Stmt := top 38
abbrev s__is_line : Stmt := top 39
abbrev s__many : Stmt := top 40
abbrev s__is_whole_room : Stmt := top 41
abbrev s__places : Stmt := top 42
abbrev s__neighbours : Stmt := top 43
abbrev s_Rules_init : Stmt := inClass (top 45) 0
abbrev s_Rules_eq : Stmt := inClass (top 45) 1
abbrev s_Rules_bags : Stmt := inClass (top 45) 2
abbrev s_need_rules : Stmt := top 46
abbrev s_begin : Stmt := top 48
abbrev s_steps : Stmt := top 49
abbrev s_is_state : Stmt := top 50
abbrev s__can_be_gone : Stmt := top 51
abbrev s__can_be_crates : Stmt := top 52
abbrev s__can_be_at : Stmt := top 53
abbrev s__law_pool : Stmt := top 55
abbrev s__law_draw : Stmt := top 56
abbrev s__law_odd : Stmt := top 57
abbrev s__law_shuffled : Stmt := top 58
abbrev s__law_rows : Stmt := top 59
abbrev s__law_next : Stmt := top 60
abbrev s__law_lies : Stmt := top 61
abbrev s__law_with : Stmt := top 62
abbrev s__law_without : Stmt := top 63
abbrev s__law_pushed : Stmt := top 64
abbrev s__law_bag_behind : Stmt := top 65
abbrev s__law_walked : Stmt := top 66
abbrev s__law_step : Stmt := top 67
abbrev s__law_moves : Stmt := top 68
abbrev s__law_rules : Stmt := top 69
abbrev s__law_bag : Stmt := top 70
abbrev s__law_begun : Stmt := top 71
abbrev s__law_visited : Stmt := top 72
abbrev s__law_met : Stmt := top 73
abbrev s__law_told : Stmt := top 74
abbrev s_law : Stmt := top 75
theorem sc_is_whole : FnScope ["thing"] ["thing"] (defScope s_is_whole) := ⟨rfl, rfl, rfl, by decide +kernel, rfl, by decide +kernel, by decide +kernel⟩
theorem sc__law_pool : FnScope ["script"] ["script"] (defScope s__law_pool) := ⟨rfl, rfl, rfl, by decide +kernel, rfl, by decide +kernel, by decide +kernel⟩
theorem sc__law_draw : FnScope ["pool", "many", "cell", "digit", "number"] ["pool", "many"] (defScope s__law_draw) := ⟨rfl, rfl, rfl, by decide +kernel, rfl, by decide +kernel, by decide +kernel⟩
/-- built-ins that stand -/
structure Blt (mg : Str → Option Value) : Prop where
  n_isinstance : mg "isinstance" = none
  n_int : mg "int" = none
  n_bool : mg "bool" = none
  n_list : mg "list" = none
  n_len : mg "len" = none
  n_range : mg "range" = none
  n_repr : mg "repr" = none
section
variable {P : Program} {w : World} {K : PySem.W.Frag} {mg : Str → Option Value} {base : Heap}
def spWhole (K : PySem.W.Frag) : Sp := fun vs H Q _ => ∃ v t b1 b2, vs = [v] ∧ TyX K H v t ∧ PySem.W.kitOne K t (.type "int") = some b1 ∧ PySem.W.kitOne K t (.type "bool") = some b2 ∧ Q (.bl (b1 && !b2)) H
theorem ok_whole {f : Addr} {fd : FuncData} (F : Fun K "is_whole" "is_whole" s_is_whole f fd) (T : Blt mg) : FnG P w K mg base (CXe P w) 1 f fd ["thing"] (spWhole K) := by
  refine F.okG sc_is_whole (fun vs H Q E h => ?_) (fun cdv A outer s H vs Q E hgd hr h => ?_)
  · obtain ⟨v, t, b1, b2, rfl, _⟩ := h; rfl
  · obtain ⟨v, t, b1, b2, rfl, ty, e1, e2, k⟩ := h
    refine ⟨_, (pss_one (ps_ret (pe_and (pe_callB call_isi (by rfl) T.n_isinstance (by decide +kernel) (pa_cons (pv 0) (pa_cons (pe_bltn (v := .ty "int") (u := .type "int") rfl T.n_int (by decide +kernel) rfl) pa_nil))) (pe_one (pe_not (pe_callB call_isi (by rfl) T.n_isinstance (by decide +kernel) (pa_cons (pv 0) (pa_cons (pe_bltn (v := .ty "bool") (u := .type "bool") rfl T.n_bool (by decide +kernel) rfl) pa_nil)))))))), ?_⟩
    refine ⟨_, rfl, _, _, _, _, _, rfl, .ty _, ty, e1, _, rfl, ?_⟩
    cases b1 with
    | false => exact iteF k
    | true =>
      refine iteT ⟨_, rfl, _, _, _, _, _, rfl, .ty _, ty, e2, _, rfl, ?_⟩
      exact k
/-- a pool: the script's cells at l, and four numbers -/
def poolO (l : Addr) (i c n z : Int) : HO := .lst [.ref l, .int i, .int c, .int n, .int z]
structure PoolAt (K : PySem.W.Frag) (H : Hp) (l p : Addr) : Prop where
  ex : ∃ (xs : List Int) (i c n z : Int), H p = some (poolO l i c n z) ∧ l ≠ p ∧ H l = some (.lst (xs.map V.int)) ∧ 0 ≤ i ∧ 0 ≤ c
def spPool (K : PySem.W.Frag) : Sp := fun vs H Q _ => ∃ (a : Addr) (ns : List Int), vs = [.ref a] ∧ SqL K H a (ns.map V.int) ∧ ns.length ≤ 63 ∧ ∀ l p H', H p = none → Same H H' → PoolAt K H' l p → Q (.ref p) H'
theorem ok_pool {f : Addr} {fd : FuncData} (F : Fun K "_law_pool" "_law_pool" s__law_pool f fd) (T : Blt mg) : FnG P w K mg base (CXe P w) 1 f fd ["script"] (spPool K) := by
  refine F.okG sc__law_pool (fun vs H Q E h => ?_) (fun cdv A outer s H vs Q E hgd hr h => ?_)
  · obtain ⟨a, ns, rfl, _⟩ := h; rfl
  · obtain ⟨a, ns, rfl, hs, hl, k⟩ := h
    refine ⟨_, (pss_one (ps_ret (pe_lstA (pa_cons (pe_callTy call_list_of (by rfl) T.n_list (by decide +kernel) (pa_cons (pv 0) pa_nil)) (pa_cons pe_int (pa_cons pe_int (pa_cons pe_int (pa_cons pe_int pa_nil)))))))), ?_⟩
    refine ⟨_, rfl, _, _, rfl, .inl hs, fun l hl => ?_⟩
    refine And.intro (Nat.le_of_ble_eq_true rfl) (fun p H1 N => ?_)
    have hlp : l ≠ p := ne_of_none upd_same N.free
    have hp0 : H p = none := by rw [← N.free, upd_ne hlp.symm]
    exact k l p _ hp0 ((same_new hl).trans N.same) ⟨ns, 0, 0, 0, 1, N.at_, hlp, N.same _ _ upd_same, Int.le_refl _, Int.le_refl _⟩
def spDraw (K : PySem.W.Frag) : Sp := fun vs H Q _ => ∃ (l p : Addr) (m : Int), vs = [.ref p, .int m] ∧ PoolAt K H l p ∧ 0 < m ∧ m < 1000000 ∧
  ∀ r H', 0 ≤ r → r < m → Off (fun b => b = p) H H' → PoolAt K H' l p → Q (.int r) H'
theorem ok_draw {f : Addr} {fd : FuncData} (F : Fun K "_law_draw" "_law_draw" s__law_draw f fd) (T : Blt mg) : FnG P w K mg base (CXe P w) 1 f fd ["pool", "many"] (spDraw K) := by
  refine F.okG sc__law_draw (fun vs H Q E h => ?_) (fun cdv A outer s H vs Q E hgd hr h => ?_)
  · obtain ⟨l, p, m, rfl, _⟩ := h; rfl
  · obtain ⟨l, p, m, rfl, ⟨xs, i, c, n, z, hp, hlp, hl, hi, hc⟩, hm0, hm1, k⟩ := h
    refine ⟨_, (pss_cons (ps_asg (pe_op op_add (pe_ix ix_list (pv 0) pe_int (fun _ _ => rfl)) pe_int) (pg_sub (pv 0) pe_int set_list))
      (C8.pss_cut (ps_if (PW.pt (pw_and (pt_cmpR op_eq (pe_ix ix_list (pv 0) pe_int (fun _ _ => rfl)) pe_int (nomark _)) (pw_and1 (pt_cmpR op_lt (pe_ix ix_list (pv 0) pe_int (fun _ _ => rfl)) (pe_callB call_len_seq (by rfl) T.n_len (by decide +kernel) (pa_cons (pe_ix ix_list (pv 0) pe_int (fun _ _ => rfl)) pa_nil)) (nomark _))))) (pss_cons (ps_set (i := 2) sc__law_draw.nd rfl (Or.inl rfl) (pe_callTy call_int1 (by rfl) T.n_int (by decide +kernel) (pa_cons (pe_ix ix_list (pe_ix ix_list (pv 0) pe_int (fun _ _ => rfl)) (pe_ix ix_list (pv 0) pe_int (fun _ _ => rfl)) (fun _ _ => rfl)) pa_nil)))
      (pss_cons (ps_asg (pe_op op_add (pe_ix ix_list (pv 0) pe_int (fun _ _ => rfl)) pe_int) (pg_sub (pv 0) pe_int set_list))
      (pss_one (ps_if (pt_cmpR op_ge (pv 2) (pe_op op_pow pe_int pe_int) (nomark _)) (pss_one (ps_asg (pv 2) (pg_sub (pv 0) pe_int set_list))) (pss_one (ps_asg (pe_op op_mod (pe_callTy call_int1 (by rfl) T.n_int (by decide +kernel) (pa_cons (pe_op op_add (pe_op op_add (pe_op op_mul (pe_ix ix_list (pv 0) pe_int (fun _ _ => rfl)) pe_int) (pe_op op_mul (pv 2) pe_int)) pe_int) pa_nil)) pe_int) (pg_sub (pv 0) pe_int set_list))))))) pss_nil)
      (pss_cons (ps_if (pt_cmpR op_gt (pe_ix ix_list (pv 0) pe_int (fun _ _ => rfl)) pe_int (nomark _)) (pss_cons (ps_set (i := 3) sc__law_draw.nd rfl (Or.inl rfl) (pe_op op_mod (pe_callTy call_int1 (by rfl) T.n_int (by decide +kernel) (pa_cons (pe_ix ix_list (pv 0) pe_int (fun _ _ => rfl)) pa_nil)) (pv 1)))
      (pss_cons (ps_asg (pe_op op_fdivN (pe_callTy call_int1 (by rfl) T.n_int (by decide +kernel) (pa_cons (pe_ix ix_list (pv 0) pe_int (fun _ _ => rfl)) pa_nil)) (pv 1)) (pg_sub (pv 0) pe_int set_list))
      (pss_one (ps_ret (pv 3))))) pss_nil)
      (pss_cons (ps_set (i := 4) sc__law_draw.nd rfl (Or.inl rfl) (pe_op op_mod (pe_callTy call_int1 (by rfl) T.n_int (by decide +kernel) (pa_cons (pe_op op_add (pe_op op_add (pe_ix ix_list (pv 0) pe_int (fun _ _ => rfl)) (pe_op op_mul (pe_ix ix_list (pv 0) pe_int (fun _ _ => rfl)) pe_int)) pe_int) pa_nil)) pe_int))
      (pss_cons (ps_set (i := 4) sc__law_draw.nd rfl (Or.inl rfl) (pe_op op_mod (pe_callTy call_int1 (by rfl) T.n_int (by decide +kernel) (pa_cons (pe_op op_mul (pv 4) (pe_op op_add (pe_op op_fdivN (pv 4) pe_int) pe_int)) pa_nil)) pe_int))
      (pss_cons (ps_set (i := 4) sc__law_draw.nd rfl (Or.inl rfl) (pe_op op_mod (pe_callTy call_int1 (by rfl) T.n_int (by decide +kernel) (pa_cons (pe_op op_mul (pv 4) (pe_op op_add (pe_op op_fdivN (pv 4) pe_int) pe_int)) pa_nil)) pe_int))
      (pss_cons (ps_asg (pv 4) (pg_sub (pv 0) pe_int set_list))
      (pss_one (ps_ret (pe_op op_mod (pe_callTy call_int1 (by rfl) T.n_int (by decide +kernel) (pa_cons (pe_op op_fdivN (pv 4) pe_int) pa_nil)) (pv 1))))))))))), ?_⟩
    walk_at "rd"
    refine ⟨fun σ' H' => ∃ (x : Option V) (i' c' n' z' : Int), σ' = [some (.ref p), some (.int m), x, none, none] ∧ H' = upd H p (poolO l i' c' n' z') ∧ 0 ≤ i' ∧ 0 ≤ c', ?_, ?_⟩
    · walk_at "rd"
      refine ite2 (fun h => ?_) (fun h => ?_)
      · walk_at "rd"
        refine ite2 (fun h2 => ?_) (fun h2 => ?_)
        · have hix : i < (xs.map V.int).length := by simpa using h2
          have hg : ∃ v, xs[i.toNat]? = some v := by
            rw [List.length_map] at hix
            exact ⟨_, List.getElem?_eq_getElem (by omega)⟩
          obtain ⟨v, hv⟩ := hg
          walk_at "rd"
          refine ⟨l, xs.map V.int, i, .int v, rfl, rfl, SqL.of (by walk_at "hp"), ?_, ?_⟩
          · have := atI_nat (xs := xs.map V.int) (j := i.toNat) (v := V.int v) (by simp [hv])
            rwa [Int.toNat_of_nonneg hi] at this
          walk_at "rd"
          refine ite2 (fun h3 => ?_) (fun h3 => ?_)
          · walk_at "rd"
            refine ⟨some (.int v), i + 1, v, n + 1, z, rfl, by rw [upd_upd, upd_upd]; rfl, by omega, ?_⟩
            have : (10 : Int) ^ 18 ≤ v := by simpa using h3
            omega
          · walk_at "rd"
            refine ⟨some (.int v), i + 1, c, n + 1, _, rfl, by rw [upd_upd, upd_upd]; rfl, by omega, hc⟩
        · exact ⟨none, i, c, n + 1, z, rfl, rfl, hi, hc⟩
      · exact ⟨none, i, c, n + 1, z, rfl, rfl, hi, hc⟩
    · rintro σ' H' ⟨x, i', c', n', z', rfl, rfl, hi', hc'⟩
      have hl' : ∀ o, upd H p o l = some (.lst (xs.map V.int)) := fun o => by rw [upd_ne hlp]; exact hl
      have fin : ∀ (r i'' c'' n'' z'' : Int), 0 ≤ r → r < m → 0 ≤ i'' → 0 ≤ c'' → Q (.int r) (upd H p (poolO l i'' c'' n'' z'')) := fun r i'' c'' n'' z'' a1 a2 a3 a4 =>
        k r _ a1 a2 (Off.mut rfl) ⟨xs, i'', c'', n'', z'', upd_same, hlp, hl' _, a3, a4⟩
      walk_at "rd"
      refine ite2 (fun h => ?_) (fun h => ?_)
      · walk_at "rd"
        rw [upd_upd]
        refine fin _ i' _ n' z' ?_ ?_ hi' ?_
        · exact Int.emod_nonneg _ (by omega)
        · exact Int.emod_lt_of_pos _ hm0
        · rw [Int.fdiv_eq_ediv_of_nonneg _ (by omega)]
          exact Int.ediv_nonneg hc' (by omega)
      · walk_at "rd"
        rw [upd_upd]
        refine fin _ i' c' n' _ ?_ ?_ hi' hc'
        · exact Int.emod_nonneg _ (by omega)
        · exact Int.emod_lt_of_pos _ hm0
/-! ### a drawn thing of any kind -/
def deepD : Nat → PyData
  | 0 => .tuple [.int 0]
  | n + 1 => .tuple [deepD n]
def oddDs : List (Bool × PyData) := [(true, .none), (true, .bool true), (true, .bool false), (true, .int (-1)), (true, .int 0), (true, .int 3), (true, .int (10 ^ 30)), (true, .str ""), (true, .str "a"), (true, .str "@"),
  (true, .tuple []), (true, .list []), (false, .dict []), (true, .tuple [.int 0]), (true, .tuple [.int 0, .int 0]), (true, .list [.int 0, .int 0]), (true, .tuple [.str "@"]), (true, .list [.str "@"]), (true, deepD 12)]
def Odd (M : Addr → Prop) (H : Hp) (v : V) : Prop := ∃ q ∈ oddDs, Dr q.1 M H v q.2
def OddAll (M : Addr → Prop) (H : Hp) (vs : List V) : Prop := ∀ v ∈ vs, Odd M H v
theorem Odd.keep {M : Addr → Prop} {H H' : Hp} {v : V} (o : Off M H H') (h : Odd M H v) : Odd M H' v := by
  obtain ⟨q, hq, d⟩ := h
  exact ⟨q, hq, d.keep o⟩
theorem OddAll.new {M : Addr → Prop} {H H2 : Hp} {vs : List V} {q : Addr} {o : HO} (hq : New H H2 q o) (O : OddAll M H vs) (h : Odd M H2 (.ref q)) : OddAll M H2 (.ref q :: vs) := by
  intro v hv
  rcases List.mem_cons.mp hv with rfl | hv
  · exact h
  · exact (O v hv).keep hq.off
def spOdd (K : PySem.W.Frag) : Sp := fun vs H Q _ => ∃ (l p : Addr) (M : Addr → Prop), vs = [.ref p] ∧ PoolAt K H l p ∧ M p ∧ (∀ a, M a → H a ≠ none) ∧
  ∀ v H', Off (fun b => b = p) H H' → PoolAt K H' l p → Odd M H' v → Q v H'
theorem sc__law_odd : FnScope ["pool", "deep", "k", "odd"] ["pool"] (defScope s__law_odd) := ⟨rfl, rfl, rfl, by decide +kernel, rfl, by decide +kernel, by decide +kernel⟩
theorem PoolAt.same {H H' : Hp} {l p : Addr} (s : Same H H') (h : PoolAt K H l p) : PoolAt K H' l p := by
  obtain ⟨xs, i, c, n, z, h1, h2, h3, h4, h5⟩ := h
  exact ⟨xs, i, c, n, z, s _ _ h1, h2, s _ _ h3, h4, h5⟩
theorem ok_odd {f : Addr} {fd : FuncData} {k1 : Nat} (F : Fun K "_law_odd" "_law_odd" s__law_odd f fd) (T : Blt mg) (c__law_draw : CalG P w K mg base 1 "_law_draw" (spDraw K)) : FnG P w K mg base (CXe P w) 2 f fd ["pool"] (spOdd K) := by
  refine F.okG sc__law_odd (fun vs H Q E h => ?_) (fun cdv A outer s H vs Q E hgd hr h => ?_)
  · obtain ⟨l, p, M, rfl, _⟩ := h; rfl
  · obtain ⟨l, p, M, rfl, hp, hMp, hM, k⟩ := h
    refine ⟨_, (pss_cons (ps_set (i := 1) sc__law_odd.nd rfl (Or.inl rfl) (pe_tupA (pa_cons pe_int pa_nil)))
      (pss_cons (ps_for (passes_of rfl) rfl (pi_range1 (by rfl) T.n_range (pa_cons pe_int pa_nil)) (pg_name (i := 2) sc__law_odd.nd rfl (Or.inl rfl))
      (pss_one (ps_set (i := 1) sc__law_odd.nd rfl (Or.inl rfl) (pe_tupA (pa_cons (pv 1) pa_nil)))))
      (pss_cons (ps_set (i := 3) sc__law_odd.nd rfl (Or.inl rfl) (pe_lstA (pa_cons pe_non (pa_cons pe_bl (pa_cons pe_bl (pa_cons (pe_un un_neg pe_int) (pa_cons pe_int (pa_cons pe_int (pa_cons (pe_op op_pow pe_int pe_int) (pa_cons pe_str (pa_cons pe_str (pa_cons pe_str (pa_cons (pe_tupA pa_nil) (pa_cons (pe_lstA pa_nil) (pa_cons pe_dnewA (pa_cons (pe_tupA (pa_cons pe_int pa_nil)) (pa_cons (pe_tupA (pa_cons pe_int (pa_cons pe_int pa_nil))) (pa_cons (pe_lstA (pa_cons pe_int (pa_cons pe_int pa_nil))) (pa_cons (pe_tupA (pa_cons pe_str pa_nil)) (pa_cons (pe_lstA (pa_cons pe_str pa_nil)) (pa_cons (pv 1) pa_nil)))))))))))))))))))))
      (pss_one (ps_ret (pe_ix ix_list (pv 3) (pg_c c__law_draw hgd hr (by decide) (pa_cons (pv 0) (pa_cons (pe_callB call_len_seq (by rfl) T.n_len (by decide +kernel) (pa_cons (pv 3) pa_nil)) pa_nil))) (fun _ _ => rfl))))))), ?_⟩
    have notM : ∀ {a : Addr}, H a = none → ¬ M a := fun h z => hM _ z h
    walk_at "rd"
    refine And.intro (Nat.le_of_ble_eq_true rfl) (fun t0 H0 n0 => ?_)
    refine ⟨12, rfl, by decide, by decide, for_range (n := 12) (fun i σ H' => ∃ (t : Addr) (x : Option V), σ = [some (.ref p), some (.ref t), x, none] ∧ Same H H' ∧ Dr true M H' (.ref t) (deepD i)) ⟨t0, none, rfl, n0.same, .tup n0.at_ (notM n0.free) (.cons (.int 0) .nil)⟩ ?_ ?_⟩
    · rintro i σ H' hi ⟨t, x, rfl, s5, d⟩
      walk_at "rd"
      refine And.intro (Nat.le_of_ble_eq_true rfl) (fun t1 H1 n1 => ?_)
      exact ⟨t1, _, rfl, s5.trans n1.same, .tup n1.at_ (notM (s5.free n1.free)) (.cons (d.keep n1.off) .nil)⟩
    · rintro σ H' ⟨t, x, rfl, s5, d⟩
      have O0 : OddAll M H' [.ref t] := by
        intro v hv
        cases List.mem_singleton.mp hv
        exact ⟨(true, deepD 12), by simp [oddDs], d⟩
      walk_at "rd"
      refine And.intro (Nat.le_of_ble_eq_true rfl) (fun q1 H1 n1 => ?_)
      have O1 := O0.new n1 ⟨(true, .tuple []), by simp [oddDs], .tup n1.at_ (notM (s5.free n1.free)) .nil⟩
      have s6 := s5.trans n1.same
      refine And.intro (Nat.le_of_ble_eq_true rfl) (fun q2 H2 n2 => ?_)
      have O2 := O1.new n2 ⟨(true, .list []), by simp [oddDs], .lst n2.at_ (notM (s6.free n2.free)) rfl .nil⟩
      have s7 := s6.trans n2.same
      refine fun q3 H3 n3 => ?_
      have O3 := O2.new n3 ⟨(false, .dict []), by simp [oddDs], .dct n3.at_ (notM (s7.free n3.free)) rfl⟩
      have s8 := s7.trans n3.same
      refine And.intro (Nat.le_of_ble_eq_true rfl) (fun q4 H4 n4 => ?_)
      have O4 := O3.new n4 ⟨(true, .tuple [.int 0]), by simp [oddDs], .tup n4.at_ (notM (s8.free n4.free)) (.cons (.int 0) .nil)⟩
      have s9 := s8.trans n4.same
      refine And.intro (Nat.le_of_ble_eq_true rfl) (fun q5 H5 n5 => ?_)
      have O5 := O4.new n5 ⟨(true, .tuple [.int 0, .int 0]), by simp [oddDs], .tup n5.at_ (notM (s9.free n5.free)) (.cons (.int 0) (.cons (.int 0) .nil))⟩
      have s10 := s9.trans n5.same
      refine And.intro (Nat.le_of_ble_eq_true rfl) (fun q6 H6 n6 => ?_)
      have O6 := O5.new n6 ⟨(true, .list [.int 0, .int 0]), by simp [oddDs], .lst n6.at_ (notM (s10.free n6.free)) rfl (.cons (.int 0) (.cons (.int 0) .nil))⟩
      have s11 := s10.trans n6.same
      refine And.intro (Nat.le_of_ble_eq_true rfl) (fun q7 H7 n7 => ?_)
      have O7 := O6.new n7 ⟨(true, .tuple [.str "@"]), by simp [oddDs], .tup n7.at_ (notM (s11.free n7.free)) (.cons (.str "@") .nil)⟩
      have s12 := s11.trans n7.same
      refine And.intro (Nat.le_of_ble_eq_true rfl) (fun q8 H8 n8 => ?_)
      have O8 := O7.new n8 ⟨(true, .list [.str "@"]), by simp [oddDs], .lst n8.at_ (notM (s12.free n8.free)) rfl (.cons (.str "@") .nil)⟩
      have s13 := s12.trans n8.same
      walk_at "rd"
      refine And.intro (Nat.le_of_ble_eq_true rfl) (fun q9 H9 n9 => ?_)
      have s14 := s13.trans n9.same
      -- the list is made; what stands in it
      have O9 : OddAll M H9 _ := fun v hv => (O8 v hv).keep n9.off
      have e9 := n9.at_
      generalize hxs : ([_, _, _, _, _, _, _, _, _, _, _, _, _, _, _, _, _, _, _] : List V) = items at e9
      have hlen : items.length = 19 := by rw [← hxs]; rfl
      have OL : OddAll M H9 items := by
        rw [← hxs]
        intro v hv
        simp only [List.mem_cons, List.not_mem_nil, or_false] at hv
        rcases hv with rfl | rfl | rfl | rfl | rfl | rfl | rfl | rfl | rfl | rfl | rfl | rfl | rfl | rfl | rfl | rfl | rfl | rfl | rfl
        · exact ⟨(true, .none), by simp [oddDs], .non⟩
        · exact ⟨(true, .bool true), by simp [oddDs], .bl _⟩
        · exact ⟨(true, .bool false), by simp [oddDs], .bl _⟩
        · exact ⟨(true, .int (-1)), by simp [oddDs], .int _⟩
        · exact ⟨(true, .int 0), by simp [oddDs], .int _⟩
        · exact ⟨(true, .int 3), by simp [oddDs], .int _⟩
        · exact ⟨(true, .int (10 ^ 30)), by simp [oddDs], .int _⟩
        · exact ⟨(true, .str ""), by simp [oddDs], .str _⟩
        · exact ⟨(true, .str "a"), by simp [oddDs], .str _⟩
        · exact ⟨(true, .str "@"), by simp [oddDs], .str _⟩
        all_goals exact O9 _ (by simp)
      walk_at "rd"
      rw [hlen]
      refine ⟨l, p, 19, rfl, hp.same s14, by decide, by decide, fun r H10 hr0 hr1 off hp10 => ?_⟩
      obtain ⟨v, ho⟩ : ∃ v, items[r.toNat]? = some v := ⟨_, List.getElem?_eq_getElem (by omega)⟩
      have hne : q9 ≠ p := by
        intro z
        obtain ⟨xs, i, c, n, z1, h1, _⟩ := hp
        have := s13 _ _ h1
        rw [← z, n9.free] at this
        cases this
      refine ⟨q9, items, r, v, rfl, rfl, SqL.of (off _ _ hne e9), ?_, ?_⟩
      · have := atI_nat ho
        rwa [Int.toNat_of_nonneg hr0] at this
      · refine k _ H10 ((Off.same s14).trans off) hp10 ((OL _ (List.mem_of_getElem? ho)).keep ?_)
        intro b o hb e
        exact off b o (fun z => hb (by rw [z]; exact hMp)) e
end
end K11
end
section
set_option Elab.async false
set_option linter.all false
set_option maxRecDepth 100000
set_option maxHeartbeats 2000000
namespace K11
open PySem L2
local macro_rules | `(tactic| walk_at "hp") => `(tactic| first | assumption | exact upd_same | (refine (upd_ne (by first | assumption | (apply Ne.symm; assumption))).trans ?_; walk_at "hp"))
local macro_rules | `(tactic| walk_at "rd1") => `(tactic| first
  | (refine ⟨_, rfl, ?_⟩)
  | (refine ⟨_, _, rfl, rfl, ?_⟩)
  | (refine ⟨(rfl : scal _ _ = true), ?_⟩)
  | (refine And.intro (by show (0 : Int) < _; decide) ?_)
  | (refine And.intro (And.intro (by decide) (by decide)) ?_)
  | (refine And.intro (by assumption) ?_)
  | (refine Or.inl ⟨_, rfl, ?_⟩))
local macro_rules | `(tactic| walk_at "rd") => `(tactic| repeat walk_at "rd1")
theorem sc_is_row : FnScope ["thing"] ["thing"] (defScope s_is_row) := ⟨rfl, rfl, rfl, by decide +kernel, rfl, by decide +kernel, by decide +kernel⟩
theorem sc__is_line : FnScope ["thing", "mark"] ["thing"] (defScope s__is_line) := ⟨rfl, rfl, rfl, by decide +kernel, rfl, by decide +kernel, by decide +kernel⟩
theorem sc__need_lines : FnScope ["rows", "at", "row"] ["rows"] (defScope s__need_lines) := ⟨rfl, rfl, rfl, by decide +kernel, rfl, by decide +kernel, by decide +kernel⟩
theorem sc__many : FnScope ["cells", "marks", "mark"] ["cells", "marks"] (defScope s__many) := ⟨rfl, rfl, rfl, by decide +kernel, rfl, by decide +kernel, by decide +kernel⟩
theorem sc__is_whole_room : FnScope ["cells", "mark"] ["cells"] (defScope s__is_whole_room) := ⟨rfl, rfl, rfl, by decide +kernel, rfl, by decide +kernel, by decide +kernel⟩
theorem sc__places : FnScope ["cells", "mark", "cell"] ["cells", "mark"] (defScope s__places) := ⟨rfl, rfl, rfl, by decide +kernel, rfl, by decide +kernel, by decide +kernel⟩
theorem sc__neighbours : FnScope ["rows", "down", "across", "width", "found", "cell", "line", "place", "is_there"] ["rows", "down", "across"] (defScope s__neighbours) := ⟨rfl, rfl, rfl, by decide +kernel, rfl, by decide +kernel, by decide +kernel⟩
theorem sc_Room_init : FnScope ["self", "rows", "cells"] ["self", "rows"] (defScope s_Room_init) := ⟨rfl, rfl, rfl, by decide +kernel, rfl, by decide +kernel, by decide +kernel⟩
/-- built-ins and constants that stand -/
structure Rb (mg : Str → Option Value) : Prop extends Blt mg where
  n_str : mg "str" = none
  n_tuple : mg "tuple" = none
  n_max : mg "max" = none
  n_sum : mg "sum" = none
  n_enumerate : mg "enumerate" = none
  k_MARKS : ∃ t, mg "MARKS" = some (.str "#.^v<>abABoxpg*@12" t)
  k_MOST_LINES : ∃ t, mg "MOST_LINES" = some (.int 5 t)
  k_MOST_ACROSS : ∃ t, mg "MOST_ACROSS" = some (.int 6 t)
  k_MOST_CELLS : ∃ t, mg "MOST_CELLS" = some (.int 24 t)
  k_MOST_CRATES : ∃ t, mg "MOST_CRATES" = some (.int 3 t)
  k_MOST_KEYS_AND_DOORS : ∃ t, mg "MOST_KEYS_AND_DOORS" = some (.int 4 t)
theorem yes_of {σ : L2.St} {H : Hp} {R : Bool → Hp → Prop} (h : R true H) : tYes σ H R := h
section
variable {P : Program} {w : World} {K : PySem.W.Frag} {mg : Str → Option Value} {base : Heap}
def marksS : Str := "#.^v<>abABoxpg*@12"
/-- a row of a room -/
def lineS (s : Str) : Bool := decide (1 ≤ s.length) && (decide (s.length ≤ 6) && s.cps.toList.all fun c => decide (c ∈ marksS.cps.toList))
def spIsRow (K : PySem.W.Frag) : Sp := fun vs H Q _ => ∃ (v : V) (t : Value) (b : Bool), vs = [v] ∧ TyX K H v t ∧ (∀ H', Same H H' → TyX K H' v t) ∧ PySem.W.kitAny K t [.type "list", .type "tuple"] = some b ∧ ∀ H', Same H H' → Q (.bl b) H'
theorem ok_is_row {f : Addr} {fd : FuncData} (F : Fun K "is_row" "is_row" s_is_row f fd) (T : Rb mg) : FnG P w K mg base (CXe P w) 1 f fd ["thing"] (spIsRow K) := by
  refine F.okG sc_is_row (fun vs H Q E h => ?_) (fun cdv A outer s H vs Q E hgd hr h => ?_)
  · obtain ⟨v, t, b, rfl, _⟩ := h; rfl
  · obtain ⟨v, t, b, rfl, ty, tyk, e, k⟩ := h
    refine ⟨_, (pss_one (ps_ret (pe_callB call_isiT (by rfl) T.n_isinstance (by decide +kernel) (pa_cons (pv 0) (pa_cons (pe_tupA (pa_cons (pe_bltn (v := .ty "list") (u := .type "list") rfl T.n_list (by decide +kernel) rfl) (pa_cons (pe_bltn (v := .ty "tuple") (u := .type "tuple") rfl T.n_tuple (by decide +kernel) rfl) pa_nil))) pa_nil))))), ?_⟩
    walk_at "rd"
    refine And.intro (Nat.le_of_ble_eq_true rfl) (fun p H1 n1 => ?_)
    exact ⟨v, p, _, t, _, b, rfl, n1.at_, .cons (.ty _) (.cons (.ty _) .nil), tyk _ n1.same, e, k _ n1.same⟩
def spIsLine (K : PySem.W.Frag) : Sp := fun vs H Q _ => ∃ (v : V) (t : Value) (b : Bool), vs = [v] ∧ TyX K H v t ∧ PySem.W.kitOne K t (.type "str") = some b ∧ (b = false → Q (.bl false) H) ∧ (b = true → ∃ s, v = .str s ∧ s.length ≤ sizeLine ∧ Q (.bl (lineS s)) H)
theorem ok_is_line {f : Addr} {fd : FuncData} (F : Fun K "_is_line" "_is_line" s__is_line f fd) (T : Rb mg) : FnG P w K mg base (CXe P w) 1 f fd ["thing"] (spIsLine K) := by
  refine F.okG sc__is_line (fun vs H Q E h => ?_) (fun cdv A outer s H vs Q E hgd hr h => ?_)
  · obtain ⟨v, t, b, rfl, _⟩ := h; rfl
  · obtain ⟨v, t, b, rfl, ty, e, k0, k1⟩ := h
    refine ⟨_, (pss_cons (ps_if (PW.pt (pw_or (pt_not (pt_val (pe_callB call_isi (by rfl) T.n_isinstance (by decide +kernel) (pa_cons (pv 0) (pa_cons (pe_bltn (v := .ty "str") (u := .type "str") rfl T.n_str (by decide +kernel) rfl) pa_nil))))) (pw_or1 (pt_not (pt_chain op_le op_le pe_int (pe_callB call_len_str (by rfl) T.n_len (by decide +kernel) (pa_cons (pv 0) pa_nil)) (pe_glob (v := .int 6) rfl (Exists.choose_spec T.k_MOST_ACROSS) ⟨_, rfl⟩)))))) (pss_one (ps_ret pe_bl)) pss_nil)
      (pss_cons (ps_for (passes_of rfl) rfl (pi_str (pv 0)) (pg_name (i := 1) sc__is_line.nd rfl (Or.inl rfl))
      (pss_one (ps_if (pt_cmpR op_notIn_sign (pv 1) (pe_glob (v := .str "#.^v<>abABoxpg*@12") rfl (Exists.choose_spec T.k_MARKS) ⟨_, rfl⟩) (by rfl)) (pss_one (ps_ret pe_bl)) pss_nil)))
      (pss_one (ps_ret pe_bl)))), ?_⟩
    refine ⟨_, rfl, _, _, _, _, _, rfl, .ty _, ty, e, _, rfl, ?_⟩
    cases b with
    | false => exact iteT (k0 rfl)
    | true =>
      obtain ⟨s, rfl, hs, k⟩ := k1 rfl
      refine iteF ?_
      walk_at "rd"
      refine ite2 (fun h1 => ?_) (fun h1 => ?_)
      · refine ⟨_, _, rfl, rfl, ?_⟩
        refine ⟨_, rfl, ?_⟩
        have l1 : 1 ≤ s.length := by have : (1 : Int) ≤ (s.length : Int) := by simpa using h1
                                     omega
        refine ite2 (fun h2 => ?_) (fun h2 => ?_)
        · have e : lineS s = false := by
            have : ¬ s.length ≤ 6 := by
              have : ¬ (s.length : Int) ≤ 6 := by simpa using h2
              omega
            simp [lineS, this]
          rw [← e]; exact k
        · have l2 : s.length ≤ 6 := by
            have : (s.length : Int) ≤ 6 := by simpa using h2
            omega
          refine ⟨_, rfl, s, rfl, for_it walk_str (fun i σ H' => H' = H ∧ (∃ o, σ = [some (.str s), o]) ∧ (s.cps.toList.take i).all (fun c => decide (c ∈ marksS.cps.toList)) = true) ⟨rfl, ⟨none, rfl⟩, by simp⟩ (fun _ _ _ _ _ => trivial) ?_ ?_⟩
          · rintro i x σ H1 H' hi ⟨rfl, ⟨o, rfl⟩, ha⟩ ⟨rfl, c, hc, rfl⟩
            walk_at "rd"
            have ht : s.cps.toList.take (i + 1) = s.cps.toList.take i ++ [c] := by
              have : s.cps.toList[i]? = some c := by simpa using hc
              rw [List.take_add_one, this]; rfl
            refine ite2 (fun h3 => ?_) (fun h3 => ?_)
            · have hm : ¬ c ∈ marksS.cps.toList := by simpa [marksS] using h3
              have e : lineS s = false := by
                have : s.cps.toList.all (fun c => decide (c ∈ marksS.cps.toList)) = false := by
                  rw [List.all_eq_false]
                  refine ⟨c, ?_, by simpa using hm⟩
                  exact List.mem_of_getElem? (by simpa using hc)
                unfold lineS
                rw [this, Bool.and_false, Bool.and_false]
              have := k
              rw [e] at this
              exact this
            · have hm : c ∈ marksS.cps.toList := by simpa [marksS] using h3
              exact ⟨rfl, ⟨_, rfl⟩, by rw [ht, List.all_append, ha]; simpa using hm⟩
          · rintro σ H' ⟨rfl, ⟨o, rfl⟩, ha⟩
            have e : lineS s = true := by
              have z : s.cps.toList.all (fun c => decide (c ∈ marksS.cps.toList)) = true := by
                have : s.cps.toList.take s.cps.size = s.cps.toList := List.take_of_length_le (by simp)
                rwa [this] at ha
              have a1 : decide (1 ≤ s.length) = true := by simpa using l1
              have a2 : decide (s.length ≤ 6) = true := by simpa using l2
              unfold lineS
              rw [a1, a2, z]; rfl
            have := k
            rw [e] at this
            exact this
      · have e : lineS s = false := by
          have : ¬ 1 ≤ s.length := by
            have : ¬ (1 : Int) ≤ (s.length : Int) := by simpa using h1
            omega
          simp [lineS, this]
        have := k
        rw [e] at this
        exact ⟨_, rfl, iteT this⟩
/-- how many of these signs there are -/
def manyZ (z m : Str) : Int := (m.cps.toList.map fun c => Txt.count z ⟨#[c]⟩).sum
def spMany : Sp := fun vs H Q _ => ∃ (z m : Str), vs = [.str z, .str m] ∧ m.length ≤ 1000 ∧ ∀ H', Same H H' → Q (.int (manyZ z m)) H'
theorem ok_many {f : Addr} {fd : FuncData} (F : Fun K "_many" "_many" s__many f fd) (T : Rb mg) : FnG P w K mg base (CXe P w) 1 f fd ["cells", "marks"] spMany := by
  refine F.okG sc__many (fun vs H Q E h => ?_) (fun cdv A outer s H vs Q E hgd hr h => ?_)
  · obtain ⟨z, m, rfl, _⟩ := h; rfl
  · obtain ⟨z, m, rfl, hm, k⟩ := h
    refine ⟨_, (pss_one (ps_ret (pe_callB (cr_sum rfl) (by rfl) T.n_sum (by decide +kernel) (pa_cons (pe_lc (own := [("mark", 2)]) (g := gName 2) (tt := tYes) rfl sc__many.nd (pi_str (pv 1)) (blkOk_by (own := [("mark", 2)]) (N := ["cells", "marks", "mark"]) (sc := defScope s__many) (by decide +kernel)) (fun _ _ _ _ _ => pg_name (i := 2) sc__many.nd rfl (Or.inl rfl)) (fun _ _ _ _ _ => pts_nil) (fun _ _ _ _ _ => (pe_m1 PySem.F.slot_str_count PySem.F.type_str_count mt_count (pv 0) (pv 2)))) pa_nil)))), ?_⟩
    walk_at "rd"
    refine fun D hD => lc_it walk_str (fun i H' => ∃ acc : List Int, H' D = some (.lst (acc.map V.int)) ∧ acc = (m.cps.toList.take i).map (fun c => Txt.count z ⟨#[c]⟩) ∧ Off (fun b => b = D) H H') ⟨[], upd_same, by simp, Off.new hD⟩ (fun _ _ _ _ => trivial) ?_ ?_
    · rintro i x H1 H2 hi ⟨acc, hacc, hv, off⟩ ⟨rfl, c, hc, rfl⟩
      refine And.intro rfl (yes_of ?_)
      refine iteT ?_
      refine ⟨_, rfl, ⟨_, rfl⟩, _, rfl, z, ⟨#[c]⟩, rfl, rfl, acc.map V.int, hacc, ?_, acc ++ [Txt.count z ⟨#[c]⟩], ?_, ?_, off.trans (Off.mut rfl)⟩
      · have : acc.length ≤ m.length := by
          rw [hv, List.length_map, List.length_take]
          exact Nat.le_trans (Nat.min_le_left _ _) (Nat.le_of_lt hi)
        rw [List.length_map]
        exact small1000 (by omega)
      · rw [upd_same, List.map_append]; rfl
      · have ht : m.cps.toList.take (i + 1) = m.cps.toList.take i ++ [c] := by
          have : m.cps.toList[i]? = some c := by simpa using hc
          rw [List.take_add_one, this]; rfl
        rw [ht, List.map_append, ← hv]; rfl
    · rintro H1 ⟨acc, hacc, hv, off⟩
      refine ⟨D, acc, rfl, SqL.of hacc, ?_⟩
      have : m.cps.toList.take m.cps.size = m.cps.toList := List.take_of_length_le (by simp)
      rw [this] at hv
      rw [hv]
      exact k _ fun b o e => off b o (fun y => by rw [y, hD] at e; cases e) e
/-- the signs of all rows, one behind another, are those of a room -/
def wholeZ (z : Str) : Bool := (!(decide ((z.length : Int) > 24) || !decide (Txt.count z "@" = 1))) && ((!(decide (Txt.count z "*" > 1) || (decide (Txt.count z "1" > 1) || decide (Txt.count z "2" > 1)) || (decide (50 ∈ z.cps.toList) && !decide (49 ∈ z.cps.toList)))) &&
  (decide (Txt.count z "o" ≤ 3) && decide (manyZ z "abAB" ≤ 4)))
def spWR : Sp := fun vs H Q _ => ∃ (z : Str), vs = [.str z] ∧ z.length ≤ sizeLine ∧ ∀ H', Same H H' → Q (.bl (wholeZ z)) H'
theorem ok_whole_room {f : Addr} {fd : FuncData} (F : Fun K "_is_whole_room" "_is_whole_room" s__is_whole_room f fd) (T : Rb mg) (c__many : CalG P w K mg base 1 "_many" spMany) : FnG P w K mg base (CXe P w) 2 f fd ["cells"] spWR := by
  refine F.okG sc__is_whole_room (fun vs H Q E h => ?_) (fun cdv A outer s H vs Q E hgd hr h => ?_)
  · obtain ⟨z, rfl, _⟩ := h; rfl
  · obtain ⟨z, rfl, hz, k⟩ := h
    refine ⟨_, (pss_cons (ps_if (PW.pt (pw_or (pt_cmpR op_gt (pe_callB call_len_str (by rfl) T.n_len (by decide +kernel) (pa_cons (pv 0) pa_nil)) (pe_glob (v := .int 24) rfl (Exists.choose_spec T.k_MOST_CELLS) ⟨_, rfl⟩) (nomark _)) (pw_or1 (pt_cmpR op_ne (pe_m1 PySem.F.slot_str_count PySem.F.type_str_count mt_count (pv 0) pe_str) pe_int (nomark _))))) (pss_one (ps_ret pe_bl)) pss_nil)
      (pss_cons (ps_if (PW.pt (pw_or (pt_cmpR op_gt (pe_callB (cr_max rfl) (by rfl) T.n_max (by decide +kernel) (pa_cons (pe_lc (own := [("mark", 1)]) (g := gName 1) (tt := tYes) rfl sc__is_whole_room.nd (pi_str pe_str) (blkOk_by (own := [("mark", 1)]) (N := ["cells", "mark"]) (sc := defScope s__is_whole_room) (by decide +kernel)) (fun _ _ _ _ _ => pg_name (i := 1) sc__is_whole_room.nd rfl (Or.inl rfl)) (fun _ _ _ _ _ => pts_nil) (fun _ _ _ _ _ => (pe_m1 PySem.F.slot_str_count PySem.F.type_str_count mt_count (pv 0) (pv 1)))) pa_nil)) pe_int (nomark _)) (pw_or1 (PW.pt (pw_and (pt_cmpR op_in_sign pe_str (pv 0) (by rfl)) (pw_and1 (pt_cmpR op_notIn_sign pe_str (pv 0) (by rfl)))))))) (pss_one (ps_ret pe_bl)) pss_nil)
      (pss_one (ps_ret (pe_and (pe_cmpR op_le (pe_m1 PySem.F.slot_str_count PySem.F.type_str_count mt_count (pv 0) pe_str) (pe_glob (v := .int 3) rfl (Exists.choose_spec T.k_MOST_CRATES) ⟨_, rfl⟩) (nomark _)) (pe_one (pe_cmpR op_le (pg_c c__many hgd hr (by decide) (pa_cons (pv 0) (pa_cons pe_str pa_nil))) (pe_glob (v := .int 4) rfl (Exists.choose_spec T.k_MOST_KEYS_AND_DOORS) ⟨_, rfl⟩) (nomark _)))))))), ?_⟩
    have kf : wholeZ z = false → ∀ H', Same H H' → Q (.bl false) H' := fun e H' s' => by
      have := k H' s'
      rwa [e] at this
    walk_at "rd"
    refine ite2 (fun h1 => ?_) (fun h1 => ?_)
    · refine iteT (kf ?_ _ (Same.refl _))
      have h1' : decide ((z.length : Int) > 24) = true := by simpa using h1
      unfold wholeZ
      rw [h1']; rfl
    have h1' : decide ((z.length : Int) > 24) = false := by simpa using h1
    refine ⟨_, rfl, ⟨_, rfl⟩, z, "@", rfl, rfl, ?_⟩
    walk_at "rd"
    refine ite2 (fun h2 => ?_) (fun h2 => ?_)
    · refine kf ?_ _ (Same.refl _)
      have h2' : decide (Txt.count z "@" = 1) = false := by simpa using h2
      unfold wholeZ
      rw [h1', h2']; rfl
    have h2' : decide (Txt.count z "@" = 1) = true := by simpa using h2
    walk_at "rd"
    refine fun D hD => lc_it walk_str (fun i H' => ∃ acc : List Int, H' D = some (.lst (acc.map V.int)) ∧ acc = ((("*12" : Str).cps.toList.take i).map fun c => Txt.count z ⟨#[c]⟩) ∧ Off (fun b => b = D) H H') ⟨[], upd_same, by simp, Off.new hD⟩ (fun _ _ _ _ => trivial) ?_ ?_
    · rintro i x H1 H2 hi ⟨acc, hacc, hv, off⟩ ⟨rfl, c, hc, rfl⟩
      refine And.intro rfl (yes_of ?_)
      refine iteT ?_
      refine ⟨_, rfl, ⟨_, rfl⟩, _, rfl, z, ⟨#[c]⟩, rfl, rfl, acc.map V.int, hacc, ?_, acc ++ [Txt.count z ⟨#[c]⟩], ?_, ?_, off.trans (Off.mut rfl)⟩
      · have : acc.length ≤ 3 := by
          rw [hv, List.length_map, List.length_take]
          exact Nat.min_le_right _ _
        rw [List.length_map]
        exact small1000 (by omega)
      · rw [upd_same, List.map_append]; rfl
      · have ht : ("*12" : Str).cps.toList.take (i + 1) = ("*12" : Str).cps.toList.take i ++ [c] := by
          have : ("*12" : Str).cps.toList[i]? = some c := by simpa using hc
          rw [List.take_add_one, this]; rfl
        rw [ht, List.map_append, ← hv]; rfl
    · rintro H1 ⟨acc, hacc, hv, off⟩
      have hv' : acc = [Txt.count z "*", Txt.count z "1", Txt.count z "2"] := by
        rw [hv]
        have : ("*12" : Str).cps.toList.take ("*12" : Str).cps.size = [42, 49, 50] := by decide +kernel
        rw [this]; rfl
      have s1 : Same H H1 := fun b o e => off b o (fun y => by rw [y, hD] at e; cases e) e
      refine ⟨D, acc, rfl, SqL.of hacc, by rw [hv']; exact Nat.zero_lt_succ _, fun mx hm hle => ?_⟩
      rw [hv'] at hm hle
      have hb : decide (1 < mx) = (decide (Txt.count z "*" > 1) || (decide (Txt.count z "1" > 1) || decide (Txt.count z "2" > 1))) := by
        have q1 := hle (Txt.count z "*") (by simp)
        have q2 := hle (Txt.count z "1") (by simp)
        have q3 := hle (Txt.count z "2") (by simp)
        by_cases h3 : 1 < mx
        · have : Txt.count z "*" > 1 ∨ Txt.count z "1" > 1 ∨ Txt.count z "2" > 1 := by
            simp only [List.mem_cons, List.not_mem_nil, or_false] at hm
            rcases hm with rfl | rfl | rfl
            · exact .inl h3
            · exact .inr (.inl h3)
            · exact .inr (.inr h3)
          rw [decide_eq_true h3]
          rcases this with h | h | h <;> simp [h]
        · rw [decide_eq_false h3, decide_eq_false (by omega), decide_eq_false (by omega), decide_eq_false (by omega)]; rfl
      walk_at "rd"
      refine ite2 (fun h3 => ?_) (fun h3 => ?_)
      · refine iteT (kf ?_ _ s1)
        have h3' : decide (1 < mx) = true := h3
        unfold wholeZ
        rw [h1', h2', ← hb, h3']; rfl
      have h3' : decide (1 < mx) = false := by simpa using h3
      refine ⟨_, rfl, 50, z, rfl, rfl, _, rfl, ?_⟩
      refine ite2 (fun h4 => ?_) (fun h4 => ?_)
      · have h4' : decide (50 ∈ z.cps.toList) = true := h4
        refine ⟨_, rfl, 49, z, rfl, rfl, _, rfl, ?_⟩
        refine ite2 (fun h5 => ?_) (fun h5 => ?_)
        · have h5' : decide (49 ∈ z.cps.toList) = false := by simpa using h5
          refine kf ?_ _ s1
          unfold wholeZ
          rw [h1', h2', ← hb, h3', h4', h5']; rfl
        · have hc : (decide (50 ∈ z.cps.toList) && !decide (49 ∈ z.cps.toList)) = false := by
            have h5' : decide (49 ∈ z.cps.toList) = true := by simpa using h5
            rw [h4', h5']; rfl
          refine ⟨_, rfl, ⟨_, rfl⟩, z, "o", rfl, rfl, ?_⟩
          walk_at "rd"
          refine ite2 (fun h6 => ?_) (fun h6 => ?_)
          · have h6' : decide (Txt.count z "o" ≤ 3) = true := h6
            walk_at "rd"
            refine ⟨z, "abAB", rfl, by decide +kernel, fun H2 s2 => ?_⟩
            walk_at "rd"
            have := k H2 (s1.trans s2)
            unfold wholeZ at this
            rw [h1', h2', ← hb, h3', hc, h6'] at this
            exact this
          · have h6' : decide (Txt.count z "o" ≤ 3) = false := by simpa using h6
            refine kf ?_ _ s1
            unfold wholeZ
            rw [h1', h2', ← hb, h3', hc, h6']; rfl
      · have hc : (decide (50 ∈ z.cps.toList) && !decide (49 ∈ z.cps.toList)) = false := by
          have h4' : decide (50 ∈ z.cps.toList) = false := by simpa using h4
          rw [h4']; rfl
        refine ⟨_, rfl, ⟨_, rfl⟩, z, "o", rfl, rfl, ?_⟩
        walk_at "rd"
        refine ite2 (fun h6 => ?_) (fun h6 => ?_)
        · have h6' : decide (Txt.count z "o" ≤ 3) = true := h6
          walk_at "rd"
          refine ⟨z, "abAB", rfl, by decide +kernel, fun H2 s2 => ?_⟩
          walk_at "rd"
          have := k H2 (s1.trans s2)
          unfold wholeZ at this
          rw [h1', h2', ← hb, h3', hc, h6'] at this
          exact this
        · have h6' : decide (Txt.count z "o" ≤ 3) = false := by simpa using h6
          refine kf ?_ _ s1
          unfold wholeZ
          rw [h1', h2', ← hb, h3', hc, h6']; rfl
end
end K11
end
section
set_option Elab.async false
set_option linter.all false
set_option maxRecDepth 100000
set_option maxHeartbeats 2000000
namespace K11
open PySem L2
local macro_rules | `(tactic| walk_at "hp") => `(tactic| first | assumption | exact upd_same | (refine (upd_ne (by first | assumption | (apply Ne.symm; assumption))).trans ?_; walk_at "hp"))
local macro_rules | `(tactic| walk_at "rd1") => `(tactic| first
  | (refine ⟨_, rfl, ?_⟩)
  | (refine ⟨_, _, rfl, rfl, ?_⟩)
  | (refine ⟨(rfl : scal _ _ = true), ?_⟩)
  | (refine And.intro (by show (0 : Int) < _; decide) ?_)
  | (refine And.intro (And.intro (by decide) (by decide)) ?_)
  | (refine And.intro (by assumption) ?_)
  | (refine Or.inl ⟨_, rfl, ?_⟩))
local macro_rules | `(tactic| walk_at "rd") => `(tactic| repeat walk_at "rd1")
section
variable {P : Program} {w : World} {K : PySem.W.Frag} {mg : Str → Option Value} {base : Heap}
/-- where this sign stands, ascending, up to the n-th sign -/
def placesL (z : Str) (c n : Nat) : List Int := ((List.range n).filter fun i => decide (z.cps[i]? = some c)).map Int.ofNat
theorem placesL_le (z : Str) (c n : Nat) : (placesL z c n).length ≤ n := by
  unfold placesL
  rw [List.length_map]
  exact Nat.le_trans (List.length_filter_le _ _) (Nat.le_of_eq List.length_range)
theorem placesL_yes {z : Str} {c n : Nat} (h : z.cps[n]? = some c) : placesL z c (n + 1) = placesL z c n ++ [(n : Int)] := by
  unfold placesL
  rw [List.range_succ, List.filter_append, List.map_append]
  simp [h]
theorem placesL_no {z : Str} {c n : Nat} (h : ¬ z.cps[n]? = some c) : placesL z c (n + 1) = placesL z c n := by
  unfold placesL
  rw [List.range_succ, List.filter_append, List.map_append]
  simp [h]
def spPlaces : Sp := fun vs H Q _ => ∃ (z : Str) (c : Nat), vs = [.str z, .str ⟨#[c]⟩] ∧ z.length ≤ 1000 ∧ ∀ t H', H t = none → Same H H' → H' t = some (.tup ((placesL z c z.length).map V.int)) → Q (.ref t) H'
theorem ok_places {f : Addr} {fd : FuncData} (F : Fun K "_places" "_places" s__places f fd) (T : Rb mg) : FnG P w K mg base (CXe P w) 1 f fd ["cells", "mark"] spPlaces := by
  refine F.okG sc__places (fun vs H Q E h => ?_) (fun cdv A outer s H vs Q E hgd hr h => ?_)
  · obtain ⟨z, c, rfl, _⟩ := h; rfl
  · obtain ⟨z, c, rfl, hz, k⟩ := h
    refine ⟨_, (pss_one (ps_ret (pe_callTy call_tuple_of (by rfl) T.n_tuple (by decide +kernel) (pa_cons (pe_lc (own := [("cell", 2)]) (g := gName 2) rfl sc__places.nd (pi_range1 (by rfl) T.n_range (pa_cons (pe_callB call_len_str (by rfl) T.n_len (by decide +kernel) (pa_cons (pv 0) pa_nil)) pa_nil)) (blkOk_by (own := [("cell", 2)]) (N := ["cells", "mark", "cell"]) (sc := defScope s__places) (by decide +kernel)) (fun _ _ _ _ _ => pg_name (i := 2) sc__places.nd rfl (Or.inl rfl)) (fun _ _ _ _ _ => pts_one (pt_cmpR op_eq (pe_ix ix_str (pv 0) (pv 2) (fun _ _ => rfl)) (pv 1) (nomark _))) (fun _ _ _ _ _ => (pv 2))) pa_nil)))), ?_⟩
    walk_at "rd"
    refine And.intro (Nat.le_trans hz (by decide)) ?_
    refine ⟨_, rfl, by omega, by omega, ?_⟩
    rw [Int.toNat_natCast]
    refine fun D hD => lc_it walk_range (fun i H' => H' D = some (.lst ((placesL z c i).map V.int)) ∧ Off (fun b => b = D) H H') ⟨upd_same, Off.new hD⟩ (fun _ _ _ _ => trivial) ?_ ?_
    · rintro i x H1 H2 hi ⟨hacc, off⟩ ⟨rfl, rfl⟩
      refine And.intro rfl ?_
      obtain ⟨ci, hci⟩ : ∃ ci, z.cps[i]? = some ci := ⟨z.cps[i]'hi, Array.getElem?_eq_getElem hi⟩
      refine ⟨_, rfl, _, rfl, z, 0 + (i : Int), ci, rfl, rfl, Nat.le_trans hz (by decide), ?_, _, rfl, (rfl : scal _ _ = true), ?_⟩
      · have := atI_nat (xs := z.cps.toList) (j := i) (v := ci) (by simpa using hci)
        rwa [show (0 : Int) + (i : Int) = (i : Int) by omega]
      refine ⟨_, rfl, ?_⟩
      refine ite2 (fun h1 => ?_) (fun h1 => ?_)
      · have hc : ci = c := by simpa using h1
        subst hc
        refine ⟨_, rfl, _, hacc, ?_, ?_, off.trans (Off.mut rfl)⟩
        · rw [List.length_map]
          exact small1000 (Nat.le_trans (placesL_le z _ i) (by have := hi; have : i < z.length := hi; omega))
        · rw [upd_same, placesL_yes hci, List.map_append]
          simp
      · have hc : ¬ ci = c := by simpa using h1
        exact ⟨by rw [placesL_no (by rw [hci]; simpa using hc)]; exact hacc, off⟩
    · rintro H1 ⟨hacc, off⟩
      have s1 : Same H H1 := fun b o e => off b o (fun y => by rw [y, hD] at e; cases e) e
      refine ⟨D, _, rfl, .inl ⟨SqL.of hacc, fun t ht => ?_⟩⟩
      exact k t _ (s1.free ht) (fun b o e => by rw [upd_ne (ne_of_none (s1 _ _ e) ht)]; exact s1 _ _ e) upd_same
/-- rows as a room has them: each of this width -/
structure RowsOk (rows : List Str) (wd : Nat) : Prop where
  h1 : 1 ≤ rows.length
  h5 : rows.length ≤ 5
  w1 : 1 ≤ wd
  w6 : wd ≤ 6
  al : ∀ r ∈ rows, r.length = wd
def codeAt (rows : List Str) (l p : Nat) : Option Nat := (rows[l]?).bind fun r => r.cps[p]?
/-- the cell beside the i-th, this much down and across, or -1 -/
def neigh (rows : List Str) (wd : Nat) (d a : Int) (i : Nat) : Int :=
  if (0 ≤ ((i / wd : Nat) : Int) + d ∧ ((i / wd : Nat) : Int) + d < rows.length) ∧ (0 ≤ ((i % wd : Nat) : Int) + a ∧ ((i % wd : Nat) : Int) + a < wd) ∧ codeAt rows (((i / wd : Nat) : Int) + d).toNat (((i % wd : Nat) : Int) + a).toNat ≠ some 35
  then (((i / wd : Nat) : Int) + d) * wd + (((i % wd : Nat) : Int) + a) else -1
def neighL (rows : List Str) (wd : Nat) (d a : Int) (n : Nat) : List Int := (List.range n).map (neigh rows wd d a)
def spNeigh (K : PySem.W.Frag) : Sp := fun vs H Q _ => ∃ (t : Addr) (rows : List Str) (wd : Nat) (d a : Int), vs = [.ref t, .int d, .int a] ∧ RowsOk rows wd ∧ H t = some (.tup (rows.map V.str)) ∧ -1 ≤ d ∧ d ≤ 1 ∧ -1 ≤ a ∧ a ≤ 1 ∧
  ∀ q H', H q = none → Same H H' → H' q = some (.tup ((neighL rows wd d a (rows.length * wd)).map V.int)) → Q (.ref q) H'
theorem ok_neigh {f : Addr} {fd : FuncData} (F : Fun K "_neighbours" "_neighbours" s__neighbours f fd) (T : Rb mg) : FnG P w K mg base (CXe P w) 1 f fd ["rows", "down", "across"] (spNeigh K) := by
  refine F.okG sc__neighbours (fun vs H Q E h => ?_) (fun cdv A outer s H vs Q E hgd hr h => ?_)
  · obtain ⟨t, rows, wd, d, a, rfl, _⟩ := h; rfl
  · obtain ⟨t, rows, wd, d, a, rfl, R, ht, d1, d2, a1, a2, k⟩ := h
    refine ⟨_, (pss_cons (ps_set (i := 3) sc__neighbours.nd rfl (Or.inl rfl) (pe_callB call_len_str (by rfl) T.n_len (by decide +kernel) (pa_cons (pe_ix ix_tup (pv 0) pe_int (fun _ _ => rfl)) pa_nil)))
      (pss_cons (ps_set (i := 4) sc__neighbours.nd rfl (Or.inl rfl) (pe_lstA pa_nil))
      (pss_cons (ps_for (passes_of rfl) rfl (pi_range1 (by rfl) T.n_range (pa_cons (pe_op op_mul (pe_callB call_len_seq (by rfl) T.n_len (by decide +kernel) (pa_cons (pv 0) pa_nil)) (pv 3)) pa_nil)) (pg_name (i := 5) sc__neighbours.nd rfl (Or.inl rfl))
      (pss_cons (ps_par (i := 6) (j := 7) (by rfl) sc__neighbours.nd rfl rfl (by decide) rfl rfl (pa_cons (pe_op op_add (pe_op op_fdivN (pv 5) (pv 3)) (pv 1)) (pa_cons (pe_op op_add (pe_op op_mod (pv 5) (pv 3)) (pv 2)) pa_nil)) (by rfl))
      (C8.pss_cut (ps_set (i := 8) sc__neighbours.nd rfl (Or.inl rfl) (pe_and (pe_chain op_le op_lt pe_int (pv 6) (pe_callB call_len_seq (by rfl) T.n_len (by decide +kernel) (pa_cons (pv 0) pa_nil))) (pe_and (pe_chain op_le op_lt pe_int (pv 7) (pv 3)) (pe_one (pe_cmpR op_ne (pe_ix ix_str (pe_ix ix_tup (pv 0) (pv 6) (fun _ _ => rfl)) (pv 7) (fun _ _ => rfl)) pe_str (nomark _))))))
      (pss_one (ps_expr (pe_bm PySem.F.plainAttrs_list PySem.F.slot_list_append PySem.F.type_list_append mt_append (pv 4) (pa_cons (pe_ifExp (pt_val (pv 8)) (pe_op op_add (pe_op op_mul (pv 6) (pv 3)) (pv 7)) (pe_un un_neg pe_int)) pa_nil)))))))
      (pss_one (ps_ret (pe_callTy call_tuple_of (by rfl) T.n_tuple (by decide +kernel) (pa_cons (pv 4) pa_nil))))))), ?_⟩
    obtain ⟨r0, rest, hrows⟩ : ∃ r0 rest, rows = r0 :: rest := by
      have := R.h1
      cases rows with
      | nil => cases this
      | cons x y => exact ⟨x, y, rfl⟩
    have l0 : r0.length = wd := R.al r0 (by rw [hrows]; simp)
    walk_at "rd"
    refine ⟨t, _, 0, .str r0, rfl, rfl, SqT.of ht, atI_nat (xs := rows.map V.str) (j := 0) (v := .str r0) (by rw [hrows]; rfl), ?_⟩
    walk_at "rd"
    refine And.intro (by rw [l0]; have := R.w6; exact Nat.le_of_lt (small1000 (by omega))) ?_
    rw [l0]
    refine And.intro (Nat.le_of_ble_eq_true rfl) (fun D H1 n1 => ?_)
    have ht1 := n1.same _ _ ht
    walk_at "rd"
    refine ⟨t, _, rfl, .inr (SqT.of ht1), ?_⟩
    rw [List.length_map]
    walk_at "rd"
    have b5 := R.h5
    have b6 := R.w6
    have bw := R.w1
    have bn : rows.length * wd ≤ 5 * 6 := Nat.mul_le_mul b5 b6
    refine And.intro (.inl ⟨by omega, by omega⟩) ?_
    have en : (rows.length : Int) * (wd : Int) = ((rows.length * wd : Nat) : Int) := by simp
    refine ⟨((rows.length * wd : Nat) : Int), by rw [← en], by omega, by omega, ?_⟩
    rw [Int.toNat_natCast]
    refine for_range (n := rows.length * wd) (fun i σ H' => ∃ (cv lv pv iv : Option V), σ = [some (.ref t), some (.int d), some (.int a), some (.int wd), some (.ref D), cv, lv, pv, iv] ∧ H' D = some (.lst ((neighL rows wd d a i).map V.int)) ∧ Off (fun b => b = D) H1 H') ⟨none, none, none, none, rfl, n1.at_, Off.refl _⟩ ?_ ?_
    · rintro i σ H2 hi ⟨cv, lv, pv, iv, rfl, hacc, off⟩
      have hD2 : ∀ b o, H b = some o → H2 b = some o := fun b o e => off b o (fun y => by rw [y, n1.free] at e; cases e) (n1.same _ _ e)
      have ht2 := hD2 _ _ ht
      have eL : (0 + (i : Int)).fdiv (wd : Int) = ((i / wd : Nat) : Int) := by
        rw [Int.fdiv_eq_ediv_of_nonneg _ (by omega), show (0 : Int) + (i : Int) = (i : Int) by omega]
        exact (Int.natCast_ediv i wd).symm
      have eP : (0 + (i : Int)) % (wd : Int) = ((i % wd : Nat) : Int) := by
        rw [show (0 : Int) + (i : Int) = (i : Int) by omega]
        exact (Int.natCast_emod i wd).symm
      walk_at "rd"
      refine And.intro (And.intro (by omega) (by omega)) ?_
      walk_at "rd"
      refine And.intro (by omega) ?_
      walk_at "rd"
      obtain ⟨L, hL⟩ : ∃ L : Int, L = ((i / wd : Nat) : Int) + d := ⟨_, rfl⟩
      obtain ⟨Pp, hP⟩ : ∃ Pp : Int, Pp = ((i % wd : Nat) : Int) + a := ⟨_, rfl⟩
      refine ⟨.int L, .int Pp, (by show [V.int ((0 + (i : Int)).fdiv wd + d), V.int ((0 + (i : Int)) % wd + a)] = _; rw [eL, eP, ← hL, ← hP]), ?_⟩
      obtain ⟨Cp, hC⟩ : ∃ C : Bool, C = decide ((0 ≤ L ∧ L < rows.length) ∧ (0 ≤ Pp ∧ Pp < wd) ∧ codeAt rows L.toNat Pp.toNat ≠ some 35) := ⟨_, rfl⟩
      have hNo : ¬ ((0 ≤ L ∧ L < rows.length) ∧ (0 ≤ Pp ∧ Pp < wd) ∧ codeAt rows L.toNat Pp.toNat ≠ some 35) → Cp = false := fun z => by rw [hC]; exact decide_eq_false z
      refine ⟨fun σ' H' => H' = H2 ∧ σ' = [some (.ref t), some (.int d), some (.int a), some (.int wd), some (.ref D), some (.int (0 + (i : Nat))), some (.int L), some (.int Pp), some (.bl Cp)], ?_, ?_⟩
      · walk_at "rd"
        refine ite2 (fun q1 => ?_) (fun q1 => ?_)
        · have q1' : 0 ≤ L := by simpa using q1
          refine ⟨_, rfl, t, _, rfl, .inr (SqT.of ht2), _, _, rfl, rfl, _, rfl, ?_⟩
          rw [List.length_map]
          refine ite2 (fun q2 => ?_) (fun q2 => ?_)
          · have q2' : L < rows.length := by simpa using q2
            walk_at "rd"
            refine ite2 (fun q3 => ?_) (fun q3 => ?_)
            · have q3' : 0 ≤ Pp := by simpa using q3
              refine ⟨_, rfl, _, _, rfl, rfl, _, rfl, ?_⟩
              refine ite2 (fun q4 => ?_) (fun q4 => ?_)
              · have q4' : Pp < wd := by simpa using q4
                obtain ⟨r, hr⟩ : ∃ r, rows[L.toNat]? = some r := ⟨_, List.getElem?_eq_getElem (by omega)⟩
                have lr : r.length = wd := R.al r (List.mem_of_getElem? hr)
                obtain ⟨ci, hci⟩ : ∃ ci, r.cps[Pp.toNat]? = some ci := ⟨_, Array.getElem?_eq_getElem (by show Pp.toNat < r.length; omega)⟩
                refine ⟨_, rfl, _, rfl, t, _, L, .str r, rfl, rfl, SqT.of ht2, ?_, _, rfl, r, Pp, ci, rfl, rfl, by rw [lr]; exact Nat.le_of_lt (small1000 (by omega)), ?_, ?_⟩
                · have := atI_nat (xs := rows.map V.str) (j := L.toNat) (v := .str r) (by rw [List.getElem?_map, hr]; rfl)
                  rwa [Int.toNat_of_nonneg q1'] at this
                · have := atI_nat (xs := r.cps.toList) (j := Pp.toNat) (v := ci) (by simpa using hci)
                  rwa [Int.toNat_of_nonneg q3'] at this
                refine ⟨(rfl : scal _ _ = true), ?_⟩
                have e : Cp = !decide (V.str ⟨#[ci]⟩ = V.str "#") := by
                  have ec : codeAt rows L.toNat Pp.toNat = some ci := by unfold codeAt; rw [hr]; exact hci
                  have e2 : (V.str ⟨#[ci]⟩ = V.str "#") ↔ ci = 35 := by
                    have : ("#" : Str) = ⟨#[35]⟩ := by decide +kernel
                    rw [this]; simp
                  rw [hC, ec]
                  by_cases h35 : ci = 35
                  · rw [decide_eq_true (e2.mpr h35)]
                    exact decide_eq_false (fun z => z.2.2 (by rw [h35]))
                  · rw [decide_eq_false (fun z => h35 (e2.mp z))]
                    exact decide_eq_true ⟨⟨q1', q2'⟩, ⟨q3', q4'⟩, fun z => h35 (Option.some.inj z)⟩
                exact ⟨rfl, by rw [e]; rfl⟩
              · have q4' : ¬ Pp < wd := by simpa using q4
                exact ⟨rfl, by rw [hNo fun z => q4' z.2.1.2]; rfl⟩
            · have q3' : ¬ 0 ≤ Pp := by simpa using q3
              exact ⟨_, rfl, iteF ⟨rfl, by rw [hNo fun z => q3' z.2.1.1]; rfl⟩⟩
          · have q2' : ¬ L < rows.length := by simpa using q2
            exact ⟨rfl, by rw [hNo fun z => q2' z.1.2]; rfl⟩
        · have q1' : ¬ 0 ≤ L := by simpa using q1
          exact ⟨_, rfl, iteF ⟨rfl, by rw [hNo fun z => q1' z.1.1]; rfl⟩⟩
      · rintro σ' H3 ⟨rfl, rfl⟩
        walk_at "rd"
        have nx : neighL rows wd d a (i + 1) = neighL rows wd d a i ++ [neigh rows wd d a i] := by
          unfold neighL
          rw [List.range_succ, List.map_append]; rfl
        have ll : (neighL rows wd d a i).length = i := by unfold neighL; simp
        have hi30 : i < 30 := by omega
        refine And.intro (.inl ⟨rfl, _, SqL.of hacc⟩) ?_
        refine ⟨_, rfl, Cp, rfl, ?_⟩
        cases hb : Cp with
        | true =>
          have hcond : (0 ≤ L ∧ L < rows.length) ∧ (0 ≤ Pp ∧ Pp < wd) ∧ codeAt rows L.toNat Pp.toNat ≠ some 35 := by
            rw [hb] at hC
            exact of_decide_eq_true hC.symm
          have en2 : neigh rows wd d a i = L * wd + Pp := by
            unfold neigh
            rw [← hL, ← hP, if_pos hcond]
          refine iteT ?_
          walk_at "rd"
          refine And.intro (.inr ⟨by omega, by omega⟩) ?_
          walk_at "rd"
          refine ⟨D, _, _, rfl, rfl, hacc, ?_, ?_⟩
          · rw [List.length_map]
            exact small1000 (by rw [ll]; omega)
          · refine ⟨_, _, _, _, rfl, ?_, off.trans (Off.mut rfl)⟩
            rw [upd_same, nx, List.map_append]
            rw [en2]; rfl
        | false =>
          have en2 : neigh rows wd d a i = -1 := by
            unfold neigh
            rw [← hL, ← hP, if_neg]
            rw [hb] at hC
            exact of_decide_eq_false hC.symm
          refine iteF ?_
          walk_at "rd"
          refine ⟨D, _, _, rfl, rfl, hacc, ?_, ?_⟩
          · rw [List.length_map]
            exact small1000 (by rw [ll]; omega)
          · refine ⟨_, _, _, _, rfl, ?_, off.trans (Off.mut rfl)⟩
            rw [upd_same, nx, List.map_append]
            rw [en2]; rfl
    · rintro σ H2 ⟨cv, lv, pv, iv, rfl, hacc, off⟩
      walk_at "rd"
      have s1 : Same H H2 := fun b o e => off b o (fun y => by rw [y, n1.free] at e; cases e) (n1.same _ _ e)
      refine ⟨D, _, rfl, .inl ⟨SqL.of hacc, fun t ht => ?_⟩⟩
      exact k t _ (s1.free ht) (fun b o e => by rw [upd_ne (ne_of_none (s1 _ _ e) ht)]; exact s1 _ _ e) upd_same
end
end K11
end
section
set_option Elab.async false
set_option linter.all false
set_option maxRecDepth 100000
set_option maxHeartbeats 2000000
namespace K11
open PySem L2
local macro_rules | `(tactic| walk_at "hp") => `(tactic| first | assumption | exact upd_same | (refine (upd_ne (by first | assumption | (apply Ne.symm; assumption))).trans ?_; walk_at "hp"))
local macro_rules | `(tactic| walk_at "rd1") => `(tactic| first
  | (refine ⟨_, rfl, ?_⟩)
  | (refine ⟨_, _, rfl, rfl, ?_⟩)
  | (refine ⟨(rfl : scal _ _ = true), ?_⟩)
  | (refine And.intro (by show (0 : Int) < _; decide) ?_)
  | (refine And.intro (And.intro (by decide) (by decide)) ?_)
  | (refine And.intro (by assumption) ?_)
  | (refine Or.inl ⟨_, rfl, ?_⟩))
local macro_rules | `(tactic| walk_at "rd") => `(tactic| repeat walk_at "rd1")
theorem kitAny_ty {K : PySem.W.Frag} {n : String} {b1 b2 : Bool} (h1 : kitB n "list" = some b1) (h2 : kitB n "tuple" = some b2) : PySem.W.kitAny K (.type n) [.type "list", .type "tuple"] = some (b1 || b2) := by
  have e1 : PySem.W.kitOne K (.type n) (.type "list") = some b1 := kit_ty h1
  have e2 : PySem.W.kitOne K (.type n) (.type "tuple") = some b2 := kit_ty h2
  unfold PySem.W.kitAny
  rw [e1]
  cases b1 with
  | true => rfl
  | false =>
    unfold PySem.W.kitAny
    rw [e2]
    cases b2 <;> rfl
/-- a row of a room, of any kind of thing -/
def lineOk : V → Bool
  | .str s => lineS s
  | _ => false
def vlen : V → Nat
  | .str s => s.length
  | _ => 0
def isStr : V → Bool
  | .str _ => true
  | _ => false
def badAt (xs : List V) (i : Nat) : Bool := match xs[i]?, xs[i - 1]? with
  | some y, some x => !lineOk y || decide (vlen y ≠ vlen x)
  | _, _ => true
/-- the first fault of the rows, told -/
def rowsFault (xs : List V) : Option Int := if 1 ≤ xs.length ∧ xs.length ≤ 5 then ((List.range xs.length).find? (badAt xs)).map Int.ofNat else some (-1)
structure Elem (M : Addr → Prop) (H : Hp) (y : V) : Prop where
  dr : ∃ L d, Dr L M H y d
  sz : ∀ s, y = .str s → s.length ≤ sizeLine
theorem Elem.keep {M : Addr → Prop} {H H' : Hp} {y : V} (e : Elem M H y) (o : Off M H H') : Elem M H' y := ⟨let ⟨L, d, h⟩ := e.dr; ⟨L, d, h.keep o⟩, e.sz⟩
theorem Elem.ty {K : PySem.W.Frag} {M : Addr → Prop} {H : Hp} {y : V} (e : Elem M H y) : ∃ t, TyX K H y t ∧ PySem.W.kitOne K t (.type "str") = some (isStr y) := by
  obtain ⟨L, d, h⟩ := e.dr
  cases h with
  | non => exact ⟨_, .base .non, kit_ty (by decide +kernel)⟩
  | bl b => exact ⟨_, .base (.bl b), kit_ty (show kitB "bool" "str" = some false by decide +kernel)⟩
  | int i => exact ⟨_, .base (.int i), kit_ty (show kitB "int" "str" = some false by decide +kernel)⟩
  | str x => exact ⟨_, .base (.str x), kit_ty (show kitB "str" "str" = some true by decide +kernel)⟩
  | lst q => exact ⟨_, .base (.lst q), kit_ty (show kitB "list" "str" = some false by decide +kernel)⟩
  | tup q => exact ⟨_, .base (.tup q), kit_ty (show kitB "tuple" "str" = some false by decide +kernel)⟩
  | dct q => exact ⟨_, .base (.dK q), kit_ty (show kitB "dict" "str" = some false by decide +kernel)⟩
section
variable {P : Program} {w : World} {K : PySem.W.Frag} {mg : Str → Option Value} {base : Heap} {CB fB : Addr}
def spNeed (K : PySem.W.Frag) (CB : Addr) : Sp := fun vs H Q E => ∃ (v : V) (M : Addr → Prop), vs = [v] ∧
  ((∃ t, (∀ H', Same H H' → TyX K H' v t) ∧ PySem.W.kitAny K t [.type "list", .type "tuple"] = some false ∧ ∀ H' d, Same H H' → H' d = none → E (.ref CB) (some d) (upd H' d (.xd [("value", .int (-1))]))) ∨
   (∃ a xs, v = .ref a ∧ (H a = some (.lst xs) ∨ H a = some (.tup xs)) ∧ (∀ y ∈ xs, Elem M H y) ∧ (∀ i, rowsFault xs = some i → ∀ H' d, Same H H' → H' d = none → E (.ref CB) (some d) (upd H' d (.xd [("value", .int i)]))) ∧
     (rowsFault xs = none → ∀ H', Same H H' → Q .non H')))
structure RoomT (P : Program) (K : PySem.W.Frag) (mg : Str → Option Value) (CB fB : Addr) : Prop extends Rb mg where
  x_BadRoom : RX.ErrT P K mg "BadRoom" "value" CB fB
theorem ok_need {f : Addr} {fd : FuncData} (F : Fun K "_need_lines" "_need_lines" s__need_lines f fd) (T : RoomT P K mg CB fB) (c_is_row : CalG P w K mg base 1 "is_row" (spIsRow K)) (c__is_line : CalG P w K mg base 1 "_is_line" (spIsLine K)) : FnG P w K mg base (CXe P w) 3 f fd ["rows"] (spNeed K CB) := by
  refine F.okG sc__need_lines (fun vs H Q E h => ?_) (fun cdv A outer s H vs Q E hgd hr h => ?_)
  · obtain ⟨v, M, rfl, _⟩ := h; rfl
  · obtain ⟨v, M, rfl, h⟩ := h
    refine ⟨_, (pss_cons (ps_if (PW.pt (pw_or (pt_not (pt_val (pg_c c_is_row hgd hr (by decide) (pa_cons (pv 0) pa_nil)))) (pw_or1 (pt_not (pt_chain op_le op_le pe_int (pe_callB call_len_seq (by rfl) T.n_len (by decide +kernel) (pa_cons (pv 0) pa_nil)) (pe_glob (v := .int 5) rfl (Exists.choose_spec T.k_MOST_LINES) ⟨_, rfl⟩)))))) (pss_one (ps_raiseErr rfl T.x_BadRoom hr (takes_of rfl rfl rfl rfl) (pa_cons (pe_un un_neg pe_int) pa_nil))) pss_nil)
      (pss_one (ps_for (passes_of rfl) rfl (pi_enum2 (by rfl) T.n_enumerate (pa_cons (pv 0) pa_nil)) (pg_tup (by rfl) (pgs_cons (pg_name (i := 1) sc__need_lines.nd rfl (Or.inl rfl)) (pgs_cons (pg_name (i := 2) sc__need_lines.nd rfl (Or.inl rfl)) pgs_nil)))
      (pss_one (ps_if (PW.pt (pw_or (pt_not (pt_val (pg_c c__is_line hgd hr (by decide) (pa_cons (pv 2) pa_nil)))) (pw_or1 (pt_cmpR op_ne (pe_callB call_len_str (by rfl) T.n_len (by decide +kernel) (pa_cons (pv 2) pa_nil)) (pe_callB call_len_str (by rfl) T.n_len (by decide +kernel) (pa_cons (pe_ix ix_seq (pv 0) (pe_callB (call_max2 rfl) (by rfl) T.n_max (by decide +kernel) (pa_cons (pe_op op_sub (pv 1) pe_int) (pa_cons pe_int pa_nil))) (fun _ _ => rfl)) pa_nil)) (nomark _))))) (pss_one (ps_raiseErr rfl T.x_BadRoom hr (takes_of rfl rfl rfl rfl) (pa_cons (pv 1) pa_nil))) pss_nil))))), ?_⟩
    walk_at "rd"
    rcases h with ⟨t, ty, e, kE⟩ | ⟨a, xs, rfl, hx, hel, kE, kQ⟩
    · refine ⟨v, t, false, rfl, ty _ (Same.refl _), ty, e, fun H1 s1 => ?_⟩
      refine ⟨_, rfl, ?_⟩
      exact iteT (iteT ⟨1, rfl, _, rfl, fun d hd => kE H1 d s1 hd⟩)
    · obtain ⟨t, tyx, ek⟩ : ∃ t, (∀ H', Same H H' → TyX K H' (.ref a) t) ∧ PySem.W.kitAny K t [.type "list", .type "tuple"] = some true := by
        rcases hx with q | q
        · exact ⟨_, fun H' s' => .base (.lst (s' _ _ q)), kitAny_ty (show kitB "list" "list" = some true by decide +kernel) (show kitB "list" "tuple" = some false by decide +kernel)⟩
        · exact ⟨_, fun H' s' => .base (.tup (s' _ _ q)), kitAny_ty (show kitB "tuple" "list" = some false by decide +kernel) (show kitB "tuple" "tuple" = some true by decide +kernel)⟩
      refine ⟨.ref a, t, true, rfl, tyx _ (Same.refl _), tyx, ek, fun H1 s1 => ?_⟩
      refine ⟨_, rfl, ?_⟩
      refine iteF ?_
      walk_at "rd"
      have sq : ∀ H', Same H H' → SqL K H' a xs ∨ SqT K H' a xs := fun H' s' => hx.imp (fun q => SqL.of (s' _ _ q)) (fun q => SqT.of (s' _ _ q))
      refine ⟨a, xs, rfl, sq _ s1, ?_⟩
      have out : ¬ (1 ≤ xs.length ∧ xs.length ≤ 5) → rowsFault xs = some (-1) := fun z => by unfold rowsFault; rw [if_neg z]
      refine ⟨_, _, rfl, rfl, _, rfl, ?_⟩
      refine ite2 (fun q1 => ?_) (fun q1 => ?_)
      · refine ⟨_, _, rfl, rfl, _, rfl, ?_⟩
        refine ite2 (fun q2 => ?_) (fun q2 => ?_)
        · have hf := out (fun z => by
            have : ¬ (xs.length : Int) ≤ 5 := by simpa using q2
            omega)
          exact ⟨1, rfl, _, rfl, fun d hd => kE _ hf H1 d s1 hd⟩
        · have l1 : 1 ≤ xs.length := by
            have : (1 : Int) ≤ (xs.length : Int) := by simpa using q1
            omega
          have l5 : xs.length ≤ 5 := by
            have : (xs.length : Int) ≤ 5 := by simpa using q2
            omega
          refine ⟨_, rfl, a, xs, rfl, sq _ s1, fun J G wk hG => for_it wk (fun i σ H' => ∃ (o1 o2 : Option V), σ = [some (.ref a), o1, o2] ∧ Same H1 H' ∧ ∀ j, j < i → badAt xs j = false) ⟨none, none, rfl, Same.refl _, fun j hj => absurd hj (Nat.not_lt_zero _)⟩ (fun i σ H' _ hp => hG H' (let ⟨_, _, _, s', _⟩ := hp; s')) ?_ ?_⟩
          · rintro i x σ H2 H3 hi ⟨o1, o2, rfl, s2, hb⟩ ⟨T, x1, y1, rfl, hT, rfl, e1, e2⟩
            cases e1
            have e2 : xs[i]? = some y1 := e2
            have s3 : Same H2 (upd H2 T (.tup [.int (i : Nat), y1])) := same_new hT
            have s03 := (s1.trans s2).trans s3
            have first : badAt xs i = true → rowsFault xs = some ((i : Nat) : Int) := fun hbi => by
              unfold rowsFault
              rw [if_pos ⟨l1, l5⟩, List.find?_range_eq_some.mpr ⟨hbi, List.mem_range.mpr hi, fun j hj => by rw [hb j hj]; rfl⟩]
              rfl
            have ey : Elem M (upd H2 T (.tup [.int (i : Nat), y1])) y1 := (hel y1 (List.mem_of_getElem? e2)).keep (Off.same s03)
            have rz : badAt xs i = true → ∀ d, (upd H2 T (.tup [.int (i : Nat), y1])) d = none → E (.ref CB) (some d) (upd (upd H2 T (.tup [.int (i : Nat), y1])) d (.xd [("value", .int (i : Nat))])) := fun hbi d hd => kE _ (first hbi) _ d s03 hd
            refine ⟨T, _, rfl, SqT.of upd_same, rfl, _, _, rfl, _, _, rfl, rfl, ?_⟩
            obtain ⟨t1, ty1, ek1⟩ := ey.ty (K := K)
            refine ⟨_, rfl, y1, t1, _, rfl, ty1, ek1, fun hn => ?_, fun hy => ?_⟩
            · have hb0 : badAt xs i = true := by
                have hl : lineOk y1 = false := by cases y1 <;> first | rfl | cases hn
                unfold badAt
                rw [e2]
                cases xs[i - 1]? with
                | none => rfl
                | some y => show (!lineOk y1 || _) = true; rw [hl]; rfl
              exact ⟨_, rfl, iteT (iteT ⟨_, rfl, _, rfl, fun d hd => rz hb0 d hd⟩)⟩
            · obtain ⟨z, rfl⟩ : ∃ z, y1 = .str z := by cases y1 <;> first | exact ⟨_, rfl⟩ | cases hy
              refine ⟨z, rfl, ey.sz z rfl, _, rfl, ?_⟩
              cases hl : lineS z with
              | false =>
                have hb0 : badAt xs i = true := by
                  unfold badAt
                  rw [e2]
                  cases xs[i - 1]? with
                  | none => rfl
                  | some y => show (!lineS z || _) = true; rw [hl]; rfl
                exact iteT (iteT ⟨_, rfl, _, rfl, fun d hd => rz hb0 d hd⟩)
              | true =>
                refine iteF ?_
                obtain ⟨z0, hz0, lz0⟩ : ∃ z0, xs[i - 1]? = some (.str z0) ∧ z0.length ≤ sizeLine := by
                  by_cases hi0 : i = 0
                  · subst hi0
                    exact ⟨z, e2, ey.sz z rfl⟩
                  · have hbp := hb (i - 1) (by omega)
                    obtain ⟨y0, hy0⟩ : ∃ y0, xs[i - 1]? = some y0 := ⟨_, List.getElem?_eq_getElem (by omega)⟩
                    unfold badAt at hbp
                    rw [hy0] at hbp
                    have hlo : lineOk y0 = true := by
                      cases hq : xs[i - 1 - 1]? with
                      | none => rw [hq] at hbp; cases hbp
                      | some y =>
                        rw [hq] at hbp
                        have : (!lineOk y0 || decide (vlen y0 ≠ vlen y)) = false := hbp
                        have := (Bool.or_eq_false_iff.mp this).1
                        simpa using this
                    obtain ⟨z0, rfl⟩ : ∃ z0, y0 = .str z0 := by cases y0 <;> first | exact ⟨_, rfl⟩ | cases hlo
                    exact ⟨z0, hy0, (hel _ (List.mem_of_getElem? hy0)).sz z0 rfl⟩
                have ei : (if (0 : Int) > (i : Int) - 1 then (0 : Int) else (i : Int) - 1) = ((i - 1 : Nat) : Int) := by
                  split <;> omega
                have hat : atI xs ((i - 1 : Nat) : Int) = some (.str z0) := atI_nat hz0
                have ixs : ∀ (kk : Int), kk = ((i - 1 : Nat) : Int) → ∀ R : VK, R (.str z0) (upd H2 T (.tup [.int (i : Nat), .str z])) → rIx K (.ref a) (.int kk) (upd H2 T (.tup [.int (i : Nat), .str z])) R := fun kk ek R hR => by
                  subst ek
                  rcases hx with q | q
                  · exact .inl ⟨a, xs, _, _, rfl, rfl, SqL.of (s03 _ _ q), hat, hR⟩
                  · exact .inr (.inl ⟨a, xs, _, _, rfl, rfl, SqT.of (s03 _ _ q), hat, hR⟩)
                refine ⟨_, rfl, z, rfl, ey.sz z rfl, ?_⟩
                refine ⟨_, rfl, _, rfl, _, _, rfl, rfl, _, _, rfl, ?_⟩
                refine ixs _ ei _ ?_
                refine ⟨z0, rfl, lz0, (rfl : scal _ _ = true), ?_⟩
                refine ⟨_, rfl, ?_⟩
                have bad : badAt xs i = decide (z.length ≠ z0.length) := by
                  unfold badAt
                  rw [e2, hz0]
                  show (!lineS z || decide (z.length ≠ z0.length)) = _
                  rw [hl]; rfl
                refine ite2 (fun q3 => ?_) (fun q3 => ?_)
                · have q3' : ¬ z.length = z0.length := fun w => by
                    rw [w] at q3
                    simp at q3
                  exact ⟨_, rfl, _, rfl, fun d hd => rz (by rw [bad]; exact decide_eq_true q3') d hd⟩
                · have q3' : z.length = z0.length := by
                    have : decide (V.int (z.length : Int) = V.int (z0.length : Int)) = true := by simpa using q3
                    have := of_decide_eq_true this
                    injection this with this
                    exact Int.ofNat.inj this
                  refine ⟨_, _, rfl, s2.trans s3, fun j hj => ?_⟩
                  by_cases hji : j = i
                  · rw [hji, bad]; exact decide_eq_false (fun w => w q3')
                  · exact hb j (by omega)
          · rintro σ H2 ⟨o1, o2, rfl, s2, hb⟩
            refine kQ ?_ H2 (s1.trans s2)
            unfold rowsFault
            rw [if_pos ⟨l1, l5⟩, List.find?_range_eq_none.mpr (fun j hj => by rw [hb j hj]; rfl)]
            rfl
      · have hf := out (fun z => by
          have : ¬ (1 : Int) ≤ (xs.length : Int) := by simpa using q1
          omega)
        exact ⟨_, rfl, iteT ⟨1, rfl, _, rfl, fun d hd => kE _ hf H1 d s1 hd⟩⟩
end
end K11
end
section
set_option Elab.async false
set_option linter.all false
set_option maxRecDepth 100000
set_option maxHeartbeats 2000000
namespace K11
open PySem L2
local macro_rules | `(tactic| walk_at "hp") => `(tactic| first | assumption | exact upd_same | (refine (upd_ne (by first | assumption | (apply Ne.symm; assumption))).trans ?_; walk_at "hp"))
local macro_rules | `(tactic| walk_at "rd1") => `(tactic| first
  | (refine ⟨_, rfl, ?_⟩)
  | (refine ⟨_, _, rfl, rfl, ?_⟩)
  | (refine ⟨(rfl : scal _ _ = true), ?_⟩)
  | (refine And.intro (by show (0 : Int) < _; decide) ?_)
  | (refine And.intro (And.intro (by decide) (by decide)) ?_)
  | (refine And.intro (by assumption) ?_)
  | (refine Or.inl ⟨_, rfl, ?_⟩))
local macro_rules | `(tactic| walk_at "rd") => `(tactic| repeat walk_at "rd1")
section
variable {P : Program} {w : World} {K : PySem.W.Frag} {mg : Str → Option Value} {base : Heap} {C CB fB : Addr}
def roomF (t ct pt nd : Addr) (z : Str) : List (Str × V) := [("rows", .ref t), ("cells", .str z), ("entry", .int (Txt.find z "@")), ("mouths", .int (manyZ z "12")), ("crates", .ref ct), ("plates", .ref pt), ("near", .ref nd)]
/-- the four ways of the cells of these rows -/
structure NearAt (H : Hp) (nd : Addr) (rows : List Str) (wd : Nat) : Prop where
  ex : ∃ u d l r, H nd = some (.dK [(.inr "u", .ref u), (.inr "d", .ref d), (.inr "l", .ref l), (.inr "r", .ref r)]) ∧ H u = some (.tup ((neighL rows wd (-1) 0 (rows.length * wd)).map V.int)) ∧ H d = some (.tup ((neighL rows wd 1 0 (rows.length * wd)).map V.int)) ∧
    H l = some (.tup ((neighL rows wd 0 (-1) (rows.length * wd)).map V.int)) ∧ H r = some (.tup ((neighL rows wd 0 1 (rows.length * wd)).map V.int))
/-- a room stands at x -/
structure RoomAt (C : Addr) (H : Hp) (x : Addr) (rows : List Str) (wd : Nat) : Prop where
  ok : RowsOk rows wd
  lines : ∀ r ∈ rows, lineS r = true
  whole : wholeZ (Txt.join "" rows) = true
  ex : ∃ dx t ct pt nd, H x = some (.ins C dx (roomF t ct pt nd (Txt.join "" rows))) ∧ H t = some (.tup (rows.map V.str)) ∧ H ct = some (.tup ((placesL (Txt.join "" rows) 111 (Txt.join "" rows).length).map V.int)) ∧
    H pt = some (.tup ((placesL (Txt.join "" rows) 112 (Txt.join "" rows).length).map V.int)) ∧ NearAt H nd rows wd
theorem putF_len (f : Str) (v : V) : ∀ fs : List (Str × V), (putF f v fs).length ≤ fs.length + 1
  | [] => Nat.le_refl _
  | (g, u) :: r => by
    show (if g = f then (g, v) :: r else (g, u) :: putF f v r).length ≤ _
    have := putF_len f v r
    split <;> simp only [List.length_cons] <;> omega
theorem fne : (¬ (("rows" : Str) = "cells") ∧ ¬ (("rows" : Str) = "entry") ∧ ¬ (("rows" : Str) = "mouths") ∧ ¬ (("rows" : Str) = "crates") ∧ ¬ (("rows" : Str) = "plates") ∧ ¬ (("rows" : Str) = "near")) ∧
    (¬ (("cells" : Str) = "entry") ∧ ¬ (("cells" : Str) = "mouths") ∧ ¬ (("cells" : Str) = "crates") ∧ ¬ (("cells" : Str) = "plates") ∧ ¬ (("cells" : Str) = "near")) ∧
    (¬ (("entry" : Str) = "mouths") ∧ ¬ (("entry" : Str) = "crates") ∧ ¬ (("entry" : Str) = "plates") ∧ ¬ (("entry" : Str) = "near")) ∧ (¬ (("mouths" : Str) = "crates") ∧ ¬ (("mouths" : Str) = "plates") ∧ ¬ (("mouths" : Str) = "near")) ∧
    (¬ (("crates" : Str) = "plates") ∧ ¬ (("crates" : Str) = "near")) ∧ ¬ (("plates" : Str) = "near") := by decide +kernel
theorem putF6 (a b c d e f : V) : putF "plates" f (putF "crates" e (putF "mouths" d (putF "entry" c (putF "cells" b (putF "rows" a []))))) = ([("rows", a), ("cells", b), ("entry", c), ("mouths", d), ("crates", e), ("plates", f)] : List (Str × V)) := by
  obtain ⟨⟨r1, r2, r3, r4, r5, r6⟩, ⟨c1, c2, c3, c4, c5⟩, ⟨e1, e2, e3, e4⟩, ⟨m1, m2, m3⟩, ⟨t1, t2⟩, p1⟩ := fne
  simp only [putF, r1, r2, r3, r4, r5, r6, c1, c2, c3, c4, c5, e1, e2, e3, e4, m1, m2, m3, t1, t2, p1, if_false]
theorem putF7 (a b c d e f g : V) : putF "near" g ([("rows", a), ("cells", b), ("entry", c), ("mouths", d), ("crates", e), ("plates", f)] : List (Str × V)) = ([("rows", a), ("cells", b), ("entry", c), ("mouths", d), ("crates", e), ("plates", f), ("near", g)] : List (Str × V)) := by
  obtain ⟨⟨r1, r2, r3, r4, r5, r6⟩, ⟨c1, c2, c3, c4, c5⟩, ⟨e1, e2, e3, e4⟩, ⟨m1, m2, m3⟩, ⟨t1, t2⟩, p1⟩ := fne
  simp only [putF, r1, r2, r3, r4, r5, r6, c1, c2, c3, c4, c5, e1, e2, e3, e4, m1, m2, m3, t1, t2, p1, if_false]
theorem merge4 (a b c d : V) : mergeK [] ([(.inr "u", a), (.inr "d", b), (.inr "l", c), (.inr "r", d)] : List (Key × V)) = [(.inr "u", a), (.inr "d", b), (.inr "l", c), (.inr "r", d)] := by
  have h : (¬ (("u" : Str) = "d") ∧ ¬ (("u" : Str) = "l") ∧ ¬ (("u" : Str) = "r")) ∧ (¬ (("d" : Str) = "l") ∧ ¬ (("d" : Str) = "r")) ∧ ¬ (("l" : Str) = "r") := by decide +kernel
  obtain ⟨⟨h1, h2, h3⟩, ⟨h4, h5⟩, h6⟩ := h
  simp [mergeK, putK, h1, h2, h3, h4, h5, h6]
theorem flat_joinL : ∀ ps : List (List Nat), TL.joinL [] ps = ps.flatten
  | [] => rfl
  | [p] => by simp [TL.joinL]
  | p :: q :: r => by
    show p ++ ([] ++ TL.joinL [] (q :: r)) = _
    rw [flat_joinL (q :: r)]
    simp
theorem join_cps (rows : List Str) : (Txt.join "" rows).cps.toList = (rows.map fun r => r.cps.toList).flatten := by
  rw [TL.join_eq]
  exact (TL.tl_join "" rows).trans (flat_joinL _)
theorem join_sum (rows : List Str) : (Txt.join "" rows).length = (rows.map (·.length)).sum := by
  have h := congrArg List.length (join_cps rows)
  rw [List.length_flatten, List.map_map] at h
  exact h
theorem sum_rows {rows : List Str} {wd : Nat} (h : ∀ r ∈ rows, r.length = wd) : (rows.map (·.length)).sum = rows.length * wd := by
  induction rows with
  | nil => simp
  | cons r rs ih =>
    rw [List.map_cons, List.sum_cons, ih fun x hx => h x (List.mem_cons_of_mem _ hx), h r (List.mem_cons_self ..), List.length_cons, Nat.succ_mul, Nat.add_comm]
theorem join_len {rows : List Str} {wd : Nat} (R : RowsOk rows wd) : (Txt.join "" rows).length = rows.length * wd := (join_sum rows).trans (sum_rows R.al)
def strOf : V → Str
  | .str s => s
  | _ => ""
theorem lineOk_str {y : V} (h : lineOk y = true) : y = .str (strOf y) ∧ lineS (strOf y) = true := by
  cases y <;> first | exact ⟨rfl, h⟩ | cases h
theorem rows_of {xs : List V} (h : rowsFault xs = none) : ∃ rows wd, xs = rows.map V.str ∧ RowsOk rows wd ∧ ∀ r ∈ rows, lineS r = true := by
  unfold rowsFault at h
  split at h
  case isFalse => cases h
  rename_i hn
  have hf : (List.range xs.length).find? (badAt xs) = none := by
    cases e : (List.range xs.length).find? (badAt xs) with
    | none => rfl
    | some i => rw [e] at h; cases h
  have good : ∀ i, i < xs.length → badAt xs i = false := fun i hi => by
    have := List.find?_range_eq_none.mp hf i hi
    simpa using this
  have at2 : ∀ i, (hi : i < xs.length) → lineOk xs[i] = true ∧ vlen xs[i] = vlen (xs[i - 1]'(by omega)) := fun i hi => by
    have b := good i hi
    unfold badAt at b
    rw [List.getElem?_eq_getElem hi, List.getElem?_eq_getElem (show i - 1 < xs.length by omega)] at b
    have b' : (!lineOk xs[i] || decide (vlen xs[i] ≠ vlen (xs[i - 1]'(by omega)))) = false := b
    obtain ⟨b1, b2⟩ := Bool.or_eq_false_iff.mp b'
    exact ⟨by simpa using b1, by simpa using b2⟩
  have all : ∀ i, (hi : i < xs.length) → vlen xs[i] = vlen (xs[0]'(by omega)) := by
    intro i
    induction i with
    | zero => intro hi; rfl
    | succ k ih => intro hi; exact (at2 (k + 1) hi).2.trans (ih (by omega))
  have line : ∀ y ∈ xs, lineOk y = true := fun y hy => by
    obtain ⟨i, hi, rfl⟩ := List.getElem_of_mem hy
    exact (at2 i hi).1
  have len : ∀ y ∈ xs, vlen y = vlen (xs[0]'(by omega)) := fun y hy => by
    obtain ⟨i, hi, rfl⟩ := List.getElem_of_mem hy
    exact all i hi
  have e1 : xs = (xs.map strOf).map V.str := by
    rw [List.map_map]
    have : ∀ y ∈ xs, (V.str ∘ strOf) y = id y := fun y hy => (lineOk_str (line y hy)).1.symm
    rw [List.map_congr_left this, List.map_id]
  have l0 : lineS (strOf (xs[0]'(by omega))) = true := (lineOk_str (line _ (List.getElem_mem _))).2
  have v0 : vlen (xs[0]'(by omega)) = (strOf (xs[0]'(by omega))).length := by
    have := (lineOk_str (line _ (List.getElem_mem (show 0 < xs.length by omega)))).1
    rw [this]; rfl
  have b0 : 1 ≤ (strOf (xs[0]'(by omega))).length ∧ (strOf (xs[0]'(by omega))).length ≤ 6 := by
    unfold lineS at l0
    simp only [Bool.and_eq_true, decide_eq_true_eq] at l0
    exact ⟨l0.1, l0.2.1⟩
  refine ⟨xs.map strOf, vlen (xs[0]'(by omega)), e1, ⟨by simpa using hn.1, by simpa using hn.2, by rw [v0]; exact b0.1, by rw [v0]; exact b0.2, ?_⟩, ?_⟩
  · intro r hr
    obtain ⟨y, hy, rfl⟩ := List.mem_map.mp hr
    rw [← len y hy]
    have := (lineOk_str (line y hy)).1
    rw [this]; rfl
  · intro r hr
    obtain ⟨y, hy, rfl⟩ := List.mem_map.mp hr
    exact (lineOk_str (line y hy)).2
def spRoomInit (K : PySem.W.Frag) (C CB : Addr) : Sp := fun vs H Q E => ∃ (x dx : Addr) (v : V) (M : Addr → Prop), vs = [.ref x, v] ∧ H x = some (.ins C dx []) ∧
  ((∃ t, (∀ H', Same H H' → TyX K H' v t) ∧ PySem.W.kitAny K t [.type "list", .type "tuple"] = some false ∧ ∀ H' d, Same H H' → H' d = none → E (.ref CB) (some d) (upd H' d (.xd [("value", .int (-1))]))) ∨
   (∃ a xs, v = .ref a ∧ (H a = some (.lst xs) ∨ H a = some (.tup xs)) ∧ (∀ y ∈ xs, Elem M H y) ∧ (∀ i, rowsFault xs = some i → ∀ H' d, Same H H' → H' d = none → E (.ref CB) (some d) (upd H' d (.xd [("value", .int i)]))) ∧
     (∀ rows wd, xs = rows.map V.str → RowsOk rows wd → (∀ r ∈ rows, lineS r = true) → (wholeZ (Txt.join "" rows) = false → ∀ H' d, Same H H' → H' d = none → E (.ref CB) (some d) (upd H' d (.xd [("value", .int (-1))]))) ∧
       ∀ H', RoomAt C H' x rows wd → (∀ b o, H b = some o → b ≠ x → H' b = some o) → Q .non H')))
theorem ok_room_init {f : Addr} {fd : FuncData} (F : Fun K "__init__" "Room.__init__" s_Room_init f fd) (T : RoomT P K mg CB fB) (cl : Cls K C) (n_rows : NoAttr K C "rows") (n_cells : NoAttr K C "cells") (n_entry : NoAttr K C "entry") (n_mouths : NoAttr K C "mouths") (n_crates : NoAttr K C "crates") (n_plates : NoAttr K C "plates") (n_near : NoAttr K C "near")
    (c__need_lines : CalG P w K mg base 3 "_need_lines" (spNeed K CB)) (c__is_whole_room : CalG P w K mg base 2 "_is_whole_room" spWR) (c__many : CalG P w K mg base 1 "_many" spMany) (c__places : CalG P w K mg base 1 "_places" spPlaces) (c__neighbours : CalG P w K mg base 1 "_neighbours" (spNeigh K)) :
    FnG P w K mg base (CXe P w) 4 f fd ["self", "rows"] (spRoomInit K C CB) := by
  refine F.okG sc_Room_init (fun vs H Q E h => ?_) (fun cdv A outer s H vs Q E hgd hr h => ?_)
  · obtain ⟨x, dx, v, M, rfl, _⟩ := h; rfl
  · obtain ⟨x, dx, v, M, rfl, hx, h⟩ := h
    refine ⟨_, (pss_cons (ps_expr (pg_cS c__need_lines hgd hr (by decide) (fun σ => passAt (takes_of rfl rfl rfl rfl) σ) (pa_cons (pv 1) pa_nil)))
      (pss_cons (ps_set (i := 2) sc_Room_init.nd rfl (Or.inl rfl) (pe_m1 PySem.F.slot_str_join PySem.F.type_str_join mt_join pe_str (pv 1)))
      (pss_cons (ps_if (pt_not (pt_val (pg_c c__is_whole_room hgd hr (by decide) (pa_cons (pv 2) pa_nil)))) (pss_one (ps_raiseErr rfl T.x_BadRoom hr (takes_of rfl rfl rfl rfl) (pa_cons (pe_un un_neg pe_int) pa_nil))) pss_nil)
      (pss_cons (ps_fld (pv 0) (pe_callTy cr_tup2 (by rfl) T.n_tuple (by decide +kernel) (pa_cons (pv 1) pa_nil)) rfl)
      (pss_cons (ps_fld (pv 0) (pv 2) rfl)
      (pss_cons (ps_fld (pv 0) (pe_m1 PySem.F.slot_str_find PySem.F.type_str_find mt_find (pv 2) pe_str) rfl)
      (pss_cons (ps_fld (pv 0) (pg_c c__many hgd hr (by decide) (pa_cons (pv 2) (pa_cons pe_str pa_nil))) rfl)
      (pss_cons (ps_fld (pv 0) (pg_c c__places hgd hr (by decide) (pa_cons (pv 2) (pa_cons pe_str pa_nil))) rfl)
      (pss_cons (ps_fld (pv 0) (pg_c c__places hgd hr (by decide) (pa_cons (pv 2) (pa_cons pe_str pa_nil))) rfl)
      (pss_one (ps_fld (pv 0) (pe_disp (pps_cons pe_str (pg_c c__neighbours hgd hr (by decide) (pa_cons (pe_fld (pv 0) rfl) (pa_cons (pe_un un_neg pe_int) (pa_cons pe_int pa_nil)))) (pps_cons pe_str (pg_c c__neighbours hgd hr (by decide) (pa_cons (pe_fld (pv 0) rfl) (pa_cons pe_int (pa_cons pe_int pa_nil)))) (pps_cons pe_str (pg_c c__neighbours hgd hr (by decide) (pa_cons (pe_fld (pv 0) rfl) (pa_cons pe_int (pa_cons (pe_un un_neg pe_int) pa_nil)))) (pps_cons pe_str (pg_c c__neighbours hgd hr (by decide) (pa_cons (pe_fld (pv 0) rfl) (pa_cons pe_int (pa_cons pe_int pa_nil)))) pps_nil)))) (by rfl) (by rfl) (fun z => by cases z) (by decide)) rfl))))))))))), ?_⟩
    walk_at "rd"
    rcases h with ⟨t, ty, e, kE⟩ | ⟨a, xs, rfl, hxs, hel, kE, kQ⟩
    · exact ⟨v, M, rfl, .inl ⟨t, ty, e, kE⟩⟩
    refine ⟨.ref a, M, rfl, .inr ⟨a, xs, rfl, hxs, hel, kE, fun hf H1 s1 => ?_⟩⟩
    obtain ⟨rows, wd, rfl, R, hl⟩ := rows_of hf
    obtain ⟨kW, kK⟩ := kQ rows wd rfl R hl
    walk_at "rd"
    have sq : SqL K H1 a (rows.map V.str) ∨ SqT K H1 a (rows.map V.str) := hxs.imp (fun q => SqL.of (s1 _ _ q)) (fun q => SqT.of (s1 _ _ q))
    have hz : (Txt.join "" rows).length = rows.length * wd := join_len R
    have hs := sum_rows R.al
    have b5 := R.h5
    have b6 := R.w6
    have bn : rows.length * wd ≤ 5 * 6 := Nat.mul_le_mul b5 b6
    refine ⟨⟨_, rfl⟩, _, rfl, "", a, rows, rfl, rfl, sq, ?_, ?_⟩
    · rw [hs]
      show _ + rows.length * 0 ≤ _
      omega
    obtain ⟨z, ez⟩ : ∃ z, z = Txt.join "" rows := ⟨_, rfl⟩
    rw [← ez] at hz kW
    rw [← ez]
    walk_at "rd"
    refine ⟨by rw [hz]; exact Nat.le_of_lt (small1000 (by omega)), fun H2 s2 => ?_⟩
    refine ⟨_, rfl, ?_⟩
    cases hw : wholeZ z with
    | false => exact iteT ⟨1, rfl, _, rfl, fun d hd => kW hw H2 d (s1.trans s2) hd⟩
    | true =>
      refine iteF ?_
      walk_at "rd"
      have s02 := s1.trans s2
      have hx2 := s02 _ _ hx
      have hxs2 : H2 a = some (.lst (rows.map V.str)) ∨ H2 a = some (.tup (rows.map V.str)) := hxs.imp (fun q => s02 _ _ q) (fun q => s02 _ _ q)
      refine ⟨a, _, rfl, hxs2, fun t H3 s3 ht3 ht => ?_⟩
      have hx3 := s3 _ _ hx2
      have htx : t ≠ x := fun z => by rw [z, hx3] at ht3; cases ht3
      refine ⟨_, rfl, x, C, dx, _, rfl, hx3, cl, n_rows, (by refine Nat.lt_of_le_of_lt (m := 0) ?_ (by decide); exact Nat.le_refl _), ?_⟩
      have pl1 : (putF "rows" (.ref t) []).length ≤ 1 := Nat.le_trans (putF_len _ _ _) (Nat.succ_le_succ (Nat.le_refl _))
      have o4 : Off (fun b => b = x) H3 (upd H3 x (.ins C dx (putF "rows" (.ref t) []))) := Off.mut rfl
      have hx4 : upd H3 x (.ins C dx (putF "rows" (.ref t) [])) x = some (.ins C dx (putF "rows" (.ref t) [])) := upd_same
      generalize upd H3 x (.ins C dx (putF "rows" (.ref t) [])) = H4 at o4 hx4 ⊢
      have ht4 := o4 _ _ htx ht3
      walk_at "rd"
      refine ⟨x, C, dx, _, rfl, hx4, cl, n_cells, (by refine Nat.lt_of_le_of_lt (m := 1) ?_ (by decide); exact pl1), ?_⟩
      have pl2 : (putF "cells" (.str z) (putF "rows" (.ref t) [])).length ≤ 2 := Nat.le_trans (putF_len _ _ _) (Nat.succ_le_succ pl1)
      have o5 : Off (fun b => b = x) H4 (upd H4 x (.ins C dx (putF "cells" (.str z) (putF "rows" (.ref t) [])))) := Off.mut rfl
      have hx5 : upd H4 x (.ins C dx (putF "cells" (.str z) (putF "rows" (.ref t) []))) x = some (.ins C dx (putF "cells" (.str z) (putF "rows" (.ref t) []))) := upd_same
      generalize upd H4 x (.ins C dx (putF "cells" (.str z) (putF "rows" (.ref t) []))) = H5 at o5 hx5 ⊢
      have ht5 := o5 _ _ htx ht4
      refine ⟨_, rfl, ⟨_, rfl⟩, z, "@", rfl, rfl, ?_⟩
      walk_at "rd"
      refine ⟨x, C, dx, _, rfl, hx5, cl, n_entry, (by refine Nat.lt_of_le_of_lt (m := 2) ?_ (by decide); exact pl2), ?_⟩
      have pl3 : (putF "entry" (.int (Txt.find z "@")) (putF "cells" (.str z) (putF "rows" (.ref t) []))).length ≤ 3 := Nat.le_trans (putF_len _ _ _) (Nat.succ_le_succ pl2)
      have o6 : Off (fun b => b = x) H5 (upd H5 x (.ins C dx (putF "entry" (.int (Txt.find z "@")) (putF "cells" (.str z) (putF "rows" (.ref t) []))))) := Off.mut rfl
      have hx6 : upd H5 x (.ins C dx (putF "entry" (.int (Txt.find z "@")) (putF "cells" (.str z) (putF "rows" (.ref t) [])))) x = some (.ins C dx (putF "entry" (.int (Txt.find z "@")) (putF "cells" (.str z) (putF "rows" (.ref t) [])))) := upd_same
      generalize upd H5 x (.ins C dx (putF "entry" (.int (Txt.find z "@")) (putF "cells" (.str z) (putF "rows" (.ref t) [])))) = H6 at o6 hx6 ⊢
      have ht6 := o6 _ _ htx ht5
      walk_at "rd"
      refine ⟨z, "12", rfl, by decide +kernel, fun H7 s7 => ?_⟩
      have hx7 := s7 _ _ hx6
      have ht7 := s7 _ _ ht6
      walk_at "rd"
      refine ⟨x, C, dx, _, rfl, hx7, cl, n_mouths, (by refine Nat.lt_of_le_of_lt (m := 3) ?_ (by decide); exact pl3), ?_⟩
      have pl4 : (putF "mouths" (.int (manyZ z "12")) (putF "entry" (.int (Txt.find z "@")) (putF "cells" (.str z) (putF "rows" (.ref t) [])))).length ≤ 4 := Nat.le_trans (putF_len _ _ _) (Nat.succ_le_succ pl3)
      have o8 : Off (fun b => b = x) H7 (upd H7 x (.ins C dx (putF "mouths" (.int (manyZ z "12")) (putF "entry" (.int (Txt.find z "@")) (putF "cells" (.str z) (putF "rows" (.ref t) [])))))) := Off.mut rfl
      have hx8 : upd H7 x (.ins C dx (putF "mouths" (.int (manyZ z "12")) (putF "entry" (.int (Txt.find z "@")) (putF "cells" (.str z) (putF "rows" (.ref t) []))))) x = some (.ins C dx (putF "mouths" (.int (manyZ z "12")) (putF "entry" (.int (Txt.find z "@")) (putF "cells" (.str z) (putF "rows" (.ref t) []))))) := upd_same
      generalize upd H7 x (.ins C dx (putF "mouths" (.int (manyZ z "12")) (putF "entry" (.int (Txt.find z "@")) (putF "cells" (.str z) (putF "rows" (.ref t) []))))) = H8 at o8 hx8 ⊢
      have ht8 := o8 _ _ htx ht7
      walk_at "rd"
      refine ⟨z, 111, rfl, by rw [hz]; omega, fun ct H9 nct s9 hct9 => ?_⟩
      have hx9 := s9 _ _ hx8
      have ht9 := s9 _ _ ht8
      have hctx : ct ≠ x := fun y => by rw [y, hx8] at nct; cases nct
      walk_at "rd"
      refine ⟨x, C, dx, _, rfl, hx9, cl, n_crates, (by refine Nat.lt_of_le_of_lt (m := 4) ?_ (by decide); exact pl4), ?_⟩
      have pl5 : (putF "crates" (.ref ct) (putF "mouths" (.int (manyZ z "12")) (putF "entry" (.int (Txt.find z "@")) (putF "cells" (.str z) (putF "rows" (.ref t) []))))).length ≤ 5 := Nat.le_trans (putF_len _ _ _) (Nat.succ_le_succ pl4)
      have o10 : Off (fun b => b = x) H9 (upd H9 x (.ins C dx (putF "crates" (.ref ct) (putF "mouths" (.int (manyZ z "12")) (putF "entry" (.int (Txt.find z "@")) (putF "cells" (.str z) (putF "rows" (.ref t) []))))))) := Off.mut rfl
      have hx10 : upd H9 x (.ins C dx (putF "crates" (.ref ct) (putF "mouths" (.int (manyZ z "12")) (putF "entry" (.int (Txt.find z "@")) (putF "cells" (.str z) (putF "rows" (.ref t) [])))))) x = some (.ins C dx (putF "crates" (.ref ct) (putF "mouths" (.int (manyZ z "12")) (putF "entry" (.int (Txt.find z "@")) (putF "cells" (.str z) (putF "rows" (.ref t) [])))))) := upd_same
      generalize upd H9 x (.ins C dx (putF "crates" (.ref ct) (putF "mouths" (.int (manyZ z "12")) (putF "entry" (.int (Txt.find z "@")) (putF "cells" (.str z) (putF "rows" (.ref t) [])))))) = H10 at o10 hx10 ⊢
      have ht10 := o10 _ _ htx ht9
      have hct10 := o10 _ _ hctx hct9
      walk_at "rd"
      refine ⟨z, 112, rfl, by rw [hz]; omega, fun pt H11 npt s11 hpt11 => ?_⟩
      have hx11 := s11 _ _ hx10
      have ht11 := s11 _ _ ht10
      have hct11 := s11 _ _ hct10
      have hptx : pt ≠ x := fun y => by rw [y, hx10] at npt; cases npt
      walk_at "rd"
      refine ⟨x, C, dx, _, rfl, hx11, cl, n_plates, (by refine Nat.lt_of_le_of_lt (m := 5) ?_ (by decide); exact pl5), ?_⟩
      have pl6 : (putF "plates" (.ref pt) (putF "crates" (.ref ct) (putF "mouths" (.int (manyZ z "12")) (putF "entry" (.int (Txt.find z "@")) (putF "cells" (.str z) (putF "rows" (.ref t) [])))))).length ≤ 6 := Nat.le_trans (putF_len _ _ _) (Nat.succ_le_succ pl5)
      have o12 : Off (fun b => b = x) H11 (upd H11 x (.ins C dx (putF "plates" (.ref pt) (putF "crates" (.ref ct) (putF "mouths" (.int (manyZ z "12")) (putF "entry" (.int (Txt.find z "@")) (putF "cells" (.str z) (putF "rows" (.ref t) [])))))))) := Off.mut rfl
      have hx12 : upd H11 x (.ins C dx (putF "plates" (.ref pt) (putF "crates" (.ref ct) (putF "mouths" (.int (manyZ z "12")) (putF "entry" (.int (Txt.find z "@")) (putF "cells" (.str z) (putF "rows" (.ref t) []))))))) x = some (.ins C dx (putF "plates" (.ref pt) (putF "crates" (.ref ct) (putF "mouths" (.int (manyZ z "12")) (putF "entry" (.int (Txt.find z "@")) (putF "cells" (.str z) (putF "rows" (.ref t) []))))))) := upd_same
      generalize upd H11 x (.ins C dx (putF "plates" (.ref pt) (putF "crates" (.ref ct) (putF "mouths" (.int (manyZ z "12")) (putF "entry" (.int (Txt.find z "@")) (putF "cells" (.str z) (putF "rows" (.ref t) []))))))) = H12 at o12 hx12 ⊢
      have ht12 := o12 _ _ htx ht11
      have hct12 := o12 _ _ hctx hct11
      have hpt12 := o12 _ _ hptx hpt11
      have ef : (putF "plates" (.ref pt) (putF "crates" (.ref ct) (putF "mouths" (.int (manyZ z "12")) (putF "entry" (.int (Txt.find z "@")) (putF "cells" (.str z) (putF "rows" (.ref t) [])))))) = ([("rows", .ref t), ("cells", .str z), ("entry", .int (Txt.find z "@")), ("mouths", .int (manyZ z "12")), ("crates", .ref ct), ("plates", .ref pt)] : List (Str × V)) := putF6 _ _ _ _ _ _
      rw [ef] at hx12
      refine fun dn hdn => ?_
      have sA : Same H12 (upd H12 dn (.dK [])) := same_new hdn
      have hdnA : upd H12 dn (.dK []) dn = some (.dK []) := upd_same
      generalize upd H12 dn (.dK []) = HA at sA hdnA ⊢
      have dnx : dn ≠ x := fun y => by rw [y, hx12] at hdn; cases hdn
      have hxA := sA _ _ hx12
      have htA := sA _ _ ht12
      walk_at "rd"
      refine ⟨x, C, dx, _, _, rfl, hxA, cl, n_rows, rfl, ?_⟩
      walk_at "rd"
      refine ⟨t, rows, wd, (-1), (0), rfl, R, htA, by decide, by decide, by decide, by decide, fun nu HB nnu sB hnu => ?_⟩
      have hxB := sB _ _ hxA
      have htB := sB _ _ htA
      walk_at "rd"
      refine ⟨x, C, dx, _, _, rfl, hxB, cl, n_rows, rfl, ?_⟩
      walk_at "rd"
      refine ⟨t, rows, wd, (1), (0), rfl, R, htB, by decide, by decide, by decide, by decide, fun nd HC nnd sC hnd => ?_⟩
      have hxC := sC _ _ hxB
      have htC := sC _ _ htB
      walk_at "rd"
      refine ⟨x, C, dx, _, _, rfl, hxC, cl, n_rows, rfl, ?_⟩
      walk_at "rd"
      refine ⟨t, rows, wd, (0), (-1), rfl, R, htC, by decide, by decide, by decide, by decide, fun nl HD nnl sD hnl => ?_⟩
      have hxD := sD _ _ hxC
      have htD := sD _ _ htC
      walk_at "rd"
      refine ⟨x, C, dx, _, _, rfl, hxD, cl, n_rows, rfl, ?_⟩
      walk_at "rd"
      refine ⟨t, rows, wd, (0), (1), rfl, R, htD, by decide, by decide, by decide, by decide, fun nr HF nnr sF hnr => ?_⟩
      have hxF := sF _ _ hxD
      have htF := sF _ _ htD
      have sAF : Same HA HF := ((sB.trans sC).trans sD).trans sF
      have hdnF := sAF _ _ hdnA
      refine ⟨hdnF, [(.inr "u", .ref nu), (.inr "d", .ref nd), (.inr "l", .ref nl), (.inr "r", .ref nr)], rfl, by simp, ?_⟩
      have em : mergeK [] ([(.inr "u", .ref nu), (.inr "d", .ref nd), (.inr "l", .ref nl), (.inr "r", .ref nr)] : List (Key × V)) = [(.inr "u", .ref nu), (.inr "d", .ref nd), (.inr "l", .ref nl), (.inr "r", .ref nr)] := merge4 _ _ _ _
      rw [em]
      have ne : ∀ {b : Addr} {o : HO}, HF b = some o → (∀ q, o ≠ .dK q) → b ≠ dn := fun e q z => by rw [z, hdnF] at e; cases e; exact q _ rfl
      have hxG : upd HF dn (.dK [(.inr "u", .ref nu), (.inr "d", .ref nd), (.inr "l", .ref nl), (.inr "r", .ref nr)]) x = some (.ins C dx ([("rows", .ref t), ("cells", .str z), ("entry", .int (Txt.find z "@")), ("mouths", .int (manyZ z "12")), ("crates", .ref ct), ("plates", .ref pt)] : List (Str × V))) := by
        rw [upd_ne (Ne.symm dnx)]; exact hxF
      walk_at "rd"
      refine ⟨x, C, dx, _, rfl, hxG, cl, n_near, by simp, ?_⟩
      rw [putF7]
      have off : Off (fun b => b = x) H H12 := ((((((((Off.same (s02.trans s3)).trans o4).trans o5).trans o6).trans (Off.same s7)).trans o8).trans (Off.same s9)).trans o10).trans ((Off.same s11).trans o12)
      have fin : ∀ b ys, HF b = some (.tup ys) → upd (upd HF dn (.dK [(.inr "u", .ref nu), (.inr "d", .ref nd), (.inr "l", .ref nl), (.inr "r", .ref nr)])) x (.ins C dx [("rows", .ref t), ("cells", .str z), ("entry", .int (Txt.find z "@")), ("mouths", .int (manyZ z "12")), ("crates", .ref ct), ("plates", .ref pt), ("near", .ref dn)]) b = some (.tup ys) := fun b ys e => by
        have h1 : b ≠ x := fun y => by rw [y, hxF] at e; cases e
        have h2 : b ≠ dn := fun y => by rw [y, hdnF] at e; cases e
        rw [upd_ne h1, upd_ne h2]
        exact e
      have s1F : Same H12 HF := sA.trans sAF
      subst ez
      refine kK _ ⟨R, hl, hw, dx, t, ct, pt, dn, upd_same, fin _ _ (s1F _ _ ht12), fin _ _ (s1F _ _ hct12), fin _ _ (s1F _ _ hpt12), ⟨nu, nd, nl, nr, by rw [upd_ne dnx, upd_same], fin _ _ (((sC.trans sD).trans sF) _ _ hnu), fin _ _ ((sD.trans sF) _ _ hnd), fin _ _ (sF _ _ hnl), fin _ _ hnr⟩⟩ fun b o e hb => ?_
      have e12 := off b o hb e
      rw [upd_ne hb, upd_ne (ne_of_none e12 hdn)]
      exact s1F _ _ e12
end
end K11
end
section
set_option Elab.async false
set_option linter.all false
set_option maxRecDepth 100000
set_option maxHeartbeats 2000000
namespace K11
open PySem L2
local macro_rules | `(tactic| walk_at "hp") => `(tactic| first | assumption | exact upd_same | (refine (upd_ne (by first | assumption | (apply Ne.symm; assumption))).trans ?_; walk_at "hp"))
local macro_rules | `(tactic| walk_at "rd1") => `(tactic| first
  | (refine ⟨_, rfl, ?_⟩)
  | (refine ⟨_, _, rfl, rfl, ?_⟩)
  | (refine ⟨(rfl : scal _ _ = true), ?_⟩)
  | (refine And.intro (by show (0 : Int) < _; decide) ?_)
  | (refine And.intro (And.intro (by decide) (by decide)) ?_)
  | (refine And.intro (by assumption) ?_)
  | (refine Or.inl ⟨_, rfl, ?_⟩))
local macro_rules | `(tactic| walk_at "rd") => `(tactic| repeat walk_at "rd1")
theorem sc_can_lie : FnScope ["room", "gone", "cell"] ["room", "gone", "cell"] (defScope s_can_lie) := ⟨rfl, rfl, rfl, by decide +kernel, rfl, by decide +kernel, by decide +kernel⟩
theorem sc_moved : FnScope ["room", "rules", "state", "letter", "at", "crates", "gone", "used", "bag", "way", "mark", "goal", "entered"] ["room", "rules", "state", "letter"] (defScope s_moved) := ⟨rfl, rfl, rfl, by decide +kernel, rfl, by decide +kernel, by decide +kernel⟩
theorem sc_moves : FnScope ["room", "rules", "state", "found", "letter", "after"] ["room", "rules", "state"] (defScope s_moves) := ⟨rfl, rfl, rfl, by decide +kernel, rfl, by decide +kernel, by decide +kernel⟩
theorem sc__with_one : FnScope ["numbers", "number"] ["numbers", "number"] (defScope s__with_one) := ⟨rfl, rfl, rfl, by decide +kernel, rfl, by decide +kernel, by decide +kernel⟩
theorem sc__entered : FnScope ["room", "rules", "state", "goal", "crates", "gone", "bag", "mark", "changed"] ["room", "rules", "state", "goal"] (defScope s__entered) := ⟨rfl, rfl, rfl, by decide +kernel, rfl, by decide +kernel, by decide +kernel⟩
theorem sc__is_gate_open : FnScope ["room", "crates", "plate"] ["room", "crates"] (defScope s__is_gate_open) := ⟨rfl, rfl, rfl, by decide +kernel, rfl, by decide +kernel, by decide +kernel⟩
theorem sc__changed_bag : FnScope ["rules", "bag", "mark", "change", "of_a", "of_b"] ["rules", "bag", "mark"] (defScope s__changed_bag) := ⟨rfl, rfl, rfl, by decide +kernel, rfl, by decide +kernel, by decide +kernel⟩
theorem sc__pushed : FnScope ["room", "rules", "state", "way", "at", "crates", "gone", "used", "bag", "ways", "goal", "beyond", "others", "crate"] ["room", "rules", "state", "way"] (defScope s__pushed) := ⟨rfl, rfl, rfl, by decide +kernel, rfl, by decide +kernel, by decide +kernel⟩
theorem sc__pulled : FnScope ["room", "rules", "state", "way", "at", "crates", "gone", "behind", "crate"] ["room", "rules", "state", "way"] (defScope s__pulled) := ⟨rfl, rfl, rfl, by decide +kernel, rfl, by decide +kernel, by decide +kernel⟩
theorem sc_steps : FnScope ["room", "rules", "state"] ["room", "rules", "state"] (defScope s_steps) := ⟨rfl, rfl, rfl, by decide +kernel, rfl, by decide +kernel, by decide +kernel⟩
theorem sc_need_room : FnScope ["room"] ["room"] (defScope s_need_room) := ⟨rfl, rfl, rfl, by decide +kernel, rfl, by decide +kernel, by decide +kernel⟩
theorem sc_need_rules : FnScope ["rules"] ["rules"] (defScope s_need_rules) := ⟨rfl, rfl, rfl, by decide +kernel, rfl, by decide +kernel, by decide +kernel⟩
theorem sc_Rules_init : FnScope ["self", "cap", "strong", "pull"] ["self", "cap", "strong", "pull"] (defScope s_Rules_init) := ⟨rfl, rfl, rfl, by decide +kernel, rfl, by decide +kernel, by decide +kernel⟩
theorem sc_Room_eq : FnScope ["self", "other"] ["self", "other"] (defScope s_Room_eq) := ⟨rfl, rfl, rfl, by decide +kernel, rfl, by decide +kernel, by decide +kernel⟩
theorem sc_Rules_eq : FnScope ["self", "other"] ["self", "other"] (defScope s_Rules_eq) := ⟨rfl, rfl, rfl, by decide +kernel, rfl, by decide +kernel, by decide +kernel⟩
theorem sc__law_shuffled : FnScope ["pool", "things", "left", "found", "k"] ["pool", "things"] (defScope s__law_shuffled) := ⟨rfl, rfl, rfl, by decide +kernel, rfl, by decide +kernel, by decide +kernel⟩
theorem sc__law_rows : FnScope ["pool", "marks", "mouths", "shapes", "height", "width", "cells", "free", "mark", "counts", "at", "kind", "line", "k"] ["pool", "marks", "mouths"] (defScope s__law_rows) := ⟨rfl, rfl, rfl, by decide +kernel, rfl, by decide +kernel, by decide +kernel⟩
theorem sc__law_next : FnScope ["rows", "at", "letter", "width", "row", "column"] ["rows", "at", "letter"] (defScope s__law_next) := ⟨rfl, rfl, rfl, by decide +kernel, rfl, by decide +kernel, by decide +kernel⟩
theorem sc__law_lies : FnScope ["rows", "gone", "at"] ["rows", "gone", "at"] (defScope s__law_lies) := ⟨rfl, rfl, rfl, by decide +kernel, rfl, by decide +kernel, by decide +kernel⟩
theorem sc__law_with : FnScope ["cells", "at", "cell"] ["cells", "at"] (defScope s__law_with) := ⟨rfl, rfl, rfl, by decide +kernel, rfl, by decide +kernel, by decide +kernel⟩
theorem sc__law_without : FnScope ["cells", "at", "cell"] ["cells", "at"] (defScope s__law_without) := ⟨rfl, rfl, rfl, by decide +kernel, rfl, by decide +kernel, by decide +kernel⟩
theorem sc__law_pushed : FnScope ["rows", "strong", "crates", "gone", "at", "letter", "goal"] ["rows", "strong", "crates", "gone", "at", "letter"] (defScope s__law_pushed) := ⟨rfl, rfl, rfl, by decide +kernel, rfl, by decide +kernel, by decide +kernel⟩
theorem sc__law_bag_behind : FnScope ["rules", "bag", "mark", "found", "place"] ["rules", "bag", "mark"] (defScope s__law_bag_behind) := ⟨rfl, rfl, rfl, by decide +kernel, rfl, by decide +kernel, by decide +kernel⟩
theorem sc__law_walked : FnScope ["rows", "rules", "state", "letter", "at", "crates", "gone", "used", "bag", "cells", "goal", "behind", "k"] ["rows", "rules", "state", "letter"] (defScope s__law_walked) := ⟨rfl, rfl, rfl, by decide +kernel, rfl, by decide +kernel, by decide +kernel⟩
theorem sc__law_step : FnScope ["rows", "rules", "state", "letter", "at", "small", "back", "behind"] ["rows", "rules", "state", "letter"] (defScope s__law_step) := ⟨rfl, rfl, rfl, by decide +kernel, rfl, by decide +kernel, by decide +kernel⟩
theorem sc__law_moves : FnScope ["rows", "rules", "state", "found", "letter", "behind"] ["rows", "rules", "state"] (defScope s__law_moves) := ⟨rfl, rfl, rfl, by decide +kernel, rfl, by decide +kernel, by decide +kernel⟩
theorem sc__law_rules : FnScope ["pool"] ["pool"] (defScope s__law_rules) := ⟨rfl, rfl, rfl, by decide +kernel, rfl, by decide +kernel, by decide +kernel⟩
theorem sc__law_bag : FnScope ["pool", "rules"] ["pool", "rules"] (defScope s__law_bag) := ⟨rfl, rfl, rfl, by decide +kernel, rfl, by decide +kernel, by decide +kernel⟩
theorem sc__law_begun : FnScope ["rows", "bag", "cells", "crates", "k"] ["rows", "bag"] (defScope s__law_begun) := ⟨rfl, rfl, rfl, by decide +kernel, rfl, by decide +kernel, by decide +kernel⟩
theorem sc__law_visited : FnScope ["pool", "rows", "rules", "state", "cells"] ["pool", "rows", "rules", "state"] (defScope s__law_visited) := ⟨rfl, rfl, rfl, by decide +kernel, rfl, by decide +kernel, by decide +kernel⟩
theorem sc_law : FnScope ["script", "pool", "rows", "rules", "room", "book", "bag", "most", "told", "cells", "state", "filled", "letter", "behind", "cell"] ["script"] (defScope s_law) := ⟨rfl, rfl, rfl, by decide +kernel, rfl, by decide +kernel, by decide +kernel⟩
theorem sc_is_ascending : FnScope ["thing", "least", "most", "lowest", "number"] ["thing", "least", "most"] (defScope s_is_ascending) := ⟨rfl, rfl, rfl, by decide +kernel, rfl, by decide +kernel, by decide +kernel⟩
theorem sc_is_bag : FnScope ["rules", "thing", "many"] ["rules", "thing"] (defScope s_is_bag) := ⟨rfl, rfl, rfl, by decide +kernel, rfl, by decide +kernel, by decide +kernel⟩
theorem sc_need_bag : FnScope ["rules", "bag"] ["rules", "bag"] (defScope s_need_bag) := ⟨rfl, rfl, rfl, by decide +kernel, rfl, by decide +kernel, by decide +kernel⟩
theorem sc_first_state : FnScope ["room", "bag"] ["room", "bag"] (defScope s_first_state) := ⟨rfl, rfl, rfl, by decide +kernel, rfl, by decide +kernel, by decide +kernel⟩
theorem sc_begin : FnScope ["room", "rules", "bag"] ["room", "rules", "bag"] (defScope s_begin) := ⟨rfl, rfl, rfl, by decide +kernel, rfl, by decide +kernel, by decide +kernel⟩
theorem sc_is_state : FnScope ["room", "rules", "thing", "at", "crates", "gone", "used", "bag"] ["room", "rules", "thing"] (defScope s_is_state) := ⟨rfl, rfl, rfl, by decide +kernel, rfl, by decide +kernel, by decide +kernel⟩
theorem sc__can_be_gone : FnScope ["room", "gone", "cell"] ["room", "gone"] (defScope s__can_be_gone) := ⟨rfl, rfl, rfl, by decide +kernel, rfl, by decide +kernel, by decide +kernel⟩
theorem sc__can_be_crates : FnScope ["room", "gone", "crates", "cell", "filled"] ["room", "gone", "crates"] (defScope s__can_be_crates) := ⟨rfl, rfl, rfl, by decide +kernel, rfl, by decide +kernel, by decide +kernel⟩
theorem sc__can_be_at : FnScope ["room", "crates", "gone", "at"] ["room", "crates", "gone", "at"] (defScope s__can_be_at) := ⟨rfl, rfl, rfl, by decide +kernel, rfl, by decide +kernel, by decide +kernel⟩
theorem sc__law_met : FnScope ["rows", "rules", "state", "most", "found", "known", "k", "letter", "behind"] ["rows", "rules", "state", "most"] (defScope s__law_met) := ⟨rfl, rfl, rfl, by decide +kernel, rfl, by decide +kernel, by decide +kernel⟩
theorem sc__law_told : FnScope ["room", "book", "state", "most", "found", "known", "k", "letter", "behind"] ["room", "book", "state", "most"] (defScope s__law_told) := ⟨rfl, rfl, rfl, by decide +kernel, rfl, by decide +kernel, by decide +kernel⟩
section
variable {P : Program} {w : World} {K : PySem.W.Frag} {mg : Str → Option Value} {base : Heap} {C CB fB : Addr}
theorem rowsFault_none {rows : List Str} {wd : Nat} (R : RowsOk rows wd) (hl : ∀ r ∈ rows, lineS r = true) : rowsFault (rows.map V.str) = none := by
  unfold rowsFault
  rw [if_pos ⟨by simpa using R.h1, by simpa using R.h5⟩, List.find?_range_eq_none.mpr fun i hi => ?_]
  · rfl
  · rw [List.length_map] at hi
    have h1 : (rows.map V.str)[i]? = some (.str rows[i]) := by rw [List.getElem?_map, List.getElem?_eq_getElem hi]; rfl
    have h2 : (rows.map V.str)[i - 1]? = some (.str (rows[i - 1]'(by omega))) := by rw [List.getElem?_map, List.getElem?_eq_getElem (show i - 1 < rows.length by omega)]; rfl
    unfold badAt
    rw [h1, h2]
    show (!(!lineS rows[i] || decide (rows[i].length ≠ (rows[i - 1]'(by omega)).length))) = true
    rw [hl _ (List.getElem_mem _), R.al _ (List.getElem_mem _), R.al _ (List.getElem_mem _)]
    simp
theorem strOf_map (rows : List Str) : (rows.map V.str).map strOf = rows := by
  rw [List.map_map]
  have : strOf ∘ V.str = id := rfl
  rw [this, List.map_id]
theorem PoolAt.ne {H : Hp} {l p b : Addr} (h : PoolAt K H l p) (e : H b = none) : b ≠ p := by
  obtain ⟨xs, i, c, n, z, h1, _⟩ := h
  intro z
  rw [← z, e] at h1
  cases h1
theorem PoolAt.nel {H : Hp} {l p b : Addr} (h : PoolAt K H l p) (e : H b = none) : b ≠ l := by
  obtain ⟨xs, i, c, n, z, h1, h2, h3, _⟩ := h
  intro z
  rw [← z, e] at h3
  cases h3
theorem PoolAt.mut {H : Hp} {l p q : Addr} {o : HO} (h : PoolAt K H l p) (h1 : q ≠ p) (h2 : q ≠ l) : PoolAt K (upd H q o) l p := by
  obtain ⟨xs, i, c, n, z, e1, e2, e3, e4⟩ := h
  exact ⟨xs, i, c, n, z, by rw [upd_ne h1.symm]; exact e1, e2, by rw [upd_ne h2.symm]; exact e3, e4⟩
theorem Off.wider {M M' : Addr → Prop} {H H' : Hp} (z : ∀ a, M a → M' a) (h : Off M H H') : Off M' H H' := fun b o n e => h b o (fun m => n (z _ m)) e
theorem eraseIdx_mapV (ns : List Int) (k : Nat) : (ns.map V.int).eraseIdx k = (ns.eraseIdx k).map V.int := by
  induction ns generalizing k with
  | nil => rfl
  | cons x r ih => cases k with
    | zero => rfl
    | succ k => simp [List.eraseIdx, ih]
theorem getElem_eraseIdx : ∀ {ns : List Int} {k : Nat} (h : k < ns.length), (ns[k] :: ns.eraseIdx k).Perm ns
  | x :: r, 0, _ => .refl _
  | x :: r, k + 1, h => by
    show (r[k]'(by simpa using h) :: x :: r.eraseIdx k).Perm (x :: r)
    exact (List.Perm.swap x _ _).trans (List.Perm.cons x (getElem_eraseIdx (by simpa using h)))
def spShuf (K : PySem.W.Frag) : Sp := fun vs H Q _ => ∃ (l p a : Addr) (ns : List Int), vs = [.ref p, .ref a] ∧ PoolAt K H l p ∧ a ≠ p ∧ H a = some (.lst (ns.map V.int)) ∧ ns.length ≤ 1000 ∧
  ∀ (D : Addr) (ms : List Int) (H' : Hp), H D = none → ms.Perm ns → H' D = some (.lst (ms.map V.int)) → Off (fun b => b = p) H H' → PoolAt K H' l p → Q (.ref D) H'
theorem ok_shuf {f : Addr} {fd : FuncData} (F : Fun K "_law_shuffled" "_law_shuffled" s__law_shuffled f fd) (T : Rb mg) (c__law_draw : CalG P w K mg base 1 "_law_draw" (spDraw K)) : FnG P w K mg base (CXe P w) 2 f fd ["pool", "things"] (spShuf K) := by
  refine F.okG sc__law_shuffled (fun vs H Q E h => ?_) (fun cdv A outer s H vs Q E hgd hr h => ?_)
  · obtain ⟨l, p, a, ns, rfl, _⟩ := h; rfl
  · obtain ⟨l, p, a, ns, rfl, hp, hap, ha, hn, k⟩ := h
    refine ⟨_, (pss_cons (ps_set (i := 2) sc__law_shuffled.nd rfl (Or.inl rfl) (pe_callTy call_list_of (by rfl) T.n_list (by decide +kernel) (pa_cons (pv 1) pa_nil)))
      (pss_cons (ps_set (i := 3) sc__law_shuffled.nd rfl (Or.inl rfl) (pe_lstA pa_nil))
      (pss_cons (ps_for (passes_of rfl) rfl (pi_range1 (by rfl) T.n_range (pa_cons (pe_callB call_len_seq (by rfl) T.n_len (by decide +kernel) (pa_cons (pv 1) pa_nil)) pa_nil)) (pg_name (i := 4) sc__law_shuffled.nd rfl (Or.inl rfl))
      (pss_one (ps_expr (pe_bm PySem.F.plainAttrs_list PySem.F.slot_list_append PySem.F.type_list_append mt_append (pv 3) (pa_cons (pe_bm PySem.F.plainAttrs_list PySem.F.slot_list_pop PySem.F.type_list_pop mt_popAt (pv 2) (pa_cons (pg_c c__law_draw hgd hr (by decide) (pa_cons (pv 0) (pa_cons (pe_callB call_len_seq (by rfl) T.n_len (by decide +kernel) (pa_cons (pv 2) pa_nil)) pa_nil))) pa_nil)) pa_nil)))))
      (pss_one (ps_ret (pv 3)))))), ?_⟩
    refine ⟨_, rfl, a, _, rfl, .inl (SqL.of ha), fun L hL => ?_⟩
    have nL : Same H (upd H L (.lst (ns.map V.int))) := same_new hL
    have hL1 : upd H L (.lst (ns.map V.int)) L = some (.lst (ns.map V.int)) := upd_same
    generalize upd H L (.lst (ns.map V.int)) = H1 at nL hL1 ⊢
    refine And.intro (Nat.le_of_ble_eq_true rfl) (fun D H2 n2 => ?_)
    have hDL : L ≠ D := ne_of_none hL1 n2.free
    have s2 := nL.trans n2.same
    have hp2 := hp.same s2
    have hLp : L ≠ p := hp.ne hL
    have hLl : L ≠ l := hp.nel hL
    have hDp : D ≠ p := (hp.same nL).ne n2.free
    have hDl : D ≠ l := (hp.same nL).nel n2.free
    walk_at "rd"
    refine ⟨a, _, rfl, .inl (SqL.of (s2 _ _ ha)), ?_⟩
    rw [List.length_map]
    refine ⟨_, rfl, by omega, by omega, ?_⟩
    rw [Int.toNat_natCast]
    refine for_range (n := ns.length) (fun i σ H' => ∃ (kv : Option V) (left found : List Int), σ = [some (.ref p), some (.ref a), some (.ref L), some (.ref D), kv] ∧ PoolAt K H' l p ∧ H' L = some (.lst (left.map V.int)) ∧ H' D = some (.lst (found.map V.int)) ∧ (found ++ left).Perm ns ∧ found.length = i ∧
      Off (fun b => b = p ∨ b = L ∨ b = D) H2 H') ⟨none, ns, [], rfl, hp2, n2.same _ _ hL1, n2.at_, by simp, rfl, Off.refl _⟩ ?_ ?_
    · rintro i σ H3 hi ⟨kv, left, found, rfl, hp3, hl3, hd3, pm, hlen, off⟩
      have hll : left.length = ns.length - i := by
        have := pm.length_eq
        rw [List.length_append] at this
        omega
      walk_at "rd"
      refine And.intro (.inl ⟨rfl, _, SqL.of hd3⟩) ?_
      refine ⟨_, rfl, .inl ⟨rfl, _, SqL.of hl3⟩, _, rfl, _, rfl, L, _, rfl, .inl (SqL.of hl3), ?_⟩
      rw [List.length_map]
      refine ⟨l, p, (left.length : Int), rfl, hp3, by omega, by omega, fun r H4 ra rb o4 hp4 => ?_⟩
      have hl4 := o4 _ _ hLp hl3
      have hd4 := o4 _ _ hDp hd3
      have hrk : r.toNat < left.length := by omega
      refine ⟨L, _, r, r.toNat, .int left[r.toNat], rfl, rfl, hl4, by omega, by omega, ?_, by rw [List.getElem?_map, List.getElem?_eq_getElem hrk]; rfl, ?_⟩
      · rw [List.length_map]
        exact seqIndex_of ra (by omega)
      have hd5 : upd H4 L (.lst ((left.map V.int).eraseIdx r.toNat)) D = some (.lst (found.map V.int)) := by rw [upd_ne (Ne.symm hDL)]; exact hd4
      refine ⟨D, _, _, rfl, rfl, hd5, ?_, ?_⟩
      · rw [List.length_map]; exact small1000 (by omega)
      refine ⟨_, left.eraseIdx r.toNat, found ++ [left[r.toNat]], rfl, (hp4.mut hLp hLl).mut hDp hDl, ?_, ?_, ?_, by simp [hlen], ?_⟩
      · rw [upd_ne hDL, upd_same, eraseIdx_mapV]
      · rw [upd_same, List.map_append]; rfl
      · rw [List.append_assoc]
        exact (List.Perm.append_left found (getElem_eraseIdx hrk)).trans pm
      · exact ((off.trans (Off.wider (fun _ z => .inl z) o4)).trans (Off.mut (.inr (.inl rfl)))).trans (Off.mut (.inr (.inr rfl)))
    · rintro σ H3 ⟨kv, left, found, rfl, hp3, hl3, hd3, pm, hlen, off⟩
      have hl0 : left = [] := by
        have := pm.length_eq
        rw [List.length_append] at this
        exact List.eq_nil_of_length_eq_zero (by omega)
      subst hl0
      rw [List.append_nil] at pm
      refine ⟨_, rfl, k D found H3 (nL.free n2.free) pm hd3 ?_ hp3⟩
      intro b o hb e
      have h1 : b ≠ L := fun z => by rw [z, hL] at e; cases e
      have h2 : b ≠ D := fun z => by rw [z, nL.free n2.free] at e; cases e
      exact off b o (fun z => z.elim hb (fun z => z.elim h1 h2)) (s2 _ _ e)
end
end K11
end
section
set_option Elab.async false
set_option linter.all false
set_option maxRecDepth 100000
set_option maxHeartbeats 2000000
namespace K11
open PySem L2
local macro_rules | `(tactic| walk_at "hp") => `(tactic| first | assumption | exact upd_same | (refine (upd_ne (by first | assumption | (apply Ne.symm; assumption))).trans ?_; walk_at "hp"))
local macro_rules | `(tactic| walk_at "rd1") => `(tactic| first
  | (refine ⟨_, rfl, ?_⟩)
  | (refine ⟨_, _, rfl, rfl, ?_⟩)
  | (refine ⟨(rfl : scal _ _ = true), ?_⟩)
  | (refine And.intro (by show (0 : Int) < _; decide) ?_)
  | (refine And.intro (And.intro (by decide) (by decide)) ?_)
  | (refine And.intro (by assumption) ?_)
  | (refine Or.inl ⟨_, rfl, ?_⟩))
local macro_rules | `(tactic| walk_at "rd") => `(tactic| repeat walk_at "rd1")
section
variable {P : Program} {w : World} {K : PySem.W.Frag} {mg : Str → Option Value} {base : Heap} {C CB fB : Addr}
/-- a sign in the place of '.' -/
theorem count_put {cs : List Nat} {j c x : Nat} (h : cs[j]? = some 46) (hx : x ≠ 46) : (cs.set j c).count x = cs.count x + if c = x then 1 else 0 := by
  induction cs generalizing j with
  | nil => cases h
  | cons a r ih =>
    cases j with
    | zero =>
      have : a = 46 := by simpa using h
      subst this
      simp [List.count_cons, Ne.symm hx]
    | succ j =>
      have h' : r[j]? = some 46 := by simpa using h
      rw [List.set_cons_succ, List.count_cons, List.count_cons, ih h']
      omega
/-- cells with free places ms, each a '.' -/
structure Cells (n : Nat) (cs : List Nat) (ms : List Int) : Prop where
  len : cs.length = n
  free : ∀ m ∈ ms, ∃ j : Nat, m = (j : Int) ∧ cs[j]? = some 46
  nd : ms.Nodup
  inM : ∀ c ∈ cs, c ∈ marksS.cps.toList
theorem Cells.lt {n : Nat} {cs : List Nat} {ms : List Int} (h : Cells n cs ms) {j : Nat} (e : cs[j]? = some 46) : j < n := by
  have := (List.getElem?_eq_some_iff.mp e).1
  rw [h.len] at this
  exact this
/-- one place is filled, and is free no more -/
theorem Cells.put {n : Nat} {cs : List Nat} {ms ms' : List Int} {m : Int} {j c : Nat} (h : Cells n cs ms) (pm : ms.Perm (m :: ms')) (ej : m = (j : Int)) (e : cs[j]? = some 46) (hc : c ∈ marksS.cps.toList) : Cells n (cs.set j c) ms' where
  len := by rw [List.length_set]; exact h.len
  nd := ((pm.nodup_iff).mp h.nd).tail
  free := fun x hx => by
    obtain ⟨i, ei, hi⟩ := h.free x (pm.mem_iff.mpr (List.mem_cons_of_mem _ hx))
    refine ⟨i, ei, ?_⟩
    have hne : j ≠ i := fun z => by
      have hn := (pm.nodup_iff).mp h.nd
      have : m = x := by rw [ej, ei, z]
      rw [List.nodup_cons] at hn
      exact hn.1 (this ▸ hx)
    rw [List.getElem?_set_ne hne]
    exact hi
  inM := fun x hx => by
    rcases List.mem_or_eq_of_mem_set hx with z | z
    · exact h.inM x z
    · rw [z]; exact hc
theorem Cells.drop {n : Nat} {cs : List Nat} {ms ms' : List Int} {m : Int} (h : Cells n cs ms) (pm : ms.Perm (m :: ms')) : Cells n cs ms' where
  len := h.len
  nd := ((pm.nodup_iff).mp h.nd).tail
  free := fun x hx => h.free x (pm.mem_iff.mpr (List.mem_cons_of_mem _ hx))
  inM := h.inM
theorem Cells.begin (n : Nat) {ms : List Int} (pm : ms.Perm ((List.range n).map Int.ofNat)) : Cells n (List.replicate n 46) ms where
  len := List.length_replicate
  nd := (pm.nodup_iff).mpr (by rw [List.Nodup, List.pairwise_map]; exact List.Pairwise.imp (fun {a b} h z => h (Int.ofNat.inj z)) List.nodup_range)
  free := fun m hm => by
    obtain ⟨j, hj, rfl⟩ := List.mem_map.mp (pm.mem_iff.mp hm)
    exact ⟨j, rfl, by rw [List.getElem?_replicate, if_pos (List.mem_range.mp hj)]⟩
  inM := fun c hc => by rw [List.eq_of_mem_replicate hc]; decide +kernel
/-- the last of a list, and the others -/
theorem perm_last {ms : List Int} {m : Int} (h : ms[ms.length - 1]? = some m) : ms.Perm (m :: ms.dropLast) := by
  have hne : ms ≠ [] := fun z => by rw [z] at h; cases h
  have e : ms = ms.dropLast ++ [m] := by
    have := List.dropLast_concat_getLast hne
    have l : ms.getLast hne = m := by
      rw [List.getLast_eq_getElem]
      exact (List.getElem?_eq_some_iff.mp h).2
    rw [l] at this
    exact this.symm
  conv => lhs; rw [e]
  exact List.perm_append_comm
theorem rep_flat {α : Type} (n : Nat) (x : α) : (List.replicate n [x]).flatten = List.replicate n x := by
  induction n with
  | zero => rfl
  | succ n ih => rw [List.replicate_succ, List.flatten_cons, ih]; rfl
def cellV (c : Nat) : V := .str ⟨#[c]⟩
theorem join_cells (cs : List Nat) : (Txt.join "" (cs.map fun c => (⟨#[c]⟩ : Str))).cps.toList = cs := by
  rw [join_cps, List.map_map]
  induction cs with
  | nil => rfl
  | cons a r ih => rw [List.map_cons, List.flatten_cons, ih]; rfl
theorem same_str (x y : Str) : Spec.same (.str x) (.str y) = decide (x = y) := by
  unfold Spec.same
  rfl
theorem count_nat (x : Str) (c : Nat) : Txt.count x ⟨#[c]⟩ = ((x.cps.toList.count c : Nat) : Int) := by
  rw [PyProof.Rows.count_is]
  generalize x.cps.toList = l
  induction l with
  | nil => rfl
  | cons a r ih =>
    rw [List.map_cons, List.count_cons]
    unfold Spec.countIn
    rw [ih, same_str]
    by_cases h : a = c
    · subst h; simp; omega
    · have : ¬ ((⟨#[a]⟩ : Str) = ⟨#[c]⟩) := fun z => h (by injection z with z; simpa using z)
      simp [h, this]

theorem dropLast_mapV (ns : List Int) : (ns.map V.int).dropLast = ns.dropLast.map V.int := by simp
theorem set_mapC (cs : List Nat) (j c : Nat) : (cs.map cellV).set j (cellV c) = (cs.set j c).map cellV := by
  rw [List.map_set]
def kindOf (c : Nat) : Int := if c = 111 then 0 else if c ∈ [97, 98, 65, 66] then 1 else 2
theorem kind_eq (c : Nat) : ((2 : Int) - (if decide (c ∈ ("abAB" : Str).cps.toList) = true then 1 else 0)) - 2 * (if decide (V.str ⟨#[c]⟩ = V.str "o") = true then 1 else 0) = kindOf c := by
  have e1 : ("abAB" : Str).cps.toList = [97, 98, 65, 66] := by decide +kernel
  have e2 : (V.str ⟨#[c]⟩ = V.str "o") ↔ c = 111 := by
    have : ("o" : Str) = ⟨#[111]⟩ := by decide +kernel
    rw [this]; simp
  rw [e1]
  unfold kindOf
  by_cases h : c = 111
  · subst h
    rw [decide_eq_true (e2.mpr rfl)]
    simp
  · rw [decide_eq_false (fun z => h (e2.mp z)), if_neg h]
    by_cases h2 : c ∈ [97, 98, 65, 66]
    · rw [decide_eq_true h2, if_pos h2]; simp
    · rw [decide_eq_false h2, if_neg h2]; simp
theorem star_eq (c : Nat) : (!decide (cellV c = V.str "*")) = !decide (c = 42) := by
  have : V.str "*" = cellV 42 := by
    have : ("*" : Str) = ⟨#[42]⟩ := by decide +kernel
    rw [this]; rfl
  rw [this]
  congr 1
  unfold cellV
  simp
theorem flat_cells (cs : List Nat) : (cs.map cellV).all flatV = true := by
  rw [List.all_map, List.all_eq_true]
  intro c _
  rfl
theorem in_cells (cs : List Nat) : (!inV (V.str "*") (cs.map cellV)) = !decide (42 ∈ cs) := by
  have : V.str "*" = cellV 42 := by
    have : ("*" : Str) = ⟨#[42]⟩ := by decide +kernel
    rw [this]; rfl
  rw [this]
  congr 1
  unfold inV
  rw [List.any_map]
  induction cs with
  | nil => rfl
  | cons a r ih =>
    rw [List.any_cons, ih]
    show ((⟨#[a]⟩ : Str) == ⟨#[42]⟩ || decide (42 ∈ r)) = decide (42 ∈ a :: r)
    by_cases h : a = 42
    · subst h; simp
    · have : ((⟨#[a]⟩ : Str) == ⟨#[42]⟩) = false := by
        simp [h]
      rw [this]
      simp [Ne.symm h]
/-- cells[free.pop()] = c -/
theorem pop_set {B : Hp} {Fr Cc : Addr} {ms : List Int} {cs : List Nat} {n j c : Nat} {m0 : Int} {R : Hp → Prop} (hms : B Fr = some (.lst (ms.map V.int))) (hC : B Cc = some (.lst (cs.map cellV))) (hFC : Fr ≠ Cc) (K0 : Cells n cs ms) (hm : ms[ms.length - 1]? = some m0) (ej : m0 = (j : Int)) (e46 : cs[j]? = some 46)
    (k : ∀ B', B' Fr = some (.lst (ms.dropLast.map V.int)) → B' Cc = some (.lst ((cs.set j c).map cellV)) → Off (fun b => b = Fr ∨ b = Cc) B B' → R B') : rPop (.ref Fr) [] B (fun i H2 => rSetL (.ref Cc) i (cellV c) H2 R) := by
  refine ⟨Fr, _, .int m0, rfl, rfl, hms, by rw [List.length_map, List.getElem?_map, hm]; rfl, ?_⟩
  have hj : j < (cs.map cellV).length := by rw [List.length_map]; exact (List.getElem?_eq_some_iff.mp e46).1
  refine ⟨Cc, cs.map cellV, m0, j, rfl, rfl, by rw [upd_ne (Ne.symm hFC)]; exact hC, by rw [ej]; unfold ixN; rw [if_pos (by omega), if_pos (by omega)]; rfl, ?_⟩
  refine k _ (by rw [upd_ne hFC, upd_same, dropLast_mapV]) (by rw [upd_same, set_mapC]) (fun b o hb e => ?_)
  rw [upd_ne (fun z => hb (.inr z)), upd_ne (fun z => hb (.inl z))]
  exact e
/-- cells as they are strewn at last -/
structure Strewn (n : Nat) (cs : List Nat) : Prop where
  len : cs.length = n
  inM : ∀ c ∈ cs, c ∈ marksS.cps.toList
  c64 : cs.count 64 = 1
  c49 : cs.count 49 ≤ 1
  c50 : cs.count 50 ≤ cs.count 49
  c42 : cs.count 42 ≤ 1
  c111 : cs.count 111 ≤ 3
  cab : cs.count 97 + cs.count 98 + cs.count 65 + cs.count 66 ≤ 4
theorem chunks (w : Nat) : ∀ (h : Nat) (cs : List Nat), cs.length = h * w → ((List.range h).map fun k => (cs.drop (w * k)).take w).flatten = cs
  | 0, cs, e => by
    have : cs = [] := List.eq_nil_of_length_eq_zero (by simpa using e)
    rw [this]; rfl
  | h + 1, cs, e => by
    have ih := chunks w h (cs.drop w) (by rw [List.length_drop, e, Nat.succ_mul]; omega)
    rw [List.range_succ_eq_map, List.map_cons, List.flatten_cons, List.map_map]
    have e2 : ((fun k => (cs.drop (w * k)).take w) ∘ Nat.succ) = fun k => ((cs.drop w).drop (w * k)).take w := by
      funext k
      simp [List.drop_drop, Nat.mul_succ, Nat.add_comm]
    rw [e2, ih, Nat.mul_zero, List.drop_zero, List.take_append_drop]
theorem manyZ_keys (z : Str) : manyZ z "abAB" = Txt.count z "a" + Txt.count z "b" + Txt.count z "A" + Txt.count z "B" := by
  have e : ("abAB" : Str).cps.toList = [97, 98, 65, 66] := by decide +kernel
  have ea : ("a" : Str) = ⟨#[97]⟩ := by decide +kernel
  have eb : ("b" : Str) = ⟨#[98]⟩ := by decide +kernel
  have eA : ("A" : Str) = ⟨#[65]⟩ := by decide +kernel
  have eB : ("B" : Str) = ⟨#[66]⟩ := by decide +kernel
  unfold manyZ
  rw [e, ea, eb, eA, eB]
  simp
  omega
theorem cnts (z : Str) : Txt.count z "@" = (z.cps.toList.count 64 : Nat) ∧ Txt.count z "*" = (z.cps.toList.count 42 : Nat) ∧ Txt.count z "1" = (z.cps.toList.count 49 : Nat) ∧ Txt.count z "2" = (z.cps.toList.count 50 : Nat) ∧ Txt.count z "o" = (z.cps.toList.count 111 : Nat) ∧
    Txt.count z "a" = (z.cps.toList.count 97 : Nat) ∧ Txt.count z "b" = (z.cps.toList.count 98 : Nat) ∧ Txt.count z "A" = (z.cps.toList.count 65 : Nat) ∧ Txt.count z "B" = (z.cps.toList.count 66 : Nat) := by
  refine ⟨?_, ?_, ?_, ?_, ?_, ?_, ?_, ?_, ?_⟩
  · rw [← count_nat]; congr 1
  · rw [← count_nat]; congr 1
  · rw [← count_nat]; congr 1
  · rw [← count_nat]; congr 1
  · rw [← count_nat]; congr 1
  · rw [← count_nat]; congr 1
  · rw [← count_nat]; congr 1
  · rw [← count_nat]; congr 1
  · rw [← count_nat]; congr 1
/-- the same, told by numbers -/
theorem wholeZ_iff (z : Str) : wholeZ z = true ↔ (z.length ≤ 24 ∧ z.cps.toList.count 64 = 1) ∧ (z.cps.toList.count 42 ≤ 1 ∧ z.cps.toList.count 49 ≤ 1 ∧ z.cps.toList.count 50 ≤ z.cps.toList.count 49) ∧ z.cps.toList.count 111 ≤ 3 ∧
    z.cps.toList.count 97 + z.cps.toList.count 98 + z.cps.toList.count 65 + z.cps.toList.count 66 ≤ 4 := by
  obtain ⟨a1, a2, a3, a4, a5, a6, a7, a8, a9⟩ := cnts z
  unfold wholeZ
  rw [manyZ_keys, a1, a2, a3, a4, a5, a6, a7, a8, a9]
  have m50 : 50 ∈ z.cps.toList ↔ 0 < z.cps.toList.count 50 := List.count_pos_iff.symm
  have m49 : 49 ∈ z.cps.toList ↔ 0 < z.cps.toList.count 49 := List.count_pos_iff.symm
  simp only [Bool.and_eq_true, Bool.not_eq_true', Bool.or_eq_false_iff, decide_eq_true_eq, decide_eq_false_iff_not, Bool.not_eq_false', Bool.and_eq_false_iff, m50, m49]
  omega
theorem cut_at (z : Str) {a b : Nat} (h : a ≤ b) (hb : b ≤ z.length) : (cutS z (some (a : Int)) (some (b : Int))).cps.toList = (z.cps.toList.drop a).take (b - a) := by
  have e : ∀ (c d : Nat), c ≤ z.length → HT.sIx z.length d (some (c : Int)) = c := fun c d hc => by
    show (if (c : Int) < 0 then ((c : Int) + (z.length : Int)).toNat else min (c : Int).toNat z.length) = c
    rw [if_neg (by omega), Int.toNat_natCast]
    omega
  unfold cutS
  rw [e b _ hb, e a _ (by omega)]
theorem str_cps {x y : Str} (h : x.cps.toList = y.cps.toList) : x = y := by
  cases x; cases y
  simp only [Str.mk.injEq]
  exact Array.toList_inj.mp h
/-- the rows of a line of cells -/
def rowsOf (z : Str) (h w : Nat) : List Str := (List.range h).map fun k => cutS z (some ((w * k : Nat) : Int)) (some ((w * k + w : Nat) : Int))
theorem rowsOf_join {z : Str} {h w : Nat} (e : z.length = h * w) : Txt.join "" (rowsOf z h w) = z := by
  refine str_cps ?_
  rw [join_cps, rowsOf, List.map_map]
  have e2 : z.cps.toList.length = h * w := by rw [Array.length_toList]; exact e
  rw [← chunks w h z.cps.toList e2]
  congr 1
  refine List.map_congr_left fun k hk => ?_
  have hk' := List.mem_range.mp hk
  have : w * k + w ≤ z.length := by
    rw [e, ← Nat.mul_succ, Nat.mul_comm]
    exact Nat.mul_le_mul_right _ hk'
  show (cutS z _ _).cps.toList = _
  rw [cut_at z (by omega) this, Nat.add_sub_cancel_left]
theorem rowsOf_mem {z : Str} {h w : Nat} (e : z.length = h * w) {r : Str} (hr : r ∈ rowsOf z h w) : r.length = w ∧ ∀ c ∈ r.cps.toList, c ∈ z.cps.toList := by
  obtain ⟨k, hk, rfl⟩ := List.mem_map.mp hr
  have hk' := List.mem_range.mp hk
  have : w * k + w ≤ z.length := by
    rw [e, ← Nat.mul_succ, Nat.mul_comm]
    exact Nat.mul_le_mul_right _ hk'
  have ec := cut_at z (show w * k ≤ w * k + w by omega) this
  rw [Nat.add_sub_cancel_left] at ec
  refine ⟨?_, fun c hc => ?_⟩
  · have : (cutS z (some ((w * k : Nat) : Int)) (some ((w * k + w : Nat) : Int))).cps.toList.length = w := by
      rw [ec, List.length_take, List.length_drop, Array.length_toList]
      have : z.cps.size = z.length := rfl
      omega
    rw [Array.length_toList] at this
    exact this
  · rw [ec] at hc
    exact List.mem_of_mem_drop (List.mem_of_mem_take hc)
theorem lineS_of {r : Str} (h1 : 1 ≤ r.length) (h6 : r.length ≤ 6) (h : ∀ c ∈ r.cps.toList, c ∈ marksS.cps.toList) : lineS r = true := by
  have a1 : decide (1 ≤ r.length) = true := by simpa using h1
  have a2 : decide (r.length ≤ 6) = true := by simpa using h6
  have a3 : (r.cps.toList.all fun c => decide (c ∈ marksS.cps.toList)) = true := by
    rw [List.all_eq_true]
    exact fun c hc => by simpa using h c hc
  unfold lineS
  rw [a1, a2, a3]; rfl
theorem Strewn.whole {n : Nat} {z : Str} (h : Strewn n z.cps.toList) (hn : n ≤ 24) : wholeZ z = true := by
  rw [wholeZ_iff]
  have : z.length = n := by rw [← h.len, Array.length_toList]; rfl
  exact ⟨⟨by omega, h.c64⟩, ⟨h.c42, h.c49, h.c50⟩, h.c111, h.cab⟩
/-- marks that may be strewn -/
structure MarksOk (mk : Str) : Prop where
  l1 : 1 ≤ mk.length
  l2 : mk.length ≤ 100
  al : ∀ c ∈ mk.cps.toList, c ∈ marksS.cps.toList ∧ c ≠ 64 ∧ c ≠ 49 ∧ c ≠ 50
def spRows (K : PySem.W.Frag) : Sp := fun vs H Q _ => ∃ (l p : Addr) (mk : Str) (mo : Nat), vs = [.ref p, .str mk, .int mo] ∧ PoolAt K H l p ∧ MarksOk mk ∧ mo ≤ 2 ∧
  ∀ (D : Addr) (rows : List Str) (wd : Nat) (H' : Hp), H D = none → RowsOk rows wd → (∀ r ∈ rows, lineS r = true) → wholeZ (Txt.join "" rows) = true → H' D = some (.lst (rows.map V.str)) → Off (fun b => b = p) H H' → PoolAt K H' l p → Q (.ref D) H'
def ShapeAt (H : Hp) (v : V) : Prop := ∃ (t : Addr) (h w : Nat), v = .ref t ∧ H t = some (.tup [.int h, .int w]) ∧ 1 ≤ h ∧ h ≤ 5 ∧ 1 ≤ w ∧ w ≤ 6 ∧ 3 ≤ h * w ∧ h * w ≤ 10
theorem ShapeAt.same {H H' : Hp} {v : V} (s : Same H H') (h : ShapeAt H v) : ShapeAt H' v := by
  obtain ⟨t, a, b, rfl, e, r⟩ := h
  exact ⟨t, a, b, rfl, s _ _ e, r⟩
theorem ok_rows {f : Addr} {fd : FuncData} (F : Fun K "_law_rows" "_law_rows" s__law_rows f fd) (T : Rb mg) (c__law_draw : CalG P w K mg base 1 "_law_draw" (spDraw K)) (c__law_shuffled : CalG P w K mg base 2 "_law_shuffled" (spShuf K)) : FnG P w K mg base (CXe P w) 3 f fd ["pool", "marks", "mouths"] (spRows K) := by
  refine F.okG sc__law_rows (fun vs H Q E h => ?_) (fun cdv A outer s H vs Q E hgd hr h => ?_)
  · obtain ⟨l, p, mk, mo, rfl, _⟩ := h; rfl
  · obtain ⟨l, p, mk, mo, rfl, hp, hmk, hmo, k⟩ := h
    refine ⟨_, (pss_cons (ps_set (i := 3) sc__law_rows.nd rfl (Or.inl rfl) (pe_lstA (pa_cons (pe_tupA (pa_cons pe_int (pa_cons pe_int pa_nil))) (pa_cons (pe_tupA (pa_cons pe_int (pa_cons pe_int pa_nil))) (pa_cons (pe_tupA (pa_cons pe_int (pa_cons pe_int pa_nil))) (pa_cons (pe_tupA (pa_cons pe_int (pa_cons pe_int pa_nil))) (pa_cons (pe_tupA (pa_cons pe_int (pa_cons pe_int pa_nil))) (pa_cons (pe_tupA (pa_cons pe_int (pa_cons pe_int pa_nil))) (pa_cons (pe_tupA (pa_cons pe_int (pa_cons pe_int pa_nil))) (pa_cons (pe_tupA (pa_cons pe_int (pa_cons pe_int pa_nil))) (pa_cons (pe_tupA (pa_cons pe_int (pa_cons pe_int pa_nil))) (pa_cons (pe_tupA (pa_cons pe_int (pa_cons pe_int pa_nil))) pa_nil))))))))))))
      (pss_cons (ps_asg (pe_ix ix_list (pv 3) (pg_c c__law_draw hgd hr (by decide) (pa_cons (pv 0) (pa_cons pe_int pa_nil))) (fun _ _ => rfl)) (pg_tup (by rfl) (pgs_cons (pg_name (i := 4) sc__law_rows.nd rfl (Or.inl rfl)) (pgs_cons (pg_name (i := 5) sc__law_rows.nd rfl (Or.inr rfl)) pgs_nil))))
      (pss_cons (ps_set (i := 6) sc__law_rows.nd rfl (Or.inl rfl) (pe_op op_rep (pe_lstA (pa_cons pe_str pa_nil)) (pe_op op_mul (pv 4) (pv 5))))
      (pss_cons (ps_set (i := 7) sc__law_rows.nd rfl (Or.inl rfl) (pg_c c__law_shuffled hgd hr (by decide) (pa_cons (pv 0) (pa_cons (pe_listRg rfl (by rfl) T.n_list (prg_1 (by rfl) T.n_range (pe_op op_mul (pv 4) (pv 5)))) pa_nil))))
      (pss_cons (ps_asg pe_str (pg_sub (pv 6) (pe_bm0 PySem.F.plainAttrs_list PySem.F.slot_list_pop PySem.F.type_list_pop mt_pop (pv 7)) set_list))
      (pss_cons (ps_for (passes_of rfl) rfl (pi_str (pe_slice sl_str pe_str po_none (po_some (pv 2)))) (pg_name (i := 8) sc__law_rows.nd rfl (Or.inl rfl))
      (pss_one (ps_asg (pv 8) (pg_sub (pv 6) (pe_bm0 PySem.F.plainAttrs_list PySem.F.slot_list_pop PySem.F.type_list_pop mt_pop (pv 7)) set_list))))
      (pss_cons (ps_set (i := 9) sc__law_rows.nd rfl (Or.inl rfl) (pe_lstA (pa_cons pe_int (pa_cons pe_int pa_nil))))
      (C8.pss_cut (ps_for (passes_of rfl) rfl (pi_list (pv 7)) (pg_name (i := 10) sc__law_rows.nd rfl (Or.inl rfl))
      (pss_cons (ps_set (i := 8) sc__law_rows.nd rfl (Or.inl rfl) (pe_ix ix_str (pv 1) (pg_c c__law_draw hgd hr (by decide) (pa_cons (pv 0) (pa_cons (pe_callB call_len_str (by rfl) T.n_len (by decide +kernel) (pa_cons (pv 1) pa_nil)) pa_nil))) (fun _ _ => rfl)))
      (C8.pss_cut (ps_set (i := 11) sc__law_rows.nd rfl (Or.inl rfl) (pe_op op_sub (pe_op op_sub pe_int (pe_callTy call_int1 (by rfl) T.n_int (by decide +kernel) (pa_cons (pe_cmpR op_in_sign (pv 8) pe_str (by rfl)) pa_nil))) (pe_op op_mul pe_int (pe_callTy call_int1 (by rfl) T.n_int (by decide +kernel) (pa_cons (pe_cmpR op_eq (pv 8) pe_str (nomark _)) pa_nil)))))
      (C8.pss_cut (ps_if (PW.pt (pw_and (pt_cmpR op_eq (pv 11) pe_int (nomark _)) (pw_and1 (PW.pt (pw_or (pt_cmpR op_ne (pv 8) pe_str (nomark _)) (pw_or1 (pt_cmpR op_notIn_seq pe_str (pv 6) (by rfl)))))))) (pss_one (ps_asg (pv 8) (pg_sub (pv 6) (pv 10) set_list))) pss_nil)
      (pss_one (ps_if (PW.pt (pw_and (pt_cmpR op_lt (pv 11) pe_int (nomark _)) (pw_and1 (pt_cmpR op_lt (pe_ix ix_list (pv 9) (pv 11) (fun _ _ => rfl)) (pe_op op_add pe_int (pv 11)) (nomark _))))) (pss_cons (ps_asg (pe_op op_add (pe_ix ix_list (pv 9) (pv 11) (fun _ _ => rfl)) pe_int) (pg_sub (pv 9) (pv 11) set_list))
      (pss_one (ps_asg (pv 8) (pg_sub (pv 6) (pv 10) set_list)))) pss_nil))))))
      (pss_cons (ps_set (i := 12) sc__law_rows.nd rfl (Or.inr rfl) (pe_m1 PySem.F.slot_str_join PySem.F.type_str_join mt_join pe_str (pv 6)))
      (pss_one (ps_ret (pe_lc (own := [("k", 13)]) (g := gName 13) (tt := tYes) rfl sc__law_rows.nd (pi_range1 (by rfl) T.n_range (pa_cons (pv 4) pa_nil)) (blkOk_by (own := [("k", 13)]) (N := ["pool", "marks", "mouths", "shapes", "height", "width", "cells", "free", "mark", "counts", "at", "kind", "line", "k"]) (sc := defScope s__law_rows) (by decide +kernel)) (fun _ _ _ _ _ => pg_name (i := 13) sc__law_rows.nd rfl (Or.inl rfl)) (fun _ _ _ _ _ => pts_nil) (fun _ _ _ _ _ => (pe_slice sl_str (pv 12) (po_some (pe_op op_mul (pv 5) (pv 13))) (po_some (pe_op op_add (pe_op op_mul (pv 5) (pv 13)) (pv 5))))))))))))))))), ?_⟩
    refine And.intro (Nat.le_of_ble_eq_true rfl) (fun t0 A0 n0 => ?_)
    have p0 : ShapeAt A0 (.ref t0) := ⟨_, 1, 4, rfl, n0.at_, by decide, by decide, by decide, by decide, by decide, by decide⟩
    have s0 : Same H A0 := n0.same
    refine And.intro (Nat.le_of_ble_eq_true rfl) (fun t1 A1 n1 => ?_)
    have p1 : ShapeAt A1 (.ref t1) := ⟨_, 2, 2, rfl, n1.at_, by decide, by decide, by decide, by decide, by decide, by decide⟩
    have p0 := p0.same n1.same
    have s1 : Same H A1 := s0.trans n1.same
    refine And.intro (Nat.le_of_ble_eq_true rfl) (fun t2 A2 n2 => ?_)
    have p2 : ShapeAt A2 (.ref t2) := ⟨_, 1, 6, rfl, n2.at_, by decide, by decide, by decide, by decide, by decide, by decide⟩
    have p0 := p0.same n2.same
    have p1 := p1.same n2.same
    have s2 : Same H A2 := s1.trans n2.same
    refine And.intro (Nat.le_of_ble_eq_true rfl) (fun t3 A3 n3 => ?_)
    have p3 : ShapeAt A3 (.ref t3) := ⟨_, 2, 3, rfl, n3.at_, by decide, by decide, by decide, by decide, by decide, by decide⟩
    have p0 := p0.same n3.same
    have p1 := p1.same n3.same
    have p2 := p2.same n3.same
    have s3 : Same H A3 := s2.trans n3.same
    refine And.intro (Nat.le_of_ble_eq_true rfl) (fun t4 A4 n4 => ?_)
    have p4 : ShapeAt A4 (.ref t4) := ⟨_, 3, 2, rfl, n4.at_, by decide, by decide, by decide, by decide, by decide, by decide⟩
    have p0 := p0.same n4.same
    have p1 := p1.same n4.same
    have p2 := p2.same n4.same
    have p3 := p3.same n4.same
    have s4 : Same H A4 := s3.trans n4.same
    refine And.intro (Nat.le_of_ble_eq_true rfl) (fun t5 A5 n5 => ?_)
    have p5 : ShapeAt A5 (.ref t5) := ⟨_, 2, 4, rfl, n5.at_, by decide, by decide, by decide, by decide, by decide, by decide⟩
    have p0 := p0.same n5.same
    have p1 := p1.same n5.same
    have p2 := p2.same n5.same
    have p3 := p3.same n5.same
    have p4 := p4.same n5.same
    have s5 : Same H A5 := s4.trans n5.same
    refine And.intro (Nat.le_of_ble_eq_true rfl) (fun t6 A6 n6 => ?_)
    have p6 : ShapeAt A6 (.ref t6) := ⟨_, 3, 3, rfl, n6.at_, by decide, by decide, by decide, by decide, by decide, by decide⟩
    have p0 := p0.same n6.same
    have p1 := p1.same n6.same
    have p2 := p2.same n6.same
    have p3 := p3.same n6.same
    have p4 := p4.same n6.same
    have p5 := p5.same n6.same
    have s6 : Same H A6 := s5.trans n6.same
    refine And.intro (Nat.le_of_ble_eq_true rfl) (fun t7 A7 n7 => ?_)
    have p7 : ShapeAt A7 (.ref t7) := ⟨_, 1, 3, rfl, n7.at_, by decide, by decide, by decide, by decide, by decide, by decide⟩
    have p0 := p0.same n7.same
    have p1 := p1.same n7.same
    have p2 := p2.same n7.same
    have p3 := p3.same n7.same
    have p4 := p4.same n7.same
    have p5 := p5.same n7.same
    have p6 := p6.same n7.same
    have s7 : Same H A7 := s6.trans n7.same
    refine And.intro (Nat.le_of_ble_eq_true rfl) (fun t8 A8 n8 => ?_)
    have p8 : ShapeAt A8 (.ref t8) := ⟨_, 4, 2, rfl, n8.at_, by decide, by decide, by decide, by decide, by decide, by decide⟩
    have p0 := p0.same n8.same
    have p1 := p1.same n8.same
    have p2 := p2.same n8.same
    have p3 := p3.same n8.same
    have p4 := p4.same n8.same
    have p5 := p5.same n8.same
    have p6 := p6.same n8.same
    have p7 := p7.same n8.same
    have s8 : Same H A8 := s7.trans n8.same
    refine And.intro (Nat.le_of_ble_eq_true rfl) (fun t9 A9 n9 => ?_)
    have p9 : ShapeAt A9 (.ref t9) := ⟨_, 2, 5, rfl, n9.at_, by decide, by decide, by decide, by decide, by decide, by decide⟩
    have p0 := p0.same n9.same
    have p1 := p1.same n9.same
    have p2 := p2.same n9.same
    have p3 := p3.same n9.same
    have p4 := p4.same n9.same
    have p5 := p5.same n9.same
    have p6 := p6.same n9.same
    have p7 := p7.same n9.same
    have p8 := p8.same n9.same
    have s9 : Same H A9 := s8.trans n9.same
    refine And.intro (Nat.le_of_ble_eq_true rfl) (fun S B0 nS => ?_)
    have sS := s9.trans nS.same
    have shp : ∀ v ∈ [V.ref t0, .ref t1, .ref t2, .ref t3, .ref t4, .ref t5, .ref t6, .ref t7, .ref t8, .ref t9], ShapeAt B0 v := by
      intro v hv
      simp only [List.mem_cons, List.not_mem_nil, or_false] at hv
      rcases hv with rfl | rfl | rfl | rfl | rfl | rfl | rfl | rfl | rfl | rfl <;> first | exact p0.same nS.same | exact p1.same nS.same | exact p2.same nS.same | exact p3.same nS.same | exact p4.same nS.same | exact p5.same nS.same | exact p6.same nS.same | exact p7.same nS.same | exact p8.same nS.same | exact p9.same nS.same
    walk_at "rd"
    refine ⟨l, p, 10, rfl, hp.same sS, by decide, by decide, fun r B1 ra rb o1 hp1 => ?_⟩
    have hSp : S ≠ p := (hp.same s9).ne nS.free
    have hS1 := o1 _ _ hSp nS.at_
    obtain ⟨v, hv⟩ : ∃ v, ([V.ref t0, .ref t1, .ref t2, .ref t3, .ref t4, .ref t5, .ref t6, .ref t7, .ref t8, .ref t9] : List V)[r.toNat]? = some v := ⟨_, List.getElem?_eq_getElem (by simp; omega)⟩
    refine ⟨S, _, r, v, rfl, rfl, SqL.of hS1, ?_, ?_⟩
    · have := atI_nat hv
      rwa [Int.toNat_of_nonneg ra] at this
    obtain ⟨t, hh, ww, rfl, ht, h1, h5, w1, w6, m3, m10⟩ := shp v (List.mem_of_getElem? hv)
    have htp : t ≠ p := fun z => by
      obtain ⟨xs, i, c, n, zz, e1, _⟩ := hp.same sS
      rw [z, e1] at ht
      cases ht
    have ht1 := o1 _ _ htp ht
    refine ⟨t, _, rfl, SqT.of ht1, rfl, _, _, rfl, _, _, rfl, rfl, ?_⟩
    have s1 : Off (fun b => b = p) H B1 := (Off.same sS).trans o1
    refine And.intro (Nat.le_of_ble_eq_true rfl) (fun C0 B2 nC => ?_)
    have en : (hh : Int) * (ww : Int) = ((hh * ww : Nat) : Int) := by simp
    obtain ⟨n, hn⟩ : ∃ n, n = hh * ww := ⟨_, rfl⟩
    rw [← hn] at en m3 m10
    refine ⟨_, rfl, _, rfl, _, _, rfl, rfl, .inl ⟨by omega, by omega⟩, ?_⟩
    refine ⟨C0, ((n : Nat) : Int), _, rfl, congrArg V.int en, nC.at_, by omega, by omega, ?_, fun Cc hCc => ?_⟩
    · rw [Int.toNat_natCast]
      show 1 * n ≤ _
      exact Nat.le_of_lt (small1000 (by omega))
    have eC : (List.replicate ((n : Nat) : Int).toNat [V.str "."]).flatten = (List.replicate n 46).map cellV := by
      rw [Int.toNat_natCast, rep_flat, List.map_replicate]
      have : V.str "." = cellV 46 := by
        have : ("." : Str) = ⟨#[46]⟩ := by decide +kernel
        rw [this]; rfl
      rw [this]
    rw [eC]
    have sC : Same B2 (upd B2 Cc (.lst ((List.replicate n 46).map cellV))) := same_new hCc
    have hC3 : upd B2 Cc (.lst ((List.replicate n 46).map cellV)) Cc = some (.lst ((List.replicate n 46).map cellV)) := upd_same
    have hp2 : PoolAt K B2 l p := hp1.same nC.same
    have hCp : Cc ≠ p := hp2.ne hCc
    have hCl : Cc ≠ l := hp2.nel hCc
    generalize upd B2 Cc (.lst ((List.replicate n 46).map cellV)) = B3 at sC hC3 ⊢
    have hp3 := hp2.same sC
    walk_at "rd"
    refine And.intro (.inl ⟨by omega, by omega⟩) ?_
    refine ⟨((n : Nat) : Int), congrArg V.int en, RgOk.of_le (by omega) (by omega) (by omega) (by omega), fun q hq => ?_⟩
    have eR : rgV 0 ((n : Nat) : Int) = ((List.range n).map Int.ofNat).map V.int := by
      unfold rgV
      rw [List.map_map]
      simp
    rw [eR]
    have sR : Same B3 (upd B3 q (.lst (((List.range n).map Int.ofNat).map V.int))) := same_new hq
    have hR4 : upd B3 q (.lst (((List.range n).map Int.ofNat).map V.int)) q = some (.lst (((List.range n).map Int.ofNat).map V.int)) := upd_same
    have hqp : q ≠ p := hp3.ne hq
    generalize upd B3 q (.lst (((List.range n).map Int.ofNat).map V.int)) = B4 at sR hR4 ⊢
    have hp4 := hp3.same sR
    have hC4 := sR _ _ hC3
    walk_at "rd"
    refine ⟨l, p, q, _, rfl, hp4, hqp, hR4, by simp; omega, fun Fr ms B5 hFr pm hms o5 hp5 => ?_⟩
    have hC5 := o5 _ _ hCp hC4
    have hFp : Fr ≠ p := hp4.ne hFr
    have hFl : Fr ≠ l := hp4.nel hFr
    have hFC : Fr ≠ Cc := fun z => by rw [z, hC4] at hFr; cases hFr
    have K0 := Cells.begin n pm
    have lms : ms.length = n := by rw [pm.length_eq]; simp
    walk_at "rd"
    obtain ⟨m0, hm0⟩ : ∃ m, ms[ms.length - 1]? = some m := ⟨_, List.getElem?_eq_getElem (by omega)⟩
    obtain ⟨j0, ej0, e46⟩ := K0.free m0 (List.mem_of_getElem? hm0)
    have pm0 := perm_last hm0
    have e64 : V.str "@" = cellV 64 := by
      have : ("@" : Str) = ⟨#[64]⟩ := by decide +kernel
      rw [this]; rfl
    rw [e64]
    refine And.intro (.inl ⟨rfl, _, SqL.of hms⟩) ?_
    refine pop_set hms hC5 hFC K0 hm0 ej0 e46 fun B6 hF6 hC6 o6 => ?_
    have K1 := K0.put pm0 ej0 e46 (c := 64) (by decide +kernel)
    have hp6 : PoolAt K B6 l p := by
      obtain ⟨xs, i, c, n', zz, e1, e2, e3, e4⟩ := hp5
      exact ⟨xs, i, c, n', zz, o6 _ _ (fun z => z.elim (fun y => hFp y.symm) (fun y => hCp y.symm)) e1, e2, o6 _ _ (fun z => z.elim (fun y => hFl y.symm) (fun y => hCl y.symm)) e3, e4⟩
    have c1 : ∀ x, x ≠ 46 → ((List.replicate n 46).set j0 64).count x = if 64 = x then 1 else 0 := fun x hx => by
      rw [count_put e46 hx, List.count_replicate]
      simp [Ne.symm hx]
    walk_at "rd"
    refine And.intro (by decide +kernel) ?_
    obtain ⟨u, hu⟩ : ∃ u, u = cutS "12" none (some (mo : Int)) := ⟨_, rfl⟩
    have eu : u.cps.toList = [49, 50].take mo := by
      have : mo = 0 ∨ mo = 1 ∨ mo = 2 := by omega
      rcases this with rfl | rfl | rfl <;> (rw [hu]; decide +kernel)
    have zu : u.cps.size = mo := by
      have := congrArg List.length eu
      rw [List.length_take] at this
      have h2 : u.cps.toList.length = u.cps.size := Array.length_toList
      rw [← h2, this]
      show min mo 2 = mo
      omega
    rw [← hu]
    refine ⟨_, rfl, for_it walk_str (fun i σ B => ∃ (o8 : Option V) (cs : List Nat) (ms : List Int), σ = [some (.ref p), some (.str mk), some (.int mo), some (.ref S), some (.int hh), some (.int ww), some (.ref Cc), some (.ref Fr), o8, none, none, none, none, none] ∧
      B Fr = some (.lst (ms.map V.int)) ∧ B Cc = some (.lst (cs.map cellV)) ∧ Cells n cs ms ∧ ms.length + i + 1 = n ∧ PoolAt K B l p ∧ (∀ x, x ≠ 46 → cs.count x = (if 64 = x then 1 else 0) + ([49, 50].take i).count x) ∧ Off (fun b => b = Fr ∨ b = Cc) B5 B)
      ⟨none, _, _, rfl, hF6, hC6, K1, by rw [List.length_dropLast, lms]; omega, hp6, fun x hx => by rw [c1 x hx]; simp, o6⟩ (fun _ _ _ _ _ => trivial) ?_ ?_⟩
    · rintro i x σ B7 B7' hi ⟨o8, cs, ms, rfl, hF7, hC7, K7, l7, hp7, c7, o7⟩ ⟨rfl, c, hc, rfl⟩
      rw [zu] at hi
      walk_at "rd"
      refine And.intro (.inl ⟨rfl, _, SqL.of hF7⟩) ?_
      obtain ⟨m, hm⟩ : ∃ m, ms[ms.length - 1]? = some m := ⟨_, List.getElem?_eq_getElem (by omega)⟩
      obtain ⟨j, ej, ej46⟩ := K7.free m (List.mem_of_getElem? hm)
      have hcu : [49, 50][i]? = some c := by
        have h1 : u.cps.toList[i]? = some c := by simpa using hc
        rw [eu, List.getElem?_take_of_lt hi] at h1
        exact h1
      have c46 : c = 49 ∨ c = 50 := by
        have := List.mem_of_getElem? hcu
        simpa using this
      refine pop_set hF7 hC7 hFC K7 hm ej ej46 (c := c) fun B8 hF8 hC8 o8' => ?_
      refine ⟨_, _, _, rfl, hF8, hC8, K7.put (c := c) (perm_last hm) ej ej46 (by rcases c46 with rfl | rfl <;> decide +kernel), by rw [List.length_dropLast]; omega, ?_, fun x hx => ?_, o7.trans o8'⟩
      · obtain ⟨xs, i, c, n', zz, e1, e2, e3, e4⟩ := hp7
        exact ⟨xs, i, c, n', zz, o8' _ _ (fun z => z.elim (fun y => hFp y.symm) (fun y => hCp y.symm)) e1, e2, o8' _ _ (fun z => z.elim (fun y => hFl y.symm) (fun y => hCl y.symm)) e3, e4⟩
      · rw [count_put ej46 hx, c7 x hx, List.take_add_one, hcu, List.count_append]
        simp [List.count_cons]
        omega
    · rintro σ B7 ⟨o8, cs, ms, rfl, hF7, hC7, K7, l7, hp7, c7, o7⟩
      rw [zu] at l7 c7
      refine And.intro (Nat.le_of_ble_eq_true rfl) (fun N B8 nN => ?_)
      have hF8 := nN.same _ _ hF7
      have hC8 := nN.same _ _ hC7
      have hp8 := hp7.same nN.same
      have hNp : N ≠ p := hp7.ne nN.free
      have hNl : N ≠ l := hp7.nel nN.free
      have hNF : N ≠ Fr := fun z => by rw [← z, nN.free] at hF7; cases hF7
      have hNC : N ≠ Cc := fun z => by rw [← z, nN.free] at hC7; cases hC7
      refine ⟨fun σ' H' => ∃ (o8 o10 o11 : Option V) (cs' : List Nat), σ' = [some (.ref p), some (.str mk), some (.int mo), some (.ref S), some (.int hh), some (.int ww), some (.ref Cc), some (.ref Fr), o8, some (.ref N), o10, o11, none, none] ∧
        H' Cc = some (.lst (cs'.map cellV)) ∧ Strewn n cs' ∧ PoolAt K H' l p ∧ Off (fun b => b = p) H H', ?_, ?_⟩
      rotate_left
      · rintro σ' H' ⟨o8', o10, o11, cs', rfl, hC', fw, hp', oF⟩
        walk_at "rd"
        have eM : cs'.map cellV = (cs'.map fun c => (⟨#[c]⟩ : Str)).map V.str := by rw [List.map_map]; rfl
        have lenM : ((cs'.map fun c => (⟨#[c]⟩ : Str)).map fun x => x.length).sum = n := by
          rw [← fw.len]
          clear fw hC' eM
          induction cs' with
          | nil => rfl
          | cons a r ih => rw [List.map_cons, List.map_cons, List.sum_cons, ih, List.length_cons]; show 1 + _ = _; omega
        refine ⟨⟨_, rfl⟩, _, rfl, "", Cc, cs'.map fun c => (⟨#[c]⟩ : Str), rfl, rfl, .inl (SqL.of (by rw [← eM]; exact hC')), by rw [lenM, List.length_map, fw.len]; show n + n * 0 ≤ _; omega, ?_⟩
        obtain ⟨z, hz⟩ : ∃ z, z = Txt.join "" (cs'.map fun c => (⟨#[c]⟩ : Str)) := ⟨_, rfl⟩
        rw [← hz]
        have zc : z.cps.toList = cs' := by rw [hz]; exact join_cells cs'
        have zl : z.length = hh * ww := by
          have : z.cps.toList.length = n := by rw [zc]; exact fw.len
          rw [Array.length_toList] at this
          rw [← hn]; exact this
        walk_at "rd"
        refine ⟨by omega, by omega, ?_⟩
        rw [Int.toNat_natCast]
        refine fun D hD => lc_it walk_range (fun i H2 => H2 D = some (.lst ((rowsOf z i ww).map V.str)) ∧ Off (fun b => b = D) H' H2) ⟨upd_same, Off.new hD⟩ (fun _ _ _ _ => trivial) ?_ ?_
        · rintro i x H1 H2 hi ⟨hacc, off⟩ ⟨rfl, rfl⟩
          refine And.intro rfl ?_
          refine yes_of ?_
          refine iteT ?_
          have zs : z.length ≤ sizeLine := Nat.le_of_lt (small1000 (by omega))
          have hx : (ww : Int) * (0 + (i : Int)) = ((ww * i : Nat) : Int) := by simp
          walk_at "rd"
          have cm : CMul (ww : Int) (0 + (i : Int)) := .inl ⟨by omega, by omega⟩
          refine And.intro cm ⟨_, congrArg V.int hx, ?_⟩
          walk_at "rd"
          refine ⟨_, hacc, ?_, ?_, off.trans (Off.mut rfl)⟩
          · rw [List.length_map]
            have : (rowsOf z i ww).length = i := by unfold rowsOf; rw [List.length_map, List.length_range]
            rw [this]
            exact small1000 (by omega)
          · rw [upd_same]
            have e1 : (ww : Int) * (0 + (i : Int)) + (ww : Int) = ((ww * i + ww : Nat) : Int) := by rw [hx]; simp
            have e2 : rowsOf z (i + 1) ww = rowsOf z i ww ++ [cutS z (some ((ww * i : Nat) : Int)) (some ((ww * i + ww : Nat) : Int))] := by
              unfold rowsOf
              rw [List.range_succ, List.map_append]
              rfl
            rw [e2, List.map_append, ← e1]
            rfl
        · rintro H1 ⟨hacc, off⟩
          have s1 : Same H' H1 := fun b o e => off b o (fun y => by rw [y, hD] at e; cases e) e
          have zm : ∀ r ∈ rowsOf z hh ww, r.length = ww ∧ ∀ c ∈ r.cps.toList, c ∈ marksS.cps.toList := fun r hr =>
            ⟨(rowsOf_mem zl hr).1, fun c hc => fw.inM c (by rw [← zc]; exact (rowsOf_mem zl hr).2 c hc)⟩
          have hDH : H D = none := by
            cases e : H D with
            | none => rfl
            | some o =>
              have := oF D o (fun z => (hp'.ne hD) z) e
              rw [hD] at this; cases this
          have rl : (rowsOf z hh ww).length = hh := by unfold rowsOf; rw [List.length_map, List.length_range]
          exact k D (rowsOf z hh ww) ww H1 hDH ⟨by rw [rl]; exact h1, by rw [rl]; exact h5, w1, w6, fun r hr => (zm r hr).1⟩ (fun r hr => lineS_of (by rw [(zm r hr).1]; exact w1) (by rw [(zm r hr).1]; exact w6) (zm r hr).2)
            (by rw [rowsOf_join zl]; exact Strewn.whole (n := n) (by rw [zc]; exact fw) (by omega)) hacc (oF.trans (Off.same s1)) (hp'.same s1)
      refine ⟨_, rfl, Fr, rfl, ⟨_, SqL.of hF8⟩, for_list (K := K) (a := Fr) (xs := ms.map V.int) (fun i σ B => ∃ (o8 o10 o11 : Option V) (cs' : List Nat) (a0 b0 : Nat), σ = [some (.ref p), some (.str mk), some (.int mo), some (.ref S), some (.int hh), some (.int ww), some (.ref Cc), some (.ref Fr), o8, some (.ref N), o10, o11, none, none] ∧
        B Fr = some (.lst (ms.map V.int)) ∧ B Cc = some (.lst (cs'.map cellV)) ∧ B N = some (.lst [.int a0, .int b0]) ∧ Cells n cs' (ms.drop i) ∧ PoolAt K B l p ∧ cs'.count 64 = 1 ∧ cs'.count 49 = cs.count 49 ∧ cs'.count 50 = cs.count 50 ∧ cs'.count 42 ≤ 1 ∧ (cs'.count 111 = a0 ∧ a0 ≤ 2) ∧
        (cs'.count 97 + cs'.count 98 + cs'.count 65 + cs'.count 66 = b0 ∧ b0 ≤ 3) ∧ Off (fun b => b = p ∨ b = Cc ∨ b = N) B8 B)
        ⟨o8, none, none, cs, 0, 0, rfl, hF8, hC8, nN.at_, K7, hp8, ?_, rfl, rfl, ?_, ?_, ?_, Off.refl _⟩ ?_ ?_ ?_⟩
      · rw [c7 64 (by decide)]; have : mo = 0 ∨ mo = 1 ∨ mo = 2 := by omega
        rcases this with rfl | rfl | rfl <;> decide
      · rw [c7 42 (by decide)]; have : mo = 0 ∨ mo = 1 ∨ mo = 2 := by omega
        rcases this with rfl | rfl | rfl <;> decide
      · rw [c7 111 (by decide)]; have : mo = 0 ∨ mo = 1 ∨ mo = 2 := by omega
        rcases this with rfl | rfl | rfl <;> decide
      · rw [c7 97 (by decide), c7 98 (by decide), c7 65 (by decide), c7 66 (by decide)]; have : mo = 0 ∨ mo = 1 ∨ mo = 2 := by omega
        rcases this with rfl | rfl | rfl <;> decide
      · rintro i σ B hi ⟨_, _, _, _, _, _, _, hF, _⟩
        exact SqL.of hF
      · rintro i y σ B hy ⟨o8', o10, o11, cs', a0, b0, rfl, hF, hC, hN, Kc, hpc, q64, q49, q50, q42, q111, qab, oB⟩
        obtain ⟨m, hm, rfl⟩ : ∃ m, ms[i]? = some m ∧ y = .int m := by
          rw [List.getElem?_map] at hy
          cases e : ms[i]? with
          | none => rw [e] at hy; cases hy
          | some m => rw [e] at hy; exact ⟨m, rfl, (Option.some.inj hy).symm⟩
        have b1 := hmk.l1
        have b2 := hmk.l2
        walk_at "rd"
        refine And.intro (Nat.le_of_lt (small1000 (by omega))) ?_
        refine ⟨l, p, (mk.length : Int), rfl, hpc, by omega, by omega, fun r B2 ra rb o2 hp2 => ?_⟩
        obtain ⟨c, hc⟩ : ∃ c, mk.cps[r.toNat]? = some c := ⟨_, Array.getElem?_eq_getElem (by show r.toNat < mk.length; omega)⟩
        refine ⟨mk, r, c, rfl, rfl, Nat.le_of_lt (small1000 (by omega)), ?_, ?_⟩
        · have := atI_nat (xs := mk.cps.toList) (j := r.toNat) (v := c) (by simpa using hc)
          rwa [Int.toNat_of_nonneg ra] at this
        obtain ⟨cM, c64, c49, c50⟩ := hmk.al c (List.mem_of_getElem? (by simpa using hc))
        have hF2 := o2 _ _ hFp hF
        have hC2 := o2 _ _ hCp hC
        have hN2 := o2 _ _ hNp hN
        walk_at "rd"
        refine ⟨fun σ' H' => H' = B2 ∧ σ' = [some (.ref p), some (.str mk), some (.int mo), some (.ref S), some (.int hh), some (.int ww), some (.ref Cc), some (.ref Fr), some (cellV c), some (.ref N), some (.int m), some (.int (kindOf c)), none, none], ?_, ?_⟩
        · walk_at "rd"
          refine .inr ⟨_, rfl, _, _, rfl, rfl, ?_⟩
          walk_at "rd"
          have ek := kind_eq c
          refine .inr ⟨_, rfl, _, _, rfl, rfl, .inl ⟨by decide, by decide⟩, _, _, rfl, rfl, ?_⟩
          exact ⟨rfl, congrArg (fun z : Int => [some (V.ref p), some (.str mk), some (.int mo), some (.ref S), some (.int hh), some (.int ww), some (.ref Cc), some (.ref Fr), some (cellV c), some (.ref N), some (.int m), some (.int z), none, none]) ek⟩
        rintro σ' H' ⟨rfl, rfl⟩
        obtain ⟨j, ej, ej46⟩ := Kc.free m (by rw [List.mem_iff_getElem?]; exact ⟨0, by rw [List.getElem?_drop]; simpa using hm⟩)
        have pmi : (ms.drop i).Perm (m :: ms.drop (i + 1)) := by
          have hlt : i < ms.length := (List.getElem?_eq_some_iff.mp hm).1
          have : ms[i] = m := (List.getElem?_eq_some_iff.mp hm).2
          rw [List.drop_eq_getElem_cons hlt, this]
        have c46 : True := trivial
        refine ⟨fun σ' H'' => ∃ cs2, σ' = [some (.ref p), some (.str mk), some (.int mo), some (.ref S), some (.int hh), some (.int ww), some (.ref Cc), some (.ref Fr), some (cellV c), some (.ref N), some (.int m), some (.int (kindOf c)), none, none] ∧
          ((kindOf c = 2 ∧ H'' Fr = some (.lst (ms.map V.int)) ∧ H'' Cc = some (.lst (cs2.map cellV)) ∧ H'' N = some (.lst [.int a0, .int b0]) ∧ Cells n cs2 (ms.drop (i + 1)) ∧ PoolAt K H'' l p ∧ cs2.count 64 = 1 ∧ cs2.count 49 = cs.count 49 ∧ cs2.count 50 = cs.count 50 ∧ cs2.count 42 ≤ 1 ∧ cs2.count 111 = a0 ∧
            cs2.count 97 + cs2.count 98 + cs2.count 65 + cs2.count 66 = b0 ∧ Off (fun b => b = p ∨ b = Cc ∨ b = N) B8 H'') ∨ (kindOf c < 2 ∧ H'' = H')), ?_, ?_⟩
        · walk_at "rd"
          have ek2 : decide (V.int (kindOf c) = V.int 2) = decide (kindOf c = 2) := by simp
          rw [ek2]
          refine ite2 (fun q1 => ?_) (fun q1 => ?_)
          · have hk2 : kindOf c = 2 := of_decide_eq_true q1
            have hc111 : c ≠ 111 := fun z => by rw [z] at hk2; revert hk2; decide
            have hcab : c ∉ [97, 98, 65, 66] := fun z => by
              unfold kindOf at hk2
              rw [if_neg hc111, if_pos z] at hk2
              cases hk2
            walk_at "rd"
            refine ite2 (fun q2 => ?_) (fun q2 => ?_)
            · have h42 : c ≠ 42 := fun z => by
                rw [star_eq c] at q2
                simp [z] at q2
              refine iteT ?_
              walk_at "rd"
              refine ⟨Cc, _, m, j, rfl, rfl, hC2, by rw [ej]; unfold ixN; rw [if_pos (by omega), if_pos (by rw [List.length_map]; have := (List.getElem?_eq_some_iff.mp ej46).1; omega)]; rfl, ?_⟩
              rw [set_mapC]
              refine ⟨cs'.set j c, rfl, .inl ⟨hk2, by rw [upd_ne hFC]; exact hF2, upd_same, by rw [upd_ne hNC]; exact hN2, Kc.put pmi ej ej46 cM, hp2.mut hCp hCl, ?_, ?_, ?_, ?_, ?_, ?_, ?_⟩⟩
              · rw [count_put ej46 (by decide), if_neg c64]; exact q64
              · rw [count_put ej46 (by decide), if_neg c49]; exact q49
              · rw [count_put ej46 (by decide), if_neg c50]; exact q50
              · rw [count_put ej46 (by decide)]; rw [if_neg h42]; exact q42
              · rw [count_put ej46 (by decide), if_neg hc111]; exact q111.1
              · rw [count_put ej46 (by decide), count_put ej46 (by decide), count_put ej46 (by decide), count_put ej46 (by decide), if_neg (fun z => hcab (by rw [z]; decide)), if_neg (fun z => hcab (by rw [z]; decide)), if_neg (fun z => hcab (by rw [z]; decide)), if_neg (fun z => hcab (by rw [z]; decide))]; exact qab.1
              · exact ((oB.trans (Off.wider (fun _ z => .inl z) o2))).trans (Off.mut (.inr (.inl rfl)))
            · have h42 : c = 42 := by
                rw [star_eq c] at q2
                simpa using q2
              refine ⟨_, rfl, Cc, _, rfl, .inl (SqL.of hC2), rfl, flat_cells cs', ?_⟩
              refine ⟨_, rfl, ?_⟩
              rw [show (if true = true then !inV (V.str "*") (cs'.map cellV) else inV (V.str "*") (cs'.map cellV)) = !decide (42 ∈ cs') from by rw [if_pos rfl, in_cells]]
              by_cases hin : 42 ∈ cs'
              · rw [decide_eq_true hin]
                refine iteF ?_
                exact ⟨cs', rfl, .inl ⟨hk2, hF2, hC2, hN2, Kc.drop pmi, hp2, q64, q49, q50, q42, q111.1, qab.1, oB.trans (Off.wider (fun _ z => .inl z) o2)⟩⟩
              · rw [decide_eq_false hin]
                refine iteT ?_
                walk_at "rd"
                refine ⟨Cc, _, m, j, rfl, rfl, hC2, by rw [ej]; unfold ixN; rw [if_pos (by omega), if_pos (by rw [List.length_map]; have := (List.getElem?_eq_some_iff.mp ej46).1; omega)]; rfl, ?_⟩
                rw [set_mapC]
                refine ⟨cs'.set j c, rfl, .inl ⟨hk2, by rw [upd_ne hFC]; exact hF2, upd_same, by rw [upd_ne hNC]; exact hN2, Kc.put pmi ej ej46 cM, hp2.mut hCp hCl, ?_, ?_, ?_, ?_, ?_, ?_, ?_⟩⟩
                · rw [count_put ej46 (by decide), if_neg c64]; exact q64
                · rw [count_put ej46 (by decide), if_neg c49]; exact q49
                · rw [count_put ej46 (by decide), if_neg c50]; exact q50
                · rw [count_put ej46 (by decide)]; have := List.count_eq_zero_of_not_mem hin; rw [this]; split <;> omega
                · rw [count_put ej46 (by decide), if_neg hc111]; exact q111.1
                · rw [count_put ej46 (by decide), count_put ej46 (by decide), count_put ej46 (by decide), count_put ej46 (by decide), if_neg (fun z => hcab (by rw [z]; decide)), if_neg (fun z => hcab (by rw [z]; decide)), if_neg (fun z => hcab (by rw [z]; decide)), if_neg (fun z => hcab (by rw [z]; decide))]; exact qab.1
                · exact ((oB.trans (Off.wider (fun _ z => .inl z) o2))).trans (Off.mut (.inr (.inl rfl)))
          · have hk2 : ¬ kindOf c = 2 := by simpa using q1
            refine ⟨cs', rfl, .inr ⟨?_, rfl⟩⟩
            unfold kindOf at hk2 ⊢
            split
            · decide
            · rename_i h1
              rw [if_neg h1] at hk2
              split
              · decide
              · rename_i h2
                rw [if_neg h2] at hk2
                exact absurd rfl hk2
        rintro σ' H'' ⟨cs2, rfl, hcase⟩
        walk_at "rd"
        rcases hcase with ⟨hk2, hF3, hC3', hN3, K3, hp3', r64, r49, r50, r42, r111, rab, oB3⟩ | ⟨hk2, rfl⟩
        · rw [show decide (kindOf c < 2) = false by rw [hk2]; decide]
          refine iteF ?_
          exact ⟨_, _, _, cs2, a0, b0, rfl, hF3, hC3', hN3, K3, hp3', r64, r49, r50, r42, ⟨r111, q111.2⟩, ⟨rab, qab.2⟩, oB3⟩
        · rw [decide_eq_true hk2]
          refine iteT ?_
          have two : (kindOf c = 0 ∧ c = 111) ∨ (kindOf c = 1 ∧ c ≠ 111 ∧ (c = 97 ∨ c = 98 ∨ c = 65 ∨ c = 66)) := by
            unfold kindOf at hk2 ⊢
            split
            · rename_i h; exact .inl ⟨rfl, h⟩
            · rename_i h
              rw [if_neg h] at hk2
              split
              · rename_i h2; exact .inr ⟨rfl, h, by simpa using h2⟩
              · rename_i h2; rw [if_neg h2] at hk2; omega
          have h42 : c ≠ 42 := by rcases two with ⟨_, h⟩ | ⟨_, _, h | h | h | h⟩ <;> (rw [h]; decide)
          rcases two with ⟨hk, hc⟩ | ⟨hk, h111, hc⟩
          · rw [hk] at hk2 ⊢
            have at0 : atI [V.int (a0 : Int), .int (b0 : Int)] 0 = some (.int (a0 : Int)) := atI_nat (xs := [V.int (a0 : Int), .int (b0 : Int)]) (j := 0) rfl
            refine ⟨_, rfl, _, rfl, N, _, 0, .int a0, rfl, rfl, SqL.of hN2, at0, ?_⟩
            walk_at "rd"
            refine ite2 (fun q3 => ?_) (fun q3 => ?_)
            · have q3' : a0 < 2 := by
                have : ((a0 : Nat) : Int) < 2 + 0 := by simpa using q3
                omega
              refine ⟨_, rfl, _, rfl, N, _, 0, .int a0, rfl, rfl, SqL.of hN2, at0, ?_⟩
              walk_at "rd"
              refine ⟨N, _, 0, 0, rfl, rfl, hN2, rfl, ?_⟩
              walk_at "rd"
              refine ⟨Cc, cs'.map cellV, m, j, rfl, rfl, by rw [upd_ne (Ne.symm hNC)]; exact hC2, by rw [ej]; unfold ixN; rw [if_pos (by omega), if_pos (by rw [List.length_map]; have := (List.getElem?_eq_some_iff.mp ej46).1; omega)]; rfl, ?_⟩
              rw [set_mapC]
              refine ⟨_, _, _, cs'.set j c, a0 + 1, b0, rfl, by rw [upd_ne hFC, upd_ne (Ne.symm hNF)]; exact hF2, upd_same, by rw [upd_ne hNC, upd_same]; rfl, Kc.put pmi ej ej46 cM, (hp2.mut hNp hNl).mut hCp hCl, ?_, ?_, ?_, ?_, ⟨?_, by omega⟩, ⟨?_, by omega⟩, ?_⟩
              · rw [count_put ej46 (by decide), if_neg c64]; exact q64
              · rw [count_put ej46 (by decide), if_neg c49]; exact q49
              · rw [count_put ej46 (by decide), if_neg c50]; exact q50
              · rw [count_put ej46 (by decide), if_neg h42]; exact q42
              · rw [count_put ej46 (by decide), hc, if_pos rfl, q111.1]
              · rw [count_put ej46 (by decide), count_put ej46 (by decide), count_put ej46 (by decide), count_put ej46 (by decide), hc]; exact qab.1
              · exact ((oB.trans (Off.wider (fun _ z => .inl z) o2)).trans (Off.mut (.inr (.inr rfl)))).trans (Off.mut (.inr (.inl rfl)))
            · exact ⟨_, _, _, cs', a0, b0, rfl, hF2, hC2, hN2, Kc.drop pmi, hp2, q64, q49, q50, q42, q111, qab, oB.trans (Off.wider (fun _ z => .inl z) o2)⟩
          · rw [hk] at hk2 ⊢
            have at0 : atI [V.int (a0 : Int), .int (b0 : Int)] 1 = some (.int (b0 : Int)) := atI_nat (xs := [V.int (a0 : Int), .int (b0 : Int)]) (j := 1) rfl
            refine ⟨_, rfl, _, rfl, N, _, 1, .int b0, rfl, rfl, SqL.of hN2, at0, ?_⟩
            walk_at "rd"
            refine ite2 (fun q3 => ?_) (fun q3 => ?_)
            · have q3' : b0 < 3 := by
                have : ((b0 : Nat) : Int) < 2 + 1 := by simpa using q3
                omega
              refine ⟨_, rfl, _, rfl, N, _, 1, .int b0, rfl, rfl, SqL.of hN2, at0, ?_⟩
              walk_at "rd"
              refine ⟨N, _, 1, 1, rfl, rfl, hN2, rfl, ?_⟩
              walk_at "rd"
              refine ⟨Cc, cs'.map cellV, m, j, rfl, rfl, by rw [upd_ne (Ne.symm hNC)]; exact hC2, by rw [ej]; unfold ixN; rw [if_pos (by omega), if_pos (by rw [List.length_map]; have := (List.getElem?_eq_some_iff.mp ej46).1; omega)]; rfl, ?_⟩
              rw [set_mapC]
              refine ⟨_, _, _, cs'.set j c, a0, b0 + 1, rfl, by rw [upd_ne hFC, upd_ne (Ne.symm hNF)]; exact hF2, upd_same, by rw [upd_ne hNC, upd_same]; rfl, Kc.put pmi ej ej46 cM, (hp2.mut hNp hNl).mut hCp hCl, ?_, ?_, ?_, ?_, ⟨?_, by omega⟩, ⟨?_, by omega⟩, ?_⟩
              · rw [count_put ej46 (by decide), if_neg c64]; exact q64
              · rw [count_put ej46 (by decide), if_neg c49]; exact q49
              · rw [count_put ej46 (by decide), if_neg c50]; exact q50
              · rw [count_put ej46 (by decide), if_neg h42]; exact q42
              · rw [count_put ej46 (by decide), if_neg h111]; exact q111.1
              · rw [count_put ej46 (by decide), count_put ej46 (by decide), count_put ej46 (by decide), count_put ej46 (by decide), ← qab.1]; rcases hc with rfl | rfl | rfl | rfl <;> simp <;> omega
              · exact ((oB.trans (Off.wider (fun _ z => .inl z) o2)).trans (Off.mut (.inr (.inr rfl)))).trans (Off.mut (.inr (.inl rfl)))
            · exact ⟨_, _, _, cs', a0, b0, rfl, hF2, hC2, hN2, Kc.drop pmi, hp2, q64, q49, q50, q42, q111, qab, oB.trans (Off.wider (fun _ z => .inl z) o2)⟩
      · rintro σ B ⟨o8', o10, o11, cs', a0, b0, rfl, hF, hC, hN, Kc, hpc, q64, q49, q50, q42, q111, qab, oB⟩
        refine ⟨o8', o10, o11, cs', rfl, hC, ?_, hpc, ?_⟩
        · have e49 := c7 49 (by decide)
          have e50 := c7 50 (by decide)
          rw [← q49] at e49
          rw [← q50] at e50
          have h2 : (cs'.count 49 ≤ 1 ∧ cs'.count 50 ≤ cs'.count 49) := by
            have : mo = 0 ∨ mo = 1 ∨ mo = 2 := by omega
            rcases this with rfl | rfl | rfl <;> (revert e49 e50; simp; omega)
          exact ⟨Kc.len, Kc.inM, q64, h2.1, h2.2, q42, by omega, by omega⟩
        · intro b o hb e
          have x2 := nC.same _ _ (o1 _ _ hb (sS _ _ e))
          have hbC : b ≠ Cc := fun z => by rw [z, hCc] at x2; cases x2
          have x4 := sR _ _ (sC _ _ x2)
          have hbF : b ≠ Fr := fun z => by rw [z, hFr] at x4; cases x4
          have x5 := o5 _ _ hb x4
          have x7 := o7 _ _ (fun z => z.elim hbF hbC) x5
          have hbN : b ≠ N := fun z => by rw [z, nN.free] at x7; cases x7
          exact oB _ _ (fun z => z.elim hb (fun y => y.elim hbC hbN)) (nN.same _ _ x7)
end
end K11
end
section
set_option Elab.async false
set_option linter.all false
set_option maxRecDepth 100000
set_option maxHeartbeats 2000000
namespace K11
open PySem L2
/-! # Steps in a room, as mathematics -/
inductive Way | u | d | l | r
  deriving DecidableEq
def Way.down : Way → Int
  | .u => -1
  | .d => 1
  | _ => 0
def Way.across : Way → Int
  | .l => -1
  | .r => 1
  | _ => 0
def Way.back : Way → Way
  | .u => .d
  | .d => .u
  | .l => .r
  | .r => .l
def Way.sign : Way → Str
  | .u => "u"
  | .d => "d"
  | .l => "l"
  | .r => "r"
def Way.great : Way → Str
  | .u => "U"
  | .d => "D"
  | .l => "L"
  | .r => "R"
/-- the letter of a step -/
def letterOf (w : Way) (big : Bool) : Str := if big then w.great else w.sign
/-! ### lists in order -/
def insZ (x : Int) : List Int → List Int
  | [] => [x]
  | y :: r => if x ≤ y then x :: y :: r else y :: insZ x r
def sortZ : List Int → List Int
  | [] => []
  | x :: r => insZ x (sortZ r)
theorem insZ_perm (x : Int) : ∀ l : List Int, (insZ x l).Perm (x :: l)
  | [] => .refl _
  | y :: r => by
    unfold insZ
    split
    · exact .refl _
    · exact ((insZ_perm x r).cons y).trans (.swap x y r)
theorem sortZ_perm : ∀ l : List Int, (sortZ l).Perm l
  | [] => .refl _
  | x :: r => (insZ_perm x _).trans ((sortZ_perm r).cons x)
theorem insZ_up (x : Int) : ∀ l : List Int, l.Pairwise (· ≤ ·) → (insZ x l).Pairwise (· ≤ ·)
  | [], _ => by simp [insZ]
  | y :: r, h => by
    rw [List.pairwise_cons] at h
    unfold insZ
    split
    · rename_i q
      rw [List.pairwise_cons, List.pairwise_cons]
      refine ⟨fun z hz => ?_, h.1, h.2⟩
      rcases List.mem_cons.mp hz with rfl | hz
      · exact q
      · exact Int.le_trans q (h.1 z hz)
    · rename_i q
      rw [List.pairwise_cons]
      refine ⟨fun z hz => ?_, insZ_up x r h.2⟩
      rcases List.mem_cons.mp ((insZ_perm x r).mem_iff.mp hz) with rfl | hz
      · omega
      · exact h.1 z hz
theorem sortZ_up : ∀ l : List Int, (sortZ l).Pairwise (· ≤ ·)
  | [] => .nil
  | x :: r => insZ_up x _ (sortZ_up r)
theorem up_unique : ∀ {a b : List Int}, a.Perm b → a.Pairwise (· ≤ ·) → b.Pairwise (· ≤ ·) → a = b
  | [], b, p, _, _ => (List.nil_perm.mp p).symm
  | x :: a, [], p, _, _ => absurd (List.perm_nil.mp p) (by simp)
  | x :: a, y :: b, p, ha, hb => by
    rw [List.pairwise_cons] at ha hb
    have hxy : x = y := by
      have h1 : x ∈ y :: b := p.mem_iff.mp (List.mem_cons_self ..)
      have h2 : y ∈ x :: a := p.mem_iff.mpr (List.mem_cons_self ..)
      have l1 : y ≤ x := by
        rcases List.mem_cons.mp h1 with e | h1
        · omega
        · exact hb.1 x h1
      have l2 : x ≤ y := by
        rcases List.mem_cons.mp h2 with e | h2
        · omega
        · exact ha.1 y h2
      omega
    subst hxy
    rw [up_unique (List.Perm.cons_inv p) ha.2 hb.2]
theorem sorted_is {a b : List Int} (p : a.Perm b) (h : a.Pairwise (· ≤ ·)) : a = sortZ b := up_unique (p.trans (sortZ_perm b).symm) h (sortZ_up b)
def withOne (xs : List Int) (x : Int) : List Int := sortZ (xs ++ [x])
theorem mem_withOne {xs : List Int} {x y : Int} : y ∈ withOne xs x ↔ y ∈ xs ∨ y = x := by
  unfold withOne
  rw [(sortZ_perm _).mem_iff]
  simp
theorem withOne_len (xs : List Int) (x : Int) : (withOne xs x).length = xs.length + 1 := by
  unfold withOne
  rw [(sortZ_perm _).length_eq]
  simp
theorem withOne_nodup {xs : List Int} {x : Int} (h : xs.Nodup) (hx : x ∉ xs) : (withOne xs x).Nodup := by
  unfold withOne
  rw [(sortZ_perm _).nodup_iff, List.nodup_append]
  refine ⟨h, by simp, fun a ha b hb => ?_⟩
  simp at hb
  subst hb
  exact fun z => hx (z ▸ ha)
/-! ### cells -/
def mark (z : Str) (i : Int) : Nat := z.cps.getD i.toNat 0
/-- the cell beside, walls too; -1 for none -/
def nx (h wd : Nat) (w : Way) (i : Int) : Int :=
  if (0 ≤ i / wd + w.down ∧ i / wd + w.down < h) ∧ (0 ≤ i % wd + w.across ∧ i % wd + w.across < wd) then (i / wd + w.down) * wd + (i % wd + w.across) else -1
def nb (rows : List Str) (wd : Nat) (w : Way) (i : Int) : Int := neigh rows wd w.down w.across i.toNat
theorem flat_get {α : Type} {wd : Nat} : ∀ {ls : List (List α)} {l p : Nat}, (∀ x ∈ ls, x.length = wd) → p < wd → l < ls.length → ls.flatten[l * wd + p]? = (ls[l]?).bind fun x => x[p]?
  | [], l, p, _, _, hl => absurd hl (by simp)
  | x :: ls, 0, p, h, hp, _ => by
    have hx : x.length = wd := h x (List.mem_cons_self ..)
    rw [List.flatten_cons, Nat.zero_mul, Nat.zero_add, List.getElem?_append_left (by omega)]
    rfl
  | x :: ls, l + 1, p, h, hp, hl => by
    have hx : x.length = wd := h x (List.mem_cons_self ..)
    rw [List.flatten_cons, List.getElem?_append_right (by rw [Nat.succ_mul]; omega), show (l + 1) * wd + p - x.length = l * wd + p by rw [Nat.succ_mul]; omega]
    rw [flat_get (fun y hy => h y (List.mem_cons_of_mem _ hy)) hp (by simpa using hl)]
    rfl
theorem mark_code {rows : List Str} {wd l p : Nat} (R : RowsOk rows wd) (hl : l < rows.length) (hp : p < wd) : codeAt rows l p = some (mark (Txt.join "" rows) ((l * wd + p : Nat) : Int)) := by
  have e1 : (Txt.join "" rows).cps.toList[l * wd + p]? = codeAt rows l p := by
    rw [join_cps, flat_get (wd := wd) (fun x hx => by
      obtain ⟨r, hr, rfl⟩ := List.mem_map.mp hx
      exact R.al r hr) hp (by simpa using hl)]
    unfold codeAt
    rw [List.getElem?_map]
    cases rows[l]? with
    | none => rfl
    | some r =>
      show r.cps.toList[p]? = r.cps[p]?
      simp
  have hlt : l * wd + p < rows.length * wd := by
    have : (l + 1) * wd ≤ rows.length * wd := Nat.mul_le_mul_right wd hl
    rw [Nat.succ_mul] at this
    omega
  have hz : l * wd + p < (Txt.join "" rows).cps.size := by
    have := join_len R
    have e : (Txt.join "" rows).length = (Txt.join "" rows).cps.size := rfl
    omega
  rw [← e1]
  unfold mark
  rw [Int.toNat_natCast]
  simp [Array.getD, hz]
theorem nb_nx {rows : List Str} {wd : Nat} (R : RowsOk rows wd) (w : Way) {i : Int} (h0 : 0 ≤ i) :
    nb rows wd w i = if nx rows.length wd w i < 0 ∨ mark (Txt.join "" rows) (nx rows.length wd w i) = 35 then -1 else nx rows.length wd w i := by
  obtain ⟨k, rfl⟩ := Int.eq_ofNat_of_zero_le h0
  have e1 : ((k : Nat) : Int) / (wd : Int) = ((k / wd : Nat) : Int) := (Int.natCast_ediv k wd).symm
  have e2 : ((k : Nat) : Int) % (wd : Int) = ((k % wd : Nat) : Int) := (Int.natCast_emod k wd).symm
  unfold nb neigh nx
  rw [Int.toNat_natCast, e1, e2]
  by_cases hb : (0 ≤ ((k / wd : Nat) : Int) + w.down ∧ ((k / wd : Nat) : Int) + w.down < (rows.length : Int)) ∧ (0 ≤ ((k % wd : Nat) : Int) + w.across ∧ ((k % wd : Nat) : Int) + w.across < (wd : Int))
  · rw [if_pos hb]
    obtain ⟨⟨b1, b2⟩, b3, b4⟩ := hb
    obtain ⟨l, hl⟩ := Int.eq_ofNat_of_zero_le b1
    obtain ⟨p, hp⟩ := Int.eq_ofNat_of_zero_le b3
    rw [hl] at b2 ⊢
    rw [hp] at b4 ⊢
    have hmc := mark_code R (l := l) (p := p) (by omega) (by omega)
    rw [Int.toNat_natCast, Int.toNat_natCast, hmc]
    have ec : ((l : Nat) : Int) * (wd : Int) + ((p : Nat) : Int) = ((l * wd + p : Nat) : Int) := by simp
    rw [ec]
    by_cases hm : mark (Txt.join "" rows) ((l * wd + p : Nat) : Int) = 35
    · rw [if_neg (fun q => q.2.2 (by rw [hm])), if_pos (.inr hm)]
    · rw [if_pos ⟨⟨by omega, by omega⟩, ⟨by omega, by omega⟩, fun q => hm (Option.some.inj q)⟩, if_neg (fun q => q.elim (fun q => by omega) hm)]
  · rw [if_neg (fun q => hb ⟨q.1, q.2.1⟩), if_neg hb]
    simp
theorem nx_lt {h wd : Nat} {w : Way} {i : Int} (h0 : 0 ≤ nx h wd w i) : nx h wd w i < ((h * wd : Nat) : Int) := by
  unfold nx at h0 ⊢
  by_cases hb : (0 ≤ i / (wd : Int) + w.down ∧ i / (wd : Int) + w.down < (h : Int)) ∧ (0 ≤ i % (wd : Int) + w.across ∧ i % (wd : Int) + w.across < (wd : Int))
  · rw [if_pos hb] at h0 ⊢
    obtain ⟨⟨b1, b2⟩, b3, b4⟩ := hb
    obtain ⟨l, hl⟩ := Int.eq_ofNat_of_zero_le b1
    obtain ⟨p, hp⟩ := Int.eq_ofNat_of_zero_le b3
    rw [hl] at b2 ⊢
    rw [hp] at b4 ⊢
    have : (l + 1) * wd ≤ h * wd := Nat.mul_le_mul_right wd (by omega)
    rw [Nat.succ_mul] at this
    have ec : ((l : Nat) : Int) * (wd : Int) + ((p : Nat) : Int) = ((l * wd + p : Nat) : Int) := by simp
    rw [ec]
    omega
  · rw [if_neg hb] at h0
    omega
theorem nx_low {h wd : Nat} {w : Way} {i : Int} : -1 ≤ nx h wd w i := by
  unfold nx
  by_cases hb : (0 ≤ i / (wd : Int) + w.down ∧ i / (wd : Int) + w.down < (h : Int)) ∧ (0 ≤ i % (wd : Int) + w.across ∧ i % (wd : Int) + w.across < (wd : Int))
  · rw [if_pos hb]
    have : 0 ≤ (i / (wd : Int) + w.down) * (wd : Int) := Int.mul_nonneg hb.1.1 (by omega)
    omega
  · rw [if_neg hb]
    omega
theorem nb_cases {rows : List Str} {wd : Nat} (R : RowsOk rows wd) (w : Way) {i : Int} (h0 : 0 ≤ i) :
    nb rows wd w i = -1 ∨ (0 ≤ nb rows wd w i ∧ nb rows wd w i < ((rows.length * wd : Nat) : Int)) := by
  rw [nb_nx R w h0]
  split
  · exact .inl rfl
  · rename_i q
    have : 0 ≤ nx rows.length wd w i := by
      have := nx_low (h := rows.length) (wd := wd) (w := w) (i := i)
      by_cases z : nx rows.length wd w i < 0
      · exact absurd (.inl z) q
      · omega
    exact .inr ⟨this, nx_lt this⟩
end K11
end
section
set_option Elab.async false
set_option linter.all false
set_option maxRecDepth 100000
set_option maxHeartbeats 2000000
namespace K11
open PySem L2
/-! # States and steps, as mathematics -/
structure Sta where
  at_ : Int
  cr : List Int
  go : List Int
  us : List Int
  ba : Int
  bb : Int
  deriving DecidableEq
/-- what rooms and rules say -/
structure Wld where
  rows : List Str
  wd : Nat
  cap : Int
  strong : Bool
  pull : Bool
def Wld.z (W : Wld) : Str := Txt.join "" W.rows
def Wld.n (W : Wld) : Nat := W.rows.length * W.wd
def isFree (m : Nat) : Bool := decide (m = 46 ∨ m = 112 ∨ m = 111)
def isKD (m : Nat) : Bool := decide (m = 97 ∨ m = 98 ∨ m = 65 ∨ m = 66)
def lies (z : Str) (go : List Int) (c : Int) : Bool := isFree (mark z c) || decide (c ∈ go)
def gateOpen (z : Str) (cr : List Int) : Bool := (placesL z 112 z.length).all fun k => decide (k ∈ cr)
def oneWay (m : Nat) : Option Way := if m = 94 then some .u else if m = 118 then some .d else if m = 60 then some .l else if m = 62 then some .r else none
def badWay (m : Nat) (w : Way) : Bool := match oneWay m with
  | some v => decide (v ≠ w)
  | none => false
def changedBag (cap ba bb : Int) (m : Nat) : Option (Int × Int) :=
  let ch : Int := if m = 97 ∨ m = 98 then 1 else -1
  let a := if m = 97 ∨ m = 65 then ba + ch else ba
  let b := if m = 97 ∨ m = 65 then bb else bb + ch
  if min a b < 0 ∨ max a b > cap then none else some (a, b)
def entered (W : Wld) (s : Sta) (goal : Int) : Option (List Int × Int × Int) :=
  if goal ∈ s.go then some (s.go, s.ba, s.bb)
  else if mark W.z goal = 120 ∨ (mark W.z goal = 103 ∧ gateOpen W.z s.cr = false) then none
  else if isKD (mark W.z goal) = false then some (s.go, s.ba, s.bb)
  else match changedBag W.cap s.ba s.bb (mark W.z goal) with
    | none => none
    | some (a, b) => some (withOne s.go goal, a, b)
def without (xs : List Int) (x : Int) : List Int := xs.filter fun c => decide (c ≠ x)
def pushed (W : Wld) (s : Sta) (w : Way) (goal : Int) : Option Sta :=
  let b0 := nb W.rows W.wd w goal
  let b := if W.strong = true ∧ b0 ∈ s.cr then nb W.rows W.wd w b0 else b0
  if b < 0 ∨ b ∈ s.cr then none
  else if lies W.z s.go b = true then some { s with at_ := goal, cr := withOne (without s.cr goal) b }
  else if mark W.z b = 120 then some { s with at_ := goal, cr := without s.cr goal, go := withOne s.go b }
  else none
def pulled (W : Wld) (s : Sta) (w : Way) : Option (List Int) :=
  let back := nb W.rows W.wd w.back s.at_
  if W.pull = false ∨ back ∉ s.cr ∨ lies W.z s.go s.at_ = false then none else some (withOne (without s.cr back) s.at_)
def moved (W : Wld) (s : Sta) (w : Way) (big : Bool) : Option Sta :=
  let goal := nb W.rows W.wd w s.at_
  if goal < 0 ∨ mark W.z s.at_ = 42 ∨ badWay (mark W.z s.at_) w = true then none
  else if goal ∈ s.cr then (if big then none else pushed W s w goal)
  else match entered W s goal with
    | none => none
    | some (g, a, b) => if big then (match pulled W s w with
        | none => none
        | some c => some { s with at_ := goal, cr := c, go := g, ba := a, bb := b })
      else some { s with at_ := goal, go := g, ba := a, bb := b }
/-- a state as it can be -/
structure Ok (W : Wld) (s : Sta) : Prop where
  at0 : 0 ≤ s.at_
  at1 : s.at_ < W.n
  cr0 : ∀ c ∈ s.cr, 0 ≤ c
  cr1 : ∀ c ∈ s.cr, c < W.n
  crl : ∀ c ∈ s.cr, lies W.z s.go c = true
  crn : s.cr.length ≤ 30
  go0 : ∀ c ∈ s.go, 0 ≤ c
  go1 : ∀ c ∈ s.go, c < W.n
  gom : ∀ c ∈ s.go, isKD (mark W.z c) = true ∨ mark W.z c = 120
  gon : s.go.Nodup
  us0 : ∀ c ∈ s.us, 1 ≤ c ∧ c ≤ 2
  usn : s.us.Nodup
  ba0 : 0 ≤ s.ba
  ba1 : s.ba ≤ W.cap
  bb0 : 0 ≤ s.bb
  bb1 : s.bb ≤ W.cap
structure WOk (W : Wld) : Prop where
  R : RowsOk W.rows W.wd
  c0 : 1 ≤ W.cap
  c1 : W.cap ≤ 2
section
variable {W : Wld} {s : Sta} {w : Way}
theorem WOk.n30 (O : WOk W) : W.n ≤ 30 := Nat.mul_le_mul O.R.h5 O.R.w6
theorem lies_mono {z : Str} {g g' : List Int} {c : Int} (h : ∀ x ∈ g, x ∈ g') (l : lies z g c = true) : lies z g' c = true := by
  unfold lies at l ⊢
  rcases Bool.or_eq_true_iff.mp l with l | l
  · rw [l]; rfl
  · have : c ∈ g' := h c (of_decide_eq_true l)
    simp [this]
theorem lies_code {s : Sta} (K : Ok W s) {c : Int} (l : lies W.z s.go c = true) : isFree (mark W.z c) = true ∨ isKD (mark W.z c) = true ∨ mark W.z c = 120 := by
  unfold lies at l
  rcases Bool.or_eq_true_iff.mp l with l | l
  · exact .inl l
  · exact .inr (K.gom c (of_decide_eq_true l))
theorem mem_without {xs : List Int} {x c : Int} : c ∈ without xs x ↔ c ∈ xs ∧ c ≠ x := by simp [without]
theorem without_len {xs : List Int} {x : Int} (h : x ∈ xs) : (without xs x).length + 1 ≤ xs.length := by
  induction xs with
  | nil => cases h
  | cons y r ih =>
    unfold without at ih ⊢
    rw [List.filter_cons]
    by_cases e : y = x
    · subst e
      have := List.length_filter_le (fun c => decide (c ≠ y)) r
      simp
      simpa using this
    · have hm : x ∈ r := by
        rcases List.mem_cons.mp h with q | q
        · exact absurd q.symm e
        · exact q
      have := ih hm
      simp [e] at this ⊢
      omega
theorem Ok.gate {s : Sta} (K : Ok W s) {c : Int} (h : mark W.z c = 103) : c ∉ s.go := fun q => by
  rcases K.gom c q with e | e
  · rw [h] at e; exact absurd e (by decide)
  · rw [h] at e; exact absurd e (by decide)
theorem Ok.onCr {s : Sta} (K : Ok W s) {c : Int} (h : c ∈ s.cr) : mark W.z c ≠ 103 ∧ mark W.z c ≠ 35 := by
  have := lies_code K (K.crl c h)
  constructor
  · intro e
    rw [e] at this
    exact absurd this (by decide)
  · intro e
    rw [e] at this
    exact absurd this (by decide)
theorem changedBag_ok {cap ba bb a b : Int} {m : Nat} (h : changedBag cap ba bb m = some (a, b)) : 0 ≤ a ∧ a ≤ cap ∧ 0 ≤ b ∧ b ≤ cap := by
  unfold changedBag at h
  simp only at h
  generalize (if m = 97 ∨ m = 65 then ba + (if m = 97 ∨ m = 98 then (1 : Int) else -1) else ba) = x at h
  generalize (if m = 97 ∨ m = 65 then bb else bb + (if m = 97 ∨ m = 98 then (1 : Int) else -1)) = y at h
  split at h
  · cases h
  · rename_i q
    cases h
    omega
theorem entered_ok (K : Ok W s) {goal a b : Int} {g : List Int} (g0 : 0 ≤ goal) (g1 : goal < W.n) (h : entered W s goal = some (g, a, b)) :
    (∀ x ∈ s.go, x ∈ g) ∧ (∀ c ∈ g, 0 ≤ c ∧ c < W.n ∧ (isKD (mark W.z c) = true ∨ mark W.z c = 120)) ∧ g.Nodup ∧ 0 ≤ a ∧ a ≤ W.cap ∧ 0 ≤ b ∧ b ≤ W.cap := by
  have same : (∀ x ∈ s.go, x ∈ s.go) ∧ (∀ c ∈ s.go, 0 ≤ c ∧ c < W.n ∧ (isKD (mark W.z c) = true ∨ mark W.z c = 120)) ∧ s.go.Nodup ∧ 0 ≤ s.ba ∧ s.ba ≤ W.cap ∧ 0 ≤ s.bb ∧ s.bb ≤ W.cap :=
    ⟨fun _ h => h, fun c hc => ⟨K.go0 c hc, K.go1 c hc, K.gom c hc⟩, K.gon, K.ba0, K.ba1, K.bb0, K.bb1⟩
  unfold entered at h
  split at h
  · cases h; exact same
  rename_i hg
  split at h
  · cases h
  split at h
  · cases h; exact same
  rename_i hk
  split at h
  · cases h
  · rename_i a' b' hb
    cases h
    obtain ⟨q1, q2, q3, q4⟩ := changedBag_ok hb
    refine ⟨fun x hx => mem_withOne.mpr (.inl hx), fun c hc => ?_, withOne_nodup K.gon hg, q1, q2, q3, q4⟩
    rcases mem_withOne.mp hc with hc | rfl
    · exact ⟨K.go0 c hc, K.go1 c hc, K.gom c hc⟩
    · exact ⟨g0, g1, .inl (by cases hq : isKD (mark W.z c) <;> simp_all)⟩
theorem pushed_ok (O : WOk W) (K : Ok W s) {goal : Int} {s' : Sta} (hc : goal ∈ s.cr) (h : pushed W s w goal = some s') : Ok W s' := by
  have g0 := K.cr0 _ hc
  have g1 := K.cr1 _ hc
  unfold pushed at h
  simp only at h
  generalize hb : (if W.strong = true ∧ nb W.rows W.wd w goal ∈ s.cr then nb W.rows W.wd w (nb W.rows W.wd w goal) else nb W.rows W.wd w goal) = b at h
  have hbr : b = -1 ∨ (0 ≤ b ∧ b < (W.n : Int)) := by
    rw [← hb]
    split
    · rename_i q
      exact nb_cases O.R w (K.cr0 _ q.2)
    · exact nb_cases O.R w g0
  split at h
  · cases h
  rename_i q
  have b0 : 0 ≤ b ∧ b < (W.n : Int) := by
    rcases hbr with e | e
    · exact absurd (.inl (by omega)) q
    · exact e
  have wl := without_len hc
  split at h
  · rename_i hl
    cases h
    refine ⟨g0, g1, fun c hc' => ?_, fun c hc' => ?_, fun c hc' => ?_, ?_, K.go0, K.go1, K.gom, K.gon, K.us0, K.usn, K.ba0, K.ba1, K.bb0, K.bb1⟩
    · rcases mem_withOne.mp hc' with e | rfl
      · exact K.cr0 _ (mem_without.mp e).1
      · exact b0.1
    · rcases mem_withOne.mp hc' with e | rfl
      · exact K.cr1 _ (mem_without.mp e).1
      · exact b0.2
    · rcases mem_withOne.mp hc' with e | rfl
      · exact K.crl _ (mem_without.mp e).1
      · exact hl
    · show (withOne (without s.cr goal) b).length ≤ 30
      rw [withOne_len]
      have := K.crn
      omega
  · split at h
    · rename_i hl hx
      cases h
      have hn : b ∉ s.go := fun e => hl (by simp [lies, e])
      refine ⟨g0, g1, fun c hc' => K.cr0 _ (mem_without.mp hc').1, fun c hc' => K.cr1 _ (mem_without.mp hc').1, fun c hc' => ?_, ?_, fun c hc' => ?_, fun c hc' => ?_, fun c hc' => ?_, withOne_nodup K.gon hn, K.us0, K.usn, K.ba0, K.ba1, K.bb0, K.bb1⟩
      · exact lies_mono (fun x hx => mem_withOne.mpr (.inl hx)) (K.crl _ (mem_without.mp hc').1)
      · show (without s.cr goal).length ≤ 30
        have := K.crn
        omega
      · rcases mem_withOne.mp hc' with e | rfl
        · exact K.go0 _ e
        · exact b0.1
      · rcases mem_withOne.mp hc' with e | rfl
        · exact K.go1 _ e
        · exact b0.2
      · rcases mem_withOne.mp hc' with e | rfl
        · exact K.gom _ e
        · exact .inr hx
    · cases h
theorem moved_ok (O : WOk W) (K : Ok W s) {big : Bool} {s' : Sta} (h : moved W s w big = some s') : Ok W s' := by
  unfold moved at h
  simp only at h
  split at h
  · cases h
  rename_i q
  have hg : 0 ≤ nb W.rows W.wd w s.at_ ∧ nb W.rows W.wd w s.at_ < (W.n : Int) := by
    rcases nb_cases O.R w K.at0 with e | e
    · exact absurd (.inl (by omega)) q
    · exact e
  split at h
  · rename_i hc
    cases big with
    | true => cases h
    | false => exact pushed_ok O K hc h
  rename_i hc
  split at h
  · cases h
  rename_i g a b he
  obtain ⟨e1, e2, e3, e4, e5, e6, e7⟩ := entered_ok K hg.1 hg.2 he
  cases big with
  | false =>
    cases h
    exact ⟨hg.1, hg.2, K.cr0, K.cr1, fun c hc => lies_mono e1 (K.crl c hc), K.crn, fun c hc => (e2 c hc).1, fun c hc => (e2 c hc).2.1, fun c hc => (e2 c hc).2.2, e3, K.us0, K.usn, e4, e5, e6, e7⟩
  | true =>
    simp only [if_true] at h
    split at h
    · cases h
    rename_i c hp
    cases h
    unfold pulled at hp
    simp only at hp
    split at hp
    · cases hp
    rename_i hq
    cases hp
    have hq1 : nb W.rows W.wd w.back s.at_ ∈ s.cr := by
      by_cases e : nb W.rows W.wd w.back s.at_ ∈ s.cr
      · exact e
      · exact absurd (.inr (.inl e)) hq
    have hq2 : lies W.z s.go s.at_ = true := by
      cases e : lies W.z s.go s.at_ with
      | true => rfl
      | false => exact absurd (.inr (.inr e)) hq
    have wl := without_len hq1
    refine ⟨hg.1, hg.2, fun c hc' => ?_, fun c hc' => ?_, fun c hc' => ?_, ?_, fun c hc => (e2 c hc).1, fun c hc => (e2 c hc).2.1, fun c hc => (e2 c hc).2.2, e3, K.us0, K.usn, e4, e5, e6, e7⟩
    · rcases mem_withOne.mp hc' with e | rfl
      · exact K.cr0 _ (mem_without.mp e).1
      · exact K.at0
    · rcases mem_withOne.mp hc' with e | rfl
      · exact K.cr1 _ (mem_without.mp e).1
      · exact K.at1
    · rcases mem_withOne.mp hc' with e | rfl
      · exact lies_mono e1 (K.crl _ (mem_without.mp e).1)
      · exact lies_mono e1 hq2
    · show (withOne _ s.at_).length ≤ 30
      rw [withOne_len]
      have := K.crn
      omega
/-! ### the law's own steps -/
def pushedL (W : Wld) (s : Sta) (w : Way) (goal : Int) : Option (List Int × List Int) :=
  let b0 := nx W.rows.length W.wd w goal
  let b := if W.strong = true ∧ b0 ∈ s.cr then nx W.rows.length W.wd w b0 else b0
  if b < 0 ∨ b ∈ s.cr then none
  else if lies W.z s.go b = true then some (withOne (without s.cr goal) b, s.go)
  else if mark W.z b = 120 then some (without s.cr goal, withOne s.go b)
  else none
def bagL (cap ba bb : Int) (m : Nat) : Option (Int × Int) :=
  if m = 97 then (if ba = cap then none else some (ba + 1, bb))
  else if m = 98 then (if bb = cap then none else some (ba, bb + 1))
  else if m = 65 then (if ba = 0 then none else some (ba - 1, bb))
  else if m = 66 then (if bb = 0 then none else some (ba, bb - 1))
  else some (ba, bb)
def gateL (z : Str) (cr : List Int) : Bool := (List.range z.length).all fun k => decide (mark z (k : Int) ≠ 112) || decide ((k : Int) ∈ cr)
def walkedL (W : Wld) (s : Sta) (w : Way) : Option Sta :=
  let goal := nx W.rows.length W.wd w s.at_
  if goal < 0 ∨ mark W.z goal = 35 then none
  else if badWay (mark W.z s.at_) w = true then none
  else if mark W.z goal = 103 ∧ gateL W.z s.cr = false then none
  else if goal ∈ s.cr then (match pushedL W s w goal with
    | none => none
    | some (c, g) => some { s with at_ := goal, cr := c, go := g })
  else if goal ∉ s.go ∧ (isKD (mark W.z goal) = true ∨ mark W.z goal = 120) then
    (if mark W.z goal = 120 then none else match bagL W.cap s.ba s.bb (mark W.z goal) with
      | none => none
      | some (a, b) => some { s with at_ := goal, go := withOne s.go goal, ba := a, bb := b })
  else some { s with at_ := goal }
def stepL (W : Wld) (s : Sta) (w : Way) (big : Bool) : Option Sta :=
  if mark W.z s.at_ = 42 ∨ (big = true ∧ W.pull = false) then none
  else if big = false then walkedL W s w
  else
    let back := nx W.rows.length W.wd w.back s.at_
    if back ∉ s.cr ∨ nx W.rows.length W.wd w s.at_ ∈ s.cr ∨ lies W.z s.go s.at_ = false then none
    else match walkedL W s w with
      | none => none
      | some s' => some { s' with cr := withOne (without s.cr back) s.at_ }
theorem bag_eq {cap ba bb : Int} {m : Nat} (a0 : 0 ≤ ba) (a1 : ba ≤ cap) (b0 : 0 ≤ bb) (b1 : bb ≤ cap) (h : isKD m = true) : changedBag cap ba bb m = bagL cap ba bb m := by
  unfold isKD at h
  have h := of_decide_eq_true h
  unfold changedBag bagL
  rcases h with rfl | rfl | rfl | rfl
  · show (if min (ba + 1) bb < 0 ∨ max (ba + 1) bb > cap then none else some (ba + 1, bb)) = (if ba = cap then none else some (ba + 1, bb))
    by_cases e : ba = cap
    · rw [if_pos (by omega), if_pos e]
    · rw [if_neg (by omega), if_neg e]
  · show (if min ba (bb + 1) < 0 ∨ max ba (bb + 1) > cap then none else some (ba, bb + 1)) = (if bb = cap then none else some (ba, bb + 1))
    by_cases e : bb = cap
    · rw [if_pos (by omega), if_pos e]
    · rw [if_neg (by omega), if_neg e]
  · show (if min (ba + -1) bb < 0 ∨ max (ba + -1) bb > cap then none else some (ba + -1, bb)) = (if ba = 0 then none else some (ba - 1, bb))
    by_cases e : ba = 0
    · rw [if_pos (by omega), if_pos e]
    · rw [if_neg (by omega), if_neg e]; rfl
  · show (if min ba (bb + -1) < 0 ∨ max ba (bb + -1) > cap then none else some (ba, bb + -1)) = (if bb = 0 then none else some (ba, bb - 1))
    by_cases e : bb = 0
    · rw [if_pos (by omega), if_pos e]
    · rw [if_neg (by omega), if_neg e]; rfl
theorem gate_eq (z : Str) (cr : List Int) : gateOpen z cr = gateL z cr := by
  unfold gateOpen gateL placesL
  rw [Bool.eq_iff_iff, List.all_eq_true, List.all_eq_true]
  constructor
  · intro h k hk
    by_cases e : mark z (k : Int) = 112
    · have := h (k : Int) (by
        refine List.mem_map.mpr ⟨k, List.mem_filter.mpr ⟨hk, ?_⟩, rfl⟩
        have hk2 : k < z.cps.size := by simpa [Str.length] using hk
        unfold mark at e
        rw [Int.toNat_natCast] at e
        simp [Array.getD, hk2] at e
        simp [hk2, e])
      simp [e, of_decide_eq_true this]
    · simp [e]
  · intro h k hk
    obtain ⟨i, hi, rfl⟩ := List.mem_map.mp hk
    obtain ⟨h1, h2⟩ := List.mem_filter.mp hi
    have := h i h1
    have h3 : z.cps[i]? = some 112 := of_decide_eq_true h2
    have e : mark z (i : Int) = 112 := by
      unfold mark
      rw [Int.toNat_natCast]
      have hlt : i < z.cps.size := by simpa [Str.length] using h1
      rw [Array.getElem?_eq_getElem hlt] at h3
      simp [Array.getD, hlt, Option.some.inj h3]
    simpa [e] using this
/-- beside a state's cell: the room's list of neighbours, or the law's own look -/
theorem nb_eq (O : WOk W) {i : Int} (h0 : 0 ≤ i) : nb W.rows W.wd w i = if nx W.rows.length W.wd w i < 0 ∨ mark W.z (nx W.rows.length W.wd w i) = 35 then -1 else nx W.rows.length W.wd w i := nb_nx O.R w h0
theorem nb_mem (O : WOk W) (K : Ok W s) {i : Int} (h0 : 0 ≤ i) : nb W.rows W.wd w i ∈ s.cr ↔ nx W.rows.length W.wd w i ∈ s.cr := by
  rw [nb_eq O h0]
  split
  · rename_i q
    constructor
    · intro h
      have := K.cr0 _ h
      omega
    · intro h
      rcases q with q | q
      · have := K.cr0 _ h
        omega
      · exact absurd q (K.onCr h).2
  · exact Iff.rfl
theorem nb_in (O : WOk W) (K : Ok W s) {i : Int} (h0 : 0 ≤ i) (h : nx W.rows.length W.wd w i ∈ s.cr) : nb W.rows W.wd w i = nx W.rows.length W.wd w i := by
  rw [nb_eq O h0, if_neg]
  rintro (q | q)
  · have := K.cr0 _ h
    omega
  · exact (K.onCr h).2 q
theorem pushed_eq (O : WOk W) (K : Ok W s) {goal : Int} (hc : goal ∈ s.cr) : pushed W s w goal = match pushedL W s w goal with
    | none => none
    | some (c, g) => some { s with at_ := goal, cr := c, go := g } := by
  have g0 := K.cr0 _ hc
  -- the place beyond, by the one look and by the other
  have main : ∀ b b' : Int, (b = if b' < 0 ∨ mark W.z b' = 35 then -1 else b') → (if b < 0 ∨ b ∈ s.cr then (none : Option Sta)
      else if lies W.z s.go b = true then some { s with at_ := goal, cr := withOne (without s.cr goal) b }
      else if mark W.z b = 120 then some { s with at_ := goal, cr := without s.cr goal, go := withOne s.go b }
      else none) = match (if b' < 0 ∨ b' ∈ s.cr then none else if lies W.z s.go b' = true then some (withOne (without s.cr goal) b', s.go) else if mark W.z b' = 120 then some (without s.cr goal, withOne s.go b') else none) with
    | none => none
    | some (c, g) => some { s with at_ := goal, cr := c, go := g } := by
    intro b b' e
    by_cases q : b' < 0 ∨ mark W.z b' = 35
    · rw [if_pos q] at e
      subst e
      rw [if_pos (.inl (by omega))]
      by_cases q1 : b' < 0
      · rw [if_pos (.inl q1)]
      · have q2 : mark W.z b' = 35 := q.resolve_left q1
        have hnc : b' ∉ s.cr := fun h => (K.onCr h).2 q2
        have hnl : lies W.z s.go b' ≠ true := fun h => by
          have := lies_code K h
          rw [q2] at this
          exact absurd this (by decide)
        rw [if_neg (fun h => h.elim q1 hnc), if_neg hnl, if_neg (by rw [q2]; decide)]
    · rw [if_neg q] at e
      subst e
      by_cases q1 : b < 0 ∨ b ∈ s.cr
      · rw [if_pos q1, if_pos q1]
      · rw [if_neg q1, if_neg q1]
        split
        · rfl
        · split <;> rfl
  unfold pushed pushedL
  simp only
  by_cases hs : W.strong = true ∧ nx W.rows.length W.wd w goal ∈ s.cr
  · have e := nb_in (w := w) O K g0 hs.2
    rw [e, if_pos hs, if_pos hs]
    exact main _ _ (nb_eq O (K.cr0 _ hs.2))
  · have hs' : ¬ (W.strong = true ∧ nb W.rows W.wd w goal ∈ s.cr) := fun h => hs ⟨h.1, (nb_mem O K g0).mp h.2⟩
    rw [if_neg hs, if_neg hs']
    exact main _ _ (nb_eq O g0)
theorem small_eq (O : WOk W) (K : Ok W s) (hstar : mark W.z s.at_ ≠ 42) : moved W s w false = walkedL W s w := by
  unfold moved walkedL
  simp only [Bool.false_eq_true, if_false]
  rw [nb_eq O K.at0]
  generalize hg : nx W.rows.length W.wd w s.at_ = goal
  by_cases q : goal < 0 ∨ mark W.z goal = 35
  · rw [if_pos q, if_pos (.inl (by omega)), if_pos q]
  rw [if_neg q, if_neg q]
  have g0 : ¬ goal < 0 := fun h => q (.inl h)
  by_cases hb : badWay (mark W.z s.at_) w = true
  · rw [if_pos (.inr (.inr hb)), if_pos hb]
  rw [if_neg (fun h => h.elim g0 fun h => h.elim hstar hb), if_neg hb, ← gate_eq]
  by_cases hc : goal ∈ s.cr
  · rw [if_pos hc, if_neg (fun h => (K.onCr hc).1 h.1), if_pos hc]
    exact pushed_eq O K hc
  rw [if_neg hc, if_neg hc]
  unfold entered
  by_cases hgo : goal ∈ s.go
  · have hng : mark W.z goal ≠ 103 := fun e => K.gate e hgo
    rw [if_pos hgo, if_neg (fun h => hng h.1), if_neg (fun h => h.1 hgo)]
  rw [if_neg hgo]
  by_cases hgate : mark W.z goal = 103 ∧ gateOpen W.z s.cr = false
  · rw [if_pos (.inr hgate), if_pos hgate]
  rw [if_neg hgate]
  by_cases hx : mark W.z goal = 120
  · rw [if_pos (.inl hx), if_pos ⟨hgo, .inr hx⟩, if_pos hx]
  rw [if_neg (fun h => h.elim hx hgate)]
  cases hk : isKD (mark W.z goal) with
  | false =>
    rw [if_pos rfl, if_neg (fun h => h.2.elim (fun e => by cases e) hx)]
  | true =>
    rw [if_neg (by decide), bag_eq K.ba0 K.ba1 K.bb0 K.bb1 hk, if_pos ⟨hgo, .inl rfl⟩, if_neg hx]
    cases bagL W.cap s.ba s.bb (mark W.z goal) with
    | none => rfl
    | some ab => rfl
theorem step_eq (O : WOk W) (K : Ok W s) (big : Bool) : moved W s w big = stepL W s w big := by
  unfold stepL
  by_cases hs : mark W.z s.at_ = 42
  · rw [if_pos (.inl hs)]
    unfold moved
    simp only
    rw [if_pos (.inr (.inl hs))]
  cases big with
  | false =>
    rw [if_neg (fun h => h.elim hs fun h => by cases h.1), if_pos rfl]
    exact small_eq O K hs
  | true =>
    by_cases hp : W.pull = false
    · rw [if_pos (.inr ⟨rfl, hp⟩)]
      unfold moved
      simp only
      split
      · rfl
      split
      · rfl
      have : pulled W s w = none := by
        unfold pulled
        simp only
        rw [if_pos (.inl hp)]
      rw [this]
      simp only [if_true]
      split <;> rfl
    rw [if_neg (fun h => h.elim hs fun h => hp h.2), if_neg (by decide), ← small_eq O K hs]
    simp only
    have hbk := nb_mem (w := w.back) O K K.at0
    have hgl := nb_mem (w := w) O K K.at0
    by_cases h1 : nx W.rows.length W.wd w s.at_ ∈ s.cr
    · rw [if_pos (.inr (.inl h1))]
      unfold moved
      simp only
      rw [if_pos (hgl.mpr h1)]
      split <;> rfl
    by_cases h2 : nx W.rows.length W.wd w.back s.at_ ∉ s.cr ∨ lies W.z s.go s.at_ = false
    · rw [if_pos (h2.elim .inl fun h => .inr (.inr h))]
      have : pulled W s w = none := by
        unfold pulled
        simp only
        rw [if_pos (.inr (h2.elim (fun h => .inl fun e => h (hbk.mp e)) .inr))]
      unfold moved
      simp only
      rw [this]
      split
      · rfl
      split
      · rfl
      simp only [if_true]
      split <;> rfl
    rw [if_neg (fun h => h.elim (fun h => h2 (.inl h)) fun h => h.elim h1 fun h => h2 (.inr h))]
    have h3 : nx W.rows.length W.wd w.back s.at_ ∈ s.cr := by
      by_cases e : nx W.rows.length W.wd w.back s.at_ ∈ s.cr
      · exact e
      · exact absurd (.inl e) h2
    have h4 : lies W.z s.go s.at_ = true := by
      cases e : lies W.z s.go s.at_ with
      | true => rfl
      | false => exact absurd (.inr e) h2
    have e := nb_in (w := w.back) O K K.at0 h3
    have : pulled W s w = some (withOne (without s.cr (nx W.rows.length W.wd w.back s.at_)) s.at_) := by
      unfold pulled
      simp only
      rw [e, if_neg]
      rintro (h | h | h)
      · exact hp h
      · exact h h3
      · rw [h4] at h; cases h
    unfold moved
    simp only
    have hng : nb W.rows W.wd w s.at_ ∉ s.cr := fun h => h1 (hgl.mp h)
    rw [if_neg hng, this, if_neg hng]
    split
    · rfl
    simp only [if_true, Bool.false_eq_true, if_false]
    split
    · rfl
    · rfl
end
end K11
end
section
set_option Elab.async false
set_option linter.all false
set_option maxRecDepth 100000
set_option maxHeartbeats 2000000
namespace K11
open PySem L2
local macro_rules | `(tactic| walk_at "hp") => `(tactic| first | assumption | exact upd_same | (refine (upd_ne (by first | assumption | (apply Ne.symm; assumption))).trans ?_; walk_at "hp"))
local macro_rules | `(tactic| walk_at "rd1") => `(tactic| first
  | (refine ⟨_, rfl, ?_⟩)
  | (refine ⟨_, _, rfl, rfl, ?_⟩)
  | (refine ⟨(rfl : scal _ _ = true), ?_⟩)
  | (refine And.intro (by show (0 : Int) < _; decide) ?_)
  | (refine And.intro (And.intro (by decide) (by decide)) ?_)
  | (refine And.intro (Or.inr (And.intro (by decide) (by decide))) ?_)
  | (refine And.intro (And.intro (by decide) (And.intro (by decide) (by decide))) ?_)
  | (refine And.intro (by assumption) ?_)
  | (refine And.intro (And.intro (by omega) (by omega)) ?_)
  | (refine And.intro (Or.inl (And.intro (by omega) (by omega))) ?_)
  | (refine' ⟨_, _, _, _, rfl, rfl, Or.inl (Or.inl ?h1), ?h2, ?h3⟩; (case h1 => walk_at "hp"); (case h2 => rfl))
  | (refine' ⟨_, _, _, _, rfl, rfl, ?h1, ?h2, ?h3⟩; (case h1 => walk_at "hp"); (case h2 => rfl))
  | (refine' ⟨_, _, rfl, Or.inl (Or.inl (Or.inl ?h1)), ?h3⟩; (case h1 => walk_at "hp"))
  | (refine Or.inl ⟨_, rfl, ?_⟩))
local macro_rules | `(tactic| walk_at "rd") => `(tactic| repeat walk_at "rd1")

def isInt : V → Bool
  | .int _ => true
  | _ => false
def isBl : V → Bool
  | .bl _ => true
  | _ => false
/-- what kind of thing a value is, as far as whole numbers and flags go -/
def Knd (K : PySem.W.Frag) (H : Hp) (v : V) : Prop := ∃ t b1 b2, TyX K H v t ∧ PySem.W.kitOne K t (.type "int") = some b1 ∧ PySem.W.kitOne K t (.type "bool") = some b2 ∧ (b1 && !b2) = isInt v ∧ b2 = isBl v
theorem knd_of {K : PySem.W.Frag} {H : Hp} {v : V} {n : String} (h : tyN H v = some n) : Knd K H v := by
  have ty : TyX K H v (.type n) := .base (tyN_of h)
  have go : ∀ (b1 b2 : Bool), kitB n "int" = some b1 → kitB n "bool" = some b2 → (b1 && !b2) = isInt v → b2 = isBl v → Knd K H v := fun b1 b2 h1 h2 h3 h4 => ⟨_, b1, b2, ty, kit_ty h1, kit_ty h2, h3, h4⟩
  cases v with
  | non => cases h; exact go false false (by decide +kernel) (by decide +kernel) rfl rfl
  | bl b => cases h; exact go true true (by decide +kernel) (by decide +kernel) rfl rfl
  | int i => cases h; exact go true false (by decide +kernel) (by decide +kernel) rfl rfl
  | str x => cases h; exact go false false (by decide +kernel) (by decide +kernel) rfl rfl
  | byt b => cases h
  | flt b => cases h
  | ty t => cases h
  | ref a =>
    simp only [tyN] at h
    split at h <;> first | (cases h; exact go false false (by decide +kernel) (by decide +kernel) rfl rfl) | cases h
def capOk : V → Bool
  | .int i => decide (1 ≤ i ∧ i ≤ 2)
  | _ => false
def rulesF (c s p : V) : List (Str × V) := [("cap", c), ("strong", s), ("pull", p)]
structure RulT (P : Program) (K : PySem.W.Frag) (mg : Str → Option Value) (C CB fB : Addr) : Prop extends Blt mg where
  cl : Cls K C
  a_cap : NoAttr K C "cap"
  a_strong : NoAttr K C "strong"
  a_pull : NoAttr K C "pull"
  g_Rules : mg "Rules" = some (.ref C)
  x_BadRules : RX.ErrT P K mg "BadRules" "value" CB fB
def spRInit (K : PySem.W.Frag) (C CB : Addr) : Sp := fun vs H Q E => ∃ (x dx : Addr) (c s p : V), vs = [.ref x, c, s, p] ∧ H x = some (.ins C dx []) ∧ Knd K H c ∧ Knd K H s ∧ Knd K H p ∧
  (capOk c = false → ∀ d, H d = none → E (.ref CB) (some d) (upd H d (.xd [("value", c)]))) ∧
  (capOk c = true → isBl s = false → ∀ d, H d = none → E (.ref CB) (some d) (upd H d (.xd [("value", s)]))) ∧
  (capOk c = true → isBl s = true → isBl p = false → ∀ d, H d = none → E (.ref CB) (some d) (upd H d (.xd [("value", p)]))) ∧
  (capOk c = true → isBl s = true → isBl p = true → Q .non (upd H x (.ins C dx (rulesF c s p))))
section
variable {P : Program} {w : World} {K : PySem.W.Frag} {mg : Str → Option Value} {base : Heap} {C CB fB : Addr}
theorem putF3 (c s p : V) : putF "pull" p (putF "strong" s (putF "cap" c [])) = rulesF c s p := by
  have e1 : ¬ (("cap" : Str) = "strong") := by decide +kernel
  have e2 : ¬ (("cap" : Str) = "pull") := by decide +kernel
  have e3 : ¬ (("strong" : Str) = "pull") := by decide +kernel
  simp only [putF, e1, e2, e3, if_false, rulesF]
theorem ok_rinit {f : Addr} {fd : FuncData} {dvs : List V} (F : FunD K "__init__" "Rules.__init__" (defArgs s_Rules_init) (defBody s_Rules_init) (defScope s_Rules_init) dvs [] f fd) (T : RulT P K mg C CB fB) (c_is_whole : CalG P w K mg base 1 "is_whole" (spWhole K)) :
    FnG P w K mg base (CXe P w) 4 f fd ["self", "cap", "strong", "pull"] (spRInit K C CB) := by
  refine F.okG sc_Rules_init (fun vs H Q E h => ?_) (fun cdv A outer s H vs Q E hgd hr h => ?_)
  · obtain ⟨x, dx, c, s, p, rfl, _⟩ := h; rfl
  · obtain ⟨x, dx, c, sg, pl, rfl, hx, ⟨tc, c1, c2, kc, kc1, kc2, kc3, kc4⟩, ⟨ts, s1, s2, ks, ks1, ks2, ks3, ks4⟩, ⟨tp, p1, p2, kp, kp1, kp2, kp3, kp4⟩, k1, k2, k3, k4⟩ := h
    refine ⟨_, (pss_cons (ps_if (PW.pt (pw_or (pt_not (pt_val (pg_c c_is_whole hgd hr (by decide) (pa_cons (pv 1) pa_nil)))) (pw_or1 (pt_not (pt_chain op_le op_le pe_int (pv 1) pe_int))))) (pss_one (ps_raiseErr rfl T.x_BadRules hr (takes_of rfl rfl rfl rfl) (pa_cons (pv 1) pa_nil))) pss_nil)
      (pss_cons (ps_if (pt_not (pt_val (pe_callB call_isi (by rfl) T.n_isinstance (by decide +kernel) (pa_cons (pv 2) (pa_cons (pe_bltn (v := .ty "bool") (u := .type "bool") rfl T.n_bool (by decide +kernel) rfl) pa_nil))))) (pss_one (ps_raiseErr rfl T.x_BadRules hr (takes_of rfl rfl rfl rfl) (pa_cons (pv 2) pa_nil))) pss_nil)
      (pss_cons (ps_if (pt_not (pt_val (pe_callB call_isi (by rfl) T.n_isinstance (by decide +kernel) (pa_cons (pv 3) (pa_cons (pe_bltn (v := .ty "bool") (u := .type "bool") rfl T.n_bool (by decide +kernel) rfl) pa_nil))))) (pss_one (ps_raiseErr rfl T.x_BadRules hr (takes_of rfl rfl rfl rfl) (pa_cons (pv 3) pa_nil))) pss_nil)
      (pss_cons (ps_fld (pv 0) (pv 1) rfl)
      (pss_cons (ps_fld (pv 0) (pv 2) rfl)
      (pss_one (ps_fld (pv 0) (pv 3) rfl))))))), ?_⟩
    have hSl : ∀ (o : HO), (upd H x o) x = some o := fun o => upd_same
    -- cap
    have first : ∀ (D : Ends) (t : TS), (capOk c = true → t D (L2.start ["self", "cap", "strong", "pull"] [.ref x, c, sg, pl]) H) → True := fun _ _ _ => trivial
    refine ⟨_, rfl, c, tc, c1, c2, rfl, kc, kc1, kc2, _, rfl, ?_⟩
    rw [kc3]
    cases hi : isInt c with
    | false =>
      have hn : capOk c = false := by cases c <;> first | rfl | cases hi
      exact iteT (iteT ⟨_, rfl, c, rfl, fun d hd => k1 hn d hd⟩)
    | true =>
      cases c <;> first | (cases hi; done) | skip
      rename_i i
      refine iteF ?_
      walk_at "rd"
      by_cases h1 : (1 : Int) ≤ i
      · refine ite2 (fun _ => ?_) (fun z => absurd (decide_eq_true h1) z)
        walk_at "rd"
        by_cases h2 : i ≤ 2
        · have hk : capOk (.int i) = true := by simp [capOk, h1, h2]
          refine ite2 (fun z => ?_) (fun _ => ?_)
          · simp [h2] at z
          -- strong
          refine ⟨_, rfl, _, _, _, _, _, rfl, .ty _, ks, ks2, _, rfl, ?_⟩
          rw [ks4]
          cases hsg : isBl sg with
          | false => exact iteT ⟨_, rfl, sg, rfl, fun d hd => k2 hk hsg d hd⟩
          | true =>
            refine iteF ?_
            refine ⟨_, rfl, _, _, _, _, _, rfl, .ty _, kp, kp2, _, rfl, ?_⟩
            rw [kp4]
            cases hpl : isBl pl with
            | false => exact iteT ⟨_, rfl, pl, rfl, fun d hd => k3 hk hsg hpl d hd⟩
            | true =>
              refine iteF ?_
              refine ⟨_, rfl, _, rfl, x, C, dx, [], rfl, hx, T.cl, T.a_cap, (by decide), ?_⟩
              refine ⟨_, rfl, _, rfl, x, C, dx, _, rfl, upd_same, T.cl, T.a_strong, Nat.lt_of_le_of_lt (putF_len _ _ _) (by decide), ?_⟩
              refine ⟨_, rfl, _, rfl, x, C, dx, _, rfl, upd_same, T.cl, T.a_pull, Nat.lt_of_le_of_lt (putF_len _ _ _) (Nat.lt_of_le_of_lt (Nat.succ_le_succ (putF_len _ _ _)) (by decide)), ?_⟩
              rw [upd_upd, upd_upd, putF3]
              exact k4 hk hsg hpl
        · have hn : capOk (.int i) = false := by simp [capOk, h2]
          refine ite2 (fun _ => ?_) (fun z => absurd (by simp [h2]) z)
          exact ⟨_, rfl, _, rfl, fun d hd => k1 hn d hd⟩
      · have hn : capOk (.int i) = false := by simp [capOk, h1]
        refine ite2 (fun z => absurd (of_decide_eq_true z) h1) (fun _ => ?_)
        refine ⟨_, rfl, ?_⟩
        exact iteT ⟨_, rfl, _, rfl, fun d hd => k1 hn d hd⟩
/-- a right book of rules is made -/
theorem make_rules {H : Hp} {Q : VK} {E : XK} {c : Int} {s p : Bool} {x dx : Addr} (h1 : 1 ≤ c) (h2 : c ≤ 2) (nx : H x = none) (ndx : H dx = none) (k : ∀ H1, Same H H1 → H1 x = some (.ins C dx (rulesF (.int c) (.bl s) (.bl p))) → Q .non H1) :
    spRInit K C CB [.ref x, .int c, .bl s, .bl p] (upd (upd H dx (.own x)) x (.ins C dx [])) Q E := by
  have hk : capOk (.int c) = true := by simp [capOk, h1, h2]
  refine ⟨x, dx, .int c, .bl s, .bl p, rfl, upd_same, knd_of rfl, knd_of rfl, knd_of rfl, fun z => ?_, fun _ z => ?_, fun _ _ z => ?_, fun _ _ _ => ?_⟩
  · rw [hk] at z; cases z
  · cases z
  · cases z
  · rw [upd_upd]
    refine k _ (fun b o e => ?_) upd_same
    rw [upd_ne (ne_of_none e nx), upd_ne (ne_of_none e ndx)]
    exact e
end
/-! # The program's steps -/
/-- what the steps look up -/
structure MovT (P : Program) (w : World) (K : PySem.W.Frag) (mg : Str → Option Value) (CR CL aB aO : Addr) : Prop extends Rb mg where
  clR : Cls K CR
  r_rows : NoAttr K CR "rows"
  r_cells : NoAttr K CR "cells"
  r_near : NoAttr K CR "near"
  r_plates : NoAttr K CR "plates"
  clL : Cls K CL
  l_cap : NoAttr K CL "cap"
  l_strong : NoAttr K CL "strong"
  l_pull : NoAttr K CL "pull"
  k_STEPS : ∃ t, mg "STEPS" = some (.str "udlr" t)
  k_STEPS_WITH_PULLING : ∃ t, mg "STEPS_WITH_PULLING" = some (.str "udlrUDLR" t)
  g_BACK : mg "BACK" = some (.ref aB)
  g_ONE_WAY : mg "ONE_WAY" = some (.ref aO)
  bk : ∀ v : Way, ∃ u, KD K w aB v.sign (some u) ∧ RelV (.str v.back.sign) u
  ow : ∀ m : Nat, ∃ r, KD K w aO ⟨#[m]⟩ r ∧ (oneWay m = none → r = none) ∧ ∀ v, oneWay m = some v → ∃ u, r = some u ∧ RelV (.str v.sign) u
  n_sorted : mg "sorted" = none
  n_min : mg "min" = none
def RulesIs (CL : Addr) (H : Hp) (b : Addr) (W : Wld) : Prop := ∃ dx, H b = some (.ins CL dx (rulesF (.int W.cap) (.bl W.strong) (.bl W.pull)))
theorem RulesIs.same {CL : Addr} {H H' : Hp} {b : Addr} {W : Wld} (s : Same H H') (h : RulesIs CL H b W) : RulesIs CL H' b W := let ⟨dx, e⟩ := h; ⟨dx, s _ _ e⟩
/-- a state stands at v -/
def StaAt (H : Hp) (v : V) (s : Sta) : Prop := ∃ a c g u b, v = .ref a ∧ H a = some (.tup [.int s.at_, .ref c, .ref g, .ref u, .ref b]) ∧ H c = some (.tup (s.cr.map V.int)) ∧ H g = some (.tup (s.go.map V.int)) ∧ H u = some (.tup (s.us.map V.int)) ∧ H b = some (.tup [.int s.ba, .int s.bb])
theorem StaAt.same {H H' : Hp} {v : V} {s : Sta} (k : Same H H') (h : StaAt H v s) : StaAt H' v s := by
  obtain ⟨a, c, g, u, b, e, h1, h2, h3, h4, h5⟩ := h
  exact ⟨a, c, g, u, b, e, k _ _ h1, k _ _ h2, k _ _ h3, k _ _ h4, k _ _ h5⟩
theorem RoomAt.same' {C : Addr} {H H' : Hp} {x : Addr} {rows : List Str} {wd : Nat} (k : Same H H') (h : RoomAt C H x rows wd) : RoomAt C H' x rows wd := by
  obtain ⟨o, l, wh, dx, t, ct, pt, nd, h1, h2, h3, h4, u, d, q, r, g1, g2, g3, g4, g5⟩ := h
  exact ⟨o, l, wh, dx, t, ct, pt, nd, k _ _ h1, k _ _ h2, k _ _ h3, k _ _ h4, u, d, q, r, k _ _ g1, k _ _ g2, k _ _ g3, k _ _ g4, k _ _ g5⟩
theorem inV_ints (x : Int) (xs : List Int) : inV (.int x) (xs.map V.int) = decide (x ∈ xs) := by
  unfold inV
  induction xs with
  | nil => rfl
  | cons y r ih =>
    rw [List.map_cons, List.any_cons, ih]
    have : eqV (.int y) (.int x) = decide (x = y) := by
      show (y == x) = _
      by_cases e : x = y
      · simp [e]
      · have : ¬ y = x := fun h => e h.symm
        simp [e, this]
    rw [this]
    by_cases h1 : x = y <;> by_cases h2 : x ∈ r <;> simp [h1, h2]
theorem flat_ints (xs : List Int) : (xs.map V.int).all flatV = true := by
  rw [List.all_eq_true]
  intro v hv
  obtain ⟨i, _, rfl⟩ := List.mem_map.mp hv
  rfl
theorem mark_at {W : Wld} {c : Int} (h0 : 0 ≤ c) (h1 : c < W.n) (O : RowsOk W.rows W.wd) : atI W.z.cps.toList c = some (mark W.z c) := by
  obtain ⟨k, rfl⟩ := Int.eq_ofNat_of_zero_le h0
  have hl : W.z.length = W.n := join_len O
  have h2 : k < W.z.cps.size := by
    have : W.z.length = W.z.cps.size := rfl
    omega
  refine atI_nat ?_
  show W.z.cps.toList[k]? = some (W.z.cps.getD k 0)
  simp [Array.getD, h2]
section
variable {P : Program} {w : World} {K : PySem.W.Frag} {mg : Str → Option Value} {base : Heap} {CR CL aB aO : Addr}
theorem z_fit {W : Wld} (O : WOk W) : W.z.length ≤ sizeLine := by
  have : W.z.length = W.n := join_len O.R
  exact Nat.le_trans (Nat.le_of_eq this) (Nat.le_trans O.n30 (by decide +kernel))
def spLie (CR : Addr) : Sp := fun vs H Q _ => ∃ (W : Wld) (x g : Addr) (go : List Int) (c : Int), vs = [.ref x, .ref g, .int c] ∧ WOk W ∧ RoomAt CR H x W.rows W.wd ∧ H g = some (.tup (go.map V.int)) ∧ 0 ≤ c ∧ c < W.n ∧ Q (.bl (lies W.z go c)) H
theorem ok_lie {f : Addr} {fd : FuncData} (F : Fun K "can_lie" "can_lie" s_can_lie f fd) (T : MovT P w K mg CR CL aB aO) : FnG P w K mg base (CXe P w) 1 f fd ["room", "gone", "cell"] (spLie CR) := by
  refine F.okG sc_can_lie (fun vs H Q E h => ?_) (fun cdv A outer s H vs Q E hgd hr h => ?_)
  · obtain ⟨W, x, g, go, c, rfl, _⟩ := h; rfl
  · obtain ⟨W, x, g, go, c, rfl, O, hR, hg, c0, c1, k⟩ := h
    refine ⟨_, (pss_one (ps_ret (pe_or (pe_cmpR op_in_sign (pe_ix ix_str (pe_fld (pv 0) rfl) (pv 2) (fun _ _ => rfl)) pe_str (by rfl)) (pe_one (pe_cmpR op_in_seq (pv 2) (pv 1) (by rfl)))))), ?_⟩
    obtain ⟨dx, t, ct, pt, nd, hx, _⟩ := hR.ex
    refine ⟨_, rfl, x, CR, dx, _, _, rfl, hx, T.clR, T.r_cells, rfl, ?_⟩
    refine ⟨_, rfl, W.z, c, mark W.z c, rfl, rfl, z_fit O, mark_at c0 c1 O.R, ?_⟩
    refine ⟨mark W.z c, ".po", rfl, rfl, _, rfl, ?_⟩
    have e : decide (mark W.z c ∈ (".po" : Str).cps.toList) = isFree (mark W.z c) := by
      have : (".po" : Str).cps.toList = [46, 112, 111] := by decide +kernel
      rw [this]
      simp [isFree]
    rw [e]
    cases hf : isFree (mark W.z c) with
    | true =>
      refine iteT ?_
      have : lies W.z go c = true := by simp [lies, hf]
      rw [this] at k
      exact k
    | false =>
      refine iteF ⟨_, rfl, _, rfl, g, _, rfl, .inr (SqT.of hg), rfl, flat_ints _, ?_⟩
      have : lies W.z go c = inV (.int c) (go.map V.int) := by rw [inV_ints]; simp [lies, hf]
      rw [this] at k
      exact k
def spWith (K : PySem.W.Frag) : Sp := fun vs H Q _ => ∃ (a : Addr) (xs : List Int) (x : Int), vs = [.ref a, .int x] ∧ (H a = some (.tup (xs.map V.int)) ∨ H a = some (.lst (xs.map V.int))) ∧ xs.length ≤ 100 ∧
  ∀ t H', Same H H' → H' t = some (.tup ((withOne xs x).map V.int)) → H t = none → Q (.ref t) H'
theorem ok_with {f : Addr} {fd : FuncData} (F : Fun K "_with_one" "_with_one" s__with_one f fd) (T : MovT P w K mg CR CL aB aO) : FnG P w K mg base (CXe P w) 1 f fd ["numbers", "number"] (spWith K) := by
  refine F.okG sc__with_one (fun vs H Q E h => ?_) (fun cdv A outer s H vs Q E hgd hr h => ?_)
  · obtain ⟨a, xs, x, rfl, _⟩ := h; rfl
  · obtain ⟨a, xs, x, rfl, ha, hl, k⟩ := h
    refine ⟨_, (pss_one (ps_ret (pe_callTy call_tuple_of (by rfl) T.n_tuple (by decide +kernel) (pa_cons (pe_callB cr_sortedI (by rfl) T.n_sorted (by decide +kernel) (pa_cons (pe_lstA (StX.pa_star (pv 0) (pa_cons (pv 1) pa_nil))) pa_nil)) pa_nil)))), ?_⟩
    refine ⟨_, rfl, a, _, rfl, ha.elim (fun h => .inl (SqT.of h)) (fun h => .inr (SqL.of h)), ?_⟩
    walk_at "rd"
    refine And.intro (by rw [List.length_append, List.length_map]; exact Nat.le_trans (show xs.length + 1 ≤ 200 by omega) (by decide +kernel)) (fun p H1 n1 => ?_)
    have e1 : H1 p = some (.lst ((xs ++ [x]).map V.int)) := by rw [n1.at_, List.map_append]; rfl
    refine ⟨p, xs ++ [x], rfl, SqL.of e1, fun ns' q hp hu hq => ?_⟩
    have es : ns' = withOne xs x := sorted_is hp hu
    subst es
    have s1 : Same H (upd H1 q (.lst ((withOne xs x).map V.int))) := n1.same.trans (same_new hq)
    have e2 : upd H1 q (.lst ((withOne xs x).map V.int)) q = some (.lst ((withOne xs x).map V.int)) := upd_same
    generalize upd H1 q (.lst ((withOne xs x).map V.int)) = H2 at s1 e2 ⊢
    refine ⟨q, _, rfl, .inl ⟨SqL.of e2, fun t ht => ?_⟩⟩
    exact k t _ (s1.trans (same_new ht)) upd_same (s1.free ht)
def spGate (CR : Addr) : Sp := fun vs H Q _ => ∃ (W : Wld) (x c : Addr) (cr : List Int), vs = [.ref x, .ref c] ∧ RoomAt CR H x W.rows W.wd ∧ H c = some (.tup (cr.map V.int)) ∧ Q (.bl (gateOpen W.z cr)) H
theorem ok_gate {f : Addr} {fd : FuncData} (F : Fun K "_is_gate_open" "_is_gate_open" s__is_gate_open f fd) (T : MovT P w K mg CR CL aB aO) : FnG P w K mg base (CXe P w) 1 f fd ["room", "crates"] (spGate CR) := by
  refine F.okG sc__is_gate_open (fun vs H Q E h => ?_) (fun cdv A outer s H vs Q E hgd hr h => ?_)
  · obtain ⟨W, x, c, cr, rfl, _⟩ := h; rfl
  · obtain ⟨W, x, c, cr, rfl, hR, hc, k⟩ := h
    refine ⟨_, (pss_cons (ps_for (passes_of rfl) rfl (pi_tup (pe_fld (pv 0) rfl)) (pg_name (i := 2) sc__is_gate_open.nd rfl (Or.inl rfl))
      (pss_one (ps_if (pt_cmpR op_notIn_seq (pv 2) (pv 1) (by rfl)) (pss_one (ps_ret pe_bl)) pss_nil)))
      (pss_one (ps_ret pe_bl))), ?_⟩
    obtain ⟨dx, t, ct, pt, nd, hx, _, _, hpt, _⟩ := hR.ex
    refine ⟨_, rfl, x, CR, dx, _, _, rfl, hx, T.clR, T.r_plates, rfl, ?_⟩
    refine ⟨pt, rfl, ⟨_, SqT.of hpt⟩, for_it (walk_tup (xs := (placesL W.z 112 W.z.length).map V.int)) (fun i σ H' => (∃ m, σ = [some (.ref x), some (.ref c), m]) ∧ H' = H ∧ ∀ y ∈ (placesL W.z 112 W.z.length).take i, y ∈ cr) ⟨⟨none, rfl⟩, rfl, fun y hy => by simp at hy⟩ (fun i σ H' _ q => by rw [q.2.1]; exact SqT.of hpt) ?_ ?_⟩
    · rintro i y σ H1 H2 hi ⟨⟨m, rfl⟩, rfl, hj⟩ ⟨rfl, hy⟩
      rw [List.length_map] at hi
      have hy' : y = .int (placesL W.z 112 W.z.length)[i] := by
        rw [List.getElem?_map, List.getElem?_eq_getElem hi] at hy
        exact (Option.some.inj hy).symm
      subst hy'
      refine ⟨_, rfl, _, rfl, c, _, rfl, .inr (SqT.of hc), rfl, flat_ints _, _, rfl, ?_⟩
      simp only [if_true, inV_ints]
      by_cases hm : (placesL W.z 112 W.z.length)[i] ∈ cr
      · refine iteF' (by simp [hm]) ⟨⟨_, rfl⟩, rfl, fun z hz => ?_⟩
        rw [List.take_add_one, List.getElem?_eq_getElem hi] at hz
        rcases List.mem_append.mp hz with q | q
        · exact hj z q
        · have : z = (placesL W.z 112 W.z.length)[i] := by simpa using q
          rw [this]; exact hm
      · refine iteT' (by simp [hm]) ?_
        have e : gateOpen W.z cr = false := by
          unfold gateOpen
          rw [List.all_eq_false]
          exact ⟨_, List.getElem_mem hi, by simp [hm]⟩
        rw [e] at k
        exact k
    · rintro σ H1 ⟨⟨m, rfl⟩, rfl, hj⟩
      have e : gateOpen W.z cr = true := by
        unfold gateOpen
        rw [List.all_eq_true]
        intro y hy
        exact decide_eq_true (hj y (by rw [List.length_map, List.take_length]; exact hy))
      rw [e] at k
      exact k
def spChg (CL : Addr) : Sp := fun vs H Q _ => ∃ (W : Wld) (r b : Addr) (ba bb : Int) (m : Nat), vs = [.ref r, .ref b, .str ⟨#[m]⟩] ∧ RulesIs CL H r W ∧ H b = some (.tup [.int ba, .int bb]) ∧ isKD m = true ∧
  (changedBag W.cap ba bb m = none → Q .non H) ∧ (∀ a' b', changedBag W.cap ba bb m = some (a', b') → ∀ t H', Same H H' → H' t = some (.tup [.int a', .int b']) → Q (.ref t) H')
theorem ok_chg {f : Addr} {fd : FuncData} (F : Fun K "_changed_bag" "_changed_bag" s__changed_bag f fd) (T : MovT P w K mg CR CL aB aO) : FnG P w K mg base (CXe P w) 1 f fd ["rules", "bag", "mark"] (spChg CL) := by
  refine F.okG sc__changed_bag (fun vs H Q E h => ?_) (fun cdv A outer s H vs Q E hgd hr h => ?_)
  · obtain ⟨W, r, b, ba, bb, m, rfl, _⟩ := h; rfl
  · obtain ⟨W, r, b, ba, bb, m, rfl, ⟨dx, hr0⟩, hb, hk, k0, k1⟩ := h
    refine ⟨_, (C8.pss_cut (ps_set (i := 3) sc__changed_bag.nd rfl (Or.inl rfl) (pe_ifExp (pt_cmpR op_in_sign (pv 2) pe_str (by rfl)) pe_int (pe_un un_neg pe_int)))
      (pss_cons (ps_asg (pv 1) (pg_tup (by rfl) (pgs_cons (pg_name (i := 4) sc__changed_bag.nd rfl (Or.inl rfl)) (pgs_cons (pg_name (i := 5) sc__changed_bag.nd rfl (Or.inl rfl)) pgs_nil))))
      (C8.pss_cut (ps_if (pt_cmpR op_in_sign (pv 2) pe_str (by rfl)) (pss_one (ps_aug (i := 4) sc__changed_bag.nd rfl (Or.inl rfl) (pv 3) ip_add)) (pss_one (ps_aug (i := 5) sc__changed_bag.nd rfl (Or.inl rfl) (pv 3) ip_add)))
      (pss_cons (ps_if (PW.pt (pw_or (pt_cmpR op_lt (pe_callB (call_min2 rfl) (by rfl) T.n_min (by decide +kernel) (pa_cons (pv 4) (pa_cons (pv 5) pa_nil))) pe_int (nomark _)) (pw_or1 (pt_cmpR op_gt (pe_callB (call_max2 rfl) (by rfl) T.n_max (by decide +kernel) (pa_cons (pv 4) (pa_cons (pv 5) pa_nil))) (pe_fld (pv 0) rfl) (nomark _))))) (pss_one (ps_ret pe_non)) pss_nil)
      (pss_one (ps_ret (pe_tupA (pa_cons (pv 4) (pa_cons (pv 5) pa_nil))))))))), ?_⟩
    have hm : m = 97 ∨ m = 98 ∨ m = 65 ∨ m = 66 := of_decide_eq_true hk
    let ch : Int := if m = 97 ∨ m = 98 then 1 else -1
    let a1 : Int := if m = 97 ∨ m = 65 then ba + ch else ba
    let b1 : Int := if m = 97 ∨ m = 65 then bb else bb + ch
    have d1 : decide (m ∈ ("ab" : Str).cps.toList) = decide (m = 97 ∨ m = 98) := by
      have : ("ab" : Str).cps.toList = [97, 98] := by decide +kernel
      rw [this]; simp
    have d2 : decide (m ∈ ("aA" : Str).cps.toList) = decide (m = 97 ∨ m = 65) := by
      have : ("aA" : Str).cps.toList = [97, 65] := by decide +kernel
      rw [this]; simp
    refine ⟨fun σ' H' => σ' = [some (.ref r), some (.ref b), some (.str ⟨#[m]⟩), some (.int ch), none, none] ∧ H = H', ?_, ?_⟩
    · walk_at "rd"
      rw [d1]
      by_cases q : m = 97 ∨ m = 98
      · refine iteT' (decide_eq_true q) ⟨?_, rfl⟩
        show _ = [some (V.ref r), some (V.ref b), some (V.str ⟨#[m]⟩), some (V.int (if m = 97 ∨ m = 98 then 1 else -1)), none, none]
        rw [if_pos q]
        rfl
      · refine iteF' (by simpa using q) ?_
        walk_at "rd"
        refine ⟨?_, rfl⟩
        show _ = [some (V.ref r), some (V.ref b), some (V.str ⟨#[m]⟩), some (V.int (if m = 97 ∨ m = 98 then 1 else -1)), none, none]
        rw [if_neg q]
        rfl
    rintro σ' H' ⟨rfl, rfl⟩
    refine ⟨_, rfl, b, _, rfl, SqT.of hb, rfl, ?_⟩
    refine ⟨_, _, rfl, _, _, rfl, rfl, ?_⟩
    refine ⟨fun σ' H' => σ' = [some (.ref r), some (.ref b), some (.str ⟨#[m]⟩), some (.int ch), some (.int a1), some (.int b1)] ∧ H = H', ?_, ?_⟩
    · walk_at "rd"
      rw [d2]
      by_cases q : m = 97 ∨ m = 65
      · refine iteT' (decide_eq_true q) ?_
        walk_at "rd"
        refine ⟨?_, rfl⟩
        show _ = [some (V.ref r), some (V.ref b), some (V.str ⟨#[m]⟩), some (V.int ch), some (V.int (if m = 97 ∨ m = 65 then ba + ch else ba)), some (V.int (if m = 97 ∨ m = 65 then bb else bb + ch))]
        rw [if_pos q, if_pos q]
        rfl
      · refine iteF' (by simpa using q) ?_
        walk_at "rd"
        refine ⟨?_, rfl⟩
        show _ = [some (V.ref r), some (V.ref b), some (V.str ⟨#[m]⟩), some (V.int ch), some (V.int (if m = 97 ∨ m = 65 then ba + ch else ba)), some (V.int (if m = 97 ∨ m = 65 then bb else bb + ch))]
        rw [if_neg q, if_neg q]
        rfl
    rintro σ' H' ⟨rfl, rfl⟩
    walk_at "rd"
    refine ⟨a1, b1, rfl, _, _, rfl, rfl, _, rfl, ?_⟩
    have e1 : (if b1 < a1 then b1 else a1) = min a1 b1 := by split <;> omega
    have e2 : (if a1 < b1 then b1 else a1) = max a1 b1 := by split <;> omega
    have no : (min a1 b1 < 0 ∨ max a1 b1 > W.cap) → Q .non H := fun z => k0 (by show (if min a1 b1 < 0 ∨ max a1 b1 > W.cap then none else some (a1, b1)) = none; rw [if_pos z])
    refine ite2 (fun z => iteT (no (.inl (by have := of_decide_eq_true z; omega)))) (fun z => ?_)
    have z1 : ¬ min a1 b1 < 0 := fun y => z (decide_eq_true (by omega))
    walk_at "rd"
    refine ⟨a1, b1, rfl, _, rfl, r, CL, dx, _, .int W.cap, rfl, hr0, T.clL, T.l_cap, rfl, _, _, rfl, rfl, _, rfl, ?_⟩
    refine ite2 (fun y => no (.inr (by have := of_decide_eq_true y; omega))) (fun y => ?_)
    have z2 : ¬ max a1 b1 > W.cap := fun q => y (decide_eq_true (by omega))
    walk_at "rd"
    refine And.intro (Nat.le_of_ble_eq_true rfl) fun t1 H1 n1 => k1 a1 b1 ?_ t1 H1 n1.same n1.at_
    show (if min a1 b1 < 0 ∨ max a1 b1 > W.cap then none else some (a1, b1)) = some (a1, b1)
    rw [if_neg (fun q => q.elim z1 z2)]
end
end K11
end
section
set_option Elab.async false
set_option linter.all false
set_option maxRecDepth 100000
set_option maxHeartbeats 2000000
namespace K11
open PySem L2
local macro_rules | `(tactic| walk_at "hp") => `(tactic| first | assumption | exact upd_same | (refine (upd_ne (by first | assumption | (apply Ne.symm; assumption))).trans ?_; walk_at "hp"))
local macro_rules | `(tactic| walk_at "rd1") => `(tactic| first
  | (refine ⟨_, rfl, ?_⟩)
  | (refine ⟨_, _, rfl, rfl, ?_⟩)
  | (refine ⟨(rfl : scal _ _ = true), ?_⟩)
  | (refine And.intro (by show (0 : Int) < _; decide) ?_)
  | (refine And.intro (And.intro (by decide) (by decide)) ?_)
  | (refine And.intro (Or.inr (And.intro (by decide) (by decide))) ?_)
  | (refine And.intro (And.intro (by decide) (And.intro (by decide) (by decide))) ?_)
  | (refine And.intro (by assumption) ?_)
  | (refine And.intro (And.intro (by omega) (by omega)) ?_)
  | (refine And.intro (Or.inl (And.intro (by omega) (by omega))) ?_)
  | (refine' ⟨_, _, _, _, rfl, rfl, Or.inl (Or.inl ?h1), ?h2, ?h3⟩; (case h1 => walk_at "hp"); (case h2 => rfl))
  | (refine' ⟨_, _, _, _, rfl, rfl, ?h1, ?h2, ?h3⟩; (case h1 => walk_at "hp"); (case h2 => rfl))
  | (refine' ⟨_, _, rfl, Or.inl (Or.inl (Or.inl ?h1)), ?h3⟩; (case h1 => walk_at "hp"))
  | (refine Or.inl ⟨_, rfl, ?_⟩))
local macro_rules | `(tactic| walk_at "rd") => `(tactic| repeat walk_at "rd1")


theorem sg {m c : Nat} {z : Str} (hz : z = ⟨#[c]⟩) : (decide (V.str ⟨#[m]⟩ = V.str z) = true) ↔ m = c := by
  subst hz
  constructor
  · intro h
    have h := of_decide_eq_true h
    simpa using h
  · rintro rfl
    simp
theorem len_range : ∀ (n : Nat) {l : List Int}, l.Nodup → (∀ x ∈ l, 0 ≤ x ∧ x < n) → l.length ≤ n
  | 0, l, _, h => by
    cases l with
    | nil => simp
    | cons x r =>
      have := h x (List.mem_cons_self ..)
      omega
  | n + 1, l, hn, h => by
    by_cases q : (n : Int) ∈ l
    · have h1 := len_range n (hn.erase (n : Int)) fun x hx => by
        have hm := (hn.mem_erase_iff).mp hx
        have := h x hm.2
        have := hm.1
        omega
      have h2 := List.length_erase_of_mem q
      omega
    · have := len_range n hn fun x hx => by
        have h1 := h x hx
        have : x ≠ n := fun e => q (e ▸ hx)
        omega
      omega
theorem Ok.gol {W : Wld} {s : Sta} (O : WOk W) (Ks : Ok W s) : s.go.length ≤ 30 :=
  Nat.le_trans (len_range W.n Ks.gon fun c hc => ⟨Ks.go0 c hc, Ks.go1 c hc⟩) O.n30
theorem without_take {xs : List Int} {i : Nat} (hi : i < xs.length) (x : Int) : without (xs.take (i + 1)) x = if xs[i] = x then without (xs.take i) x else without (xs.take i) x ++ [xs[i]] := by
  unfold without
  rw [List.take_add_one, List.getElem?_eq_getElem hi, List.filter_append]
  by_cases e : xs[i] = x <;> simp [e]
theorem mapI_get {xs : List Int} {i : Nat} (hi : i < xs.length) {y : V} (h : (xs.map V.int)[i]? = some y) : y = .int xs[i] := by
  rw [List.getElem?_map, List.getElem?_eq_getElem hi] at h
  exact (Option.some.inj h).symm
theorem without_le (xs : List Int) (x : Int) : (without xs x).length ≤ xs.length := List.length_filter_le _ _
theorem sz {n : Nat} (h : n ≤ 1000) : n < sizeLine := Nat.lt_of_le_of_lt h (by decide +kernel)
theorem near_get {H : Hp} {nd : Addr} {rows : List Str} {wd : Nat} (h : NearAt H nd rows wd) (w : Way) : ∃ q, DGet H nd (.str w.sign) (some (.ref q)) ∧ H q = some (.tup ((neighL rows wd w.down w.across (rows.length * wd)).map V.int)) := by
  obtain ⟨u, d, l, r, e, hu, hd, hl, hr⟩ := h.ex
  cases w with
  | u => exact ⟨u, .inl ⟨_, .inr "u", .inl e, rfl, rfl⟩, hu⟩
  | d => exact ⟨d, .inl ⟨_, .inr "d", .inl e, rfl, rfl⟩, hd⟩
  | l => exact ⟨l, .inl ⟨_, .inr "l", .inl e, rfl, rfl⟩, hl⟩
  | r => exact ⟨r, .inl ⟨_, .inr "r", .inl e, rfl, rfl⟩, hr⟩
theorem nb_at {W : Wld} {w : Way} {i : Int} (h0 : 0 ≤ i) (h1 : i < W.n) : atI ((neighL W.rows W.wd w.down w.across (W.rows.length * W.wd)).map V.int) i = some (.int (nb W.rows W.wd w i)) := by
  obtain ⟨k, rfl⟩ := Int.eq_ofNat_of_zero_le h0
  have hk : k < W.rows.length * W.wd := by
    have : (k : Int) < ((W.rows.length * W.wd : Nat) : Int) := h1
    omega
  refine atI_nat ?_
  unfold neighL nb
  rw [List.getElem?_map, List.getElem?_map, List.getElem?_range hk]
  rfl
section
variable {P : Program} {w : World} {K : PySem.W.Frag} {mg : Str → Option Value} {base : Heap} {CR CL aB aO : Addr}
/-- a state, where it is to be read and not changed -/
def spEnt (CR CL : Addr) : Sp := fun vs H Q _ => ∃ (W : Wld) (s : Sta) (x r : Addr) (v : V) (goal : Int), vs = [.ref x, .ref r, v, .int goal] ∧ WOk W ∧ RoomAt CR H x W.rows W.wd ∧ RulesIs CL H r W ∧ StaAt H v s ∧ Ok W s ∧ 0 ≤ goal ∧ goal < W.n ∧
  (entered W s goal = none → ∀ H', Same H H' → Q .non H') ∧ (∀ g a b, entered W s goal = some (g, a, b) → ∀ t H' ga ba, Same H H' → H' t = some (.tup [.ref ga, .ref ba]) → H' ga = some (.tup (g.map V.int)) → H' ba = some (.tup [.int a, .int b]) → Q (.ref t) H')
theorem ok_ent {f : Addr} {fd : FuncData} (F : Fun K "_entered" "_entered" s__entered f fd) (T : MovT P w K mg CR CL aB aO) (c__is_gate_open : CalG P w K mg base 1 "_is_gate_open" (spGate CR)) (c__changed_bag : CalG P w K mg base 1 "_changed_bag" (spChg CL)) (c__with_one : CalG P w K mg base 1 "_with_one" (spWith K)) :
    FnG P w K mg base (CXe P w) 2 f fd ["room", "rules", "state", "goal"] (spEnt CR CL) := by
  refine F.okG sc__entered (fun vs H Q E h => ?_) (fun cdv A outer s H vs Q E hgd hr h => ?_)
  · obtain ⟨W, s, x, r, v, goal, rfl, _⟩ := h; rfl
  · obtain ⟨W, st, x, r, v, goal, rfl, O, hR, hru, hst, Ks, g0, g1, kn, ks⟩ := h
    refine ⟨_, (pss_cons (ps_par3 (i := 4) (j := 5) (l := 6) (by rfl) sc__entered.nd rfl rfl rfl (by decide) (by decide) (by decide) rfl rfl rfl (pa_cons (pe_ix ix_tup (pv 2) pe_int (fun _ _ => rfl)) (pa_cons (pe_ix ix_tup (pv 2) pe_int (fun _ _ => rfl)) (pa_cons (pe_ix ix_tup (pv 2) pe_int (fun _ _ => rfl)) pa_nil))) (by rfl))
      (pss_cons (ps_set (i := 7) sc__entered.nd rfl (Or.inl rfl) (pe_ix ix_str (pe_fld (pv 0) rfl) (pv 3) (fun _ _ => rfl)))
      (pss_cons (ps_if (pt_cmpR op_in_seq (pv 3) (pv 5) (by rfl)) (pss_one (ps_ret (pe_tupA (pa_cons (pv 5) (pa_cons (pv 6) pa_nil))))) pss_nil)
      (C8.pss_cut (ps_if (PW.pt (pw_or (pt_cmpR op_eq (pv 7) pe_str (nomark _)) (pw_or1 (PW.pt (pw_and (pt_cmpR op_eq (pv 7) pe_str (nomark _)) (pw_and1 (pt_not (pt_val (pg_c c__is_gate_open hgd hr (by decide) (pa_cons (pv 0) (pa_cons (pv 4) pa_nil))))))))))) (pss_one (ps_ret pe_non)) pss_nil)
      (pss_cons (ps_if (pt_cmpR op_notIn_sign (pv 7) pe_str (by rfl)) (pss_one (ps_ret (pe_tupA (pa_cons (pv 5) (pa_cons (pv 6) pa_nil))))) pss_nil)
      (pss_cons (ps_set (i := 8) sc__entered.nd rfl (Or.inl rfl) (pg_c c__changed_bag hgd hr (by decide) (pa_cons (pv 1) (pa_cons (pv 6) (pa_cons (pv 7) pa_nil)))))
      (pss_cons (ps_if (pt_cmpR op_isN (pv 8) pe_non (nomark _)) (pss_one (ps_ret pe_non)) pss_nil)
      (pss_one (ps_ret (pe_tupA (pa_cons (pg_c c__with_one hgd hr (by decide) (pa_cons (pv 5) (pa_cons (pv 3) pa_nil))) (pa_cons (pv 8) pa_nil)))))))))))), ?_⟩
    obtain ⟨a, c, g, u, b, rfl, ha, hc, hg, hu, hb⟩ := hst
    obtain ⟨dx, t, ct, pt, nd, hx, _⟩ := hR.ex
    refine ⟨_, rfl, a, _, 1, .ref c, rfl, rfl, SqT.of ha, atI_nat (xs := [V.int st.at_, V.ref c, V.ref g, V.ref u, V.ref b]) (j := 1) rfl, ?_⟩
    refine ⟨_, rfl, a, _, 2, .ref g, rfl, rfl, SqT.of ha, atI_nat (xs := [V.int st.at_, V.ref c, V.ref g, V.ref u, V.ref b]) (j := 2) rfl, ?_⟩
    refine ⟨_, rfl, a, _, 4, .ref b, rfl, rfl, SqT.of ha, atI_nat (xs := [V.int st.at_, V.ref c, V.ref g, V.ref u, V.ref b]) (j := 4) rfl, _, _, _, rfl, ?_⟩
    refine ⟨_, rfl, x, CR, dx, _, _, rfl, hx, T.clR, T.r_cells, rfl, ?_⟩
    refine ⟨_, rfl, W.z, goal, mark W.z goal, rfl, rfl, z_fit O, mark_at g0 g1 O.R, ?_⟩
    refine ⟨_, rfl, _, rfl, g, _, rfl, .inr (SqT.of hg), rfl, flat_ints _, _, rfl, ?_⟩
    rw [inV_ints]
    by_cases hgo : goal ∈ st.go
    · refine iteT' (decide_eq_true hgo) ?_
      walk_at "rd"
      exact And.intro (Nat.le_of_ble_eq_true rfl) fun t1 H1 n1 => ks _ _ _ (by simp [entered, hgo]) t1 H1 g b n1.same n1.at_ (n1.same _ _ hg) (n1.same _ _ hb)
    refine iteF' (by simp [hgo]) ?_
    have bad : (mark W.z goal = 120 ∨ (mark W.z goal = 103 ∧ gateOpen W.z st.cr = false)) → Q .non H := fun z => kn (by simp only [entered]; rw [if_neg hgo, if_pos z]) _ (Same.refl _)
    refine ⟨fun σ' H' => σ' = [some (.ref x), some (.ref r), some (.ref a), some (.int goal), some (.ref c), some (.ref g), some (.ref b), some (.str ⟨#[mark W.z goal]⟩), none] ∧ H' = H ∧ ¬ (mark W.z goal = 120 ∨ (mark W.z goal = 103 ∧ gateOpen W.z st.cr = false)), ?_, ?_⟩
    · walk_at "rd"
      by_cases hx120 : mark W.z goal = 120
      · exact iteT' ((sg (by decide +kernel)).mpr hx120) (iteT (bad (.inl hx120)))
      refine iteF' (fun z => hx120 ((sg (by decide +kernel)).mp z)) ?_
      walk_at "rd"
      by_cases hg103 : mark W.z goal = 103
      · refine iteT' ((sg (by decide +kernel)).mpr hg103) ?_
        refine ⟨_, rfl, _, rfl, W, x, c, st.cr, rfl, hR, hc, ?_⟩
        cases hgo' : gateOpen W.z st.cr with
        | false => exact ⟨_, rfl, iteT (bad (.inr ⟨hg103, hgo'⟩))⟩
        | true => exact ⟨_, rfl, iteF ⟨rfl, rfl, fun z => z.elim hx120 fun z => by cases z.2⟩⟩
      · exact iteF' (fun z => hg103 ((sg (by decide +kernel)).mp z)) (iteF ⟨rfl, rfl, fun z => z.elim hx120 fun z => hg103 z.1⟩)
    rintro σ' H' ⟨rfl, rfl, nb⟩
    walk_at "rd"
    have d4 : (!decide (mark W.z goal ∈ ("abAB" : Str).cps.toList)) = !isKD (mark W.z goal) := by
      have : ("abAB" : Str).cps.toList = [97, 98, 65, 66] := by decide +kernel
      rw [this]
      simp [isKD]
    rw [d4]
    cases hk : isKD (mark W.z goal) with
    | false =>
      refine iteT ?_
      walk_at "rd"
      exact And.intro (Nat.le_of_ble_eq_true rfl) fun t1 H1 n1 => ks _ _ _ (by simp only [entered]; rw [if_neg hgo, if_neg nb, if_pos hk]) t1 H1 g b n1.same n1.at_ (n1.same _ _ hg) (n1.same _ _ hb)
    | true =>
      refine iteF ?_
      have ee : entered W st goal = match changedBag W.cap st.ba st.bb (mark W.z goal) with
        | none => none
        | some (a, b) => some (withOne st.go goal, a, b) := by
        simp only [entered]; rw [if_neg hgo, if_neg nb, if_neg (by rw [hk]; decide)]; try (cases changedBag W.cap st.ba st.bb (mark W.z goal) <;> rfl)
      refine ⟨_, rfl, _, rfl, _, rfl, W, r, b, st.ba, st.bb, _, rfl, hru, hb, hk, fun hn => ?_, fun a' b' he t1 H1 s1 ht1 => ?_⟩
      · exact ⟨_, rfl, rfl, _, rfl, iteT (kn (by rw [ee, hn]) _ (Same.refl _))⟩
      · refine ⟨_, rfl, rfl, _, rfl, iteF' (by simp) ?_⟩
        refine ⟨_, rfl, _, rfl, g, st.go, goal, rfl, .inl (s1 _ _ hg), Nat.le_trans (Ks.gol O) (by decide), fun t2 H2 s2 ht2 _ => ?_⟩
        refine ⟨_, rfl, And.intro (Nat.le_of_ble_eq_true rfl) fun t3 H3 n3 => ?_⟩
        exact ks _ a' b' (by rw [ee, he]) t3 H3 t2 t1 ((s1.trans s2).trans n3.same) n3.at_ (n3.same _ _ ht2) (n3.same _ _ (s2 _ _ ht1))
def spPsh (CR CL : Addr) : Sp := fun vs H Q _ => ∃ (W : Wld) (s : Sta) (x r : Addr) (v : V) (wy : Way), vs = [.ref x, .ref r, v, .str wy.sign] ∧ WOk W ∧ RoomAt CR H x W.rows W.wd ∧ RulesIs CL H r W ∧ StaAt H v s ∧ Ok W s ∧ nb W.rows W.wd wy s.at_ ∈ s.cr ∧
  (pushed W s wy (nb W.rows W.wd wy s.at_) = none → ∀ H', Same H H' → Q .non H') ∧ (∀ s', pushed W s wy (nb W.rows W.wd wy s.at_) = some s' → ∀ v' H', Same H H' → StaAt H' v' s' → Q v' H')
theorem ok_psh {f : Addr} {fd : FuncData} (F : Fun K "_pushed" "_pushed" s__pushed f fd) (T : MovT P w K mg CR CL aB aO) (c_can_lie : CalG P w K mg base 1 "can_lie" (spLie CR)) (c__with_one : CalG P w K mg base 1 "_with_one" (spWith K)) :
    FnG P w K mg base (CXe P w) 2 f fd ["room", "rules", "state", "way"] (spPsh CR CL) := by
  refine F.okG sc__pushed (fun vs H Q E h => ?_) (fun cdv A outer s H vs Q E hgd hr h => ?_)
  · obtain ⟨W, s, x, r, v, wy, rfl, _⟩ := h; rfl
  · obtain ⟨W, st, x, r, v, wy, rfl, O, hR, hru, hst, Ks, hin, kn, ks⟩ := h
    refine ⟨_, (pss_cons (ps_asg (pv 2) (pg_tup (by rfl) (pgs_cons (pg_name (i := 4) sc__pushed.nd rfl (Or.inl rfl)) (pgs_cons (pg_name (i := 5) sc__pushed.nd rfl (Or.inl rfl)) (pgs_cons (pg_name (i := 6) sc__pushed.nd rfl (Or.inl rfl)) (pgs_cons (pg_name (i := 7) sc__pushed.nd rfl (Or.inl rfl)) (pgs_cons (pg_name (i := 8) sc__pushed.nd rfl (Or.inl rfl)) pgs_nil)))))))
      (pss_cons (ps_set (i := 9) sc__pushed.nd rfl (Or.inl rfl) (pe_dget (hu_of hr) (pe_fld (pv 0) rfl) (pv 3) (fun _ _ => rfl)))
      (pss_cons (ps_set (i := 10) sc__pushed.nd rfl (Or.inr rfl) (pe_ix ix_tup (pv 9) (pv 4) (fun _ _ => rfl)))
      (pss_cons (ps_set (i := 11) sc__pushed.nd rfl (Or.inl rfl) (pe_ix ix_tup (pv 9) (pv 10) (fun _ _ => rfl)))
      (C8.pss_cut (ps_if (PW.pt (pw_and (pt_val (pe_fld (pv 1) rfl)) (pw_and1 (pt_cmpR op_in_seq (pv 11) (pv 5) (by rfl))))) (pss_one (ps_set (i := 11) sc__pushed.nd rfl (Or.inl rfl) (pe_ix ix_tup (pv 9) (pv 11) (fun _ _ => rfl)))) pss_nil)
      (pss_cons (ps_if (PW.pt (pw_or (pt_cmpR op_lt (pv 11) pe_int (nomark _)) (pw_or1 (pt_cmpR op_in_seq (pv 11) (pv 5) (by rfl))))) (pss_one (ps_ret pe_non)) pss_nil)
      (pss_cons (ps_setLc (i := 12) (own := [("crate", 13)]) (g := gName 13) rfl sc__pushed.nd rfl rfl (sw_true rfl rfl rfl (by decide +kernel)) (pi_tup (pv 5)) (blkOk_by (own := [("crate", 13)]) (N := ["room", "rules", "state", "way", "at", "crates", "gone", "used", "bag", "ways", "goal", "beyond", "others", "crate"]) (sc := defScope s__pushed) (by decide +kernel)) (fun _ _ _ _ _ => pg_name (i := 13) sc__pushed.nd rfl (Or.inl rfl)) (fun _ _ _ _ _ => pts_one (pt_cmpR op_ne (pv 13) (pv 10) (nomark _))) (fun _ _ _ _ _ => (pv 13)))
      (pss_cons (ps_if (pt_val (pg_c c_can_lie hgd hr (by decide) (pa_cons (pv 0) (pa_cons (pv 6) (pa_cons (pv 11) pa_nil))))) (pss_one (ps_ret (pe_tupA (pa_cons (pv 10) (pa_cons (pg_c c__with_one hgd hr (by decide) (pa_cons (pv 12) (pa_cons (pv 11) pa_nil))) (pa_cons (pv 6) (pa_cons (pv 7) (pa_cons (pv 8) pa_nil)))))))) pss_nil)
      (pss_cons (ps_if (pt_cmpR op_eq (pe_ix ix_str (pe_fld (pv 0) rfl) (pv 11) (fun _ _ => rfl)) pe_str (nomark _)) (pss_one (ps_ret (pe_tupA (pa_cons (pv 10) (pa_cons (pe_callTy call_tuple_of (by rfl) T.n_tuple (by decide +kernel) (pa_cons (pv 12) pa_nil)) (pa_cons (pg_c c__with_one hgd hr (by decide) (pa_cons (pv 6) (pa_cons (pv 11) pa_nil))) (pa_cons (pv 7) (pa_cons (pv 8) pa_nil)))))))) pss_nil)
      (pss_one (ps_ret pe_non))))))))))), ?_⟩
    obtain ⟨a, c, g, u, b, rfl, ha, hc, hg, hu, hb⟩ := hst
    obtain ⟨dx, t, ct, pt, nd, hx, _, _, hpt, hnear⟩ := hR.ex
    obtain ⟨rdx, hru0⟩ := hru
    refine ⟨_, rfl, a, _, rfl, SqT.of ha, rfl, ?_⟩
    refine ⟨_, _, rfl, _, _, rfl, _, _, rfl, _, _, rfl, _, _, rfl, rfl, ?_⟩
    refine ⟨_, rfl, x, CR, dx, _, _, rfl, hx, T.clR, T.r_near, rfl, ?_⟩
    obtain ⟨q, hdg, hq⟩ := near_get hnear wy
    have g0 := Ks.cr0 _ hin
    have g1 := Ks.cr1 _ hin
    refine ⟨_, rfl, nd, .ref q, rfl, hdg, ?_⟩
    refine ⟨_, rfl, _, rfl, q, _, st.at_, _, rfl, rfl, SqT.of hq, nb_at Ks.at0 Ks.at1, ?_⟩
    refine ⟨_, rfl, _, rfl, q, _, _, _, rfl, rfl, SqT.of hq, nb_at g0 g1, ?_⟩
    unfold pushed at kn ks
    simp only at kn ks
    generalize hgoal : nb W.rows W.wd wy st.at_ = goal at *
    generalize hb0 : nb W.rows W.wd wy goal = b0 at *
    refine ⟨fun σ' H' => σ' = [some (.ref x), some (.ref r), some (.ref a), some (.str wy.sign), some (.int st.at_), some (.ref c), some (.ref g), some (.ref u), some (.ref b), some (.ref q), some (.int goal), some (.int (if W.strong = true ∧ b0 ∈ st.cr then nb W.rows W.wd wy b0 else b0)), none, none] ∧ H' = H, ?_, ?_⟩
    · refine ⟨_, rfl, r, CL, rdx, _, .bl W.strong, rfl, hru0, T.clL, T.l_strong, rfl, _, rfl, ?_⟩
      by_cases hs : W.strong = true
      · refine iteT' hs ?_
        refine ⟨_, rfl, _, rfl, c, _, rfl, .inr (SqT.of hc), rfl, flat_ints _, _, rfl, ?_⟩
        rw [inV_ints]
        by_cases hm : b0 ∈ st.cr
        · refine iteT' (decide_eq_true hm) ?_
          refine ⟨_, rfl, _, rfl, q, _, _, _, rfl, rfl, SqT.of hq, nb_at (Ks.cr0 _ hm) (Ks.cr1 _ hm), ?_⟩
          rw [if_pos ⟨hs, hm⟩]
          exact ⟨rfl, rfl⟩
        · refine iteF' (by simp [hm]) ?_
          rw [if_neg (fun z => hm z.2)]
          exact ⟨rfl, rfl⟩
      · refine iteF' hs ?_
        rw [if_neg (fun z => hs z.1)]
        exact ⟨rfl, rfl⟩
    rintro σ' H' ⟨rfl, rfl⟩
    have hbr : (if W.strong = true ∧ b0 ∈ st.cr then nb W.rows W.wd wy b0 else b0) = -1 ∨ (0 ≤ (if W.strong = true ∧ b0 ∈ st.cr then nb W.rows W.wd wy b0 else b0) ∧ (if W.strong = true ∧ b0 ∈ st.cr then nb W.rows W.wd wy b0 else b0) < (W.n : Int)) := by
      split
      · rename_i z
        exact nb_cases O.R wy (Ks.cr0 _ z.2)
      · rw [← hb0]
        exact nb_cases O.R wy g0
    generalize (if W.strong = true ∧ b0 ∈ st.cr then nb W.rows W.wd wy b0 else b0) = be at *
    walk_at "rd"
    have bad : (be < 0 ∨ be ∈ st.cr) → Q .non H' := fun z => kn (if_pos z) _ (Same.refl _)
    refine ite2 (fun z => iteT (bad (.inl (of_decide_eq_true z)))) (fun z => ?_)
    have z0 : ¬ be < 0 := fun y => z (decide_eq_true y)
    refine ⟨_, rfl, _, rfl, c, _, rfl, .inr (SqT.of hc), rfl, flat_ints _, _, rfl, ?_⟩
    rw [inV_ints]
    refine ite2 (fun y => bad (.inr (of_decide_eq_true y))) (fun y => ?_)
    have z1 : be ∉ st.cr := fun z => y (decide_eq_true z)
    have bn : 0 ≤ be ∧ be < (W.n : Int) := hbr.resolve_left (by omega)
    have zn : ¬ (be < 0 ∨ be ∈ st.cr) := fun z => z.elim z0 z1
    rw [if_neg zn] at kn ks
    refine ⟨_, rfl, c, rfl, ⟨_, SqT.of hc⟩, fun D hD => lc_it (walk_tup (xs := st.cr.map V.int)) (fun i H2 => H2 D = some (.lst ((without (st.cr.take i) goal).map V.int)) ∧ Off (fun b => b = D) H' H2) ⟨upd_same, Off.new hD⟩ (fun i H2 _ z => SqT.of (z.2 _ _ (ne_of_none hc hD) hc)) ?_ ?_⟩
    · rintro i y H1 H2 hi ⟨hacc, off⟩ ⟨rfl, hy⟩
      rw [List.length_map] at hi
      cases mapI_get hi hy
      refine And.intro rfl ?_
      walk_at "rd"
      rw [without_take hi]
      by_cases e : st.cr[i] = goal
      · refine iteF' (by simp [e]) ?_
        rw [if_pos e]
        exact ⟨hacc, off⟩
      · refine iteT' (by simp [e]) ?_
        rw [if_neg e]
        have hcr := Ks.crn
        refine ⟨_, rfl, _, hacc, sz ?_, ?_, off.trans (Off.mut rfl)⟩
        · rw [List.length_map]
          have := without_le (st.cr.take i) goal
          have : (st.cr.take i).length ≤ 30 := Nat.le_trans (List.length_take_le' ..) hcr
          omega
        · rw [upd_same, List.map_append]
          rfl
    rintro H1 ⟨hacc, off⟩
    rw [List.length_map, List.take_length] at hacc
    have s1 : Same H' H1 := fun b o e => off b o (ne_of_none e hD) e
    have ol : (without st.cr goal).length ≤ 100 := Nat.le_trans (without_le _ _) (Nat.le_trans Ks.crn (by decide))
    refine ⟨_, rfl, _, rfl, _, rfl, W, x, g, st.go, be, rfl, O, hR.same' s1, s1 _ _ hg, bn.1, bn.2, _, rfl, ?_⟩
    by_cases hl : lies W.z st.go be = true
    · refine iteT' hl ?_
      rw [if_pos hl] at ks
      refine ⟨_, rfl, _, rfl, _, rfl, D, without st.cr goal, be, rfl, .inr hacc, ol, fun t2 H2 s2 ht2 _ => ?_⟩
      refine ⟨_, rfl, _, rfl, _, rfl, And.intro (Nat.le_of_ble_eq_true rfl) fun t3 H3 n3 => ?_⟩
      have s3 : Same H' H3 := (s1.trans s2).trans n3.same
      exact ks _ rfl _ H3 s3 ⟨t3, t2, g, u, b, rfl, n3.at_, n3.same _ _ ht2, s3 _ _ hg, s3 _ _ hu, s3 _ _ hb⟩
    refine iteF' hl ?_
    rw [if_neg hl] at kn ks
    refine ⟨_, rfl, x, CR, dx, _, _, rfl, s1 _ _ hx, T.clR, T.r_cells, rfl, _, rfl, W.z, be, mark W.z be, rfl, rfl, z_fit O, mark_at bn.1 bn.2 O.R, ?_⟩
    walk_at "rd"
    by_cases h120 : mark W.z be = 120
    · refine iteT' ((sg (by decide +kernel)).mpr h120) ?_
      rw [if_pos h120] at ks
      refine ⟨_, rfl, _, rfl, D, _, rfl, .inl ⟨SqL.of hacc, fun t2 ht2 => ?_⟩⟩
      have s2 : Same H1 (upd H1 t2 (.tup ((without st.cr goal).map V.int))) := same_new ht2
      have e2 : upd H1 t2 (.tup ((without st.cr goal).map V.int)) t2 = some (.tup ((without st.cr goal).map V.int)) := upd_same
      generalize upd H1 t2 (.tup ((without st.cr goal).map V.int)) = H2 at s2 e2 ⊢
      refine ⟨_, rfl, _, rfl, g, st.go, be, rfl, .inl (s2 _ _ (s1 _ _ hg)), Nat.le_trans (Ks.gol O) (by decide), fun t3 H3 s3 ht3 _ => ?_⟩
      refine ⟨_, rfl, _, rfl, And.intro (Nat.le_of_ble_eq_true rfl) fun t4 H4 n4 => ?_⟩
      have s4 : Same H' H4 := ((s1.trans s2).trans s3).trans n4.same
      exact ks _ rfl _ H4 s4 ⟨t4, t2, t3, u, b, rfl, n4.at_, n4.same _ _ (s3 _ _ e2), n4.same _ _ ht3, s4 _ _ hu, s4 _ _ hb⟩
    · rw [if_neg h120] at kn
      exact iteF' (fun z => h120 ((sg (by decide +kernel)).mp z)) (kn rfl _ s1)
end
end K11
end
section
set_option Elab.async false
set_option linter.all false
set_option maxRecDepth 100000
set_option maxHeartbeats 2000000
namespace K11
open PySem L2
local macro_rules | `(tactic| walk_at "hp") => `(tactic| first | assumption | exact upd_same | (refine (upd_ne (by first | assumption | (apply Ne.symm; assumption))).trans ?_; walk_at "hp"))
local macro_rules | `(tactic| walk_at "rd1") => `(tactic| first
  | (refine ⟨_, rfl, ?_⟩)
  | (refine ⟨_, _, rfl, rfl, ?_⟩)
  | (refine ⟨(rfl : scal _ _ = true), ?_⟩)
  | (refine And.intro (by show (0 : Int) < _; decide) ?_)
  | (refine And.intro (And.intro (by decide) (by decide)) ?_)
  | (refine And.intro (Or.inr (And.intro (by decide) (by decide))) ?_)
  | (refine And.intro (And.intro (by decide) (And.intro (by decide) (by decide))) ?_)
  | (refine And.intro (by assumption) ?_)
  | (refine And.intro (And.intro (by omega) (by omega)) ?_)
  | (refine And.intro (Or.inl (And.intro (by omega) (by omega))) ?_)
  | (refine' ⟨_, _, _, _, rfl, rfl, Or.inl (Or.inl ?h1), ?h2, ?h3⟩; (case h1 => walk_at "hp"); (case h2 => rfl))
  | (refine' ⟨_, _, _, _, rfl, rfl, ?h1, ?h2, ?h3⟩; (case h1 => walk_at "hp"); (case h2 => rfl))
  | (refine' ⟨_, _, rfl, Or.inl (Or.inl (Or.inl ?h1)), ?h3⟩; (case h1 => walk_at "hp"))
  | (refine Or.inl ⟨_, rfl, ?_⟩))
local macro_rules | `(tactic| walk_at "rd") => `(tactic| repeat walk_at "rd1")


theorem sign_inj {v w : Way} (h : v.sign = w.sign) : v = w := by
  have : ∀ v w : Way, v.sign = w.sign → v = w := by
    intro v w
    cases v <;> cases w <;> first | (intro _; rfl) | (intro h; exact absurd h (by decide +kernel))
  exact this v w h
theorem letter_len (w : Way) (b : Bool) : (letterOf w b).length ≤ 5592405 := by cases w <;> cases b <;> decide +kernel
theorem letter_low (w : Way) (b : Bool) : Txt.lower (letterOf w b) = w.sign := by cases w <;> cases b <;> decide +kernel
theorem letter_big (w : Way) (b : Bool) : (decide (V.str (letterOf w b) = V.str w.sign)) = !b := by
  cases b with
  | false => simp [letterOf]
  | true => cases w <;> decide +kernel
section
variable {P : Program} {w : World} {K : PySem.W.Frag} {mg : Str → Option Value} {base : Heap} {CR CL aB aO : Addr}
def spPul (CR CL : Addr) : Sp := fun vs H Q _ => ∃ (W : Wld) (s : Sta) (x r : Addr) (v : V) (wy : Way), vs = [.ref x, .ref r, v, .str wy.sign] ∧ WOk W ∧ RoomAt CR H x W.rows W.wd ∧ RulesIs CL H r W ∧ StaAt H v s ∧ Ok W s ∧
  (pulled W s wy = none → ∀ H', Same H H' → Q .non H') ∧ (∀ c', pulled W s wy = some c' → ∀ t H', Same H H' → H' t = some (.tup (c'.map V.int)) → Q (.ref t) H')
theorem ok_pul {f : Addr} {fd : FuncData} (F : Fun K "_pulled" "_pulled" s__pulled f fd) (T : MovT P w K mg CR CL aB aO) (c_can_lie : CalG P w K mg base 1 "can_lie" (spLie CR)) (c__with_one : CalG P w K mg base 1 "_with_one" (spWith K)) :
    FnG P w K mg base (CXe P w) 2 f fd ["room", "rules", "state", "way"] (spPul CR CL) := by
  refine F.okG sc__pulled (fun vs H Q E h => ?_) (fun cdv A outer s H vs Q E hgd hr h => ?_)
  · obtain ⟨W, s, x, r, v, wy, rfl, _⟩ := h; rfl
  · obtain ⟨W, st, x, r, v, wy, rfl, O, hR, hru, hst, Ks, kn, ks⟩ := h
    refine ⟨_, (pss_cons (ps_asg (pe_slice sl_tupU (pv 2) po_none (po_some pe_int)) (pg_tup (by rfl) (pgs_cons (pg_name (i := 4) sc__pulled.nd rfl (Or.inl rfl)) (pgs_cons (pg_name (i := 5) sc__pulled.nd rfl (Or.inl rfl)) (pgs_cons (pg_name (i := 6) sc__pulled.nd rfl (Or.inl rfl)) pgs_nil)))))
      (pss_cons (ps_set (i := 7) sc__pulled.nd rfl (Or.inr rfl) (pe_ix ix_tup (pe_dget (hu_of hr) (pe_fld (pv 0) rfl) (pe_ix ix_kdict (pe_glob (v := .ref aB) rfl T.g_BACK rfl) (pv 3) (fun _ _ => rfl)) (fun _ _ => rfl)) (pv 4) (fun _ _ => rfl)))
      (pss_cons (ps_if (PW.pt (pw_or (pt_not (pt_val (pe_fld (pv 1) rfl))) (pw_or (pt_cmpR op_notIn_seq (pv 7) (pv 5) (by rfl)) (pw_or1 (pt_not (pt_val (pg_c c_can_lie hgd hr (by decide) (pa_cons (pv 0) (pa_cons (pv 6) (pa_cons (pv 4) pa_nil)))))))))) (pss_one (ps_ret pe_non)) pss_nil)
      (pss_one (ps_ret (pg_c c__with_one hgd hr (by decide) (pa_cons (pe_lc (own := [("crate", 8)]) (g := gName 8) rfl sc__pulled.nd (pi_tup (pv 5)) (blkOk_by (own := [("crate", 8)]) (N := ["room", "rules", "state", "way", "at", "crates", "gone", "behind", "crate"]) (sc := defScope s__pulled) (by decide +kernel)) (fun _ _ _ _ _ => pg_name (i := 8) sc__pulled.nd rfl (Or.inl rfl)) (fun _ _ _ _ _ => pts_one (pt_cmpR op_ne (pv 8) (pv 7) (nomark _))) (fun _ _ _ _ _ => (pv 8))) (pa_cons (pv 4) pa_nil)))))))), ?_⟩
    obtain ⟨a, c, g, u, b, rfl, ha, hc, hg, hu, hb⟩ := hst
    obtain ⟨rdx, hru0⟩ := hru
    walk_at "rd"
    refine ⟨a, _, rfl, ha, fun t1 H1 s1 ht1 _ => ?_⟩
    have hcut : cutV [V.int st.at_, V.ref c, V.ref g, V.ref u, V.ref b] none (some 3) = [V.int st.at_, V.ref c, V.ref g] := rfl
    rw [hcut] at ht1
    refine ⟨t1, _, rfl, SqT.of ht1, rfl, ?_⟩
    refine ⟨_, _, rfl, _, _, rfl, _, _, rfl, rfl, ?_⟩
    replace hR := hR.same' s1
    obtain ⟨dx, t, ct, pt, nd, hx, _, _, hpt, hnear⟩ := hR.ex
    obtain ⟨q, hdg, hq⟩ := near_get hnear wy.back
    obtain ⟨ub, hkb, hrb⟩ := T.bk wy
    refine ⟨_, rfl, x, CR, dx, _, _, rfl, hx, T.clR, T.r_near, rfl, _, rfl, aB, wy.sign, .str wy.back.sign, rfl, rfl, hkb.get hrb, nd, .ref q, rfl, hdg, _, rfl, q, _, st.at_, _, rfl, rfl, SqT.of hq, nb_at Ks.at0 Ks.at1, ?_⟩
    unfold pulled at kn ks
    simp only at kn ks
    generalize hbe : nb W.rows W.wd wy.back st.at_ = be at *
    have bad : (W.pull = false ∨ be ∉ st.cr ∨ lies W.z st.go st.at_ = false) → Q .non H1 := fun z => kn (if_pos z) _ s1
    refine ⟨_, rfl, r, CL, rdx, _, .bl W.pull, rfl, s1 _ _ hru0, T.clL, T.l_pull, rfl, _, rfl, ?_⟩
    cases hpl : W.pull with
    | false => exact iteT (iteT (bad (.inl hpl)))
    | true =>
    refine iteF ?_
    refine ⟨_, rfl, _, rfl, c, _, rfl, .inr (SqT.of (s1 _ _ hc)), rfl, flat_ints _, _, rfl, ?_⟩
    rw [inV_ints]
    by_cases hin : be ∈ st.cr
    case neg => exact iteT' (by simp [hin]) (iteT (bad (.inr (.inl hin))))
    refine iteF' (by simp [hin]) ?_
    refine ⟨_, rfl, _, rfl, _, rfl, W, x, g, st.go, st.at_, rfl, O, hR, s1 _ _ hg, Ks.at0, Ks.at1, _, rfl, ?_⟩
    cases hl : lies W.z st.go st.at_ with
    | false => exact iteT (bad (.inr (.inr hl)))
    | true =>
    refine iteF ?_
    have hcc := s1 _ _ hc
    refine ⟨_, rfl, c, rfl, ⟨_, SqT.of hcc⟩, fun D hD => lc_it (walk_tup (xs := st.cr.map V.int)) (fun i H2 => H2 D = some (.lst ((without (st.cr.take i) be).map V.int)) ∧ Off (fun b => b = D) H1 H2) ⟨upd_same, Off.new hD⟩ (fun i H2 _ z => SqT.of (z.2 _ _ (ne_of_none hcc hD) hcc)) ?_ ?_⟩
    · rintro i y H2 H3 hi ⟨hacc, off⟩ ⟨rfl, hy⟩
      rw [List.length_map] at hi
      cases mapI_get hi hy
      refine And.intro rfl ?_
      walk_at "rd"
      rw [without_take hi]
      by_cases e : st.cr[i] = be
      · refine iteF' (by simp [e]) ?_
        rw [if_pos e]
        exact ⟨hacc, off⟩
      · refine iteT' (by simp [e]) ?_
        rw [if_neg e]
        have hcr := Ks.crn
        refine ⟨_, rfl, _, hacc, sz ?_, ?_, off.trans (Off.mut rfl)⟩
        · rw [List.length_map]
          have := without_le (st.cr.take i) be
          have : (st.cr.take i).length ≤ 30 := Nat.le_trans (List.length_take_le' ..) hcr
          omega
        · rw [upd_same, List.map_append]
          rfl
    rintro H2 ⟨hacc, off⟩
    rw [List.length_map, List.take_length] at hacc
    have s2 : Same H1 H2 := fun b o e => off b o (ne_of_none e hD) e
    have ol : (without st.cr be).length ≤ 100 := Nat.le_trans (without_le _ _) (Nat.le_trans Ks.crn (by decide))
    refine ⟨_, rfl, D, without st.cr be, st.at_, rfl, .inr hacc, ol, fun t2 H3 s3 ht2 _ => ?_⟩
    exact ks _ (if_neg (fun z => by rcases z with z | z | z <;> simp_all)) t2 H3 ((s1.trans s2).trans s3) ht2
/-! ### one step -/
def spMov (CR CL : Addr) : Sp := fun vs H Q _ => ∃ (W : Wld) (s : Sta) (x r : Addr) (v : V) (wy : Way) (big : Bool), vs = [.ref x, .ref r, v, .str (letterOf wy big)] ∧ WOk W ∧ RoomAt CR H x W.rows W.wd ∧ RulesIs CL H r W ∧ StaAt H v s ∧ Ok W s ∧
  (moved W s wy big = none → ∀ H', Same H H' → Q .non H') ∧ (∀ s', moved W s wy big = some s' → ∀ v' H', Same H H' → StaAt H' v' s' → Q v' H')
theorem ok_mov {f : Addr} {fd : FuncData} (F : Fun K "moved" "moved" s_moved f fd) (T : MovT P w K mg CR CL aB aO) (c__entered : CalG P w K mg base 2 "_entered" (spEnt CR CL)) (c__pushed : CalG P w K mg base 2 "_pushed" (spPsh CR CL)) (c__pulled : CalG P w K mg base 2 "_pulled" (spPul CR CL)) :
    FnG P w K mg base (CXe P w) 3 f fd ["room", "rules", "state", "letter"] (spMov CR CL) := by
  refine F.okG sc_moved (fun vs H Q E h => ?_) (fun cdv A outer s H vs Q E hgd hr h => ?_)
  · obtain ⟨W, s, x, r, v, wy, big, rfl, _⟩ := h; rfl
  · obtain ⟨W, st, x, r, v, wy, big, rfl, O, hR, hru, hst, Ks, kn, ks⟩ := h
    refine ⟨_, (pss_cons (ps_asg (pv 2) (pg_tup (by rfl) (pgs_cons (pg_name (i := 4) sc_moved.nd rfl (Or.inl rfl)) (pgs_cons (pg_name (i := 5) sc_moved.nd rfl (Or.inl rfl)) (pgs_cons (pg_name (i := 6) sc_moved.nd rfl (Or.inl rfl)) (pgs_cons (pg_name (i := 7) sc_moved.nd rfl (Or.inl rfl)) (pgs_cons (pg_name (i := 8) sc_moved.nd rfl (Or.inl rfl)) pgs_nil)))))))
      (pss_cons (ps_set (i := 9) sc_moved.nd rfl (Or.inl rfl) (pe_bm0 PySem.F.plainAttrs_str PySem.F.slot_str_lower PySem.F.type_str_lower mt_lower (pv 3)))
      (pss_cons (ps_set (i := 10) sc_moved.nd rfl (Or.inl rfl) (pe_ix ix_str (pe_fld (pv 0) rfl) (pv 4) (fun _ _ => rfl)))
      (pss_cons (ps_set (i := 11) sc_moved.nd rfl (Or.inl rfl) (pe_ix ix_tup (pe_dget (hu_of hr) (pe_fld (pv 0) rfl) (pv 9) (fun _ _ => rfl)) (pv 4) (fun _ _ => rfl)))
      (C8.pss_cut (ps_if (PW.pt (pw_or (pt_cmpR op_lt (pv 11) pe_int (nomark _)) (pw_or (pt_cmpR op_eq (pv 10) pe_str (nomark _)) (pw_or1 (pt_cmpR op_ne (pe_kget2 (pe_glob (v := .ref aO) rfl T.g_ONE_WAY rfl) (pv 10) (pv 9) ⟨by rfl, by rfl, by rfl, by rfl⟩) (pv 9) (nomark _)))))) (pss_one (ps_ret pe_non)) pss_nil)
      (pss_cons (ps_if (pt_cmpR op_in_seq (pv 11) (pv 5) (by rfl)) (pss_one (ps_ret (pe_ifExp (pt_cmpR op_eq (pv 3) (pv 9) (nomark _)) (pg_c c__pushed hgd hr (by decide) (pa_cons (pv 0) (pa_cons (pv 1) (pa_cons (pv 2) (pa_cons (pv 9) pa_nil))))) pe_non))) pss_nil)
      (pss_cons (ps_set (i := 12) sc_moved.nd rfl (Or.inl rfl) (pg_c c__entered hgd hr (by decide) (pa_cons (pv 0) (pa_cons (pv 1) (pa_cons (pv 2) (pa_cons (pv 11) pa_nil))))))
      (pss_cons (ps_if (pt_cmpR op_isN (pv 12) pe_non (nomark _)) (pss_one (ps_ret pe_non)) pss_nil)
      (pss_cons (ps_if (pt_cmpR op_ne (pv 3) (pv 9) (nomark _)) (pss_cons (ps_set (i := 5) sc_moved.nd rfl (Or.inl rfl) (pg_c c__pulled hgd hr (by decide) (pa_cons (pv 0) (pa_cons (pv 1) (pa_cons (pv 2) (pa_cons (pv 9) pa_nil))))))
      (pss_one (ps_if (pt_cmpR op_isN (pv 5) pe_non (nomark _)) (pss_one (ps_ret pe_non)) pss_nil))) pss_nil)
      (pss_cons (ps_asg (pv 12) (pg_tup (by rfl) (pgs_cons (pg_name (i := 6) sc_moved.nd rfl (Or.inl rfl)) (pgs_cons (pg_name (i := 8) sc_moved.nd rfl (Or.inl rfl)) pgs_nil))))
      (pss_one (ps_ret (pe_tupA (pa_cons (pv 11) (pa_cons (pv 5) (pa_cons (pv 6) (pa_cons (pv 7) (pa_cons (pv 8) pa_nil)))))))))))))))))), ?_⟩
    obtain ⟨a, c, g, u, b, rfl, ha, hc, hg, hu, hb⟩ := id hst
    obtain ⟨dx, t, ct, pt, nd, hx, _, _, hpt, hnear⟩ := hR.ex
    refine ⟨_, rfl, a, _, rfl, SqT.of ha, rfl, ?_⟩
    refine ⟨_, _, rfl, _, _, rfl, _, _, rfl, _, _, rfl, _, _, rfl, rfl, ?_⟩
    refine ⟨_, rfl, rfl, letterOf wy big, rfl, rfl, letter_len wy big, ?_⟩
    rw [letter_low]
    refine ⟨_, rfl, x, CR, dx, _, _, rfl, hx, T.clR, T.r_cells, rfl, _, rfl, W.z, st.at_, mark W.z st.at_, rfl, rfl, z_fit O, mark_at Ks.at0 Ks.at1 O.R, ?_⟩
    obtain ⟨q, hdg, hq⟩ := near_get hnear wy
    refine ⟨_, rfl, x, CR, dx, _, _, rfl, hx, T.clR, T.r_near, rfl, _, rfl, nd, .ref q, rfl, hdg, _, rfl, q, _, st.at_, _, rfl, rfl, SqT.of hq, nb_at Ks.at0 Ks.at1, ?_⟩
    unfold moved at kn ks
    simp only at kn ks
    have gr := nb_cases O.R wy Ks.at0
    generalize hgoal : nb W.rows W.wd wy st.at_ = goal at *
    have bad : (goal < 0 ∨ mark W.z st.at_ = 42 ∨ badWay (mark W.z st.at_) wy = true) → Q .non H := fun z => kn (if_pos z) _ (Same.refl _)
    refine ⟨fun σ' H' => σ' = [some (.ref x), some (.ref r), some (.ref a), some (.str (letterOf wy big)), some (.int st.at_), some (.ref c), some (.ref g), some (.ref u), some (.ref b), some (.str wy.sign), some (.str ⟨#[mark W.z st.at_]⟩), some (.int goal), none] ∧ H' = H ∧ ¬ (goal < 0 ∨ mark W.z st.at_ = 42 ∨ badWay (mark W.z st.at_) wy = true), ?_, ?_⟩
    · walk_at "rd"
      refine ite2 (fun z => iteT (bad (.inl (of_decide_eq_true z)))) (fun z => ?_)
      have z0 : ¬ goal < 0 := fun y => z (decide_eq_true y)
      walk_at "rd"
      by_cases h42 : mark W.z st.at_ = 42
      · exact iteT' ((sg (by decide +kernel)).mpr h42) (iteT (bad (.inr (.inl h42))))
      refine iteF' (fun z => h42 ((sg (by decide +kernel)).mp z)) ?_
      obtain ⟨ro, hkd, ho0, ho1⟩ := T.ow (mark W.z st.at_)
      cases how : oneWay (mark W.z st.at_) with
      | none =>
        have hb : badWay (mark W.z st.at_) wy = false := by simp [badWay, how]
        refine ⟨aO, rfl, hkd.is, _, rfl, _, rfl, ⟨#[mark W.z st.at_]⟩, ro, .str wy.sign, rfl, hkd, fun _ => rfl, fun u hu => (by rw [ho0 how] at hu; cases hu), ?_⟩
        walk_at "rd"
        refine iteF' (by simp) ⟨rfl, rfl, fun z => ?_⟩
        rcases z with z | z | z
        · exact z0 z
        · exact h42 z
        · rw [hb] at z; cases z
      | some vw =>
        obtain ⟨uu, hu, hr1⟩ := ho1 vw how
        refine ⟨aO, rfl, hkd.is, _, rfl, _, rfl, ⟨#[mark W.z st.at_]⟩, ro, .str vw.sign, rfl, hkd, fun z => (by rw [hu] at z; cases z), fun u' hu' => (by rw [hu] at hu'; cases hu'; exact hr1), ?_⟩
        walk_at "rd"
        by_cases e : vw = wy
        · subst e
          refine iteF' (by simp) ⟨rfl, rfl, fun z => ?_⟩
          rcases z with z | z | z
          · exact z0 z
          · exact h42 z
          · simp [badWay, how] at z
        · have hb : badWay (mark W.z st.at_) wy = true := by simp [badWay, how, e]
          have hne : vw.sign ≠ wy.sign := fun z => e (sign_inj z)
          exact iteT' (by simp [hne]) (bad (.inr (.inr hb)))
    rintro σ' H' ⟨rfl, rfl, nbd⟩
    rw [if_neg nbd] at kn ks
    have hg0 : 0 ≤ goal ∧ goal < (W.n : Int) := gr.resolve_left (fun z => nbd (.inl (by omega)))
    refine ⟨_, rfl, _, rfl, c, _, rfl, .inr (SqT.of hc), rfl, flat_ints _, _, rfl, ?_⟩
    rw [inV_ints]
    by_cases hin : goal ∈ st.cr
    · refine iteT' (decide_eq_true hin) ?_
      rw [if_pos hin] at kn ks
      walk_at "rd"
      rw [letter_big]
      cases big with
      | true => exact iteF (kn rfl _ (Same.refl _))
      | false =>
        refine iteT ?_
        rw [if_neg (by decide)] at kn ks
        exact ⟨_, rfl, _, rfl, _, rfl, _, rfl, W, st, x, r, .ref a, wy, rfl, O, hR, hru, hst, Ks, by rw [hgoal]; exact hin, by rw [hgoal]; exact kn, by rw [hgoal]; exact ks⟩
    refine iteF' (by simp [hin]) ?_
    rw [if_neg hin] at kn ks
    refine ⟨_, rfl, _, rfl, _, rfl, _, rfl, W, st, x, r, .ref a, goal, rfl, O, hR, hru, hst, Ks, hg0.1, hg0.2, fun hn H1 s1 => ?_, fun g' a' b' he t1 H1 ga ba s1 ht1 hga hba => ?_⟩
    · exact ⟨_, rfl, rfl, _, rfl, iteT (kn (by rw [hn]) H1 s1)⟩
    rw [he] at kn ks
    refine ⟨_, rfl, rfl, _, rfl, iteF' (by simp) ?_⟩
    walk_at "rd"
    rw [letter_big]
    cases big with
    | false =>
      refine iteF ?_
      refine ⟨_, rfl, t1, _, rfl, SqT.of ht1, rfl, _, _, rfl, _, _, rfl, rfl, ?_⟩
      walk_at "rd"
      refine And.intro (Nat.le_of_ble_eq_true rfl) fun t2 H2 n2 => ?_
      have s2 := s1.trans n2.same
      exact ks _ rfl _ H2 s2 ⟨t2, c, ga, u, ba, rfl, n2.at_, s2 _ _ hc, n2.same _ _ hga, s2 _ _ hu, n2.same _ _ hba⟩
    | true =>
      refine iteT ?_
      refine ⟨_, rfl, _, rfl, _, rfl, _, rfl, W, st, x, r, .ref a, wy, rfl, O, hR.same' s1, hru.same s1, hst.same s1, Ks, fun hn H2 s2 => ?_, fun c' hc' t2 H2 s2 ht2 => ?_⟩
      · exact ⟨_, rfl, rfl, _, rfl, iteT (kn (by simp only [hn]; rfl) H2 (s1.trans s2))⟩
      · refine ⟨_, rfl, rfl, _, rfl, iteF' (by simp) ?_⟩
        refine ⟨_, rfl, t1, _, rfl, SqT.of (s2 _ _ ht1), rfl, _, _, rfl, _, _, rfl, rfl, ?_⟩
        walk_at "rd"
        refine And.intro (Nat.le_of_ble_eq_true rfl) fun t3 H3 n3 => ?_
        have s3 := s2.trans n3.same
        exact ks { st with at_ := goal, cr := c', go := g', ba := a', bb := b' } (by simp only [hc']; rfl) _ H3 (s1.trans s3) ⟨t3, t2, ga, u, ba, rfl, n3.at_, n3.same _ _ ht2, s3 _ _ hga, s3 _ _ (s1 _ _ hu), s3 _ _ hba⟩
end
end K11
end
section
set_option Elab.async false
set_option linter.all false
set_option maxRecDepth 100000
set_option maxHeartbeats 2000000
namespace K11
open PySem L2
local macro_rules | `(tactic| walk_at "hp") => `(tactic| first | assumption | exact upd_same | (refine (upd_ne (by first | assumption | (apply Ne.symm; assumption))).trans ?_; walk_at "hp"))
local macro_rules | `(tactic| walk_at "rd1") => `(tactic| first
  | (refine ⟨_, rfl, ?_⟩)
  | (refine ⟨_, _, rfl, rfl, ?_⟩)
  | (refine ⟨(rfl : scal _ _ = true), ?_⟩)
  | (refine And.intro (by show (0 : Int) < _; decide) ?_)
  | (refine And.intro (And.intro (by decide) (by decide)) ?_)
  | (refine And.intro (Or.inr (And.intro (by decide) (by decide))) ?_)
  | (refine And.intro (And.intro (by decide) (And.intro (by decide) (by decide))) ?_)
  | (refine And.intro (by assumption) ?_)
  | (refine And.intro (And.intro (by omega) (by omega)) ?_)
  | (refine And.intro (Or.inl (And.intro (by omega) (by omega))) ?_)
  | (refine' ⟨_, _, _, _, rfl, rfl, Or.inl (Or.inl ?h1), ?h2, ?h3⟩; (case h1 => walk_at "hp"); (case h2 => rfl))
  | (refine' ⟨_, _, _, _, rfl, rfl, ?h1, ?h2, ?h3⟩; (case h1 => walk_at "hp"); (case h2 => rfl))
  | (refine' ⟨_, _, rfl, Or.inl (Or.inl (Or.inl ?h1)), ?h3⟩; (case h1 => walk_at "hp"))
  | (refine Or.inl ⟨_, rfl, ?_⟩))
local macro_rules | `(tactic| walk_at "rd") => `(tactic| repeat walk_at "rd1")


/-- all objects but lists stay -/
def TS (H H' : Hp) : Prop := ∀ b o, (∀ xs, o ≠ HO.lst xs) → H b = some o → H' b = some o
theorem TS.of_same {H H' : Hp} (s : Same H H') : TS H H' := fun b o _ e => s b o e
theorem TS.refl (H : Hp) : TS H H := fun _ _ _ e => e
theorem TS.trans {H H1 H2 : Hp} (a : TS H H1) (b : TS H1 H2) : TS H H2 := fun c o n e => b c o n (a c o n e)
theorem TS.put {H : Hp} {D : Addr} {xs : List V} {o : HO} (h : H D = some (.lst xs)) : TS H (upd H D o) := fun b o' n e => by
  by_cases q : b = D
  · subst q
    rw [h] at e
    cases e
    exact absurd rfl (n xs)
  · rw [upd_ne q]; exact e
theorem TS.tup {H H' : Hp} {b : Addr} {xs : List V} (t : TS H H') (h : H b = some (.tup xs)) : H' b = some (.tup xs) := t b _ (fun _ z => by cases z) h
theorem TS.ins {H H' : Hp} {b C dx : Addr} {fs : List (Str × V)} (t : TS H H') (h : H b = some (.ins C dx fs)) : H' b = some (.ins C dx fs) := t b _ (fun _ z => by cases z) h
theorem TS.dK {H H' : Hp} {b : Addr} {fs : List (Key × V)} (t : TS H H') (h : H b = some (.dK fs)) : H' b = some (.dK fs) := t b _ (fun _ z => by cases z) h
theorem StaAt.ts {H H' : Hp} {v : V} {s : Sta} (t : TS H H') (h : StaAt H v s) : StaAt H' v s := by
  obtain ⟨a, c, g, u, b, e, h1, h2, h3, h4, h5⟩ := h
  exact ⟨a, c, g, u, b, e, t.tup h1, t.tup h2, t.tup h3, t.tup h4, t.tup h5⟩
theorem RulesIs.ts {CL : Addr} {H H' : Hp} {b : Addr} {W : Wld} (t : TS H H') (h : RulesIs CL H b W) : RulesIs CL H' b W := let ⟨dx, e⟩ := h; ⟨dx, t.ins e⟩
theorem RoomAt.ts' {C : Addr} {H H' : Hp} {x : Addr} {rows : List Str} {wd : Nat} (k : TS H H') (h : RoomAt C H x rows wd) : RoomAt C H' x rows wd := by
  obtain ⟨o, l, wh, dx, t, ct, pt, nd, h1, h2, h3, h4, u, d, q, r, g1, g2, g3, g4, g5⟩ := h
  exact ⟨o, l, wh, dx, t, ct, pt, nd, k.ins h1, k.tup h2, k.tup h3, k.tup h4, u, d, q, r, k.dK g1, k.tup g2, k.tup g3, k.tup g4, k.tup g5⟩
theorem Same.put {H H2 : Hp} {D : Addr} {o : HO} (s : Same H H2) (f : H D = none) : Same H (upd H2 D o) := fun b o' e => by
  rw [upd_ne (ne_of_none e f)]
  exact s b o' e
/-- pairs of a letter and a state -/
def PairsAt (H : Hp) : List V → List (Str × Sta) → Prop
  | [], [] => True
  | v :: vs, p :: ps => (∃ t sv, v = .ref t ∧ H t = some (.tup [.str p.1, sv]) ∧ StaAt H sv p.2) ∧ PairsAt H vs ps
  | _, _ => False
theorem PairsAt.ts {H H' : Hp} (t : TS H H') : ∀ {vs : List V} {ps : List (Str × Sta)}, PairsAt H vs ps → PairsAt H' vs ps
  | [], [], _ => trivial
  | v :: vs, p :: ps, ⟨⟨a, sv, e, h1, h2⟩, r⟩ => ⟨⟨a, sv, e, t.tup h1, h2.ts t⟩, r.ts t⟩
theorem PairsAt.len {H : Hp} : ∀ {vs : List V} {ps : List (Str × Sta)}, PairsAt H vs ps → vs.length = ps.length
  | [], [], _ => rfl
  | v :: vs, p :: ps, ⟨_, r⟩ => by simp [r.len]
theorem PairsAt.snoc {H : Hp} {v : V} {p : Str × Sta} (h : ∃ t sv, v = .ref t ∧ H t = some (.tup [.str p.1, sv]) ∧ StaAt H sv p.2) : ∀ {vs : List V} {ps : List (Str × Sta)}, PairsAt H vs ps → PairsAt H (vs ++ [v]) (ps ++ [p])
  | [], [], _ => ⟨h, trivial⟩
  | w :: vs, q :: ps, ⟨a, r⟩ => ⟨a, PairsAt.snoc h r⟩
def pairsOf (W : Wld) (s : Sta) (L : List (Way × Bool)) : List (Str × Sta) := L.filterMap fun p => (moved W s p.1 p.2).map fun s' => (letterOf p.1 p.2, s')
theorem pairsOf_take {W : Wld} {s : Sta} {L : List (Way × Bool)} {i : Nat} (hi : i < L.length) {wy : Way} {big : Bool} (hw : L[i] = (wy, big)) :
    pairsOf W s (L.take (i + 1)) = pairsOf W s (L.take i) ++ (match moved W s wy big with
      | none => []
      | some s' => [(letterOf wy big, s')]) := by
  unfold pairsOf
  rw [List.take_add_one, List.getElem?_eq_getElem hi, List.filterMap_append, hw]
  cases hm : moved W s wy big <;> simp [hm]
def lts4 : List (Way × Bool) := [(.u, false), (.d, false), (.l, false), (.r, false)]
def lts8 : List (Way × Bool) := [(.u, false), (.d, false), (.l, false), (.r, false), (.u, true), (.d, true), (.l, true), (.r, true)]
def movesOf (W : Wld) (s : Sta) : List (Str × Sta) := pairsOf W s lts8
theorem moved_big {W : Wld} {s : Sta} {w : Way} (h : W.pull = false) : moved W s w true = none := by
  have hp : pulled W s w = none := by
    unfold pulled
    simp only
    rw [if_pos (.inl h)]
  unfold moved
  simp only
  rw [hp]
  split
  · rfl
  split
  · rfl
  split <;> rfl
theorem moves4 {W : Wld} {s : Sta} (h : W.pull = false) : pairsOf W s lts4 = movesOf W s := by
  unfold movesOf lts8 pairsOf lts4
  simp [List.filterMap_cons, moved_big h]
theorem sign_one {z : Str} {c : Nat} (h : z.cps.size = 1) (h0 : z.cps[0]? = some c) : (⟨#[c]⟩ : Str) = z := by
  apply str_cps
  have : z.cps = #[c] := by
    apply Array.ext
    · simp [h]
    · intro i h1 h2
      have : i = 0 := by omega
      subst this
      rw [Array.getElem?_eq_getElem h1] at h0
      simpa using Option.some.inj h0
  rw [this]
theorem letter_at {z : Str} {L : List (Way × Bool)} {i c : Nat} (hi : i < L.length) (hc : z.cps[i]? = some c) (all : ∀ j : Fin L.length, z.cps[j.val]? = (letterOf (L[j.val]'(j.isLt)).1 (L[j.val]'(j.isLt)).2).cps[0]? ∧ (letterOf (L[j.val]'(j.isLt)).1 (L[j.val]'(j.isLt)).2).cps.size = 1) :
    ∃ wy big, L[i] = (wy, big) ∧ (⟨#[c]⟩ : Str) = letterOf wy big := by
  obtain ⟨h1, h2⟩ := all ⟨i, hi⟩
  refine ⟨(L[i]'hi).1, (L[i]'hi).2, rfl, sign_one h2 ?_⟩
  rw [← h1]
  exact hc
section
variable {P : Program} {w : World} {K : PySem.W.Frag} {mg : Str → Option Value} {base : Heap} {CR CL aB aO : Addr}
def spMovs (CR CL : Addr) : Sp := fun vs H Q _ => ∃ (W : Wld) (s : Sta) (x r : Addr) (v : V), vs = [.ref x, .ref r, v] ∧ WOk W ∧ RoomAt CR H x W.rows W.wd ∧ RulesIs CL H r W ∧ StaAt H v s ∧ Ok W s ∧
  ∀ D vs H', Same H H' → H D = none → H' D = some (.lst vs) → PairsAt H' vs (movesOf W s) → Q (.ref D) H'
theorem ok_movs {f : Addr} {fd : FuncData} (F : Fun K "moves" "moves" s_moves f fd) (T : MovT P w K mg CR CL aB aO) (c_moved : CalG P w K mg base 3 "moved" (spMov CR CL)) :
    FnG P w K mg base (CXe P w) 4 f fd ["room", "rules", "state"] (spMovs CR CL) := by
  refine F.okG sc_moves (fun vs H Q E h => ?_) (fun cdv A outer s H vs Q E hgd hr h => ?_)
  · obtain ⟨W, s, x, r, v, rfl, _⟩ := h; rfl
  · obtain ⟨W, st, x, r, v, rfl, O, hR, hru, hst, Ks, k⟩ := h
    refine ⟨_, (pss_cons (ps_set (i := 3) sc_moves.nd rfl (Or.inl rfl) (pe_lstA pa_nil))
      (pss_cons (ps_for (passes_of rfl) rfl (pi_str (pe_ifExp (pt_val (pe_fld (pv 1) rfl)) (pe_glob (v := .str "udlrUDLR") rfl (Exists.choose_spec T.k_STEPS_WITH_PULLING) ⟨_, rfl⟩) (pe_glob (v := .str "udlr") rfl (Exists.choose_spec T.k_STEPS) ⟨_, rfl⟩))) (pg_name (i := 4) sc_moves.nd rfl (Or.inl rfl))
      (pss_cons (ps_set (i := 5) sc_moves.nd rfl (Or.inl rfl) (pg_c c_moved hgd hr (by decide) (pa_cons (pv 0) (pa_cons (pv 1) (pa_cons (pv 2) (pa_cons (pv 4) pa_nil))))))
      (pss_one (ps_if (pt_cmpR op_notN (pv 5) pe_non (nomark _)) (pss_one (ps_expr (pe_bm PySem.F.plainAttrs_list PySem.F.slot_list_append PySem.F.type_list_append mt_append (pv 3) (pa_cons (pe_tupA (pa_cons (pv 4) (pa_cons (pv 5) pa_nil))) pa_nil)))) pss_nil))))
      (pss_one (ps_ret (pv 3))))), ?_⟩
    obtain ⟨rdx, hru0⟩ := id hru
    refine And.intro (Nat.zero_le _) fun D H1 n1 => ?_
    cases hpl : W.pull with
    | false =>
      refine ⟨_, rfl, r, CL, rdx, _, .bl W.pull, rfl, n1.same _ _ hru0, T.clL, T.l_pull, rfl, _, rfl, ?_⟩
      rw [hpl]
      refine iteF ?_
      have hsz : ("udlr" : Str).cps.size = lts4.length := by decide +kernel
      refine ⟨_, rfl, for_it walk_str (fun i σ H2 => ∃ o4 o5 vs, σ = [some (.ref x), some (.ref r), some v, some (.ref D), o4, o5] ∧ Same H H2 ∧ H2 D = some (.lst vs) ∧ PairsAt H2 vs (pairsOf W st (lts4.take i))) ⟨none, none, [], rfl, n1.same, n1.at_, trivial⟩ (fun _ _ _ _ _ => trivial) ?_ ?_⟩
      · rintro i y σ H2 H3 hi ⟨o4, o5, vs, rfl, sm, hD, hP⟩ ⟨rfl, ci, hci, rfl⟩
        have hi' : i < lts4.length := by omega
        obtain ⟨wy, big, hw, hz⟩ := letter_at (L := lts4) hi' hci (by decide +kernel)
        rw [hz]
        refine ⟨_, rfl, _, rfl, _, rfl, _, rfl, W, st, x, r, v, wy, big, rfl, O, hR.same' sm, hru.same sm, hst.same sm, Ks, fun hn H4 s4 => ?_, fun s' hs' v' H4 s4 hv' => ?_⟩
        · refine ⟨_, rfl, rfl, _, rfl, iteF' (by simp) ?_⟩
          refine ⟨_, _, vs, rfl, sm.trans s4, s4 _ _ hD, ?_⟩
          rw [pairsOf_take hi' hw, hn, List.append_nil]
          exact hP.ts (TS.of_same s4)
        · refine ⟨_, rfl, rfl, _, rfl, iteT' ?_ ?_⟩
          · obtain ⟨a', _, _, _, _, rfl, _⟩ := hv'
            simp
          refine ⟨_, rfl, .inl ⟨rfl, _, SqL.of (s4 _ _ hD)⟩, _, rfl, _, rfl, And.intro (Nat.le_of_ble_eq_true rfl) fun t5 H5 n5 => ?_⟩
          have hD5 := n5.same _ _ (s4 _ _ hD)
          refine ⟨D, _, _, rfl, rfl, hD5, sz ?_, _, _, _, rfl, Same.put ((sm.trans s4).trans n5.same) n1.free, upd_same, ?_⟩
          · rw [hP.len]
            unfold pairsOf
            exact Nat.le_trans (List.length_filterMap_le ..) (Nat.le_trans (List.length_take_le' ..) (by decide))
          · rw [pairsOf_take hi' hw, hs']
            exact PairsAt.snoc ⟨t5, v', rfl, (TS.put hD5).tup n5.at_, (hv'.same n5.same).ts (TS.put hD5)⟩ (hP.ts ((TS.of_same s4).trans ((TS.of_same n5.same).trans (TS.put hD5))))
      · rintro σ H2 ⟨o4, o5, vs, rfl, sm, hD, hP⟩
        refine ⟨_, rfl, k D vs H2 sm n1.free hD ?_⟩
        rw [hsz, List.take_length] at hP
        exact (moves4 hpl ▸ hP)
    | true =>
      refine ⟨_, rfl, r, CL, rdx, _, .bl W.pull, rfl, n1.same _ _ hru0, T.clL, T.l_pull, rfl, _, rfl, ?_⟩
      rw [hpl]
      refine iteT ?_
      have hsz : ("udlrUDLR" : Str).cps.size = lts8.length := by decide +kernel
      refine ⟨_, rfl, for_it walk_str (fun i σ H2 => ∃ o4 o5 vs, σ = [some (.ref x), some (.ref r), some v, some (.ref D), o4, o5] ∧ Same H H2 ∧ H2 D = some (.lst vs) ∧ PairsAt H2 vs (pairsOf W st (lts8.take i))) ⟨none, none, [], rfl, n1.same, n1.at_, trivial⟩ (fun _ _ _ _ _ => trivial) ?_ ?_⟩
      · rintro i y σ H2 H3 hi ⟨o4, o5, vs, rfl, sm, hD, hP⟩ ⟨rfl, ci, hci, rfl⟩
        have hi' : i < lts8.length := by omega
        obtain ⟨wy, big, hw, hz⟩ := letter_at (L := lts8) hi' hci (by decide +kernel)
        rw [hz]
        refine ⟨_, rfl, _, rfl, _, rfl, _, rfl, W, st, x, r, v, wy, big, rfl, O, hR.same' sm, hru.same sm, hst.same sm, Ks, fun hn H4 s4 => ?_, fun s' hs' v' H4 s4 hv' => ?_⟩
        · refine ⟨_, rfl, rfl, _, rfl, iteF' (by simp) ?_⟩
          refine ⟨_, _, vs, rfl, sm.trans s4, s4 _ _ hD, ?_⟩
          rw [pairsOf_take hi' hw, hn, List.append_nil]
          exact hP.ts (TS.of_same s4)
        · refine ⟨_, rfl, rfl, _, rfl, iteT' ?_ ?_⟩
          · obtain ⟨a', _, _, _, _, rfl, _⟩ := hv'
            simp
          refine ⟨_, rfl, .inl ⟨rfl, _, SqL.of (s4 _ _ hD)⟩, _, rfl, _, rfl, And.intro (Nat.le_of_ble_eq_true rfl) fun t5 H5 n5 => ?_⟩
          have hD5 := n5.same _ _ (s4 _ _ hD)
          refine ⟨D, _, _, rfl, rfl, hD5, sz ?_, _, _, _, rfl, Same.put ((sm.trans s4).trans n5.same) n1.free, upd_same, ?_⟩
          · rw [hP.len]
            unfold pairsOf
            exact Nat.le_trans (List.length_filterMap_le ..) (Nat.le_trans (List.length_take_le' ..) (by decide))
          · rw [pairsOf_take hi' hw, hs']
            exact PairsAt.snoc ⟨t5, v', rfl, (TS.put hD5).tup n5.at_, (hv'.same n5.same).ts (TS.put hD5)⟩ (hP.ts ((TS.of_same s4).trans ((TS.of_same n5.same).trans (TS.put hD5))))
      · rintro σ H2 ⟨o4, o5, vs, rfl, sm, hD, hP⟩
        refine ⟨_, rfl, k D vs H2 sm n1.free hD ?_⟩
        rw [hsz, List.take_length] at hP
        exact hP
end
end K11
end
section
set_option Elab.async false
set_option linter.all false
set_option maxRecDepth 100000
set_option maxHeartbeats 2000000
namespace K11
open PySem L2
local macro_rules | `(tactic| walk_at "hp") => `(tactic| first | assumption | exact upd_same | (refine (upd_ne (by first | assumption | (apply Ne.symm; assumption))).trans ?_; walk_at "hp"))
local macro_rules | `(tactic| walk_at "rd1") => `(tactic| first
  | (refine ⟨_, rfl, ?_⟩)
  | (refine ⟨_, _, rfl, rfl, ?_⟩)
  | (refine ⟨(rfl : scal _ _ = true), ?_⟩)
  | (refine And.intro (by show (0 : Int) < _; decide) ?_)
  | (refine And.intro (And.intro (by decide) (by decide)) ?_)
  | (refine And.intro (Or.inr (And.intro (by decide) (by decide))) ?_)
  | (refine And.intro (And.intro (by decide) (And.intro (by decide) (by decide))) ?_)
  | (refine And.intro (by assumption) ?_)
  | (refine And.intro (And.intro (by omega) (by omega)) ?_)
  | (refine And.intro (Or.inl (And.intro (by omega) (by omega))) ?_)
  | (refine' ⟨_, _, _, _, rfl, rfl, Or.inl (Or.inl ?h1), ?h2, ?h3⟩; (case h1 => walk_at "hp"); (case h2 => rfl))
  | (refine' ⟨_, _, _, _, rfl, rfl, ?h1, ?h2, ?h3⟩; (case h1 => walk_at "hp"); (case h2 => rfl))
  | (refine' ⟨_, _, rfl, Or.inl (Or.inl (Or.inl ?h1)), ?h3⟩; (case h1 => walk_at "hp"))
  | (refine Or.inl ⟨_, rfl, ?_⟩))
local macro_rules | `(tactic| walk_at "rd") => `(tactic| repeat walk_at "rd1")


/-- what a datum's type is -/
theorem dr_ty {L : Bool} {M : Addr → Prop} {H : Hp} {v : V} {d : PyData} (h : Dr L M H v d) : ∃ n, tyN H v = some n ∧ (n = "tuple" ↔ ∃ ds, d = .tuple ds) ∧ (n = "str" ↔ ∃ z, d = .str z) ∧ n ∈ ["NoneType", "bool", "int", "str", "list", "tuple", "dict"] := by
  cases h with
  | non => exact ⟨"NoneType", rfl, by simp, by simp, by simp⟩
  | bl b => exact ⟨"bool", rfl, by simp, by simp, by simp⟩
  | int i => exact ⟨"int", rfl, by simp, by simp, by simp⟩
  | str x => exact ⟨"str", rfl, by simp, by simp, by simp⟩
  | lst e => exact ⟨"list", by simp only [tyN, e], by simp, by simp, by simp⟩
  | tup e => exact ⟨"tuple", by simp only [tyN, e], by simp, by simp, by simp⟩
  | dct e => exact ⟨"dict", by simp only [tyN, e], by simp, by simp, by simp⟩
theorem kit_names : ∀ n ∈ ["NoneType", "bool", "int", "str", "list", "tuple", "dict"], kitB n "tuple" = some (decide (n = "tuple")) ∧ kitB n "str" = some (decide (n = "str")) ∧ kitB n "bool" = some (decide (n = "bool")) ∧ kitB n "int" = some (decide (n = "int") || decide (n = "bool")) := by decide +kernel
/-- isinstance(x, tuple) of a datum -/
theorem dr_tup {L : Bool} {M : Addr → Prop} {H : Hp} {v : V} {d : PyData} (h : Dr L M H v d) : ∃ t b, TyX K H v t ∧ PySem.W.kitOne K t (.type "tuple") = some b ∧ (b = true ↔ ∃ ds, d = .tuple ds) := by
  obtain ⟨n, h1, h2, h3, h4⟩ := dr_ty h
  exact ⟨_, _, .base (tyN_of h1), kit_ty (kit_names n h4).1, by simp [h2]⟩
theorem dr_str {L : Bool} {M : Addr → Prop} {H : Hp} {v : V} {d : PyData} (h : Dr L M H v d) : ∃ t b, TyX K H v t ∧ PySem.W.kitOne K t (.type "str") = some b ∧ (b = true ↔ ∃ z, d = .str z) := by
  obtain ⟨n, h1, h2, h3, h4⟩ := dr_ty h
  exact ⟨_, _, .base (tyN_of h1), kit_ty (kit_names n h4).2.1, by simp [h3]⟩
structure StepT (P : Program) (w : World) (K : PySem.W.Frag) (mg : Str → Option Value) (CR CL aB aO EB EF LB LF : Addr) : Prop extends MovT P w K mg CR CL aB aO where
  icR : C8.InsC K CR
  icL : C8.InsC K CL
  g_Room : mg "Room" = some (.ref CR)
  g_Rules : mg "Rules" = some (.ref CL)
  x_BadRoom : RX.ErrT P K mg "BadRoom" "value" EB EF
  x_BadRules : RX.ErrT P K mg "BadRules" "value" LB LF
theorem insTy {K : PySem.W.Frag} {C a dx : Addr} {H : Hp} {fs : List (Str × V)} (ic : C8.InsC K C) (h : H a = some (.ins C dx fs)) : TyOf K H (.ref a) (.ref C) := .ins h ic.cl ic.ha ic.hn ic.htk ic.hm
def spNeedC (K : PySem.W.Frag) (C CB : Addr) : Sp := fun vs H Q E => ∃ (v : V) (t : Value) (b : Bool), vs = [v] ∧ TyX K H v t ∧ PySem.W.kitOne K t (.ref C) = some b ∧ (b = true → Q .non H) ∧ (b = false → ∀ d, H d = none → E (.ref CB) (some d) (upd H d (.xd [("value", v)])))
section
variable {P : Program} {w : World} {K : PySem.W.Frag} {mg : Str → Option Value} {base : Heap} {CR CL aB aO EB EF LB LF : Addr}
theorem ok_needR {f : Addr} {fd : FuncData} (F : Fun K "need_rules" "need_rules" s_need_rules f fd) (T : StepT P w K mg CR CL aB aO EB EF LB LF) : FnG P w K mg base (CXe P w) 3 f fd ["rules"] (spNeedC K CL LB) := by
  refine F.okG sc_need_rules (fun vs H Q E h => ?_) (fun cdv A outer s H vs Q E hgd hr h => ?_)
  · obtain ⟨v, t, b, rfl, _⟩ := h; rfl
  · obtain ⟨v, t, b, rfl, ty, e, k1, k2⟩ := h
    refine ⟨_, (pss_one (ps_if (pt_not (pt_val (pe_callB call_isi (by rfl) T.n_isinstance (by decide +kernel) (pa_cons (pv 0) (pa_cons (pe_glob (v := .ref _) rfl T.g_Rules rfl) pa_nil))))) (pss_one (ps_raiseErr rfl T.x_BadRules hr (takes_of rfl rfl rfl rfl) (pa_cons (pv 0) pa_nil))) pss_nil)), ?_⟩
    refine ⟨_, rfl, _, _, _, _, _, rfl, .own CL, ty, e, _, rfl, ?_⟩
    cases b with
    | true => exact iteF (k1 rfl)
    | false => exact iteT ⟨_, rfl, _, rfl, fun d hd => k2 rfl d hd⟩
theorem ok_needM {f : Addr} {fd : FuncData} (F : Fun K "need_room" "need_room" s_need_room f fd) (T : StepT P w K mg CR CL aB aO EB EF LB LF) : FnG P w K mg base (CXe P w) 3 f fd ["room"] (spNeedC K CR EB) := by
  refine F.okG sc_need_room (fun vs H Q E h => ?_) (fun cdv A outer s H vs Q E hgd hr h => ?_)
  · obtain ⟨v, t, b, rfl, _⟩ := h; rfl
  · obtain ⟨v, t, b, rfl, ty, e, k1, k2⟩ := h
    refine ⟨_, (pss_one (ps_if (pt_not (pt_val (pe_callB call_isi (by rfl) T.n_isinstance (by decide +kernel) (pa_cons (pv 0) (pa_cons (pe_glob (v := .ref _) rfl T.g_Room rfl) pa_nil))))) (pss_one (ps_raiseErr rfl T.x_BadRoom hr (takes_of rfl rfl rfl rfl) (pa_cons (pv 0) pa_nil))) pss_nil)), ?_⟩
    refine ⟨_, rfl, _, _, _, _, _, rfl, .own CR, ty, e, _, rfl, ?_⟩
    cases b with
    | true => exact iteF (k1 rfl)
    | false => exact iteT ⟨_, rfl, _, rfl, fun d hd => k2 rfl d hd⟩
theorem ok_steps {f : Addr} {fd : FuncData} (F : Fun K "steps" "steps" s_steps f fd) (T : StepT P w K mg CR CL aB aO EB EF LB LF) (c_need_room : CalG P w K mg base 3 "need_room" (spNeedC K CR EB)) (c_need_rules : CalG P w K mg base 3 "need_rules" (spNeedC K CL LB)) (c_moves : CalG P w K mg base 4 "moves" (spMovs CR CL)) :
    FnG P w K mg base (CXe P w) 5 f fd ["room", "rules", "state"] (spMovs CR CL) := by
  refine F.okG sc_steps (fun vs H Q E h => ?_) (fun cdv A outer s H vs Q E hgd hr h => ?_)
  · obtain ⟨W, s, x, r, v, rfl, _⟩ := h; rfl
  · obtain ⟨W, st, x, r, v, rfl, O, hR, hru, hst, Ks, k⟩ := h
    refine ⟨_, (pss_cons (ps_expr (pg_c c_need_room hgd hr (by decide) (pa_cons (pv 0) pa_nil)))
      (pss_cons (ps_expr (pg_c c_need_rules hgd hr (by decide) (pa_cons (pv 1) pa_nil)))
      (pss_one (ps_ret (pg_c c_moves hgd hr (by decide) (pa_cons (pv 0) (pa_cons (pv 1) (pa_cons (pv 2) pa_nil)))))))), ?_⟩
    obtain ⟨dx, t, ct, pt, nd, hx, _⟩ := hR.ex
    obtain ⟨rdx, hru0⟩ := id hru
    refine ⟨_, rfl, .ref x, .ref CR, true, rfl, .base (insTy T.icR hx), T.icR.me, fun _ => ?_, fun z => nomatch z⟩
    refine ⟨_, rfl, .ref r, .ref CL, true, rfl, .base (insTy T.icL hru0), T.icL.me, fun _ => ?_, fun z => nomatch z⟩
    exact ⟨_, rfl, _, rfl, _, rfl, W, st, x, r, v, rfl, O, hR, hru, hst, Ks, k⟩
/-- what is no letter of a step -/
def noLetter : PyData → Prop
  | .str z => z.length ≤ sizeLine ∧ (z.length ≠ 1 ∨ ∃ c, z = ⟨#[c]⟩ ∧ c ∉ ("udlrUDLR" : Str).cps.toList)
  | _ => True
theorem letter_one (w : Way) (b : Bool) : (letterOf w b).length = 1 ∧ ∃ c, letterOf w b = ⟨#[c]⟩ ∧ c ∈ ("udlrUDLR" : Str).cps.toList := by
  have l1 : (letterOf w b).length = 1 := by cases w <;> cases b <;> decide +kernel
  have l2 : ∃ c, (letterOf w b).cps[0]? = some c ∧ c ∈ ("udlrUDLR" : Str).cps.toList := by
    cases w <;> cases b <;> exact ⟨_, rfl, by decide +kernel⟩
  obtain ⟨c, h1, h2⟩ := l2
  exact ⟨l1, c, (sign_one l1 h1).symm, h2⟩
def spStep (CR CL : Addr) : Sp := fun vs H Q _ => ∃ (W : Wld) (s : Sta) (x r : Addr) (v y : V), vs = [.ref x, .ref r, v, y] ∧ WOk W ∧ RoomAt CR H x W.rows W.wd ∧ RulesIs CL H r W ∧ StaAt H v s ∧ Ok W s ∧
  ((∃ wy big, y = .str (letterOf wy big) ∧ (moved W s wy big = none → ∀ H', Same H H' → Q .non H') ∧ (∀ s', moved W s wy big = some s' → ∀ v' H', Same H H' → StaAt H' v' s' → Q v' H')) ∨
   (∃ d L M, Dr L M H y d ∧ noLetter d ∧ Q .non H))
end
end K11
end
section
set_option Elab.async false
set_option linter.all false
set_option maxRecDepth 100000
set_option maxHeartbeats 2000000
namespace K11
open PySem L2
local macro_rules | `(tactic| walk_at "hp") => `(tactic| first | assumption | exact upd_same | (refine (upd_ne (by first | assumption | (apply Ne.symm; assumption))).trans ?_; walk_at "hp"))
local macro_rules | `(tactic| walk_at "rd1") => `(tactic| first
  | (refine ⟨_, rfl, ?_⟩)
  | (refine ⟨_, _, rfl, rfl, ?_⟩)
  | (refine ⟨(rfl : scal _ _ = true), ?_⟩)
  | (refine And.intro (by show (0 : Int) < _; decide) ?_)
  | (refine And.intro (And.intro (by decide) (by decide)) ?_)
  | (refine And.intro (Or.inr (And.intro (by decide) (by decide))) ?_)
  | (refine And.intro (And.intro (by decide) (And.intro (by decide) (by decide))) ?_)
  | (refine And.intro (by assumption) ?_)
  | (refine And.intro (And.intro (by omega) (by omega)) ?_)
  | (refine And.intro (Or.inl (And.intro (by omega) (by omega))) ?_)
  | (refine' ⟨_, _, _, _, rfl, rfl, Or.inl (Or.inl ?h1), ?h2, ?h3⟩; (case h1 => walk_at "hp"); (case h2 => rfl))
  | (refine' ⟨_, _, _, _, rfl, rfl, ?h1, ?h2, ?h3⟩; (case h1 => walk_at "hp"); (case h2 => rfl))
  | (refine' ⟨_, _, rfl, Or.inl (Or.inl (Or.inl ?h1)), ?h3⟩; (case h1 => walk_at "hp"))
  | (refine Or.inl ⟨_, rfl, ?_⟩))
local macro_rules | `(tactic| walk_at "rd") => `(tactic| repeat walk_at "rd1")


theorem dn (w : Way) : ((if decide (V.str w.sign = V.str "d") = true then (1 : Int) else 0) - (if decide (V.str w.sign = V.str "u") = true then 1 else 0)) = w.down := by cases w <;> decide +kernel
theorem ac (w : Way) : ((if decide (V.str w.sign = V.str "r") = true then (1 : Int) else 0) - (if decide (V.str w.sign = V.str "l") = true then 1 else 0)) = w.across := by cases w <;> decide +kernel
/-- the rows of a room, as the law holds them -/
structure LRows (H : Hp) (v : V) (W : Wld) : Prop where
  ex : ∃ a, v = .ref a ∧ H a = some (.lst (W.rows.map V.str))
theorem LRows.same {H H' : Hp} {v : V} {W : Wld} (s : Same H H') (h : LRows H v W) : LRows H' v W := by
  obtain ⟨a, e, ha⟩ := h.ex
  exact ⟨a, e, s _ _ ha⟩
theorem join_fit {W : Wld} (O : WOk W) : (W.rows.map fun x => x.length).sum + W.rows.length * ("" : Str).length ≤ 16777216 := by
  have h1 := join_sum W.rows
  have h2 := join_len O.R
  have h3 := O.n30
  have h4 : ("" : Str).length = 0 := rfl
  have h5 : W.n = W.rows.length * W.wd := rfl
  rw [h4]
  omega
structure LawT (mg : Str → Option Value) : Prop extends Rb mg where
  n_sorted : mg "sorted" = none
  n_all : mg "all" = none
  n_dict : mg "dict" = none
section
variable {P : Program} {w : World} {K : PySem.W.Frag} {mg : Str → Option Value} {base : Heap}
def spNext : Sp := fun vs H Q _ => ∃ (W : Wld) (rw_ : V) (at_ : Int) (wy : Way), vs = [rw_, .int at_, .str wy.sign] ∧ WOk W ∧ LRows H rw_ W ∧ 0 ≤ at_ ∧ at_ < W.n ∧ Q (.int (nx W.rows.length W.wd wy at_)) H
theorem ok_next {f : Addr} {fd : FuncData} (F : Fun K "_law_next" "_law_next" s__law_next f fd) (T : LawT mg) : FnG P w K mg base (CXe P w) 1 f fd ["rows", "at", "letter"] spNext := by
  refine F.okG sc__law_next (fun vs H Q E h => ?_) (fun cdv A outer s H vs Q E hgd hr h => ?_)
  · obtain ⟨W, rw_, at_, wy, rfl, _⟩ := h; rfl
  · obtain ⟨W, rw_, at_, wy, rfl, O, hL, a0, a1, k⟩ := h
    refine ⟨_, (pss_cons (ps_set (i := 3) sc__law_next.nd rfl (Or.inl rfl) (pe_callB call_len_str (by rfl) T.n_len (by decide +kernel) (pa_cons (pe_ix ix_list (pv 0) pe_int (fun _ _ => rfl)) pa_nil)))
      (C8.pss_cut (ps_set (i := 4) sc__law_next.nd rfl (Or.inl rfl) (pe_op op_sub (pe_op op_add (pe_op op_fdivN (pv 1) (pv 3)) (pe_callTy call_int1 (by rfl) T.n_int (by decide +kernel) (pa_cons (pe_cmpR op_eq (pv 2) pe_str (nomark _)) pa_nil))) (pe_callTy call_int1 (by rfl) T.n_int (by decide +kernel) (pa_cons (pe_cmpR op_eq (pv 2) pe_str (nomark _)) pa_nil))))
      (C8.pss_cut (ps_set (i := 5) sc__law_next.nd rfl (Or.inl rfl) (pe_op op_sub (pe_op op_add (pe_op op_mod (pe_callTy call_int1 (by rfl) T.n_int (by decide +kernel) (pa_cons (pv 1) pa_nil)) (pv 3)) (pe_callTy call_int1 (by rfl) T.n_int (by decide +kernel) (pa_cons (pe_cmpR op_eq (pv 2) pe_str (nomark _)) pa_nil))) (pe_callTy call_int1 (by rfl) T.n_int (by decide +kernel) (pa_cons (pe_cmpR op_eq (pv 2) pe_str (nomark _)) pa_nil))))
      (pss_cons (ps_if (PW.pt (pw_or (pt_cmpR op_lt (pv 4) pe_int (nomark _)) (pw_or (pt_cmpR op_ge (pv 4) (pe_callB call_len_seq (by rfl) T.n_len (by decide +kernel) (pa_cons (pv 0) pa_nil)) (nomark _)) (pw_or (pt_cmpR op_lt (pv 5) pe_int (nomark _)) (pw_or1 (pt_cmpR op_ge (pv 5) (pv 3) (nomark _))))))) (pss_one (ps_ret (pe_un un_neg pe_int))) pss_nil)
      (pss_one (ps_ret (pe_op op_add (pe_op op_mul (pv 4) (pv 3)) (pv 5)))))))), ?_⟩
    obtain ⟨ra, rfl, hra⟩ := hL.ex
    obtain ⟨r0, rest, hrows⟩ : ∃ r0 rest, W.rows = r0 :: rest := by
      have := O.R.h1
      cases hw : W.rows with
      | nil => rw [hw] at this; cases this
      | cons x y => exact ⟨x, y, rfl⟩
    have l0 : r0.length = W.wd := O.R.al r0 (by rw [hrows]; simp)
    have w1 := O.R.w1
    have w6 := O.R.w6
    have h5 := O.R.h5
    refine ⟨_, rfl, ra, _, 0, .str r0, rfl, rfl, SqL.of hra, atI_nat (xs := W.rows.map V.str) (j := 0) (v := .str r0) (by rw [hrows]; rfl), ?_⟩
    walk_at "rd"
    refine And.intro (by rw [l0]; exact Nat.le_of_lt (small1000 (by omega))) ?_
    rw [l0]
    refine ⟨fun σ' H' => σ' = [some (.ref ra), some (.int at_), some (.str wy.sign), some (.int W.wd), some (.int (at_ / W.wd + wy.down)), none] ∧ H' = H, ?_, ?_⟩
    · walk_at "rd"
      refine .inr ⟨_, rfl, _, _, rfl, rfl, ?_⟩
      walk_at "rd"
      refine .inr ⟨_, rfl, _, _, rfl, rfl, ?_⟩
      have e : at_.fdiv (W.wd : Int) + (if decide (V.str wy.sign = V.str "d") = true then (1 : Int) else 0) - (if decide (V.str wy.sign = V.str "u") = true then 1 else 0) = at_ / W.wd + wy.down := by
        rw [Int.fdiv_eq_ediv_of_nonneg _ (by omega)]
        have := dn wy
        omega
      refine ⟨?_, rfl⟩
      show [some (V.ref ra), some (V.int at_), some (V.str wy.sign), some (V.int W.wd), some (V.int (at_.fdiv (W.wd : Int) + (if decide (V.str wy.sign = V.str "d") = true then (1 : Int) else 0) - (if decide (V.str wy.sign = V.str "u") = true then 1 else 0))), none] = _
      rw [e]
    rintro σ' H' ⟨rfl, rfl⟩
    refine ⟨fun σ' H1 => σ' = [some (.ref ra), some (.int at_), some (.str wy.sign), some (.int W.wd), some (.int (at_ / W.wd + wy.down)), some (.int (at_ % W.wd + wy.across))] ∧ H1 = H', ?_, ?_⟩
    · walk_at "rd"
      refine And.intro (by show (0 : Int) < _; omega) ?_
      walk_at "rd"
      refine .inr ⟨_, rfl, _, _, rfl, rfl, ?_⟩
      walk_at "rd"
      refine .inr ⟨_, rfl, _, _, rfl, rfl, ?_⟩
      have e : at_ % (W.wd : Int) + (if decide (V.str wy.sign = V.str "r") = true then (1 : Int) else 0) - (if decide (V.str wy.sign = V.str "l") = true then 1 else 0) = at_ % W.wd + wy.across := by
        have := ac wy
        omega
      refine ⟨?_, rfl⟩
      show [some (V.ref ra), some (V.int at_), some (V.str wy.sign), some (V.int W.wd), some (V.int (at_ / W.wd + wy.down)), some (V.int (at_ % (W.wd : Int) + (if decide (V.str wy.sign = V.str "r") = true then (1 : Int) else 0) - (if decide (V.str wy.sign = V.str "l") = true then 1 else 0)))] = _
      rw [e]
    rintro σ' H1 ⟨rfl, rfl⟩
    unfold nx at k
    generalize at_ / (W.wd : Int) + wy.down = R at *
    generalize at_ % (W.wd : Int) + wy.across = Cc at *
    have no : ¬ ((0 ≤ R ∧ R < (W.rows.length : Int)) ∧ (0 ≤ Cc ∧ Cc < (W.wd : Int))) → Q (.int (-1)) H1 := fun z => by rw [if_neg z] at k; exact k
    walk_at "rd"
    refine ite2 (fun z => iteT ?_) (fun z => ?_)
    · exact ⟨_, rfl, no (fun y => by have := of_decide_eq_true z; omega)⟩
    have z1 : ¬ R < 0 := fun y => z (decide_eq_true y)
    walk_at "rd"
    refine ite2 (fun z => iteT ?_) (fun z => ?_)
    · exact ⟨_, rfl, no (fun y => by have := of_decide_eq_true z; rw [List.length_map] at this; omega)⟩
    have z2 : R < (W.rows.length : Int) := by
      have : ¬ (((W.rows.map V.str).length : Nat) : Int) ≤ R := fun y => z (decide_eq_true y)
      rw [List.length_map] at this
      omega
    walk_at "rd"
    refine ite2 (fun z => iteT ?_) (fun z => ?_)
    · exact ⟨_, rfl, no (fun y => by have := of_decide_eq_true z; omega)⟩
    have z3 : ¬ Cc < 0 := fun y => z (decide_eq_true y)
    walk_at "rd"
    refine ite2 (fun z => ?_) (fun z => ?_)
    · exact ⟨_, rfl, no (fun y => by have := of_decide_eq_true z; omega)⟩
    have z4 : ¬ (W.wd : Int) ≤ Cc := fun y => z (decide_eq_true y)
    rw [if_pos (by omega)] at k
    walk_at "rd"
    exact k
def spLLies : Sp := fun vs H Q _ => ∃ (W : Wld) (rw_ : V) (g : Addr) (go : List Int) (c : Int), vs = [rw_, .ref g, .int c] ∧ WOk W ∧ LRows H rw_ W ∧ H g = some (.tup (go.map V.int)) ∧ 0 ≤ c ∧ c < W.n ∧ Q (.bl (lies W.z go c)) H
theorem ok_llies {f : Addr} {fd : FuncData} (F : Fun K "_law_lies" "_law_lies" s__law_lies f fd) (T : LawT mg) : FnG P w K mg base (CXe P w) 1 f fd ["rows", "gone", "at"] spLLies := by
  refine F.okG sc__law_lies (fun vs H Q E h => ?_) (fun cdv A outer s H vs Q E hgd hr h => ?_)
  · obtain ⟨W, rw_, g, go, c, rfl, _⟩ := h; rfl
  · obtain ⟨W, rw_, g, go, c, rfl, O, hL, hg, c0, c1, k⟩ := h
    refine ⟨_, (pss_one (ps_ret (pe_or (pe_cmpR op_in_seq (pv 2) (pv 1) (by rfl)) (pe_one (pe_cmpR op_in_sign (pe_ix ix_str (pe_m1 PySem.F.slot_str_join PySem.F.type_str_join mt_join pe_str (pv 0)) (pv 2) (fun _ _ => rfl)) pe_str (by rfl)))))), ?_⟩
    obtain ⟨ra, rfl, hra⟩ := hL.ex
    refine ⟨_, rfl, _, rfl, g, _, rfl, .inr (SqT.of hg), rfl, flat_ints _, ?_⟩
    rw [inV_ints]
    have el : lies W.z go c = (decide (c ∈ go) || isFree (mark W.z c)) := by simp only [lies, Bool.or_comm]
    rw [el] at k
    cases hm : decide (c ∈ go) with
    | true =>
      rw [hm] at k
      exact ⟨_, rfl, iteT k⟩
    | false =>
      rw [hm] at k
      refine ⟨_, rfl, iteF ?_⟩
      refine ⟨⟨_, rfl⟩, _, rfl, "", ra, W.rows, rfl, rfl, .inl (SqL.of hra), join_fit O, ?_⟩
      refine ⟨_, rfl, W.z, c, mark W.z c, rfl, rfl, z_fit O, mark_at c0 c1 O.R, ?_⟩
      refine ⟨mark W.z c, ".po", rfl, rfl, ?_⟩
      have e : decide (mark W.z c ∈ (".po" : Str).cps.toList) = isFree (mark W.z c) := by
        have : (".po" : Str).cps.toList = [46, 112, 111] := by decide +kernel
        rw [this]
        simp [isFree]
      rw [e]
      exact k
def spLWith : Sp := fun vs H Q _ => ∃ (a : Addr) (xs : List Int) (x : Int), vs = [.ref a, .int x] ∧ H a = some (.tup (xs.map V.int)) ∧ xs.length ≤ 100 ∧
  ∀ t H', Same H H' → H' t = some (.tup ((withOne xs x).map V.int)) → H t = none → Q (.ref t) H'
theorem ok_lwith {f : Addr} {fd : FuncData} (F : Fun K "_law_with" "_law_with" s__law_with f fd) (T : LawT mg) : FnG P w K mg base (CXe P w) 1 f fd ["cells", "at"] spLWith := by
  refine F.okG sc__law_with (fun vs H Q E h => ?_) (fun cdv A outer s H vs Q E hgd hr h => ?_)
  · obtain ⟨a, xs, x, rfl, _⟩ := h; rfl
  · obtain ⟨a, xs, x, rfl, ha, hl, k⟩ := h
    refine ⟨_, (pss_one (ps_ret (pe_callTy call_tuple_of (by rfl) T.n_tuple (by decide +kernel) (pa_cons (pe_callB cr_sortedI (by rfl) T.n_sorted (by decide +kernel) (pa_cons (pe_op op_cat (pe_lc (own := [("cell", 2)]) (g := gName 2) (tt := tYes) rfl sc__law_with.nd (pi_tup (pv 0)) (blkOk_by (own := [("cell", 2)]) (N := ["cells", "at", "cell"]) (sc := defScope s__law_with) (by decide +kernel)) (fun _ _ _ _ _ => pg_name (i := 2) sc__law_with.nd rfl (Or.inl rfl)) (fun _ _ _ _ _ => pts_nil) (fun _ _ _ _ _ => (pe_callTy call_int1 (by rfl) T.n_int (by decide +kernel) (pa_cons (pv 2) pa_nil)))) (pe_lstA (pa_cons (pv 1) pa_nil))) pa_nil)) pa_nil)))), ?_⟩
    refine ⟨_, rfl, a, rfl, ⟨_, SqT.of ha⟩, fun D hD => lc_it (walk_tup (xs := xs.map V.int)) (fun i H2 => H2 D = some (.lst ((xs.take i).map V.int)) ∧ Off (fun b => b = D) H H2) ⟨upd_same, Off.new hD⟩ (fun i H2 _ z => SqT.of (z.2 _ _ (ne_of_none ha hD) ha)) ?_ ?_⟩
    · rintro i y H2 H3 hi ⟨hacc, off⟩ ⟨rfl, hy⟩
      rw [List.length_map] at hi
      cases mapI_get hi hy
      refine And.intro rfl (yes_of (iteT ?_))
      refine ⟨_, rfl, .inl ⟨_, rfl, _, hacc, sz ?_, ?_, off.trans (Off.mut rfl)⟩⟩
      · rw [List.length_map]
        have : (xs.take i).length ≤ 100 := Nat.le_trans (List.length_take_le' ..) hl
        omega
      · rw [upd_same, List.take_add_one, List.getElem?_eq_getElem hi, List.map_append]
        rfl
    rintro H2 ⟨hacc, off⟩
    rw [List.length_map, List.take_length] at hacc
    have s2 : Same H H2 := fun b o e => off b o (ne_of_none e hD) e
    refine ⟨_, rfl, And.intro (Nat.le_of_ble_eq_true rfl) fun p H3 n3 => ?_⟩
    have hD3 := n3.same _ _ hacc
    refine ⟨D, p, _, _, rfl, rfl, hD3, n3.at_, by rw [List.length_map]; exact Nat.le_of_lt (sz (by simp only [List.length_cons, List.length_nil]; omega)), fun q hq => ?_⟩
    have e1 : upd H3 q (.lst (xs.map V.int ++ [V.int x])) q = some (.lst ((xs ++ [x]).map V.int)) := by rw [upd_same, List.map_append]; rfl
    have s4 : Same H (upd H3 q (.lst (xs.map V.int ++ [V.int x]))) := (s2.trans n3.same).trans (same_new hq)
    generalize upd H3 q (.lst (xs.map V.int ++ [V.int x])) = H4 at e1 s4 ⊢
    refine ⟨q, xs ++ [x], rfl, SqL.of e1, fun ns' q5 hp hu hq5 => ?_⟩
    have es : ns' = withOne xs x := sorted_is hp hu
    subst es
    have s5 : Same H (upd H4 q5 (.lst ((withOne xs x).map V.int))) := s4.trans (same_new hq5)
    have e5 : upd H4 q5 (.lst ((withOne xs x).map V.int)) q5 = some (.lst ((withOne xs x).map V.int)) := upd_same
    generalize upd H4 q5 (.lst ((withOne xs x).map V.int)) = H5 at s5 e5 ⊢
    refine ⟨q5, _, rfl, .inl ⟨SqL.of e5, fun t ht => ?_⟩⟩
    exact k t _ (s5.trans (same_new ht)) upd_same (s5.free ht)
def spLWo : Sp := fun vs H Q _ => ∃ (a : Addr) (xs : List Int) (x : Int), vs = [.ref a, .int x] ∧ H a = some (.tup (xs.map V.int)) ∧ xs.length ≤ 100 ∧
  ∀ t H', Same H H' → H' t = some (.tup ((without xs x).map V.int)) → H t = none → Q (.ref t) H'
theorem ok_lwo {f : Addr} {fd : FuncData} (F : Fun K "_law_without" "_law_without" s__law_without f fd) (T : LawT mg) : FnG P w K mg base (CXe P w) 1 f fd ["cells", "at"] spLWo := by
  refine F.okG sc__law_without (fun vs H Q E h => ?_) (fun cdv A outer s H vs Q E hgd hr h => ?_)
  · obtain ⟨a, xs, x, rfl, _⟩ := h; rfl
  · obtain ⟨a, xs, x, rfl, ha, hl, k⟩ := h
    refine ⟨_, (pss_one (ps_ret (pe_callTy call_tuple_of (by rfl) T.n_tuple (by decide +kernel) (pa_cons (pe_lc (own := [("cell", 2)]) (g := gName 2) rfl sc__law_without.nd (pi_tup (pv 0)) (blkOk_by (own := [("cell", 2)]) (N := ["cells", "at", "cell"]) (sc := defScope s__law_without) (by decide +kernel)) (fun _ _ _ _ _ => pg_name (i := 2) sc__law_without.nd rfl (Or.inl rfl)) (fun _ _ _ _ _ => pts_one (pt_cmpR op_ne (pv 2) (pv 1) (nomark _))) (fun _ _ _ _ _ => (pv 2))) pa_nil)))), ?_⟩
    refine ⟨_, rfl, a, rfl, ⟨_, SqT.of ha⟩, fun D hD => lc_it (walk_tup (xs := xs.map V.int)) (fun i H2 => H2 D = some (.lst ((without (xs.take i) x).map V.int)) ∧ Off (fun b => b = D) H H2) ⟨upd_same, Off.new hD⟩ (fun i H2 _ z => SqT.of (z.2 _ _ (ne_of_none ha hD) ha)) ?_ ?_⟩
    · rintro i y H2 H3 hi ⟨hacc, off⟩ ⟨rfl, hy⟩
      rw [List.length_map] at hi
      cases mapI_get hi hy
      refine And.intro rfl ?_
      walk_at "rd"
      rw [without_take hi]
      by_cases e : xs[i] = x
      · refine iteF' (by simp [e]) ?_
        rw [if_pos e]
        exact ⟨hacc, off⟩
      · refine iteT' (by simp [e]) ?_
        rw [if_neg e]
        refine ⟨_, rfl, _, hacc, sz ?_, ?_, off.trans (Off.mut rfl)⟩
        · rw [List.length_map]
          have := without_le (xs.take i) x
          have : (xs.take i).length ≤ 100 := Nat.le_trans (List.length_take_le' ..) hl
          omega
        · rw [upd_same, List.map_append]
          rfl
    rintro H2 ⟨hacc, off⟩
    rw [List.length_map, List.take_length] at hacc
    have s2 : Same H H2 := fun b o e => off b o (ne_of_none e hD) e
    refine ⟨D, _, rfl, .inl ⟨SqL.of hacc, fun t2 ht2 => ?_⟩⟩
    exact k t2 _ (s2.trans (same_new ht2)) upd_same (s2.free ht2)
end
end K11
end
section
set_option Elab.async false
set_option linter.all false
set_option maxRecDepth 100000
set_option maxHeartbeats 2000000
namespace K11
open PySem L2
local macro_rules | `(tactic| walk_at "hp") => `(tactic| first | assumption | exact upd_same | (refine (upd_ne (by first | assumption | (apply Ne.symm; assumption))).trans ?_; walk_at "hp"))
local macro_rules | `(tactic| walk_at "rd1") => `(tactic| first
  | (refine ⟨_, rfl, ?_⟩)
  | (refine ⟨_, _, rfl, rfl, ?_⟩)
  | (refine ⟨(rfl : scal _ _ = true), ?_⟩)
  | (refine And.intro (by show (0 : Int) < _; decide) ?_)
  | (refine And.intro (And.intro (by decide) (by decide)) ?_)
  | (refine And.intro (Or.inr (And.intro (by decide) (by decide))) ?_)
  | (refine And.intro (And.intro (by decide) (And.intro (by decide) (by decide))) ?_)
  | (refine And.intro (by assumption) ?_)
  | (refine And.intro (And.intro (by omega) (by omega)) ?_)
  | (refine And.intro (Or.inl (And.intro (by omega) (by omega))) ?_)
  | (refine' ⟨_, _, _, _, rfl, rfl, Or.inl (Or.inl ?h1), ?h2, ?h3⟩; (case h1 => walk_at "hp"); (case h2 => rfl))
  | (refine' ⟨_, _, _, _, rfl, rfl, ?h1, ?h2, ?h3⟩; (case h1 => walk_at "hp"); (case h2 => rfl))
  | (refine' ⟨_, _, rfl, Or.inl (Or.inl (Or.inl ?h1)), ?h3⟩; (case h1 => walk_at "hp"))
  | (refine Or.inl ⟨_, rfl, ?_⟩))
local macro_rules | `(tactic| walk_at "rd") => `(tactic| repeat walk_at "rd1")


/-- rules, as the law holds them -/
structure LRules (H : Hp) (v : V) (W : Wld) : Prop where
  ex : ∃ a, v = .ref a ∧ H a = some (.tup [.int W.cap, .bl W.strong, .bl W.pull])
theorem LRules.same {H H' : Hp} {v : V} {W : Wld} (s : Same H H') (h : LRules H v W) : LRules H' v W := by
  obtain ⟨a, e, ha⟩ := h.ex
  exact ⟨a, e, s _ _ ha⟩
theorem nx_cases {W : Wld} {w : Way} {i : Int} : nx W.rows.length W.wd w i = -1 ∨ (0 ≤ nx W.rows.length W.wd w i ∧ nx W.rows.length W.wd w i < (W.n : Int)) := by
  by_cases h : 0 ≤ nx W.rows.length W.wd w i
  · exact .inr ⟨h, nx_lt h⟩
  · have := nx_low (h := W.rows.length) (wd := W.wd) (w := w) (i := i)
    exact .inl (by omega)
section
variable {P : Program} {w : World} {K : PySem.W.Frag} {mg : Str → Option Value} {base : Heap}
def spLPsh : Sp := fun vs H Q _ => ∃ (W : Wld) (s : Sta) (rw_ : V) (c g : Addr) (goal : Int) (wy : Way), vs = [rw_, .bl W.strong, .ref c, .ref g, .int goal, .str wy.sign] ∧ WOk W ∧ LRows H rw_ W ∧ Ok W s ∧ H c = some (.tup (s.cr.map V.int)) ∧ H g = some (.tup (s.go.map V.int)) ∧ goal ∈ s.cr ∧
  (pushedL W s wy goal = none → ∀ H', Same H H' → Q .non H') ∧ (∀ c' g', pushedL W s wy goal = some (c', g') → ∀ t tc tg H', Same H H' → H' t = some (.tup [.ref tc, .ref tg]) → H' tc = some (.tup (c'.map V.int)) → H' tg = some (.tup (g'.map V.int)) → Q (.ref t) H')
theorem ok_lpsh {f : Addr} {fd : FuncData} (F : Fun K "_law_pushed" "_law_pushed" s__law_pushed f fd) (T : LawT mg) (c__law_next : CalG P w K mg base 1 "_law_next" spNext) (c__law_lies : CalG P w K mg base 1 "_law_lies" spLLies) (c__law_with : CalG P w K mg base 1 "_law_with" spLWith) (c__law_without : CalG P w K mg base 1 "_law_without" spLWo) :
    FnG P w K mg base (CXe P w) 2 f fd ["rows", "strong", "crates", "gone", "at", "letter"] spLPsh := by
  refine F.okG sc__law_pushed (fun vs H Q E h => ?_) (fun cdv A outer s H vs Q E hgd hr h => ?_)
  · obtain ⟨W, st, rw_, c, g, goal, wy, rfl, _⟩ := h; rfl
  · obtain ⟨W, st, rw_, c, g, goal, wy, rfl, O, hL, Ks, hc, hg, hin, kn, ks⟩ := h
    refine ⟨_, (pss_cons (ps_set (i := 6) sc__law_pushed.nd rfl (Or.inl rfl) (pg_c c__law_next hgd hr (by decide) (pa_cons (pv 0) (pa_cons (pv 4) (pa_cons (pv 5) pa_nil)))))
      (C8.pss_cut (ps_if (PW.pt (pw_and (pt_val (pv 1)) (pw_and1 (pt_cmpR op_in_seq (pv 6) (pv 2) (by rfl))))) (pss_one (ps_set (i := 6) sc__law_pushed.nd rfl (Or.inl rfl) (pg_c c__law_next hgd hr (by decide) (pa_cons (pv 0) (pa_cons (pv 6) (pa_cons (pv 5) pa_nil)))))) pss_nil)
      (pss_cons (ps_if (PW.pt (pw_or (pt_cmpR op_lt (pv 6) pe_int (nomark _)) (pw_or1 (pt_cmpR op_in_seq (pv 6) (pv 2) (by rfl))))) (pss_one (ps_ret pe_non)) pss_nil)
      (pss_cons (ps_if (pt_val (pg_c c__law_lies hgd hr (by decide) (pa_cons (pv 0) (pa_cons (pv 3) (pa_cons (pv 6) pa_nil))))) (pss_one (ps_ret (pe_tupA (pa_cons (pg_c c__law_with hgd hr (by decide) (pa_cons (pg_c c__law_without hgd hr (by decide) (pa_cons (pv 2) (pa_cons (pv 4) pa_nil))) (pa_cons (pv 6) pa_nil))) (pa_cons (pv 3) pa_nil))))) pss_nil)
      (pss_cons (ps_if (pt_cmpR op_eq (pe_ix ix_str (pe_m1 PySem.F.slot_str_join PySem.F.type_str_join mt_join pe_str (pv 0)) (pv 6) (fun _ _ => rfl)) pe_str (nomark _)) (pss_one (ps_ret (pe_tupA (pa_cons (pg_c c__law_without hgd hr (by decide) (pa_cons (pv 2) (pa_cons (pv 4) pa_nil))) (pa_cons (pg_c c__law_with hgd hr (by decide) (pa_cons (pv 3) (pa_cons (pv 6) pa_nil))) pa_nil))))) pss_nil)
      (pss_one (ps_ret pe_non))))))), ?_⟩
    have g0 := Ks.cr0 _ hin
    have g1 := Ks.cr1 _ hin
    refine ⟨_, rfl, _, rfl, _, rfl, W, rw_, goal, wy, rfl, O, hL, g0, g1, ?_⟩
    unfold pushedL at kn ks
    simp only at kn ks
    generalize hb0 : nx W.rows.length W.wd wy goal = b0 at *
    refine ⟨fun σ' H' => σ' = [some rw_, some (.bl W.strong), some (.ref c), some (.ref g), some (.int goal), some (.str wy.sign), some (.int (if W.strong = true ∧ b0 ∈ st.cr then nx W.rows.length W.wd wy b0 else b0))] ∧ H' = H, ?_, ?_⟩
    · refine ⟨_, rfl, _, rfl, ?_⟩
      by_cases hs : W.strong = true
      · refine iteT' hs ?_
        refine ⟨_, rfl, _, rfl, c, _, rfl, .inr (SqT.of hc), rfl, flat_ints _, _, rfl, ?_⟩
        rw [inV_ints]
        by_cases hm : b0 ∈ st.cr
        · refine iteT' (decide_eq_true hm) ?_
          refine ⟨_, rfl, _, rfl, _, rfl, W, rw_, b0, wy, rfl, O, hL, Ks.cr0 _ hm, Ks.cr1 _ hm, ?_⟩
          rw [if_pos ⟨hs, hm⟩]
          exact ⟨rfl, rfl⟩
        · refine iteF' (by simp [hm]) ?_
          rw [if_neg (fun z => hm z.2)]
          exact ⟨rfl, rfl⟩
      · refine iteF' hs ?_
        rw [if_neg (fun z => hs z.1)]
        exact ⟨rfl, rfl⟩
    rintro σ' H' ⟨rfl, rfl⟩
    have hbr : (if W.strong = true ∧ b0 ∈ st.cr then nx W.rows.length W.wd wy b0 else b0) = -1 ∨ (0 ≤ (if W.strong = true ∧ b0 ∈ st.cr then nx W.rows.length W.wd wy b0 else b0) ∧ (if W.strong = true ∧ b0 ∈ st.cr then nx W.rows.length W.wd wy b0 else b0) < (W.n : Int)) := by
      split
      · exact nx_cases
      · rw [← hb0]
        exact nx_cases
    generalize (if W.strong = true ∧ b0 ∈ st.cr then nx W.rows.length W.wd wy b0 else b0) = be at *
    walk_at "rd"
    have bad : (be < 0 ∨ be ∈ st.cr) → Q .non H' := fun z => kn (if_pos z) _ (Same.refl _)
    refine ite2 (fun z => iteT (bad (.inl (of_decide_eq_true z)))) (fun z => ?_)
    have z0 : ¬ be < 0 := fun y => z (decide_eq_true y)
    refine ⟨_, rfl, _, rfl, c, _, rfl, .inr (SqT.of hc), rfl, flat_ints _, _, rfl, ?_⟩
    rw [inV_ints]
    refine ite2 (fun y => bad (.inr (of_decide_eq_true y))) (fun y => ?_)
    have z1 : be ∉ st.cr := fun z => y (decide_eq_true z)
    have bn : 0 ≤ be ∧ be < (W.n : Int) := hbr.resolve_left (by omega)
    rw [if_neg (fun z => z.elim z0 z1)] at kn ks
    have cl : st.cr.length ≤ 100 := Nat.le_trans Ks.crn (by decide)
    have ol : (without st.cr goal).length ≤ 100 := Nat.le_trans (without_le _ _) cl
    refine ⟨_, rfl, _, rfl, _, rfl, W, rw_, g, st.go, be, rfl, O, hL, hg, bn.1, bn.2, _, rfl, ?_⟩
    by_cases hl : lies W.z st.go be = true
    · refine iteT' hl ?_
      rw [if_pos hl] at ks
      refine ⟨_, rfl, _, rfl, c, st.cr, goal, rfl, hc, cl, fun t1 H1 s1 ht1 _ => ?_⟩
      refine ⟨_, rfl, t1, _, be, rfl, ht1, ol, fun t2 H2 s2 ht2 _ => ?_⟩
      refine ⟨_, rfl, And.intro (Nat.le_of_ble_eq_true rfl) fun t3 H3 n3 => ?_⟩
      have s3 : Same H' H3 := (s1.trans s2).trans n3.same
      exact ks _ _ rfl t3 t2 g H3 s3 n3.at_ (n3.same _ _ ht2) (s3 _ _ hg)
    refine iteF' hl ?_
    rw [if_neg hl] at kn ks
    obtain ⟨ra, rfl, hra⟩ := hL.ex
    refine ⟨⟨_, rfl⟩, _, rfl, "", ra, W.rows, rfl, rfl, .inl (SqL.of hra), join_fit O, ?_⟩
    refine ⟨_, rfl, W.z, be, mark W.z be, rfl, rfl, z_fit O, mark_at bn.1 bn.2 O.R, ?_⟩
    walk_at "rd"
    by_cases h120 : mark W.z be = 120
    · refine iteT' ((sg (by decide +kernel)).mpr h120) ?_
      rw [if_pos h120] at ks
      refine ⟨_, rfl, _, rfl, c, st.cr, goal, rfl, hc, cl, fun t1 H1 s1 ht1 _ => ?_⟩
      refine ⟨_, rfl, _, rfl, g, st.go, be, rfl, s1 _ _ hg, Nat.le_trans (Ks.gol O) (by decide), fun t2 H2 s2 ht2 _ => ?_⟩
      refine And.intro (Nat.le_of_ble_eq_true rfl) fun t3 H3 n3 => ?_
      have s3 : Same H' H3 := (s1.trans s2).trans n3.same
      exact ks _ _ rfl t3 t1 t2 H3 s3 n3.at_ (n3.same _ _ (s2 _ _ ht1)) (n3.same _ _ ht2)
    · rw [if_neg h120] at kn
      exact iteF' (fun z => h120 ((sg (by decide +kernel)).mp z)) (kn rfl _ (Same.refl _))
def spLBag : Sp := fun vs H Q _ => ∃ (W : Wld) (ru : V) (b : Addr) (ba bb : Int) (m : Nat), vs = [ru, .ref b, .str ⟨#[m]⟩] ∧ LRules H ru W ∧ H b = some (.tup [.int ba, .int bb]) ∧ isKD m = true ∧
  (bagL W.cap ba bb m = none → ∀ H', Same H H' → Q .non H') ∧ (∀ a' b', bagL W.cap ba bb m = some (a', b') → ∀ t H', Same H H' → H' t = some (.tup [.int a', .int b']) → Q (.ref t) H')
theorem ok_lbag {f : Addr} {fd : FuncData} (F : Fun K "_law_bag_behind" "_law_bag_behind" s__law_bag_behind f fd) (T : LawT mg) : FnG P w K mg base (CXe P w) 1 f fd ["rules", "bag", "mark"] spLBag := by
  refine F.okG sc__law_bag_behind (fun vs H Q E h => ?_) (fun cdv A outer s H vs Q E hgd hr h => ?_)
  · obtain ⟨W, ru, b, ba, bb, m, rfl, _⟩ := h; rfl
  · obtain ⟨W, ru, b, ba, bb, m, rfl, hru, hb, hk, kn, ks⟩ := h
    refine ⟨_, (pss_cons (ps_set (i := 3) sc__law_bag_behind.nd rfl (Or.inl rfl) (pe_callTy call_list_of (by rfl) T.n_list (by decide +kernel) (pa_cons (pv 1) pa_nil)))
      (pss_cons (ps_if (pt_cmpR op_in_sign (pv 2) pe_str (by rfl)) (pss_cons (ps_set (i := 4) sc__law_bag_behind.nd rfl (Or.inl rfl) (pe_m1 PySem.F.slot_str_index PySem.F.type_str_index mt_signAt pe_str (pv 2)))
      (pss_cons (ps_if (pt_cmpR op_eq (pe_ix ix_tup (pv 1) (pv 4) (fun _ _ => rfl)) (pe_ix ix_tup (pv 0) pe_int (fun _ _ => rfl)) (nomark _)) (pss_one (ps_ret pe_non)) pss_nil)
      (pss_one (ps_asg (pe_op op_add (pe_ix ix_tup (pv 1) (pv 4) (fun _ _ => rfl)) pe_int) (pg_sub (pv 3) (pv 4) set_list))))) (pss_one (ps_if (pt_cmpR op_in_sign (pv 2) pe_str (by rfl)) (pss_cons (ps_set (i := 4) sc__law_bag_behind.nd rfl (Or.inl rfl) (pe_m1 PySem.F.slot_str_index PySem.F.type_str_index mt_signAt pe_str (pv 2)))
      (pss_cons (ps_if (pt_cmpR op_eq (pe_ix ix_tup (pv 1) (pv 4) (fun _ _ => rfl)) pe_int (nomark _)) (pss_one (ps_ret pe_non)) pss_nil)
      (pss_one (ps_asg (pe_op op_sub (pe_ix ix_tup (pv 1) (pv 4) (fun _ _ => rfl)) pe_int) (pg_sub (pv 3) (pv 4) set_list))))) pss_nil)))
      (pss_one (ps_ret (pe_callTy call_tuple_of (by rfl) T.n_tuple (by decide +kernel) (pa_cons (pv 3) pa_nil)))))), ?_⟩
    obtain ⟨ra, rfl, hra⟩ := hru.ex
    have ab : ("ab" : Str).cps.toList = [97, 98] := by decide +kernel
    have AB : ("AB" : Str).cps.toList = [65, 66] := by decide +kernel
    refine ⟨_, rfl, b, _, rfl, .inr (SqT.of hb), fun D hD => ?_⟩
    have s1 : Same H (upd H D (.lst [V.int ba, V.int bb])) := same_new hD
    have hD1 : upd H D (.lst [V.int ba, V.int bb]) D = some (.lst [V.int ba, V.int bb]) := upd_same
    generalize upd H D (.lst [V.int ba, V.int bb]) = H1 at s1 hD1 ⊢
    have fin : ∀ (x y : Int) (H2 : Hp), Same H H2 → H2 D = some (.lst [V.int x, V.int y]) → bagL W.cap ba bb m = some (x, y) → ∀ t, H2 t = none → Q (.ref t) (upd H2 t (.tup [V.int x, V.int y])) := fun x y H2 s2 hD2 e t ht => ks x y e t _ (s2.trans (same_new ht)) upd_same
    walk_at "rd"
    rw [ab]
    rcases of_decide_eq_true hk with rfl | rfl | rfl | rfl
    · refine iteT' (by decide) ?_
      refine ⟨⟨_, rfl⟩, _, rfl, "ab", 97, rfl, rfl, by rw [ab]; simp, ?_⟩
      have e : Txt.find "ab" ⟨#[97]⟩ = 0 := by decide +kernel
      rw [e]
      refine ⟨_, rfl, _, rfl, b, _, 0, .int ba, rfl, rfl, SqT.of (s1 _ _ hb), atI_nat (xs := [V.int ba, V.int bb]) (j := 0) rfl, ?_⟩
      refine ⟨_, rfl, ra, _, 0, .int W.cap, rfl, rfl, SqT.of (s1 _ _ hra), atI_nat (xs := [V.int W.cap, V.bl W.strong, V.bl W.pull]) (j := 0) rfl, ?_⟩
      walk_at "rd"
      by_cases q : ba = W.cap
      · exact iteT' (by simp [q]) (kn (by simp [bagL, q]) _ s1)
      refine iteF' (by simp [q]) ?_
      refine ⟨_, rfl, _, rfl, b, _, 0, .int ba, rfl, rfl, SqT.of (s1 _ _ hb), atI_nat (xs := [V.int ba, V.int bb]) (j := 0) rfl, ?_⟩
      refine ⟨_, _, rfl, rfl, _, rfl, _, rfl, D, _, 0, 0, rfl, rfl, hD1, rfl, ?_⟩
      have hD2 : upd H1 D (.lst (([V.int ba, V.int bb] : List V).set 0 (V.int (ba + 1)))) D = some (.lst [V.int (ba + 1), V.int (bb)]) := upd_same
      exact ⟨_, rfl, D, _, rfl, .inl ⟨SqL.of hD2, fun t ht => fin (ba + 1) (bb) _ (Same.put s1 hD) hD2 (by simp [bagL, q]) t ht⟩⟩
    · refine iteT' (by decide) ?_
      refine ⟨⟨_, rfl⟩, _, rfl, "ab", 98, rfl, rfl, by rw [ab]; simp, ?_⟩
      have e : Txt.find "ab" ⟨#[98]⟩ = 1 := by decide +kernel
      rw [e]
      refine ⟨_, rfl, _, rfl, b, _, 1, .int bb, rfl, rfl, SqT.of (s1 _ _ hb), atI_nat (xs := [V.int ba, V.int bb]) (j := 1) rfl, ?_⟩
      refine ⟨_, rfl, ra, _, 0, .int W.cap, rfl, rfl, SqT.of (s1 _ _ hra), atI_nat (xs := [V.int W.cap, V.bl W.strong, V.bl W.pull]) (j := 0) rfl, ?_⟩
      walk_at "rd"
      by_cases q : bb = W.cap
      · exact iteT' (by simp [q]) (kn (by simp [bagL, q]) _ s1)
      refine iteF' (by simp [q]) ?_
      refine ⟨_, rfl, _, rfl, b, _, 1, .int bb, rfl, rfl, SqT.of (s1 _ _ hb), atI_nat (xs := [V.int ba, V.int bb]) (j := 1) rfl, ?_⟩
      refine ⟨_, _, rfl, rfl, _, rfl, _, rfl, D, _, 1, 1, rfl, rfl, hD1, rfl, ?_⟩
      have hD2 : upd H1 D (.lst (([V.int ba, V.int bb] : List V).set 1 (V.int (bb + 1)))) D = some (.lst [V.int (ba), V.int (bb + 1)]) := upd_same
      exact ⟨_, rfl, D, _, rfl, .inl ⟨SqL.of hD2, fun t ht => fin (ba) (bb + 1) _ (Same.put s1 hD) hD2 (by simp [bagL, q]) t ht⟩⟩
    · refine iteF' (by decide) ?_
      walk_at "rd"
      rw [AB]
      refine iteT' (by decide) ?_
      refine ⟨⟨_, rfl⟩, _, rfl, "AB", 65, rfl, rfl, by rw [AB]; simp, ?_⟩
      have e : Txt.find "AB" ⟨#[65]⟩ = 0 := by decide +kernel
      rw [e]
      refine ⟨_, rfl, _, rfl, b, _, 0, .int ba, rfl, rfl, SqT.of (s1 _ _ hb), atI_nat (xs := [V.int ba, V.int bb]) (j := 0) rfl, ?_⟩
      walk_at "rd"
      by_cases q : ba = 0
      · exact iteT' (by simp [q]) (kn (by simp [bagL, q]) _ s1)
      refine iteF' (by simp [q]) ?_
      refine ⟨_, rfl, _, rfl, b, _, 0, .int ba, rfl, rfl, SqT.of (s1 _ _ hb), atI_nat (xs := [V.int ba, V.int bb]) (j := 0) rfl, ?_⟩
      refine ⟨_, _, rfl, rfl, _, rfl, _, rfl, D, _, 0, 0, rfl, rfl, hD1, rfl, ?_⟩
      have hD2 : upd H1 D (.lst (([V.int ba, V.int bb] : List V).set 0 (V.int (ba - 1)))) D = some (.lst [V.int (ba - 1), V.int (bb)]) := upd_same
      exact ⟨_, rfl, D, _, rfl, .inl ⟨SqL.of hD2, fun t ht => fin (ba - 1) (bb) _ (Same.put s1 hD) hD2 (by simp [bagL, q]) t ht⟩⟩
    · refine iteF' (by decide) ?_
      walk_at "rd"
      rw [AB]
      refine iteT' (by decide) ?_
      refine ⟨⟨_, rfl⟩, _, rfl, "AB", 66, rfl, rfl, by rw [AB]; simp, ?_⟩
      have e : Txt.find "AB" ⟨#[66]⟩ = 1 := by decide +kernel
      rw [e]
      refine ⟨_, rfl, _, rfl, b, _, 1, .int bb, rfl, rfl, SqT.of (s1 _ _ hb), atI_nat (xs := [V.int ba, V.int bb]) (j := 1) rfl, ?_⟩
      walk_at "rd"
      by_cases q : bb = 0
      · exact iteT' (by simp [q]) (kn (by simp [bagL, q]) _ s1)
      refine iteF' (by simp [q]) ?_
      refine ⟨_, rfl, _, rfl, b, _, 1, .int bb, rfl, rfl, SqT.of (s1 _ _ hb), atI_nat (xs := [V.int ba, V.int bb]) (j := 1) rfl, ?_⟩
      refine ⟨_, _, rfl, rfl, _, rfl, _, rfl, D, _, 1, 1, rfl, rfl, hD1, rfl, ?_⟩
      have hD2 : upd H1 D (.lst (([V.int ba, V.int bb] : List V).set 1 (V.int (bb - 1)))) D = some (.lst [V.int (ba), V.int (bb - 1)]) := upd_same
      exact ⟨_, rfl, D, _, rfl, .inl ⟨SqL.of hD2, fun t ht => fin (ba) (bb - 1) _ (Same.put s1 hD) hD2 (by simp [bagL, q]) t ht⟩⟩
end
end K11
end
section
set_option Elab.async false
set_option linter.all false
set_option maxRecDepth 100000
set_option maxHeartbeats 2000000
namespace K11
open PySem L2
local macro_rules | `(tactic| walk_at "hp") => `(tactic| first | assumption | exact upd_same | (refine (upd_ne (by first | assumption | (apply Ne.symm; assumption))).trans ?_; walk_at "hp"))
local macro_rules | `(tactic| walk_at "rd1") => `(tactic| first
  | (refine ⟨_, rfl, ?_⟩)
  | (refine ⟨_, _, rfl, rfl, ?_⟩)
  | (refine ⟨(rfl : scal _ _ = true), ?_⟩)
  | (refine And.intro (by show (0 : Int) < _; decide) ?_)
  | (refine And.intro (And.intro (by decide) (by decide)) ?_)
  | (refine And.intro (Or.inr (And.intro (by decide) (by decide))) ?_)
  | (refine And.intro (And.intro (by decide) (And.intro (by decide) (by decide))) ?_)
  | (refine And.intro (by assumption) ?_)
  | (refine And.intro (And.intro (by omega) (by omega)) ?_)
  | (refine And.intro (Or.inl (And.intro (by omega) (by omega))) ?_)
  | (refine' ⟨_, _, _, _, rfl, rfl, Or.inl (Or.inl ?h1), ?h2, ?h3⟩; (case h1 => walk_at "hp"); (case h2 => rfl))
  | (refine' ⟨_, _, _, _, rfl, rfl, ?h1, ?h2, ?h3⟩; (case h1 => walk_at "hp"); (case h2 => rfl))
  | (refine' ⟨_, _, rfl, Or.inl (Or.inl (Or.inl ?h1)), ?h3⟩; (case h1 => walk_at "hp"))
  | (refine Or.inl ⟨_, rfl, ?_⟩))
local macro_rules | `(tactic| walk_at "rd") => `(tactic| repeat walk_at "rd1")


theorem way_at {m : Nat} (h : m ∈ ("^v<>" : Str).cps.toList) : ∃ v c, oneWay m = some v ∧ v.sign = ⟨#[c]⟩ ∧ atI ("udlr" : Str).cps.toList (Txt.find "^v<>" ⟨#[m]⟩) = some c := by
  have e : ("^v<>" : Str).cps.toList = [94, 118, 60, 62] := by decide +kernel
  rw [e] at h
  simp only [List.mem_cons, List.not_mem_nil, or_false] at h
  rcases h with rfl | rfl | rfl | rfl
  · exact ⟨.u, 117, by decide +kernel, by decide +kernel, by decide +kernel⟩
  · exact ⟨.d, 100, by decide +kernel, by decide +kernel, by decide +kernel⟩
  · exact ⟨.l, 108, by decide +kernel, by decide +kernel, by decide +kernel⟩
  · exact ⟨.r, 114, by decide +kernel, by decide +kernel, by decide +kernel⟩
theorem way_no {m : Nat} (h : m ∉ ("^v<>" : Str).cps.toList) : oneWay m = none := by
  have e : ("^v<>" : Str).cps.toList = [94, 118, 60, 62] := by decide +kernel
  rw [e] at h
  simp only [List.mem_cons, List.not_mem_nil, or_false, not_or] at h
  simp [oneWay, h]
theorem in_kdx {m : Nat} : m ∈ ("abABx" : Str).cps.toList ↔ (isKD m = true ∨ m = 120) := by
  have e : ("abABx" : Str).cps.toList = [97, 98, 65, 66, 120] := by decide +kernel
  rw [e]
  simp [isKD]
  omega
def gateF (z : Str) (cr : List Int) (k : Nat) : Bool := decide (mark z (k : Int) ≠ 112) || decide ((k : Int) ∈ cr)
theorem gateF_all (z : Str) (cr : List Int) : ((List.range z.length).map (gateF z cr)).all id = gateL z cr := by
  rw [List.all_map]
  rfl
section
variable {P : Program} {w : World} {K : PySem.W.Frag} {mg : Str → Option Value} {base : Heap}
def spWalk : Sp := fun vs H Q _ => ∃ (W : Wld) (s : Sta) (rw_ ru sv : V) (wy : Way), vs = [rw_, ru, sv, .str wy.sign] ∧ WOk W ∧ LRows H rw_ W ∧ LRules H ru W ∧ StaAt H sv s ∧ Ok W s ∧
  (walkedL W s wy = none → ∀ H', Same H H' → Q .non H') ∧ (∀ s', walkedL W s wy = some s' → ∀ v' H', Same H H' → StaAt H' v' s' → Q v' H')
theorem ok_walk {f : Addr} {fd : FuncData} (F : Fun K "_law_walked" "_law_walked" s__law_walked f fd) (T : LawT mg) (c__law_next : CalG P w K mg base 1 "_law_next" spNext) (c__law_with : CalG P w K mg base 1 "_law_with" spLWith) (c__law_pushed : CalG P w K mg base 2 "_law_pushed" spLPsh) (c__law_bag_behind : CalG P w K mg base 1 "_law_bag_behind" spLBag) :
    FnG P w K mg base (CXe P w) 3 f fd ["rows", "rules", "state", "letter"] spWalk := by
  refine F.okG sc__law_walked (fun vs H Q E h => ?_) (fun cdv A outer s H vs Q E hgd hr h => ?_)
  · obtain ⟨W, st, rw_, ru, sv, wy, rfl, _⟩ := h; rfl
  · obtain ⟨W, st, rw_, ru, sv, wy, rfl, O, hL, hru, hst, Ks, kn, ks⟩ := h
    refine ⟨_, (pss_cons (ps_asg (pv 2) (pg_tup (by rfl) (pgs_cons (pg_name (i := 4) sc__law_walked.nd rfl (Or.inl rfl)) (pgs_cons (pg_name (i := 5) sc__law_walked.nd rfl (Or.inr rfl)) (pgs_cons (pg_name (i := 6) sc__law_walked.nd rfl (Or.inl rfl)) (pgs_cons (pg_name (i := 7) sc__law_walked.nd rfl (Or.inl rfl)) (pgs_cons (pg_name (i := 8) sc__law_walked.nd rfl (Or.inl rfl)) pgs_nil)))))))
      (pss_cons (ps_set (i := 9) sc__law_walked.nd rfl (Or.inr rfl) (pe_m1 PySem.F.slot_str_join PySem.F.type_str_join mt_join pe_str (pv 0)))
      (pss_cons (ps_set (i := 10) sc__law_walked.nd rfl (Or.inl rfl) (pg_c c__law_next hgd hr (by decide) (pa_cons (pv 0) (pa_cons (pv 4) (pa_cons (pv 3) pa_nil)))))
      (pss_cons (ps_if (PW.pt (pw_or (pt_cmpR op_lt (pv 10) pe_int (nomark _)) (pw_or1 (pt_cmpR op_eq (pe_ix ix_str (pv 9) (pv 10) (fun _ _ => rfl)) pe_str (nomark _))))) (pss_one (ps_ret pe_non)) pss_nil)
      (C8.pss_cut (ps_if (PW.pt (pw_and (pt_cmpR op_in_sign (pe_ix ix_str (pv 9) (pv 4) (fun _ _ => rfl)) pe_str (by rfl)) (pw_and1 (pt_cmpR op_ne (pe_ix ix_str pe_str (pe_m1 PySem.F.slot_str_index PySem.F.type_str_index mt_signAt pe_str (pe_ix ix_str (pv 9) (pv 4) (fun _ _ => rfl))) (fun _ _ => rfl)) (pv 3) (nomark _))))) (pss_one (ps_ret pe_non)) pss_nil)
      (C8.pss_cut (ps_if (PW.pt (pw_and (pt_cmpR op_eq (pe_ix ix_str (pv 9) (pv 10) (fun _ _ => rfl)) pe_str (nomark _)) (pw_and1 (pt_not (pt_val (pe_callB (cr_all rfl) (by rfl) T.n_all (by decide +kernel) (pa_cons (pe_lc (own := [("k", 12)]) (g := gName 12) (tt := tYes) rfl sc__law_walked.nd (pi_range1 (by rfl) T.n_range (pa_cons (pe_callB call_len_str (by rfl) T.n_len (by decide +kernel) (pa_cons (pv 9) pa_nil)) pa_nil)) (blkOk_by (own := [("k", 12)]) (N := ["rows", "rules", "state", "letter", "at", "crates", "gone", "used", "bag", "cells", "goal", "behind", "k"]) (sc := defScope s__law_walked) (by decide +kernel)) (fun _ _ _ _ _ => pg_name (i := 12) sc__law_walked.nd rfl (Or.inl rfl)) (fun _ _ _ _ _ => pts_nil) (fun _ _ _ _ _ => (pe_or (pe_cmpR op_ne (pe_ix ix_str (pv 9) (pv 12) (fun _ _ => rfl)) pe_str (nomark _)) (pe_one (pe_cmpR (show OpR _ (compareOp .In) (rIn K false) from op_in_seq) (pv 12) (pv 5) (by rfl)))))) pa_nil))))))) (pss_one (ps_ret pe_non)) pss_nil)
      (pss_cons (ps_if (pt_cmpR op_in_seq (pv 10) (pv 5) (by rfl)) (pss_cons (ps_set (i := 11) sc__law_walked.nd rfl (Or.inl rfl) (pg_c c__law_pushed hgd hr (by decide) (pa_cons (pv 0) (pa_cons (pe_ix ix_tup (pv 1) pe_int (fun _ _ => rfl)) (pa_cons (pv 5) (pa_cons (pv 6) (pa_cons (pv 10) (pa_cons (pv 3) pa_nil))))))))
      (pss_cons (ps_if (pt_cmpR op_isN (pv 11) pe_non (nomark _)) (pss_one (ps_ret pe_non)) pss_nil)
      (pss_one (ps_ret (pe_tupA (pa_cons (pv 10) (pa_cons (pe_ix ix_tup (pv 11) pe_int (fun _ _ => rfl)) (pa_cons (pe_ix ix_tup (pv 11) pe_int (fun _ _ => rfl)) (pa_cons (pv 7) (pa_cons (pv 8) pa_nil)))))))))) pss_nil)
      (C8.pss_cut (ps_if (PW.pt (pw_and (pt_cmpR op_notIn_seq (pv 10) (pv 6) (by rfl)) (pw_and1 (pt_cmpR op_in_sign (pe_ix ix_str (pv 9) (pv 10) (fun _ _ => rfl)) pe_str (by rfl))))) (pss_cons (ps_if (pt_cmpR op_eq (pe_ix ix_str (pv 9) (pv 10) (fun _ _ => rfl)) pe_str (nomark _)) (pss_one (ps_ret pe_non)) pss_nil)
      (pss_cons (ps_set (i := 8) sc__law_walked.nd rfl (Or.inl rfl) (pg_c c__law_bag_behind hgd hr (by decide) (pa_cons (pv 1) (pa_cons (pv 8) (pa_cons (pe_ix ix_str (pv 9) (pv 10) (fun _ _ => rfl)) pa_nil)))))
      (pss_cons (ps_if (pt_cmpR op_isN (pv 8) pe_non (nomark _)) (pss_one (ps_ret pe_non)) pss_nil)
      (pss_one (ps_set (i := 6) sc__law_walked.nd rfl (Or.inl rfl) (pg_c c__law_with hgd hr (by decide) (pa_cons (pv 6) (pa_cons (pv 10) pa_nil)))))))) pss_nil)
      (pss_one (ps_ret (pe_tupA (pa_cons (pv 10) (pa_cons (pv 5) (pa_cons (pv 6) (pa_cons (pv 7) (pa_cons (pv 8) pa_nil)))))))))))))))), ?_⟩
    obtain ⟨a, c, g, u, b, rfl, ha, hc, hg, hu, hb⟩ := id hst
    obtain ⟨ra, rfl, hra⟩ := id hL.ex
    obtain ⟨rb, rfl, hrb⟩ := id hru.ex
    have cl : st.cr.length ≤ 100 := Nat.le_trans Ks.crn (by decide)
    have gl : st.go.length ≤ 100 := Nat.le_trans (Ks.gol O) (by decide)
    refine ⟨_, rfl, a, _, rfl, SqT.of ha, rfl, ?_⟩
    refine ⟨_, _, rfl, _, _, rfl, _, _, rfl, _, _, rfl, _, _, rfl, rfl, ?_⟩
    refine ⟨⟨_, rfl⟩, _, rfl, "", ra, W.rows, rfl, rfl, .inl (SqL.of hra), join_fit O, ?_⟩
    refine ⟨_, rfl, _, rfl, _, rfl, W, .ref ra, st.at_, wy, rfl, O, hL, Ks.at0, Ks.at1, ?_⟩
    unfold walkedL at kn ks
    simp only at kn ks
    have gr := nx_cases (W := W) (w := wy) (i := st.at_)
    generalize hgoal : nx W.rows.length W.wd wy st.at_ = goal at *
    walk_at "rd"
    have bad4 : (goal < 0 ∨ mark W.z goal = 35) → Q .non H := fun z => kn (if_pos z) _ (Same.refl _)
    refine ite2 (fun z => iteT (bad4 (.inl (of_decide_eq_true z)))) (fun z => ?_)
    have z0 : ¬ goal < 0 := fun y => z (decide_eq_true y)
    have gn : 0 ≤ goal ∧ goal < (W.n : Int) := gr.resolve_left (by omega)
    have mg_ := mark_at gn.1 gn.2 O.R
    have ma_ := mark_at Ks.at0 Ks.at1 O.R
    refine ⟨_, rfl, _, rfl, W.z, goal, mark W.z goal, rfl, rfl, z_fit O, mg_, ?_⟩
    walk_at "rd"
    by_cases h35 : mark W.z goal = 35
    · exact iteT' ((sg (by decide +kernel)).mpr h35) (bad4 (.inr h35))
    refine iteF' (fun z => h35 ((sg (by decide +kernel)).mp z)) ?_
    rw [if_neg (fun z => z.elim z0 h35)] at kn ks
    clear bad4
    refine ⟨fun σ' H' => σ' = [some (.ref ra), some (.ref rb), some (.ref a), some (.str wy.sign), some (.int st.at_), some (.ref c), some (.ref g), some (.ref u), some (.ref b), some (.str W.z), some (.int goal), none, none] ∧ H' = H ∧ ¬ badWay (mark W.z st.at_) wy = true, ?_, ?_⟩
    · refine ⟨_, rfl, _, rfl, W.z, st.at_, mark W.z st.at_, rfl, rfl, z_fit O, ma_, mark W.z st.at_, "^v<>", rfl, rfl, _, rfl, ?_⟩
      by_cases hin : mark W.z st.at_ ∈ ("^v<>" : Str).cps.toList
      · obtain ⟨vw, cc, ho, hsg, hat⟩ := way_at hin
        refine iteT' (decide_eq_true hin) ?_
        refine ⟨⟨_, rfl⟩, _, rfl, _, rfl, W.z, st.at_, mark W.z st.at_, rfl, rfl, z_fit O, ma_, "^v<>", mark W.z st.at_, rfl, rfl, hin, ?_⟩
        refine ⟨"udlr", _, cc, rfl, rfl, by decide +kernel, hat, ?_⟩
        walk_at "rd"
        rw [← hsg]
        by_cases e : vw = wy
        · subst e
          exact iteF' (by simp) ⟨rfl, rfl, by simp [badWay, ho]⟩
        · have hne : vw.sign ≠ wy.sign := fun z => e (sign_inj z)
          have hb : badWay (mark W.z st.at_) wy = true := by simp [badWay, ho, e]
          exact iteT' (by simp [hne]) (kn (by rw [if_pos hb]) _ (Same.refl _))
      · exact iteF' (by simpa using hin) ⟨rfl, rfl, by simp [badWay, way_no hin]⟩
    rintro σ' H' ⟨rfl, rfl, nbw⟩
    rw [if_neg nbw] at kn ks
    refine ⟨fun σ' H1 => σ' = [some (.ref ra), some (.ref rb), some (.ref a), some (.str wy.sign), some (.int st.at_), some (.ref c), some (.ref g), some (.ref u), some (.ref b), some (.str W.z), some (.int goal), none, none] ∧ Same H' H1 ∧ ¬ (mark W.z goal = 103 ∧ gateL W.z st.cr = false), ?_, ?_⟩
    · refine ⟨_, rfl, _, rfl, W.z, goal, mark W.z goal, rfl, rfl, z_fit O, mg_, ?_⟩
      walk_at "rd"
      by_cases h103 : mark W.z goal = 103
      case neg => exact iteF' (fun z => h103 ((sg (by decide +kernel)).mp z)) ⟨rfl, Same.refl _, fun z => h103 z.1⟩
      refine iteT' ((sg (by decide +kernel)).mpr h103) ?_
      walk_at "rd"
      refine And.intro (z_fit O) ?_
      have hz30 : W.z.length ≤ 30 := by
        have h1 : W.z.length = W.n := join_len O.R
        have h2 := O.n30
        omega
      refine ⟨_, rfl, by omega, by omega, ?_⟩
      rw [Int.toNat_natCast]
      refine fun D hD => lc_it walk_range (fun i H2 => H2 D = some (.lst (((List.range i).map (gateF W.z st.cr)).map V.bl)) ∧ Off (fun b => b = D) H' H2) ⟨upd_same, Off.new hD⟩ (fun _ _ _ _ => trivial) ?_ ?_
      · rintro i y H2 H3 hi ⟨hacc, off⟩ ⟨rfl, rfl⟩
        have hi2 : (0 : Int) + (i : Int) < (W.n : Int) := by
          have h1 : W.z.length = W.n := join_len O.R
          have : i < W.z.length := hi
          omega
        have eg : mark W.z (0 + (i : Int)) = mark W.z (i : Int) := by rw [show (0 : Int) + (i : Int) = (i : Int) by omega]
        refine And.intro rfl (yes_of (iteT ?_))
        refine ⟨_, rfl, _, rfl, W.z, 0 + (i : Int), _, rfl, rfl, z_fit O, mark_at (by omega) hi2 O.R, ?_⟩
        walk_at "rd"
        rw [eg]
        have put : ∀ bb : Bool, bb = gateF W.z st.cr i → ∃ acc, H3 D = some (.lst acc) ∧ acc.length < sizeLine ∧ (upd H3 D (.lst (acc ++ [V.bl bb])) D = some (.lst (((List.range (i + 1)).map (gateF W.z st.cr)).map V.bl)) ∧ Off (fun b => b = D) H' (upd H3 D (.lst (acc ++ [V.bl bb])))) := by
          rintro bb rfl
          refine ⟨_, hacc, sz (by simp only [List.length_map, List.length_range]; omega), ?_, off.trans (Off.mut rfl)⟩
          rw [upd_same, List.range_succ, List.map_append, List.map_append]
          rfl
        by_cases h112 : mark W.z (i : Int) = 112
        · refine iteF' (by simpa using (sg (z := "p") (by decide +kernel)).mpr h112) ?_
          have hcc := off _ _ (ne_of_none hc hD) hc
          refine ⟨_, rfl, _, rfl, c, _, rfl, .inr (SqT.of hcc), rfl, flat_ints _, ?_⟩
          rw [inV_ints, show (0 : Int) + (i : Int) = (i : Int) by omega]
          exact put _ (by simp [gateF, h112])
        · refine iteT' (by simpa using fun z => h112 ((sg (z := "p") (by decide +kernel)).mp (by simpa using z))) ?_
          exact put true (by simp [gateF, h112])
      rintro H2 ⟨hacc, off⟩
      have s2 : Same H' H2 := fun b o e => off b o (ne_of_none e hD) e
      refine ⟨D, _, rfl, SqL.of hacc, _, rfl, ?_⟩
      rw [gateF_all]
      cases hga : gateL W.z st.cr with
      | false => exact iteT (kn (by rw [if_pos ⟨h103, hga⟩]) _ s2)
      | true => exact iteF ⟨rfl, s2, fun z => by cases z.2⟩
    rintro σ' H1 ⟨rfl, s1, ngt⟩
    rw [if_neg ngt] at kn ks
    have hL1 := hL.same s1
    have hru1 := hru.same s1
    have hc1 := s1 _ _ hc
    have hg1 := s1 _ _ hg
    have hu1 := s1 _ _ hu
    have hb1 := s1 _ _ hb
    refine ⟨_, rfl, _, rfl, c, _, rfl, .inr (SqT.of hc1), rfl, flat_ints _, _, rfl, ?_⟩
    rw [inV_ints]
    by_cases hin : goal ∈ st.cr
    · refine iteT' (decide_eq_true hin) ?_
      rw [if_pos hin] at kn ks
      refine ⟨_, rfl, _, rfl, rb, _, 1, .bl W.strong, rfl, rfl, SqT.of (s1 _ _ hrb), atI_nat (xs := [V.int W.cap, V.bl W.strong, V.bl W.pull]) (j := 1) rfl, _, rfl, _, rfl, _, rfl, _, rfl, ?_⟩
      refine ⟨W, st, .ref ra, c, g, goal, wy, rfl, O, hL1, Ks, hc1, hg1, hin, fun hn H2 s2 => ?_, fun c' g' he t2 tc tg H2 s2 ht2 htc htg => ?_⟩
      · exact ⟨_, rfl, rfl, _, rfl, iteT (kn (by rw [hn]) H2 (s1.trans s2))⟩
      · rw [he] at ks
        refine ⟨_, rfl, rfl, _, rfl, iteF' (by simp) ?_⟩
        refine ⟨_, rfl, _, rfl, t2, _, 0, .ref tc, rfl, rfl, SqT.of ht2, atI_nat (xs := [V.ref tc, V.ref tg]) (j := 0) rfl, ?_⟩
        refine ⟨_, rfl, t2, _, 1, .ref tg, rfl, rfl, SqT.of ht2, atI_nat (xs := [V.ref tc, V.ref tg]) (j := 1) rfl, ?_⟩
        refine ⟨_, rfl, _, rfl, And.intro (Nat.le_of_ble_eq_true rfl) fun t3 H3 n3 => ?_⟩
        have s3 : Same H1 H3 := s2.trans n3.same
        exact ks _ rfl _ H3 (s1.trans s3) ⟨t3, tc, tg, u, b, rfl, n3.at_, n3.same _ _ htc, n3.same _ _ htg, s3 _ _ hu1, s3 _ _ hb1⟩
    refine iteF' (by simp [hin]) ?_
    rw [if_neg hin] at kn ks
    refine ⟨fun σ' H2 => ∃ (g2 b2 : Addr) (go' : List Int) (ba' bb' : Int), σ' = [some (.ref ra), some (.ref rb), some (.ref a), some (.str wy.sign), some (.int st.at_), some (.ref c), some (.ref g2), some (.ref u), some (.ref b2), some (.str W.z), some (.int goal), none, none] ∧ Same H1 H2 ∧ H2 g2 = some (.tup (go'.map V.int)) ∧ H2 b2 = some (.tup [.int ba', .int bb']) ∧
      (∀ v' H3, Same H' H3 → StaAt H3 v' { st with at_ := goal, go := go', ba := ba', bb := bb' } → Q v' H3), ?_, ?_⟩
    · refine ⟨_, rfl, _, rfl, g, _, rfl, .inr (SqT.of hg1), rfl, flat_ints _, _, rfl, ?_⟩
      simp only [if_true, inV_ints]
      by_cases hgo : goal ∈ st.go
      · rw [if_neg (fun z => z.1 hgo)] at ks
        exact iteF' (by simp [hgo]) ⟨g, b, st.go, st.ba, st.bb, rfl, Same.refl _, hg1, hb1, ks _ rfl⟩
      refine iteT' (by simp [hgo]) ?_
      refine ⟨_, rfl, _, rfl, W.z, goal, mark W.z goal, rfl, rfl, z_fit O, mg_, mark W.z goal, "abABx", rfl, rfl, _, rfl, ?_⟩
      by_cases hk : mark W.z goal ∈ ("abABx" : Str).cps.toList
      case neg =>
        rw [if_neg (fun z => hk (in_kdx.mpr z.2))] at ks
        exact iteF' (by simpa using hk) ⟨g, b, st.go, st.ba, st.bb, rfl, Same.refl _, hg1, hb1, ks _ rfl⟩
      rw [if_pos ⟨hgo, in_kdx.mp hk⟩] at kn ks
      refine iteT' (decide_eq_true hk) ?_
      refine ⟨_, rfl, _, rfl, W.z, goal, mark W.z goal, rfl, rfl, z_fit O, mg_, ?_⟩
      walk_at "rd"
      by_cases h120 : mark W.z goal = 120
      · exact iteT' ((sg (by decide +kernel)).mpr h120) (kn (by rw [if_pos h120]) _ s1)
      refine iteF' (fun z => h120 ((sg (by decide +kernel)).mp z)) ?_
      rw [if_neg h120] at kn ks
      refine ⟨_, rfl, _, rfl, _, rfl, _, rfl, W.z, goal, mark W.z goal, rfl, rfl, z_fit O, mg_, W, .ref rb, b, st.ba, st.bb, _, rfl, hru1, hb1, (in_kdx.mp hk).resolve_right h120, fun hn H2 s2 => ?_, fun a' b' he t2 H2 s2 ht2 => ?_⟩
      · exact ⟨_, rfl, rfl, _, rfl, iteT (kn (by rw [hn]) H2 (s1.trans s2))⟩
      · rw [he] at ks
        refine ⟨_, rfl, rfl, _, rfl, iteF' (by simp) ?_⟩
        refine ⟨_, rfl, _, rfl, g, st.go, goal, rfl, s2 _ _ hg1, gl, fun t3 H3 s3 ht3 _ => ?_⟩
        exact ⟨t3, t2, _, a', b', rfl, s2.trans s3, ht3, s3 _ _ ht2, ks _ rfl⟩
    rintro σ' H2 ⟨g2, b2, go', ba', bb', rfl, s2, hg2, hb2, kf⟩
    walk_at "rd"
    refine And.intro (Nat.le_of_ble_eq_true rfl) fun t3 H3 n3 => ?_
    have s3 : Same H1 H3 := s2.trans n3.same
    exact kf _ H3 (s1.trans s3) ⟨t3, c, g2, u, b2, rfl, n3.at_, s3 _ _ hc1, n3.same _ _ hg2, s3 _ _ hu1, n3.same _ _ hb2⟩
end
end K11
end
section
set_option Elab.async false
set_option linter.all false
set_option maxRecDepth 100000
set_option maxHeartbeats 2000000
namespace K11
open PySem L2
local macro_rules | `(tactic| walk_at "hp") => `(tactic| first | assumption | exact upd_same | (refine (upd_ne (by first | assumption | (apply Ne.symm; assumption))).trans ?_; walk_at "hp"))
local macro_rules | `(tactic| walk_at "rd1") => `(tactic| first
  | (refine ⟨_, rfl, ?_⟩)
  | (refine ⟨_, _, rfl, rfl, ?_⟩)
  | (refine ⟨(rfl : scal _ _ = true), ?_⟩)
  | (refine And.intro (by show (0 : Int) < _; decide) ?_)
  | (refine And.intro (And.intro (by decide) (by decide)) ?_)
  | (refine And.intro (Or.inr (And.intro (by decide) (by decide))) ?_)
  | (refine And.intro (And.intro (by decide) (And.intro (by decide) (by decide))) ?_)
  | (refine And.intro (by assumption) ?_)
  | (refine And.intro (And.intro (by omega) (by omega)) ?_)
  | (refine And.intro (Or.inl (And.intro (by omega) (by omega))) ?_)
  | (refine' ⟨_, _, _, _, rfl, rfl, Or.inl (Or.inl ?h1), ?h2, ?h3⟩; (case h1 => walk_at "hp"); (case h2 => rfl))
  | (refine' ⟨_, _, _, _, rfl, rfl, ?h1, ?h2, ?h3⟩; (case h1 => walk_at "hp"); (case h2 => rfl))
  | (refine' ⟨_, _, rfl, Or.inl (Or.inl (Or.inl ?h1)), ?h3⟩; (case h1 => walk_at "hp"))
  | (refine Or.inl ⟨_, rfl, ?_⟩))
local macro_rules | `(tactic| walk_at "rd") => `(tactic| repeat walk_at "rd1")


theorem letter_c (w : Way) (b : Bool) : ∃ c, letterOf w b = ⟨#[c]⟩ ∧ decide (c ∈ ("UDLR" : Str).cps.toList) = b ∧ decide (c ∈ ("udlr" : Str).cps.toList) = !b := by
  have h : ∀ w : Way, ∀ b : Bool, ∃ c, (letterOf w b).cps[0]? = some c ∧ (letterOf w b).cps.size = 1 ∧ decide (c ∈ ("UDLR" : Str).cps.toList) = b ∧ decide (c ∈ ("udlr" : Str).cps.toList) = !b := by
    intro w b
    cases w <;> cases b <;> exact ⟨_, rfl, rfl, by decide +kernel, by decide +kernel⟩
  obtain ⟨c, h1, h2, h3, h4⟩ := h w b
  exact ⟨c, (sign_one h2 h1).symm, h3, h4⟩
theorem back_c (w : Way) : ∃ c c', w.sign = ⟨#[c]⟩ ∧ w.back.sign = ⟨#[c']⟩ ∧ c ∈ ("udrl" : Str).cps.toList ∧ atI ("dulr" : Str).cps.toList (Txt.find "udrl" ⟨#[c]⟩) = some c' := by
  have h : ∀ w : Way, ∃ c c', w.sign.cps[0]? = some c ∧ w.sign.cps.size = 1 ∧ w.back.sign.cps[0]? = some c' ∧ w.back.sign.cps.size = 1 ∧ c ∈ ("udrl" : Str).cps.toList ∧ atI ("dulr" : Str).cps.toList (Txt.find "udrl" ⟨#[c]⟩) = some c' := by
    intro w
    cases w <;> exact ⟨_, _, rfl, rfl, rfl, rfl, by decide +kernel, by decide +kernel⟩
  obtain ⟨c, c', h1, h2, h3, h4, h5, h6⟩ := h w
  exact ⟨c, c', (sign_one h2 h1).symm, (sign_one h4 h3).symm, h5, h6⟩
section
variable {P : Program} {w : World} {K : PySem.W.Frag} {mg : Str → Option Value} {base : Heap}
def spLStep : Sp := fun vs H Q _ => ∃ (W : Wld) (s : Sta) (rw_ ru sv : V) (wy : Way) (big : Bool), vs = [rw_, ru, sv, .str (letterOf wy big)] ∧ WOk W ∧ LRows H rw_ W ∧ LRules H ru W ∧ StaAt H sv s ∧ Ok W s ∧
  (stepL W s wy big = none → ∀ H', Same H H' → Q .non H') ∧ (∀ s', stepL W s wy big = some s' → ∀ v' H', Same H H' → StaAt H' v' s' → Q v' H')
theorem ok_lstep {f : Addr} {fd : FuncData} (F : Fun K "_law_step" "_law_step" s__law_step f fd) (T : LawT mg) (c__law_next : CalG P w K mg base 1 "_law_next" spNext) (c__law_lies : CalG P w K mg base 1 "_law_lies" spLLies) (c__law_with : CalG P w K mg base 1 "_law_with" spLWith) (c__law_without : CalG P w K mg base 1 "_law_without" spLWo) (c__law_walked : CalG P w K mg base 3 "_law_walked" spWalk) :
    FnG P w K mg base (CXe P w) 4 f fd ["rows", "rules", "state", "letter"] spLStep := by
  refine F.okG sc__law_step (fun vs H Q E h => ?_) (fun cdv A outer s H vs Q E hgd hr h => ?_)
  · obtain ⟨W, st, rw_, ru, sv, wy, big, rfl, _⟩ := h; rfl
  · obtain ⟨W, st, rw_, ru, sv, wy, big, rfl, O, hL, hru, hst, Ks, kn, ks⟩ := h
    refine ⟨_, (pss_cons (ps_set (i := 4) sc__law_step.nd rfl (Or.inl rfl) (pe_ix ix_tup (pv 2) pe_int (fun _ _ => rfl)))
      (C8.pss_cut (ps_if (PW.pt (pw_or (pt_cmpR op_eq (pe_ix ix_str (pe_m1 PySem.F.slot_str_join PySem.F.type_str_join mt_join pe_str (pv 0)) (pv 4) (fun _ _ => rfl)) pe_str (nomark _)) (pw_or1 (PW.pt (pw_and (pt_cmpR op_in_sign (pv 3) pe_str (by rfl)) (pw_and1 (pt_not (pt_val (pe_ix ix_tup (pv 1) pe_int (fun _ _ => rfl)))))))))) (pss_one (ps_ret pe_non)) pss_nil)
      (pss_cons (ps_if (pt_cmpR op_in_sign (pv 3) pe_str (by rfl)) (pss_one (ps_ret (pg_c c__law_walked hgd hr (by decide) (pa_cons (pv 0) (pa_cons (pv 1) (pa_cons (pv 2) (pa_cons (pv 3) pa_nil))))))) pss_nil)
      (pss_cons (ps_set (i := 5) sc__law_step.nd rfl (Or.inl rfl) (pe_bm0 PySem.F.plainAttrs_str PySem.F.slot_str_lower PySem.F.type_str_lower mt_lower (pv 3)))
      (pss_cons (ps_set (i := 6) sc__law_step.nd rfl (Or.inl rfl) (pg_c c__law_next hgd hr (by decide) (pa_cons (pv 0) (pa_cons (pv 4) (pa_cons (pe_ix ix_str pe_str (pe_m1 PySem.F.slot_str_index PySem.F.type_str_index mt_signAt pe_str (pv 5)) (fun _ _ => rfl)) pa_nil)))))
      (pss_cons (ps_if (PW.pt (pw_or (pt_cmpR op_notIn_seq (pv 6) (pe_ix ix_tup (pv 2) pe_int (fun _ _ => rfl)) (by rfl)) (pw_or (pt_cmpR op_in_seq (pg_c c__law_next hgd hr (by decide) (pa_cons (pv 0) (pa_cons (pv 4) (pa_cons (pv 5) pa_nil)))) (pe_ix ix_tup (pv 2) pe_int (fun _ _ => rfl)) (by rfl)) (pw_or1 (pt_not (pt_val (pg_c c__law_lies hgd hr (by decide) (pa_cons (pv 0) (pa_cons (pe_ix ix_tup (pv 2) pe_int (fun _ _ => rfl)) (pa_cons (pv 4) pa_nil)))))))))) (pss_one (ps_ret pe_non)) pss_nil)
      (pss_cons (ps_set (i := 7) sc__law_step.nd rfl (Or.inl rfl) (pg_c c__law_walked hgd hr (by decide) (pa_cons (pv 0) (pa_cons (pv 1) (pa_cons (pv 2) (pa_cons (pv 5) pa_nil))))))
      (pss_cons (ps_if (pt_cmpR op_isN (pv 7) pe_non (nomark _)) (pss_one (ps_ret pe_non)) pss_nil)
      (pss_one (ps_ret (pe_op op_catU (pe_tupA (pa_cons (pe_ix ix_tup (pv 7) pe_int (fun _ _ => rfl)) (pa_cons (pg_c c__law_with hgd hr (by decide) (pa_cons (pg_c c__law_without hgd hr (by decide) (pa_cons (pe_ix ix_tup (pv 2) pe_int (fun _ _ => rfl)) (pa_cons (pv 6) pa_nil))) (pa_cons (pv 4) pa_nil))) pa_nil))) (pe_slice sl_tupU (pv 7) (po_some pe_int) po_none)))))))))))), ?_⟩
    obtain ⟨a, c, g, u, b, rfl, ha, hc, hg, hu, hb⟩ := id hst
    obtain ⟨ra, rfl, hra⟩ := id hL.ex
    obtain ⟨rb, rfl, hrb⟩ := id hru.ex
    obtain ⟨lc, hlc, hbig, hsmall⟩ := letter_c wy big
    have cl : st.cr.length ≤ 100 := Nat.le_trans Ks.crn (by decide)
    refine ⟨_, rfl, a, _, 0, .int st.at_, rfl, rfl, SqT.of ha, atI_nat (xs := [V.int st.at_, V.ref c, V.ref g, V.ref u, V.ref b]) (j := 0) rfl, ?_⟩
    unfold stepL at kn ks
    simp only at kn ks
    refine ⟨fun σ' H' => σ' = [some (.ref ra), some (.ref rb), some (.ref a), some (.str (letterOf wy big)), some (.int st.at_), none, none, none] ∧ H' = H ∧ ¬ (mark W.z st.at_ = 42 ∨ (big = true ∧ W.pull = false)), ?_, ?_⟩
    · refine ⟨⟨_, rfl⟩, _, rfl, "", ra, W.rows, rfl, rfl, .inl (SqL.of hra), join_fit O, ?_⟩
      refine ⟨_, rfl, W.z, st.at_, mark W.z st.at_, rfl, rfl, z_fit O, mark_at Ks.at0 Ks.at1 O.R, ?_⟩
      walk_at "rd"
      by_cases h42 : mark W.z st.at_ = 42
      · exact iteT' ((sg (by decide +kernel)).mpr h42) (iteT (kn (by rw [if_pos (.inl h42)]) _ (Same.refl _)))
      refine iteF' (fun z => h42 ((sg (by decide +kernel)).mp z)) ?_
      refine ⟨_, rfl, lc, "UDLR", by rw [hlc], rfl, _, rfl, ?_⟩
      rw [hbig]
      cases big with
      | false => exact iteF (iteF ⟨rfl, rfl, fun z => z.elim h42 fun z => by cases z.1⟩)
      | true =>
        refine iteT ?_
        refine ⟨_, rfl, rb, _, 2, .bl W.pull, rfl, rfl, SqT.of hrb, atI_nat (xs := [V.int W.cap, V.bl W.strong, V.bl W.pull]) (j := 2) rfl, _, rfl, ?_⟩
        cases hp : W.pull with
        | false => exact iteT (kn (by rw [if_pos (.inr ⟨rfl, hp⟩)]) _ (Same.refl _))
        | true => exact iteF ⟨rfl, rfl, fun z => z.elim h42 fun z => by cases z.2⟩
    rintro σ' H' ⟨rfl, rfl, hno⟩
    rw [if_neg hno] at kn ks
    refine ⟨_, rfl, lc, "udlr", by rw [hlc], rfl, _, rfl, ?_⟩
    rw [hsmall]
    cases big with
    | false =>
      refine iteT ?_
      rw [if_pos rfl] at kn ks
      exact ⟨_, rfl, _, rfl, _, rfl, _, rfl, W, st, _, _, _, wy, rfl, O, hL, hru, hst, Ks, kn, ks⟩
    | true =>
    refine iteF ?_
    rw [if_neg (by decide)] at kn ks
    refine ⟨_, rfl, rfl, letterOf wy true, rfl, rfl, letter_len wy true, ?_⟩
    rw [letter_low]
    obtain ⟨sc, sb, hsc, hsb, hmem, hat⟩ := back_c wy
    refine ⟨_, rfl, _, rfl, ⟨_, rfl⟩, _, rfl, "udrl", sc, rfl, by rw [hsc], hmem, ?_⟩
    refine ⟨"dulr", _, sb, rfl, rfl, by decide +kernel, hat, ?_⟩
    refine ⟨W, .ref ra, st.at_, wy.back, by rw [hsb], O, hL, Ks.at0, Ks.at1, ?_⟩
    generalize hbk : nx W.rows.length W.wd wy.back st.at_ = back at *
    have at1 : atI [V.int st.at_, V.ref c, V.ref g, V.ref u, V.ref b] 1 = some (V.ref c) := atI_nat (xs := [V.int st.at_, V.ref c, V.ref g, V.ref u, V.ref b]) (j := 1) rfl
    have at2 : atI [V.int st.at_, V.ref c, V.ref g, V.ref u, V.ref b] 2 = some (V.ref g) := atI_nat (xs := [V.int st.at_, V.ref c, V.ref g, V.ref u, V.ref b]) (j := 2) rfl
    have bad : (back ∉ st.cr ∨ nx W.rows.length W.wd wy st.at_ ∈ st.cr ∨ lies W.z st.go st.at_ = false) → Q .non H' := fun z => kn (if_pos z) _ (Same.refl _)
    refine ⟨_, rfl, _, rfl, a, _, 1, .ref c, rfl, rfl, SqT.of ha, at1, c, _, rfl, .inr (SqT.of hc), rfl, flat_ints _, _, rfl, ?_⟩
    by_cases h1 : back ∈ st.cr
    case neg => exact iteT' (by simp [inV_ints, h1]) (iteT (bad (.inl h1)))
    refine iteF' (by simp [inV_ints, h1]) ?_
    refine ⟨_, rfl, _, rfl, _, rfl, W, .ref ra, st.at_, wy, rfl, O, hL, Ks.at0, Ks.at1, _, rfl, a, _, 1, .ref c, rfl, rfl, SqT.of ha, at1, c, _, rfl, .inr (SqT.of hc), rfl, flat_ints _, _, rfl, ?_⟩
    rw [inV_ints]
    by_cases h2 : nx W.rows.length W.wd wy st.at_ ∈ st.cr
    · exact iteT' (decide_eq_true h2) (iteT (bad (.inr (.inl h2))))
    refine iteF' (by simp [h2]) ?_
    refine ⟨_, rfl, _, rfl, a, _, 2, .ref g, rfl, rfl, SqT.of ha, at2, _, rfl, W, .ref ra, g, st.go, st.at_, rfl, O, hL, hg, Ks.at0, Ks.at1, _, rfl, ?_⟩
    cases h3 : lies W.z st.go st.at_ with
    | false => exact iteT (bad (.inr (.inr h3)))
    | true =>
    refine iteF ?_
    rw [if_neg (fun z => by rcases z with z | z | z <;> simp_all)] at kn ks
    refine ⟨_, rfl, _, rfl, _, rfl, _, rfl, W, st, .ref ra, .ref rb, .ref a, wy, rfl, O, hL, hru, hst, Ks, fun hn H1 s1 => ?_, fun s' he v' H1 s1 hv' => ?_⟩
    · exact ⟨_, rfl, rfl, _, rfl, iteT (kn (by rw [hn]) H1 s1)⟩
    rw [he] at ks
    obtain ⟨a', c', g', u', b', rfl, ha', hc', hg', hu', hb'⟩ := hv'
    refine ⟨_, rfl, rfl, _, rfl, iteF' (by simp) ?_⟩
    refine ⟨_, rfl, a', _, 0, .int s'.at_, rfl, rfl, SqT.of ha', atI_nat (xs := [V.int s'.at_, V.ref c', V.ref g', V.ref u', V.ref b']) (j := 0) rfl, ?_⟩
    have ol : (without st.cr back).length ≤ 100 := Nat.le_trans (without_le _ _) cl
    refine ⟨_, rfl, a, _, 1, .ref c, rfl, rfl, SqT.of (s1 _ _ ha), at1, _, rfl, c, st.cr, back, rfl, s1 _ _ hc, cl, fun t2 H2 s2 ht2 _ => ?_⟩
    refine ⟨_, rfl, t2, _, st.at_, rfl, ht2, ol, fun t3 H3 s3 ht3 _ => ?_⟩
    refine And.intro (Nat.le_of_ble_eq_true rfl) fun t4 H4 n4 => ?_
    have s4 : Same H1 H4 := (s2.trans s3).trans n4.same
    walk_at "rd"
    refine ⟨a', _, rfl, s4 _ _ ha', fun t5 H5 s5 ht5 _ => ?_⟩
    have hcut : cutV [V.int s'.at_, V.ref c', V.ref g', V.ref u', V.ref b'] (some 2) none = [V.ref g', V.ref u', V.ref b'] := rfl
    rw [hcut] at ht5
    refine ⟨t4, t5, _, _, rfl, rfl, s5 _ _ n4.at_, ht5, Nat.le_of_ble_eq_true rfl, fun t6 H6 s6 ht6 _ => ?_⟩
    have s46 : Same H4 H6 := s5.trans s6
    have s16 : Same H1 H6 := s4.trans s46
    exact ks _ rfl _ H6 (s1.trans s16) ⟨t6, t3, g', u', b', rfl, ht6, s46 _ _ (n4.same _ _ ht3), s16 _ _ hg', s16 _ _ hu', s16 _ _ hb'⟩
end
end K11
end
section
set_option Elab.async false
set_option linter.all false
set_option maxRecDepth 100000
set_option maxHeartbeats 2000000
namespace K11
open PySem L2
local macro_rules | `(tactic| walk_at "hp") => `(tactic| first | assumption | exact upd_same | (refine (upd_ne (by first | assumption | (apply Ne.symm; assumption))).trans ?_; walk_at "hp"))
local macro_rules | `(tactic| walk_at "rd1") => `(tactic| first
  | (refine ⟨_, rfl, ?_⟩)
  | (refine ⟨_, _, rfl, rfl, ?_⟩)
  | (refine ⟨(rfl : scal _ _ = true), ?_⟩)
  | (refine And.intro (by show (0 : Int) < _; decide) ?_)
  | (refine And.intro (And.intro (by decide) (by decide)) ?_)
  | (refine And.intro (Or.inr (And.intro (by decide) (by decide))) ?_)
  | (refine And.intro (And.intro (by decide) (And.intro (by decide) (by decide))) ?_)
  | (refine And.intro (by assumption) ?_)
  | (refine And.intro (And.intro (by omega) (by omega)) ?_)
  | (refine And.intro (Or.inl (And.intro (by omega) (by omega))) ?_)
  | (refine' ⟨_, _, _, _, rfl, rfl, Or.inl (Or.inl ?h1), ?h2, ?h3⟩; (case h1 => walk_at "hp"); (case h2 => rfl))
  | (refine' ⟨_, _, _, _, rfl, rfl, ?h1, ?h2, ?h3⟩; (case h1 => walk_at "hp"); (case h2 => rfl))
  | (refine' ⟨_, _, rfl, Or.inl (Or.inl (Or.inl ?h1)), ?h3⟩; (case h1 => walk_at "hp"))
  | (refine Or.inl ⟨_, rfl, ?_⟩))
local macro_rules | `(tactic| walk_at "rd") => `(tactic| repeat walk_at "rd1")


/-! ### what is shown -/
def stateD (s : Sta) : PyData := .tuple [.int s.at_, .tuple (s.cr.map .int), .tuple (s.go.map .int), .tuple (s.us.map .int), .tuple [.int s.ba, .int s.bb]]
def pairD (p : Str × Sta) : PyData := .tuple [.str p.1, stateD p.2]
def movesD (L : List (Str × Sta)) : PyData := .list (L.map pairD)
def M0 : Addr → Prop := fun _ => False
theorem drAll_ints {L : Bool} {M : Addr → Prop} {H : Hp} : ∀ xs : List Int, DrAll L M H (xs.map V.int) (xs.map PyData.int)
  | [] => .nil
  | x :: r => .cons (.int x) (drAll_ints r)
theorem StaAt.dr {L : Bool} {H : Hp} {v : V} {s : Sta} (h : StaAt H v s) : Dr L M0 H v (stateD s) := by
  obtain ⟨a, c, g, u, b, rfl, ha, hc, hg, hu, hb⟩ := h
  exact .tup ha id (.cons (.int _) (.cons (.tup hc id (drAll_ints _)) (.cons (.tup hg id (drAll_ints _)) (.cons (.tup hu id (drAll_ints _)) (.cons (.tup hb id (.cons (.int _) (.cons (.int _) .nil))) .nil)))))
theorem PairsAt.dr {L : Bool} {H : Hp} : ∀ {vs : List V} {ps : List (Str × Sta)}, PairsAt H vs ps → DrAll L M0 H vs (ps.map pairD)
  | [], [], _ => .nil
  | v :: vs, p :: ps, ⟨⟨t, sv, e, h1, h2⟩, r⟩ => by
    subst e
    exact .cons (.tup h1 id (.cons (.str _) (.cons h2.dr .nil))) r.dr
theorem movesD_dr {H : Hp} {D : Addr} {vs : List V} {ps : List (Str × Sta)} (e : H D = some (.lst vs)) (h : PairsAt H vs ps) : Dr true M0 H (.ref D) (movesD ps) := .lst e id rfl h.dr
theorem Ok.usl {W : Wld} {s : Sta} (Ks : Ok W s) : s.us.length ≤ 3 :=
  len_range 3 Ks.usn fun c hc => ⟨by have := Ks.us0 c hc; omega, by have := Ks.us0 c hc; omega⟩
theorem stateD_sh {W : Wld} {s : Sta} (O : WOk W) (Ks : Ok W s) : Sh (stateD s) 2 785 := by
  have hn := O.n30
  have c1 := O.c1
  have up : ∀ {d l}, d ≤ 1 → l ≤ 153 → ∀ {x : PyData}, Sh x d l → Sh x 1 153 := fun a b x h => h.mono a b
  refine (Sh.tuple (n := 1) (l := 153) (m := 5) ?_ (by simp)).mono (by omega) (by omega)
  intro d hd
  simp only [List.mem_cons, List.not_mem_nil, or_false] at hd
  rcases hd with rfl | rfl | rfl | rfl | rfl
  · exact up (by omega) (by omega) (Sh.int Ks.at0 (by have := Ks.at1; omega))
  · exact up (by omega) (by omega) (Sh.ints (m := 30) (fun x hx => ⟨Ks.cr0 x hx, by have := Ks.cr1 x hx; omega⟩) Ks.crn)
  · exact up (by omega) (by omega) (Sh.ints (m := 30) (fun x hx => ⟨Ks.go0 x hx, by have := Ks.go1 x hx; omega⟩) (Ks.gol O))
  · exact up (by omega) (by omega) (Sh.ints (m := 3) (fun x hx => by have := Ks.us0 x hx; omega) Ks.usl)
  · have := Ks.ba1; have := Ks.bb1
    exact up (by omega) (by omega) (Sh.ints (xs := [s.ba, s.bb]) (m := 2) (fun x hx => by
      simp only [List.mem_cons, List.not_mem_nil, or_false] at hx
      rcases hx with rfl | rfl
      · exact ⟨Ks.ba0, by omega⟩
      · exact ⟨Ks.bb0, by omega⟩) (by simp))
theorem letter_sh (w : Way) (b : Bool) : Sh (.str (letterOf w b)) 0 10 := by
  cases w <;> cases b <;> exact ⟨rfl, Nat.le_refl _, by decide +kernel⟩
theorem pairs_mem {W : Wld} {s : Sta} {L : List (Way × Bool)} {p : Str × Sta} (h : p ∈ pairsOf W s L) : ∃ w b, (w, b) ∈ L ∧ p.1 = letterOf w b ∧ moved W s w b = some p.2 := by
  unfold pairsOf at h
  obtain ⟨⟨w, b⟩, hm, he⟩ := List.mem_filterMap.mp h
  cases hv : moved W s w b with
  | none => simp [hv] at he
  | some s' =>
    simp [hv] at he
    subst he
    exact ⟨w, b, hm, rfl, hv⟩
theorem pairsD_sh {W : Wld} {s : Sta} (O : WOk W) (Ks : Ok W s) : ∀ p ∈ movesOf W s, Sh (pairD p) 3 1577 := by
  intro p hp
  obtain ⟨w, b, _, h1, h2⟩ := pairs_mem hp
  refine (Sh.tuple (n := 2) (l := 785) (m := 2) ?_ (by simp)).mono (by omega) (by omega)
  intro d hd
  simp only [List.mem_cons, List.not_mem_nil, or_false] at hd
  rcases hd with rfl | rfl
  · rw [h1]
    exact (letter_sh w b).mono (by omega) (by omega)
  · exact stateD_sh O (moved_ok O Ks h2)
theorem movesD_ok {W : Wld} {s : Sta} (O : WOk W) (Ks : Ok W s) {L : List (Str × Sta)} (hL : ∀ p ∈ L, p ∈ movesOf W s) (hl : L.length ≤ 8) : (movesD L).showable = true ∧ (movesD L).depth ≤ 60 ∧ (movesD L).shown.length ≤ sizeLine := by
  refine (Sh.list (n := 3) (l := 1577) (m := 8) (fun d hd => ?_) (by rw [List.length_map]; exact hl)).fit (by omega) (by omega)
  obtain ⟨p, hp, rfl⟩ := List.mem_map.mp hd
  exact pairsD_sh O Ks p (hL p hp)
theorem moves_len (W : Wld) (s : Sta) : (movesOf W s).length ≤ 8 := by
  unfold movesOf pairsOf
  exact Nat.le_trans (List.length_filterMap_le ..) (by decide)
/-! ### the dict of the steps -/
theorem merge_get (k : Key) : ∀ (kvs acc : List (Key × V)), (∀ v, valV (mergeK acc kvs) k = some v → (k, v) ∈ kvs ∨ valV acc k = some v) ∧ (valV (mergeK acc kvs) k = none → valV acc k = none ∧ ∀ v, (k, v) ∉ kvs)
  | [], acc => ⟨fun v h => .inr h, fun h => ⟨h, fun v => by simp⟩⟩
  | (j, u) :: r, acc => by
    obtain ⟨a, b⟩ := merge_get k r (putK acc j u)
    have e : mergeK acc ((j, u) :: r) = mergeK (putK acc j u) r := rfl
    rw [e]
    have p := valV_put acc j k u
    constructor
    · intro v h
      rcases a v h with h | h
      · exact .inl (List.mem_cons_of_mem _ h)
      · rw [p] at h
        by_cases q : k = j
        · rw [if_pos q] at h
          cases h
          subst q
          exact .inl (List.mem_cons_self ..)
        · rw [if_neg q] at h
          exact .inr h
    · intro h
      obtain ⟨h1, h2⟩ := b h
      rw [p] at h1
      by_cases q : k = j
      · rw [if_pos q] at h1; cases h1
      · rw [if_neg q] at h1
        refine ⟨h1, fun v hv => ?_⟩
        rcases List.mem_cons.mp hv with e | hv
        · cases e; exact q rfl
        · exact h2 v hv
theorem PairsAt.kvs {K : PySem.W.Frag} {H : Hp} : ∀ {vs : List V} {ps : List (Str × Sta)}, PairsAt H vs ps → ∃ (as : List Addr) (kvs : List (Key × V)), vs = as.map V.ref ∧ Paired (fun p kv => SqT K H p [kV kv.1, kv.2]) as kvs ∧
    (∀ z v, (Sum.inr z, v) ∈ kvs → ∃ s', (z, s') ∈ ps ∧ StaAt H v s') ∧ (∀ z s', (z, s') ∈ ps → ∃ v, (Sum.inr z, v) ∈ kvs)
  | [], [], _ => ⟨[], [], rfl, .nil, fun z v h => (by cases h), fun z s' h => (by cases h)⟩
  | v :: vs, p :: ps, ⟨⟨t, sv, e, h1, h2⟩, r⟩ => by
    obtain ⟨as, kvs, e1, hp, ha, hb⟩ := PairsAt.kvs (K := K) r
    subst e
    refine ⟨t :: as, (Sum.inr p.1, sv) :: kvs, by rw [e1]; rfl, .cons (SqT.of h1) hp, fun z v hv => ?_, fun z s' hs => ?_⟩
    · rcases List.mem_cons.mp hv with e | hv
      · cases e
        exact ⟨p.2, List.mem_cons_self .., h2⟩
      · obtain ⟨s', m, q⟩ := ha z v hv
        exact ⟨s', List.mem_cons_of_mem _ m, q⟩
    · rcases List.mem_cons.mp hs with e | hs
      · rw [← e]
        exact ⟨sv, List.mem_cons_self ..⟩
      · obtain ⟨v, m⟩ := hb z s' hs
        exact ⟨v, List.mem_cons_of_mem _ m⟩
theorem letter_inj {w v : Way} {b c : Bool} (h : letterOf w b = letterOf v c) : w = v ∧ b = c := by
  have : ∀ (w v : Way) (b c : Bool), letterOf w b = letterOf v c → w = v ∧ b = c := by
    intro w v b c
    cases w <;> cases v <;> cases b <;> cases c <;> first | (intro _; exact ⟨rfl, rfl⟩) | (intro h; exact absurd h (by decide +kernel))
  exact this w v b c h
theorem known_get {W : Wld} {s : Sta} {H : Hp} {kvs : List (Key × V)} (ha : ∀ z v, (Sum.inr z, v) ∈ kvs → ∃ s', (z, s') ∈ movesOf W s ∧ StaAt H v s') (hb : ∀ z s', (z, s') ∈ movesOf W s → ∃ v, (Sum.inr z, v) ∈ kvs) (wy : Way) (big : Bool) (hm : (wy, big) ∈ lts8) :
    (moved W s wy big = none → valV (mergeK [] kvs) (.inr (letterOf wy big)) = none) ∧ (∀ s', moved W s wy big = some s' → ∃ v, valV (mergeK [] kvs) (.inr (letterOf wy big)) = some v ∧ StaAt H v s') := by
  obtain ⟨g1, g2⟩ := merge_get (.inr (letterOf wy big)) kvs []
  have key : ∀ s', (letterOf wy big, s') ∈ movesOf W s → moved W s wy big = some s' := by
    intro s' h
    obtain ⟨w', b', _, e1, e2⟩ := pairs_mem h
    obtain ⟨rfl, rfl⟩ := letter_inj e1
    exact e2
  constructor
  · intro hn
    cases hv : valV (mergeK [] kvs) (.inr (letterOf wy big)) with
    | none => rfl
    | some v =>
      rcases g1 v hv with h | h
      · obtain ⟨s', h1, _⟩ := ha _ _ h
        rw [key s' h1] at hn
        cases hn
      · cases h
  · intro s' hs
    cases hv : valV (mergeK [] kvs) (.inr (letterOf wy big)) with
    | none =>
      obtain ⟨_, h2⟩ := g2 hv
      have : (letterOf wy big, s') ∈ movesOf W s := by
        unfold movesOf pairsOf
        exact List.mem_filterMap.mpr ⟨(wy, big), hm, by simp [hs]⟩
      obtain ⟨v, hv'⟩ := hb _ _ this
      exact absurd hv' (h2 v)
    | some v =>
      rcases g1 v hv with h | h
      · obtain ⟨s2, h1, h2⟩ := ha _ _ h
        have e := key s2 h1
        rw [hs] at e
        cases e
        exact ⟨v, rfl, h2⟩
      · cases h
def xs8 : List V := [.str "u", .str "d", .str "l", .str "r", .str "U", .str "D", .str "L", .str "R"]
theorem xs8_at {i : Nat} {y : V} (h : xs8[i]? = some y) : ∃ wy big, (wy, big) ∈ lts8 ∧ y = .str (letterOf wy big) := by
  have hl : i < xs8.length := (List.getElem?_eq_some_iff.mp h).1
  have hi : i < 8 := hl
  have all : ∀ j : Fin 8, ∃ wy big, (wy, big) ∈ lts8 ∧ xs8[j.val]? = some (.str (letterOf wy big)) := by
    intro j
    match j with
    | 0 => exact ⟨.u, false, by decide, by decide +kernel⟩
    | 1 => exact ⟨.d, false, by decide, by decide +kernel⟩
    | 2 => exact ⟨.l, false, by decide, by decide +kernel⟩
    | 3 => exact ⟨.r, false, by decide, by decide +kernel⟩
    | 4 => exact ⟨.u, true, by decide, by decide +kernel⟩
    | 5 => exact ⟨.d, true, by decide, by decide +kernel⟩
    | 6 => exact ⟨.l, true, by decide, by decide +kernel⟩
    | 7 => exact ⟨.r, true, by decide, by decide +kernel⟩
  obtain ⟨wy, big, hm, e⟩ := all ⟨i, hi⟩
  rw [show xs8[i]? = some (.str (letterOf wy big)) from e] at h
  exact ⟨wy, big, hm, (Option.some.inj h).symm⟩
section
variable {P : Program} {w : World} {K : PySem.W.Frag} {mg : Str → Option Value} {base : Heap} {CR CL aB aO EB EF LB LF : Addr}
def spLMovs : Sp := fun vs H Q _ => ∃ (W : Wld) (s : Sta) (rw_ ru sv : V), vs = [rw_, ru, sv] ∧ WOk W ∧ LRows H rw_ W ∧ LRules H ru W ∧ StaAt H sv s ∧ Ok W s ∧
  ∀ D vs H', Same H H' → H D = none → H' D = some (.lst vs) → PairsAt H' vs (movesOf W s) → Q (.ref D) H'
theorem ok_lmovs {f : Addr} {fd : FuncData} (F : Fun K "_law_moves" "_law_moves" s__law_moves f fd) (T : LawT mg) (c__law_step : CalG P w K mg base 4 "_law_step" spLStep) :
    FnG P w K mg base (CXe P w) 5 f fd ["rows", "rules", "state"] spLMovs := by
  refine F.okG sc__law_moves (fun vs H Q E h => ?_) (fun cdv A outer s H vs Q E hgd hr h => ?_)
  · obtain ⟨W, s, rw_, ru, sv, rfl, _⟩ := h; rfl
  · obtain ⟨W, st, rw_, ru, sv, rfl, O, hL, hru, hst, Ks, k⟩ := h
    refine ⟨_, (pss_cons (ps_set (i := 3) sc__law_moves.nd rfl (Or.inl rfl) (pe_lstA pa_nil))
      (pss_cons (ps_for (passes_of rfl) rfl (pi_str pe_str) (pg_name (i := 4) sc__law_moves.nd rfl (Or.inl rfl))
      (pss_cons (ps_set (i := 5) sc__law_moves.nd rfl (Or.inl rfl) (pg_c c__law_step hgd hr (by decide) (pa_cons (pv 0) (pa_cons (pv 1) (pa_cons (pv 2) (pa_cons (pv 4) pa_nil))))))
      (pss_one (ps_if (pt_cmpR op_notN (pv 5) pe_non (nomark _)) (pss_one (ps_expr (pe_bm PySem.F.plainAttrs_list PySem.F.slot_list_append PySem.F.type_list_append mt_append (pv 3) (pa_cons (pe_tupA (pa_cons (pv 4) (pa_cons (pv 5) pa_nil))) pa_nil)))) pss_nil))))
      (pss_one (ps_ret (pv 3))))), ?_⟩
    refine And.intro (Nat.zero_le _) fun D H1 n1 => ?_
    have hsz : ("udlrUDLR" : Str).cps.size = lts8.length := by decide +kernel
    refine ⟨_, rfl, for_it walk_str (fun i σ H2 => ∃ o4 o5 vs, σ = [some rw_, some ru, some sv, some (.ref D), o4, o5] ∧ Same H H2 ∧ H2 D = some (.lst vs) ∧ PairsAt H2 vs (pairsOf W st (lts8.take i))) ⟨none, none, [], rfl, n1.same, n1.at_, trivial⟩ (fun _ _ _ _ _ => trivial) ?_ ?_⟩
    · rintro i y σ H2 H3 hi ⟨o4, o5, vs, rfl, sm, hD, hP⟩ ⟨rfl, ci, hci, rfl⟩
      have hi' : i < lts8.length := by omega
      obtain ⟨wy, big, hw, hz⟩ := letter_at (L := lts8) hi' hci (by decide +kernel)
      rw [hz]
      refine ⟨_, rfl, _, rfl, _, rfl, _, rfl, W, st, rw_, ru, sv, wy, big, rfl, O, hL.same sm, hru.same sm, hst.same sm, Ks, fun hn H4 s4 => ?_, fun s' hs' v' H4 s4 hv' => ?_⟩
      · rw [← step_eq O Ks] at hn
        refine ⟨_, rfl, rfl, _, rfl, iteF' (by simp) ?_⟩
        refine ⟨_, _, vs, rfl, sm.trans s4, s4 _ _ hD, ?_⟩
        rw [pairsOf_take hi' hw, hn, List.append_nil]
        exact hP.ts (TS.of_same s4)
      · rw [← step_eq O Ks] at hs'
        refine ⟨_, rfl, rfl, _, rfl, iteT' ?_ ?_⟩
        · obtain ⟨a', _, _, _, _, rfl, _⟩ := hv'
          simp
        refine ⟨_, rfl, .inl ⟨rfl, _, SqL.of (s4 _ _ hD)⟩, _, rfl, _, rfl, And.intro (Nat.le_of_ble_eq_true rfl) fun t5 H5 n5 => ?_⟩
        have hD5 := n5.same _ _ (s4 _ _ hD)
        refine ⟨D, _, _, rfl, rfl, hD5, sz ?_, _, _, _, rfl, Same.put ((sm.trans s4).trans n5.same) n1.free, upd_same, ?_⟩
        · rw [hP.len]
          unfold pairsOf
          exact Nat.le_trans (List.length_filterMap_le ..) (Nat.le_trans (List.length_take_le' ..) (by decide))
        · rw [pairsOf_take hi' hw, hs']
          exact PairsAt.snoc ⟨t5, v', rfl, (TS.put hD5).tup n5.at_, (hv'.same n5.same).ts (TS.put hD5)⟩ (hP.ts ((TS.of_same s4).trans ((TS.of_same n5.same).trans (TS.put hD5))))
    · rintro σ H2 ⟨o4, o5, vs, rfl, sm, hD, hP⟩
      refine ⟨_, rfl, k D vs H2 sm n1.free hD ?_⟩
      rw [hsz, List.take_length] at hP
      exact hP
end
end K11
end
section
set_option Elab.async false
set_option linter.all false
set_option maxRecDepth 100000
set_option maxHeartbeats 2000000
namespace K11
open PySem L2
local macro_rules | `(tactic| walk_at "hp") => `(tactic| first | assumption | exact upd_same | (refine (upd_ne (by first | assumption | (apply Ne.symm; assumption))).trans ?_; walk_at "hp"))
local macro_rules | `(tactic| walk_at "rd1") => `(tactic| first
  | (refine ⟨_, rfl, ?_⟩)
  | (refine ⟨_, _, rfl, rfl, ?_⟩)
  | (refine ⟨(rfl : scal _ _ = true), ?_⟩)
  | (refine And.intro (by show (0 : Int) < _; decide) ?_)
  | (refine And.intro (And.intro (by decide) (by decide)) ?_)
  | (refine And.intro (Or.inr (And.intro (by decide) (by decide))) ?_)
  | (refine And.intro (And.intro (by decide) (And.intro (by decide) (by decide))) ?_)
  | (refine And.intro (by assumption) ?_)
  | (refine And.intro (And.intro (by omega) (by omega)) ?_)
  | (refine And.intro (Or.inl (And.intro (by omega) (by omega))) ?_)
  | (refine' ⟨_, _, _, _, rfl, rfl, Or.inl (Or.inl ?h1), ?h2, ?h3⟩; (case h1 => walk_at "hp"); (case h2 => rfl))
  | (refine' ⟨_, _, _, _, rfl, rfl, ?h1, ?h2, ?h3⟩; (case h1 => walk_at "hp"); (case h2 => rfl))
  | (refine' ⟨_, _, rfl, Or.inl (Or.inl (Or.inl ?h1)), ?h3⟩; (case h1 => walk_at "hp"))
  | (refine Or.inl ⟨_, rfl, ?_⟩))
local macro_rules | `(tactic| walk_at "rd") => `(tactic| repeat walk_at "rd1")


theorem find_there {z : Str} {c : Nat} (h : c ∈ z.cps.toList) : ∃ n : Nat, Txt.find z ⟨#[c]⟩ = (n : Int) ∧ n < z.length := by
  have f := PySem.StrLaws.found_one z c
  rw [decide_eq_true h] at f
  cases ho : Builtin.Str.occurrences z ⟨#[c]⟩ 0 z.length 1 with
  | nil => rw [ho] at f; cases f
  | cons i rest =>
    have sp := PySem.StrLaws.occ_spec z ⟨#[c]⟩ 0 z.length 1 i (by rw [ho]; exact List.mem_cons_self ..)
    refine ⟨i, ?_, ?_⟩
    · unfold Txt.find
      rw [ho]
    · have : (⟨#[c]⟩ : Str).length = 1 := rfl
      omega
theorem there_at {z : Str} (h : wholeZ z = true) : 64 ∈ z.cps.toList := by
  obtain ⟨⟨_, h1⟩, _⟩ := (wholeZ_iff z).mp h
  exact List.count_pos_iff.mp (by omega)
theorem at_sign : ("@" : Str) = ⟨#[64]⟩ := by decide +kernel
theorem TS.of_off {K : PySem.W.Frag} {H H' : Hp} {l p : Addr} (hp : PoolAt K H l p) (o : Off (fun b => b = p) H H') : TS H H' := fun b o' n e => by
  by_cases q : b = p
  · subst q
    obtain ⟨xs, i, c, n', z, h1, _⟩ := hp.ex
    rw [e] at h1
    cases h1
    exact absurd rfl (n _)
  · exact o b o' q e
/-- the beginning -/
def begS (W : Wld) (ba bb : Int) : Sta := { at_ := Txt.find W.z "@", cr := placesL W.z 111 W.z.length, go := [], us := [], ba := ba, bb := bb }
theorem places_mem {z : Str} {c n : Nat} {x : Int} (h : x ∈ placesL z c n) : 0 ≤ x ∧ x < n ∧ mark z x = c := by
  obtain ⟨i, hi, rfl⟩ := List.mem_map.mp h
  obtain ⟨h1, h2⟩ := List.mem_filter.mp hi
  have h3 : z.cps[i]? = some c := of_decide_eq_true h2
  have hlt : i < n := List.mem_range.mp h1
  refine ⟨Int.natCast_nonneg i, by show (i : Int) < n; omega, ?_⟩
  show mark z (i : Int) = c
  unfold mark
  rw [Int.toNat_natCast]
  have hl2 : i < z.cps.size := (Array.getElem?_eq_some_iff.mp h3).1
  rw [Array.getElem?_eq_getElem hl2] at h3
  simp [Array.getD, hl2, Option.some.inj h3]
theorem begS_ok {W : Wld} (O : WOk W) (hw : wholeZ W.z = true) {ba bb : Int} (a0 : 0 ≤ ba) (a1 : ba ≤ W.cap) (b0 : 0 ≤ bb) (b1 : bb ≤ W.cap) : Ok W (begS W ba bb) := by
  have hz : W.z.length = W.n := join_len O.R
  obtain ⟨n, e1, e2⟩ := find_there (there_at hw)
  have cr : ∀ c ∈ (begS W ba bb).cr, 0 ≤ c ∧ c < W.n ∧ mark W.z c = 111 := fun c hc => by
    have := places_mem (show c ∈ placesL W.z 111 W.z.length from hc)
    rw [hz] at this
    exact this
  have cl : (begS W ba bb).cr.length ≤ 30 := by
    have h1 := placesL_le W.z 111 W.z.length
    have h2 := O.n30
    show (placesL W.z 111 W.z.length).length ≤ 30
    omega
  refine ⟨?_, ?_, fun c hc => (cr c hc).1, fun c hc => (cr c hc).2.1, fun c hc => ?_, cl, fun c hc => (by cases hc), fun c hc => (by cases hc), fun c hc => (by cases hc), .nil, fun c hc => (by cases hc), .nil, a0, a1, b0, b1⟩
  · show 0 ≤ Txt.find W.z "@"
    rw [at_sign, e1]
    omega
  · show Txt.find W.z "@" < _
    rw [at_sign, e1]
    omega
  · have := (cr c hc).2.2
    simp [lies, isFree, this]
section
variable {P : Program} {w : World} {K : PySem.W.Frag} {mg : Str → Option Value} {base : Heap}
def spRul (K : PySem.W.Frag) : Sp := fun vs H Q _ => ∃ (l p : Addr), vs = [.ref p] ∧ PoolAt K H l p ∧ ∀ t H' c s pl, Off (fun b => b = p) H H' → PoolAt K H' l p → 1 ≤ c → c ≤ 2 → H' t = some (.tup [.int c, .bl s, .bl pl]) → Q (.ref t) H'
theorem ok_rul {f : Addr} {fd : FuncData} (F : Fun K "_law_rules" "_law_rules" s__law_rules f fd) (T : LawT mg) (c__law_draw : CalG P w K mg base 1 "_law_draw" (spDraw K)) : FnG P w K mg base (CXe P w) 2 f fd ["pool"] (spRul K) := by
  refine F.okG sc__law_rules (fun vs H Q E h => ?_) (fun cdv A outer s H vs Q E hgd hr h => ?_)
  · obtain ⟨l, p, rfl, _⟩ := h; rfl
  · obtain ⟨l, p, rfl, hp, k⟩ := h
    refine ⟨_, (pss_one (ps_ret (pe_tupA (pa_cons (pe_ix ix_list (pe_lstA (pa_cons pe_int (pa_cons pe_int (pa_cons pe_int pa_nil)))) (pg_c c__law_draw hgd hr (by decide) (pa_cons (pv 0) (pa_cons pe_int pa_nil))) (fun _ _ => rfl)) (pa_cons (pe_cmpR op_eq (pg_c c__law_draw hgd hr (by decide) (pa_cons (pv 0) (pa_cons pe_int pa_nil))) pe_int (nomark _)) (pa_cons (pe_cmpR op_eq (pg_c c__law_draw hgd hr (by decide) (pa_cons (pv 0) (pa_cons pe_int pa_nil))) pe_int (nomark _)) pa_nil)))))), ?_⟩
    refine And.intro (Nat.le_of_ble_eq_true rfl) fun q H1 n1 => ?_
    have hqp := hp.ne n1.free
    refine ⟨_, rfl, l, p, 3, rfl, hp.same n1.same, by decide, by decide, fun r H2 r0 r1 o2 hp2 => ?_⟩
    have hq2 := o2 _ _ hqp n1.at_
    obtain ⟨c, hc, c1, c2⟩ : ∃ c : Int, atI [V.int 1, V.int 1, V.int 2] r = some (V.int c) ∧ 1 ≤ c ∧ c ≤ 2 := by
      have : r = 0 ∨ r = 1 ∨ r = 2 := by omega
      rcases this with rfl | rfl | rfl
      · exact ⟨1, rfl, by decide, by decide⟩
      · exact ⟨1, rfl, by decide, by decide⟩
      · exact ⟨2, rfl, by decide, by decide⟩
    refine ⟨q, _, r, .int c, rfl, rfl, SqL.of hq2, hc, ?_⟩
    refine ⟨_, rfl, l, p, 2, rfl, hp2, by decide, by decide, fun r3 H3 a3 b3 o3 hp3 => ?_⟩
    refine ⟨(rfl : scal _ _ = true), ?_⟩
    refine ⟨_, rfl, l, p, 2, rfl, hp3, by decide, by decide, fun r4 H4 a4 b4 o4 hp4 => ?_⟩
    refine ⟨(rfl : scal _ _ = true), ?_⟩
    refine And.intro (Nat.le_of_ble_eq_true rfl) fun t H5 n5 => ?_
    exact k t H5 c _ _ ((((Off.same n1.same).trans o2).trans o3).trans (o4.trans n5.off)) (hp4.same n5.same) c1 c2 n5.at_
def spBag (K : PySem.W.Frag) : Sp := fun vs H Q _ => ∃ (l p : Addr) (ru : V) (W : Wld), vs = [.ref p, ru] ∧ PoolAt K H l p ∧ LRules H ru W ∧ WOk W ∧ ∀ t H' a b, Off (fun b => b = p) H H' → PoolAt K H' l p → 0 ≤ a → a ≤ W.cap → 0 ≤ b → b ≤ W.cap → H' t = some (.tup [.int a, .int b]) → Q (.ref t) H'
theorem ok_bag {f : Addr} {fd : FuncData} (F : Fun K "_law_bag" "_law_bag" s__law_bag f fd) (T : LawT mg) (c__law_draw : CalG P w K mg base 1 "_law_draw" (spDraw K)) : FnG P w K mg base (CXe P w) 2 f fd ["pool", "rules"] (spBag K) := by
  refine F.okG sc__law_bag (fun vs H Q E h => ?_) (fun cdv A outer s H vs Q E hgd hr h => ?_)
  · obtain ⟨l, p, ru, W, rfl, _⟩ := h; rfl
  · obtain ⟨l, p, ru, W, rfl, hp, hru, O, k⟩ := h
    refine ⟨_, (pss_one (ps_ret (pe_tupA (pa_cons (pg_c c__law_draw hgd hr (by decide) (pa_cons (pv 0) (pa_cons (pe_op op_add (pe_ix ix_tup (pv 1) pe_int (fun _ _ => rfl)) pe_int) pa_nil))) (pa_cons (pg_c c__law_draw hgd hr (by decide) (pa_cons (pv 0) (pa_cons (pe_op op_add (pe_ix ix_tup (pv 1) pe_int (fun _ _ => rfl)) pe_int) pa_nil))) pa_nil))))), ?_⟩
    obtain ⟨ra, rfl, hra⟩ := hru.ex
    have c0 := O.c0
    have c1 := O.c1
    have ix : atI [V.int W.cap, V.bl W.strong, V.bl W.pull] 0 = some (V.int W.cap) := atI_nat (xs := [V.int W.cap, V.bl W.strong, V.bl W.pull]) (j := 0) rfl
    refine ⟨_, rfl, _, rfl, ra, _, 0, .int W.cap, rfl, rfl, SqT.of hra, ix, ?_⟩
    refine ⟨_, _, rfl, rfl, l, p, W.cap + 1, rfl, hp, by omega, by omega, fun r2 H2 a2 b2 o2 hp2 => ?_⟩
    have hra2 := (TS.of_off hp o2).tup hra
    refine ⟨_, rfl, _, rfl, ra, _, 0, .int W.cap, rfl, rfl, SqT.of hra2, ix, ?_⟩
    refine ⟨_, _, rfl, rfl, l, p, W.cap + 1, rfl, hp2, by omega, by omega, fun r3 H3 a3 b3 o3 hp3 => ?_⟩
    refine And.intro (Nat.le_of_ble_eq_true rfl) fun t H5 n5 => ?_
    exact k t H5 _ _ ((o2.trans o3).trans n5.off) (hp3.same n5.same) a2 (by omega) a3 (by omega) n5.at_
def spBeg : Sp := fun vs H Q _ => ∃ (W : Wld) (rw_ : V) (b : Addr) (ba bb : Int), vs = [rw_, .ref b] ∧ WOk W ∧ LRows H rw_ W ∧ wholeZ W.z = true ∧ H b = some (.tup [.int ba, .int bb]) ∧ ∀ v H', Same H H' → StaAt H' v (begS W ba bb) → Q v H'
theorem ok_beg {f : Addr} {fd : FuncData} (F : Fun K "_law_begun" "_law_begun" s__law_begun f fd) (T : LawT mg) : FnG P w K mg base (CXe P w) 1 f fd ["rows", "bag"] spBeg := by
  refine F.okG sc__law_begun (fun vs H Q E h => ?_) (fun cdv A outer s H vs Q E hgd hr h => ?_)
  · obtain ⟨W, rw_, b, ba, bb, rfl, _⟩ := h; rfl
  · obtain ⟨W, rw_, b, ba, bb, rfl, O, hL, hw, hb, k⟩ := h
    refine ⟨_, (pss_cons (ps_set (i := 2) sc__law_begun.nd rfl (Or.inr rfl) (pe_m1 PySem.F.slot_str_join PySem.F.type_str_join mt_join pe_str (pv 0)))
      (pss_cons (ps_set (i := 3) sc__law_begun.nd rfl (Or.inl rfl) (pe_callTy call_tuple_of (by rfl) T.n_tuple (by decide +kernel) (pa_cons (pe_lc (own := [("k", 4)]) (g := gName 4) rfl sc__law_begun.nd (pi_range1 (by rfl) T.n_range (pa_cons (pe_callB call_len_str (by rfl) T.n_len (by decide +kernel) (pa_cons (pv 2) pa_nil)) pa_nil)) (blkOk_by (own := [("k", 4)]) (N := ["rows", "bag", "cells", "crates", "k"]) (sc := defScope s__law_begun) (by decide +kernel)) (fun _ _ _ _ _ => pg_name (i := 4) sc__law_begun.nd rfl (Or.inl rfl)) (fun _ _ _ _ _ => pts_one (pt_cmpR op_eq (pe_ix ix_str (pv 2) (pv 4) (fun _ _ => rfl)) pe_str (nomark _))) (fun _ _ _ _ _ => (pv 4))) pa_nil)))
      (pss_one (ps_ret (pe_tupA (pa_cons (pe_m1 PySem.F.slot_str_index PySem.F.type_str_index mt_signAt (pv 2) pe_str) (pa_cons (pv 3) (pa_cons (pe_tupA pa_nil) (pa_cons (pe_tupA pa_nil) (pa_cons (pv 1) pa_nil)))))))))), ?_⟩
    obtain ⟨ra, rfl, hra⟩ := hL.ex
    have hz : W.z.length = W.n := join_len O.R
    have hn := O.n30
    refine ⟨⟨_, rfl⟩, _, rfl, "", ra, W.rows, rfl, rfl, .inl (SqL.of hra), join_fit O, ?_⟩
    walk_at "rd"
    refine And.intro (z_fit O) ?_
    refine ⟨_, rfl, by show -(2 ^ 62) ≤ ((W.z.length : Nat) : Int); omega, by show ((W.z.length : Nat) : Int) < 2 ^ 62; omega, ?_⟩
    rw [show (((Txt.join "" W.rows).length : Nat) : Int).toNat = W.z.length from Int.toNat_natCast _]
    refine fun D hD => lc_it walk_range (fun i H' => H' D = some (.lst ((placesL W.z 111 i).map V.int)) ∧ Off (fun b => b = D) H H') ⟨upd_same, Off.new hD⟩ (fun _ _ _ _ => trivial) ?_ ?_
    · rintro i y H1 H2 hi ⟨hacc, off⟩ ⟨rfl, rfl⟩
      have hi2 : i < W.z.length := hi
      have e0 : (0 : Int) + (i : Int) = (i : Int) := by omega
      have hmk : mark W.z (i : Int) = W.z.cps[i]'hi := by
        have : i < W.z.cps.size := hi
        unfold mark
        rw [Int.toNat_natCast]
        simp only [Array.getD, this, dif_pos]
        rfl
      have hci : W.z.cps[i]? = some (mark W.z (i : Int)) := by rw [hmk]; exact Array.getElem?_eq_getElem hi
      refine And.intro rfl ?_
      refine ⟨_, rfl, _, rfl, W.z, 0 + (i : Int), mark W.z (i : Int), rfl, rfl, z_fit O, by rw [e0]; exact mark_at (by omega) (by omega) O.R, ?_⟩
      refine ⟨(rfl : scal _ _ = true), _, rfl, ?_⟩
      by_cases h1 : mark W.z (i : Int) = 111
      · refine iteT' ((sg (by decide +kernel)).mpr h1) ⟨_, rfl, _, hacc, sz ?_, ?_, off.trans (Off.mut rfl)⟩
        · rw [List.length_map]
          have := placesL_le W.z 111 i
          omega
        · rw [upd_same, placesL_yes (by rw [hci, h1]), List.map_append]
          show _ = some (HO.lst (_ ++ [V.int (i : Int)]))
          rw [← e0]
      · refine iteF' (fun z => h1 ((sg (by decide +kernel)).mp z)) ?_
        rw [placesL_no (by rw [hci]; simpa using h1)]
        exact ⟨hacc, off⟩
    rintro H1 ⟨hacc, off⟩
    have s1 : Same H H1 := fun b o e => off b o (ne_of_none e hD) e
    refine ⟨D, _, rfl, .inl ⟨SqL.of hacc, fun t2 ht2 => ?_⟩⟩
    have s2 : Same H1 (upd H1 t2 (.tup ((placesL W.z 111 W.z.length).map V.int))) := same_new ht2
    have e2 : upd H1 t2 (.tup ((placesL W.z 111 W.z.length).map V.int)) t2 = some (.tup ((placesL W.z 111 W.z.length).map V.int)) := upd_same
    generalize upd H1 t2 (.tup ((placesL W.z 111 W.z.length).map V.int)) = H2 at s2 e2 ⊢
    refine ⟨_, rfl, ⟨_, rfl⟩, W.z, 64, rfl, by rw [at_sign], there_at hw, ?_⟩
    refine ⟨_, rfl, And.intro (Nat.zero_le _) fun t3 H3 n3 => And.intro (Nat.zero_le _) fun t4 H4 n4 => ⟨_, rfl, And.intro (Nat.le_of_ble_eq_true rfl) fun t5 H5 n5 => ?_⟩⟩
    have s35 : Same H2 H5 := (n3.same.trans n4.same).trans n5.same
    refine k _ H5 ((s1.trans s2).trans s35) ⟨t5, t2, t3, t4, b, rfl, ?_, s35 _ _ e2, n5.same _ _ (n4.same _ _ n3.at_), n5.same _ _ n4.at_, s35 _ _ (s2 _ _ (s1 _ _ hb))⟩
    rw [n5.at_]
    show _ = some (HO.tup [V.int (Txt.find W.z "@"), V.ref t2, V.ref t3, V.ref t4, V.ref b])
    rw [at_sign]
end
end K11
end
section
set_option Elab.async false
set_option linter.all false
set_option maxRecDepth 100000
set_option maxHeartbeats 2000000
namespace K11
open PySem L2
local macro_rules | `(tactic| walk_at "hp") => `(tactic| first | assumption | exact upd_same | (refine (upd_ne (by first | assumption | (apply Ne.symm; assumption))).trans ?_; walk_at "hp"))
local macro_rules | `(tactic| walk_at "rd1") => `(tactic| first
  | (refine ⟨_, rfl, ?_⟩)
  | (refine ⟨_, _, rfl, rfl, ?_⟩)
  | (refine ⟨(rfl : scal _ _ = true), ?_⟩)
  | (refine And.intro (by show (0 : Int) < _; decide) ?_)
  | (refine And.intro (And.intro (by decide) (by decide)) ?_)
  | (refine And.intro (Or.inr (And.intro (by decide) (by decide))) ?_)
  | (refine And.intro (And.intro (by decide) (And.intro (by decide) (by decide))) ?_)
  | (refine And.intro (by assumption) ?_)
  | (refine And.intro (And.intro (by omega) (by omega)) ?_)
  | (refine And.intro (Or.inl (And.intro (by omega) (by omega))) ?_)
  | (refine' ⟨_, _, _, _, rfl, rfl, Or.inl (Or.inl ?h1), ?h2, ?h3⟩; (case h1 => walk_at "hp"); (case h2 => rfl))
  | (refine' ⟨_, _, _, _, rfl, rfl, ?h1, ?h2, ?h3⟩; (case h1 => walk_at "hp"); (case h2 => rfl))
  | (refine' ⟨_, _, rfl, Or.inl (Or.inl (Or.inl ?h1)), ?h3⟩; (case h1 => walk_at "hp"))
  | (refine Or.inl ⟨_, rfl, ?_⟩))
local macro_rules | `(tactic| walk_at "rd") => `(tactic| repeat walk_at "rd1")


theorem Ok.visit {W : Wld} {s : Sta} (Ks : Ok W s) {x a b : Int} (h1 : 1 ≤ x) (h2 : x ≤ 2) (hn : x ∉ s.us) (a0 : 0 ≤ a) (a1 : a ≤ W.cap) (b0 : 0 ≤ b) (b1 : b ≤ W.cap) : Ok W { s with us := withOne s.us x, ba := a, bb := b } :=
  ⟨Ks.at0, Ks.at1, Ks.cr0, Ks.cr1, Ks.crl, Ks.crn, Ks.go0, Ks.go1, Ks.gom, Ks.gon, fun c hc => by
    rcases mem_withOne.mp hc with e | rfl
    · exact Ks.us0 c e
    · exact ⟨h1, h2⟩, withOne_nodup Ks.usn hn, a0, a1, b0, b1⟩
section
variable {P : Program} {w : World} {K : PySem.W.Frag} {mg : Str → Option Value} {base : Heap}
def spVis (K : PySem.W.Frag) : Sp := fun vs H Q _ => ∃ (l p : Addr) (W : Wld) (s : Sta) (rw_ ru sv : V), vs = [.ref p, rw_, ru, sv] ∧ PoolAt K H l p ∧ rw_ ≠ .ref p ∧ WOk W ∧ LRows H rw_ W ∧ LRules H ru W ∧ StaAt H sv s ∧ Ok W s ∧
  ∀ v' s' H', Off (fun b => b = p) H H' → PoolAt K H' l p → StaAt H' v' s' → Ok W s' → Q v' H'
theorem ok_vis {f : Addr} {fd : FuncData} (F : Fun K "_law_visited" "_law_visited" s__law_visited f fd) (T : LawT mg) (c__law_draw : CalG P w K mg base 1 "_law_draw" (spDraw K)) (c__law_with : CalG P w K mg base 1 "_law_with" spLWith) (c__law_bag : CalG P w K mg base 2 "_law_bag" (spBag K)) :
    FnG P w K mg base (CXe P w) 3 f fd ["pool", "rows", "rules", "state"] (spVis K) := by
  refine F.okG sc__law_visited (fun vs H Q E h => ?_) (fun cdv A outer s H vs Q E hgd hr h => ?_)
  · obtain ⟨l, p, W, st, rw_, ru, sv, rfl, _⟩ := h; rfl
  · obtain ⟨l, p, W, st, rw_, ru, sv, rfl, hp, hne, O, hL, hru, hst, Ks, k⟩ := h
    refine ⟨_, (pss_cons (ps_set (i := 4) sc__law_visited.nd rfl (Or.inl rfl) (pe_m1 PySem.F.slot_str_join PySem.F.type_str_join mt_join pe_str (pv 1)))
      (pss_cons (ps_if (PW.pt (pw_or (pt_cmpR op_notIn_sign (pe_ix ix_str (pv 4) (pe_ix ix_tup (pv 3) pe_int (fun _ _ => rfl)) (fun _ _ => rfl)) pe_str (by rfl)) (pw_or (pt_cmpR op_in_seq (pe_callTy call_int_str (by rfl) T.n_int (by decide +kernel) (pa_cons (pe_ix ix_str (pv 4) (pe_ix ix_tup (pv 3) pe_int (fun _ _ => rfl)) (fun _ _ => rfl)) pa_nil)) (pe_ix ix_tup (pv 3) pe_int (fun _ _ => rfl)) (by rfl)) (pw_or1 (pt_cmpR op_gt (pg_c c__law_draw hgd hr (by decide) (pa_cons (pv 0) (pa_cons pe_int pa_nil))) pe_int (nomark _)))))) (pss_one (ps_ret (pv 3))) pss_nil)
      (pss_one (ps_ret (pe_op op_catU (pe_slice sl_tupU (pv 3) po_none (po_some pe_int)) (pe_tupA (pa_cons (pg_c c__law_with hgd hr (by decide) (pa_cons (pe_ix ix_tup (pv 3) pe_int (fun _ _ => rfl)) (pa_cons (pe_callTy call_int_str (by rfl) T.n_int (by decide +kernel) (pa_cons (pe_ix ix_str (pv 4) (pe_ix ix_tup (pv 3) pe_int (fun _ _ => rfl)) (fun _ _ => rfl)) pa_nil)) pa_nil))) (pa_cons (pg_c c__law_bag hgd hr (by decide) (pa_cons (pv 0) (pa_cons (pv 2) pa_nil))) pa_nil)))))))), ?_⟩
    obtain ⟨a, c, g, u, b, rfl, ha, hc, hg, hu, hb⟩ := id hst
    obtain ⟨ra, rfl, hra⟩ := id hL.ex
    have at0 : atI [V.int st.at_, V.ref c, V.ref g, V.ref u, V.ref b] 0 = some (V.int st.at_) := atI_nat (xs := [V.int st.at_, V.ref c, V.ref g, V.ref u, V.ref b]) (j := 0) rfl
    have at3 : atI [V.int st.at_, V.ref c, V.ref g, V.ref u, V.ref b] 3 = some (V.ref u) := atI_nat (xs := [V.int st.at_, V.ref c, V.ref g, V.ref u, V.ref b]) (j := 3) rfl
    refine ⟨⟨_, rfl⟩, _, rfl, "", ra, W.rows, rfl, rfl, .inl (SqL.of hra), join_fit O, ?_⟩
    have ma_ := mark_at Ks.at0 Ks.at1 O.R
    have same : ∀ H', Off (fun b => b = p) H H' → PoolAt K H' l p → Q (.ref a) H' := fun H' o hp' => k _ st H' o hp' (hst.ts (TS.of_off hp o)) Ks
    refine ⟨_, rfl, _, rfl, a, _, 0, .int st.at_, rfl, rfl, SqT.of ha, at0, W.z, st.at_, mark W.z st.at_, rfl, rfl, z_fit O, ma_, mark W.z st.at_, "12", rfl, rfl, _, rfl, ?_⟩
    have e12 : ("12" : Str).cps.toList = [49, 50] := by decide +kernel
    by_cases hin : mark W.z st.at_ ∈ ("12" : Str).cps.toList
    case neg => exact iteT' (by simpa using hin) (iteT ⟨_, rfl, same H (Off.refl _) hp⟩)
    refine iteF' (by simpa using hin) ?_
    obtain ⟨x, hx, x1, x2, xl⟩ : ∃ x : Int, PySem.intText? ⟨#[mark W.z st.at_]⟩ = some x ∧ 1 ≤ x ∧ x ≤ 2 ∧ (⟨#[mark W.z st.at_]⟩ : Str).length ≤ 640 := by
      rw [e12] at hin
      simp only [List.mem_cons, List.not_mem_nil, or_false] at hin
      rcases hin with e | e
      · rw [e]; exact ⟨1, by decide +kernel, by decide, by decide, by decide +kernel⟩
      · rw [e]; exact ⟨2, by decide +kernel, by decide, by decide, by decide +kernel⟩
    refine ⟨_, rfl, _, rfl, a, _, 0, .int st.at_, rfl, rfl, SqT.of ha, at0, W.z, st.at_, mark W.z st.at_, rfl, rfl, z_fit O, ma_, _, x, rfl, hx, xl, ?_⟩
    refine ⟨_, rfl, a, _, 3, .ref u, rfl, rfl, SqT.of ha, at3, u, _, rfl, .inr (SqT.of hu), rfl, flat_ints _, _, rfl, ?_⟩
    rw [inV_ints]
    by_cases hus : x ∈ st.us
    · exact iteT' (decide_eq_true hus) (iteT ⟨_, rfl, same H (Off.refl _) hp⟩)
    refine iteF' (by simp [hus]) ?_
    refine ⟨_, rfl, l, p, 3, rfl, hp, by decide, by decide, fun r2 H2 a2 b2 o2 hp2 => ?_⟩
    walk_at "rd"
    refine ite2 (fun _ => ⟨_, rfl, same H2 o2 hp2⟩) (fun _ => ?_)
    have t2 := TS.of_off hp o2
    have ha2 := t2.tup ha
    walk_at "rd"
    refine ⟨a, _, rfl, ha2, fun t3 H3 s3 ht3 _ => ?_⟩
    have hcut : cutV [V.int st.at_, V.ref c, V.ref g, V.ref u, V.ref b] none (some 3) = [V.int st.at_, V.ref c, V.ref g] := rfl
    rw [hcut] at ht3
    have ha3 := s3 _ _ ha2
    have hu3 := s3 _ _ (t2.tup hu)
    refine ⟨_, rfl, a, _, 3, .ref u, rfl, rfl, SqT.of ha3, at3, ?_⟩
    refine ⟨_, rfl, _, rfl, a, _, 0, .int st.at_, rfl, rfl, SqT.of ha3, at0, W.z, st.at_, mark W.z st.at_, rfl, rfl, z_fit O, ma_, _, x, rfl, hx, xl, ?_⟩
    refine ⟨u, st.us, x, rfl, hu3, Nat.le_trans Ks.usl (by decide), fun t4 H4 s4 ht4 _ => ?_⟩
    have hp4 := (hp2.same s3).same s4
    have t24 : TS H2 H4 := (TS.of_same s3).trans (TS.of_same s4)
    have hru4 : LRules H4 ru W := by
      obtain ⟨rb, e, hrb⟩ := hru.ex
      exact ⟨rb, e, (t2.trans t24).tup hrb⟩
    refine ⟨_, rfl, _, rfl, l, p, ru, W, rfl, hp4, hru4, O, fun t5 H5 x5 y5 o5 hp5 q1 q2 q3 q4 ht5 => ?_⟩
    refine And.intro (Nat.le_of_ble_eq_true rfl) fun t6 H6 n6 => ?_
    have t46 : TS H4 H6 := (TS.of_off hp4 o5).trans (TS.of_same n6.same)
    refine ⟨t3, t6, _, _, rfl, rfl, t46.tup (s4 _ _ ht3), n6.at_, Nat.le_of_ble_eq_true rfl, fun t7 H7 s7 ht7 _ => ?_⟩
    have t47 := t46.trans (TS.of_same s7)
    have t07 := (t2.trans t24).trans t47
    refine k _ { st with us := withOne st.us x, ba := x5, bb := y5 } H7 ?_ ((hp5.same n6.same).same s7) ⟨t7, c, g, t4, t5, rfl, ht7, t07.tup hc, t07.tup hg, t47.tup ht4, s7 _ _ (n6.same _ _ ht5)⟩ (Ks.visit x1 x2 hus q1 q2 q3 q4)
    exact (((o2.trans (Off.same s3)).trans (Off.same s4)).trans o5).trans (n6.off.trans (Off.same s7))
end
end K11
end
section
set_option Elab.async false
set_option linter.all false
set_option maxRecDepth 100000
set_option maxHeartbeats 2000000
namespace K11
open PySem L2
local macro_rules | `(tactic| walk_at "hp") => `(tactic| first | assumption | exact upd_same | (refine (upd_ne (by first | assumption | (apply Ne.symm; assumption))).trans ?_; walk_at "hp"))
local macro_rules | `(tactic| walk_at "rd1") => `(tactic| first
  | (refine ⟨_, rfl, ?_⟩)
  | (refine ⟨_, _, rfl, rfl, ?_⟩)
  | (refine ⟨(rfl : scal _ _ = true), ?_⟩)
  | (refine And.intro (by show (0 : Int) < _; decide) ?_)
  | (refine And.intro (And.intro (by decide) (by decide)) ?_)
  | (refine And.intro (Or.inr (And.intro (by decide) (by decide))) ?_)
  | (refine And.intro (And.intro (by decide) (And.intro (by decide) (by decide))) ?_)
  | (refine And.intro (by assumption) ?_)
  | (refine And.intro (And.intro (by omega) (by omega)) ?_)
  | (refine And.intro (Or.inl (And.intro (by omega) (by omega))) ?_)
  | (refine' ⟨_, _, _, _, rfl, rfl, Or.inl (Or.inl ?h1), ?h2, ?h3⟩; (case h1 => walk_at "hp"); (case h2 => rfl))
  | (refine' ⟨_, _, _, _, rfl, rfl, ?h1, ?h2, ?h3⟩; (case h1 => walk_at "hp"); (case h2 => rfl))
  | (refine' ⟨_, _, rfl, Or.inl (Or.inl (Or.inl ?h1)), ?h3⟩; (case h1 => walk_at "hp"))
  | (refine Or.inl ⟨_, rfl, ?_⟩))
local macro_rules | `(tactic| walk_at "rd") => `(tactic| repeat walk_at "rd1")


section
variable {P : Program} {w : World} {K : PySem.W.Frag} {mg : Str → Option Value} {base : Heap} {C CB fB : Addr}
theorem make_room {H : Hp} {Q : VK} {E : XK} {x dx a : Addr} {rows : List Str} {wd : Nat} (nx : H x = none) (ndx : H dx = none) (ha : H a = some (.lst (rows.map V.str)) ∨ H a = some (.tup (rows.map V.str))) (R : RowsOk rows wd)
    (hl : ∀ r ∈ rows, lineS r = true) (hw : wholeZ (Txt.join "" rows) = true) (k : ∀ H1, Same H H1 → RoomAt C H1 x rows wd → Q .non H1) :
    spRoomInit K C CB [.ref x, .ref a] (upd (upd H dx (.own x)) x (.ins C dx [])) Q E := by
  have s1 : Same H (upd (upd H dx (.own x)) x (.ins C dx [])) := fun b o e => by
    rw [upd_ne (ne_of_none e nx), upd_ne (ne_of_none e ndx)]
    exact e
  refine ⟨x, dx, .ref a, fun _ => False, rfl, upd_same, .inr ⟨a, rows.map V.str, rfl, ha.imp (s1 _ _) (s1 _ _), fun y hy => ?_, fun i hi => ?_, fun rows' wd' e' R' hl' => ⟨fun hw' => ?_, fun H1 q keep => ?_⟩⟩⟩
  · obtain ⟨r, hr, rfl⟩ := List.mem_map.mp hy
    exact ⟨⟨true, _, .str r⟩, fun z ez => by
      cases ez
      rw [R.al r hr]
      exact Nat.le_trans R.w6 (by decide +kernel)⟩
  · rw [rowsFault_none R hl] at hi
    cases hi
  · have er : rows = rows' := by
      have := congrArg (List.map strOf) e'
      rwa [strOf_map, strOf_map] at this
    subst er
    rw [hw] at hw'
    cases hw'
  · have er : rows = rows' := by
      have := congrArg (List.map strOf) e'
      rwa [strOf_map, strOf_map] at this
    subst er
    have ew : wd' = wd := by
      have h1 := R.h1
      cases rows with
      | nil => simp at h1
      | cons r t => exact (R'.al r (List.mem_cons_self ..)).symm.trans (R.al r (List.mem_cons_self ..))
    subst ew
    exact k H1 (fun b o e => keep b o (s1 _ _ e) (ne_of_none e nx)) q
end
def spLaw (K : PySem.W.Frag) : Sp := fun vs H Q _ => ∃ (a : Addr) (ns : List Int), vs = [.ref a] ∧ SqL K H a (ns.map V.int) ∧ ns.length ≤ 63 ∧ ∀ H', Q (.bl true) H'
theorem Off.ofSame {M : Addr → Prop} {H H' : Hp} (s : Same H H') : Off M H H' := fun b o _ e => s b o e
/-- what is kept while the law draws: room, book, rows, rules -/
structure Scene (K : PySem.W.Frag) (CR CL : Addr) (H : Hp) (l p x r : Addr) (rw_ ru : V) (W : Wld) : Prop where
  O : WOk W
  whole : wholeZ W.z = true
  pool : PoolAt K H l p
  ne : rw_ ≠ .ref p
  R : RoomAt CR H x W.rows W.wd
  B : RulesIs CL H r W
  L : LRows H rw_ W
  U : LRules H ru W
section
variable {K : PySem.W.Frag} {CR CL : Addr} {H H' : Hp} {l p x r : Addr} {rw_ ru : V} {W : Wld}
theorem Scene.off (S : Scene K CR CL H l p x r rw_ ru W) (o : Off (fun b => b = p) H H') (hp : PoolAt K H' l p) : Scene K CR CL H' l p x r rw_ ru W := by
  have t := TS.of_off S.pool o
  refine ⟨S.O, S.whole, hp, S.ne, S.R.ts' t, S.B.ts t, ?_, ?_⟩
  · obtain ⟨a, e, ha⟩ := S.L.ex
    exact ⟨a, e, o _ _ (fun q => S.ne (by rw [e, q])) ha⟩
  · obtain ⟨a, e, ha⟩ := S.U.ex
    exact ⟨a, e, t.tup ha⟩
theorem Scene.same (S : Scene K CR CL H l p x r rw_ ru W) (s : Same H H') : Scene K CR CL H' l p x r rw_ ru W := S.off (Off.same s) (S.pool.same s)
end
theorem PairsAt.get {H : Hp} : ∀ {vs : List V} {ps : List (Str × Sta)} {i : Nat} {v : V}, PairsAt H vs ps → vs[i]? = some v → ∃ q ∈ ps, ∃ t sv, v = .ref t ∧ H t = some (.tup [.str q.1, sv]) ∧ StaAt H sv q.2
  | v :: vs, q :: ps, 0, _, ⟨⟨t, sv, e, h1, h2⟩, r⟩, h => by
    cases h
    exact ⟨q, List.mem_cons_self .., t, sv, e, h1, h2⟩
  | v :: vs, q :: ps, i + 1, _, ⟨_, r⟩, h => by
    obtain ⟨q', hm, rest⟩ := PairsAt.get (i := i) r h
    exact ⟨q', List.mem_cons_of_mem _ hm, rest⟩
theorem odd_no : ∀ q ∈ oddDs, noLetter q.2 := by
  intro q hq
  have z1 : ("" : Str).length ≤ sizeLine ∧ (("" : Str).length ≠ 1) := by decide +kernel
  have z2 : ("a" : Str).length ≤ sizeLine := by decide +kernel
  have z3 : ("@" : Str).length ≤ sizeLine := by decide +kernel
  have n2 : noLetter (.str "a") := ⟨z2, .inr ⟨97, by decide +kernel, by decide +kernel⟩⟩
  have n3 : noLetter (.str "@") := ⟨z3, .inr ⟨64, by decide +kernel, by decide +kernel⟩⟩
  simp only [oddDs, List.mem_cons, List.not_mem_nil, or_false] at hq
  rcases hq with rfl | rfl | rfl | rfl | rfl | rfl | rfl | rfl | rfl | rfl | rfl | rfl | rfl | rfl | rfl | rfl | rfl | rfl | rfl <;> first | exact trivial | exact ⟨z1.1, .inl z1.2⟩ | exact n2 | exact n3
theorem uu_no : noLetter (.str "uu") := ⟨by decide +kernel, .inl (by decide +kernel)⟩
end K11
end
section
set_option Elab.async false
set_option linter.all false
set_option maxRecDepth 100000
set_option maxHeartbeats 2000000
namespace K11
open PySem L2
local macro_rules | `(tactic| walk_at "hp") => `(tactic| first | assumption | exact upd_same | (refine (upd_ne (by first | assumption | (apply Ne.symm; assumption))).trans ?_; walk_at "hp"))
local macro_rules | `(tactic| walk_at "rd1") => `(tactic| first
  | (refine ⟨_, rfl, ?_⟩)
  | (refine ⟨_, _, rfl, rfl, ?_⟩)
  | (refine ⟨(rfl : scal _ _ = true), ?_⟩)
  | (refine And.intro (by show (0 : Int) < _; decide) ?_)
  | (refine And.intro (And.intro (by decide) (by decide)) ?_)
  | (refine And.intro (Or.inr (And.intro (by decide) (by decide))) ?_)
  | (refine And.intro (And.intro (by decide) (And.intro (by decide) (by decide))) ?_)
  | (refine And.intro (by assumption) ?_)
  | (refine And.intro (And.intro (by omega) (by omega)) ?_)
  | (refine And.intro (Or.inl (And.intro (by omega) (by omega))) ?_)
  | (refine' ⟨_, _, _, _, rfl, rfl, Or.inl (Or.inl ?h1), ?h2, ?h3⟩; (case h1 => walk_at "hp"); (case h2 => rfl))
  | (refine' ⟨_, _, _, _, rfl, rfl, ?h1, ?h2, ?h3⟩; (case h1 => walk_at "hp"); (case h2 => rfl))
  | (refine' ⟨_, _, rfl, Or.inl (Or.inl (Or.inl ?h1)), ?h3⟩; (case h1 => walk_at "hp"))
  | (refine Or.inl ⟨_, rfl, ?_⟩))
local macro_rules | `(tactic| walk_at "rd") => `(tactic| repeat walk_at "rd1")


theorem fnd4 {K : PySem.W.Frag} {a : Addr} {es : Array DictEntry} {n : Nat} {h1 h2 h3 h4 : Int} {k1 k2 k3 k4 : Str} {t1 t2 t3 t4 : Tok} {v1 v2 v3 v4 : Value} (l : K.lookup a = some ⟨.type "dict", none, .dict es n, #[]⟩)
    (he : es.toList = [⟨h1, .str k1 t1, v1⟩, ⟨h2, .str k2 t2, v2⟩, ⟨h3, .str k3 t3, v3⟩, ⟨h4, .str k4 t4, v4⟩]) (z : Str) :
    PySem.W.nsIn K a z = some (if z = k1 then some v1 else if z = k2 then some v2 else if z = k3 then some v3 else if z = k4 then some v4 else none) := by
  unfold PySem.W.nsIn
  rw [l]
  dsimp only
  rw [he]
  have e : ∀ (a : Str) (t : Tok), (Value.str a t).isStr z = decide (z = a) := fun a t => by
    show (a == z) = _
    by_cases q : z = a
    · simp [q]
    · have : ¬ a = z := fun h => q h.symm
      simp [q, this]
  by_cases q1 : z = k1
  · subst q1
    simp [List.find?, e, DictEntry.refKey]
  by_cases q2 : z = k2
  · simp [List.find?, e, q1, q2, DictEntry.refKey]
    try simp_all
  by_cases q3 : z = k3
  · simp [List.find?, e, q1, q2, q3, DictEntry.refKey]
    try simp_all
  by_cases q4 : z = k4
  · simp [List.find?, e, q1, q2, q3, q4, DictEntry.refKey]
    try simp_all
  simp [List.find?, e, q1, q2, q3, q4, DictEntry.refKey]
theorem bk_mk {w : World} {K : PySem.W.Frag} {a : Addr} {es : Array DictEntry} {n : Nat} {h1 h2 h3 h4 : Int} {t1 t2 t3 t4 u1 u2 u3 u4 : Tok} (l : K.lookup a = some ⟨.type "dict", none, .dict es n, #[]⟩) (lit : PySem.W.KeysLit w.params es.toList) (low : (a == sysModules) = false)
    (he : es.toList = [⟨h1, .str "u" t1, .str "d" u1⟩, ⟨h2, .str "d" t2, .str "u" u2⟩, ⟨h3, .str "l" t3, .str "r" u3⟩, ⟨h4, .str "r" t4, .str "l" u4⟩]) : ∀ v : Way, ∃ u, KD K w a v.sign (some u) ∧ RelV (.str v.back.sign) u := by
  have f := fnd4 l he
  intro v
  cases v with
  | u => exact ⟨_, ⟨_, _, l, lit, low, (f "u").trans (by rw [if_pos rfl]; rfl)⟩, u1, rfl⟩
  | d => exact ⟨_, ⟨_, _, l, lit, low, (f "d").trans (by rw [if_neg (by decide +kernel), if_pos rfl]; rfl)⟩, u2, rfl⟩
  | l => exact ⟨_, ⟨_, _, l, lit, low, (f "l").trans (by rw [if_neg (by decide +kernel), if_neg (by decide +kernel), if_pos rfl]; rfl)⟩, u3, rfl⟩
  | r => exact ⟨_, ⟨_, _, l, lit, low, (f "r").trans (by rw [if_neg (by decide +kernel), if_neg (by decide +kernel), if_neg (by decide +kernel), if_pos rfl]; rfl)⟩, u4, rfl⟩
theorem ow_mk {w : World} {K : PySem.W.Frag} {a : Addr} {es : Array DictEntry} {n : Nat} {h1 h2 h3 h4 : Int} {t1 t2 t3 t4 u1 u2 u3 u4 : Tok} (l : K.lookup a = some ⟨.type "dict", none, .dict es n, #[]⟩) (lit : PySem.W.KeysLit w.params es.toList) (low : (a == sysModules) = false)
    (he : es.toList = [⟨h1, .str "^" t1, .str "u" u1⟩, ⟨h2, .str "v" t2, .str "d" u2⟩, ⟨h3, .str "<" t3, .str "l" u3⟩, ⟨h4, .str ">" t4, .str "r" u4⟩]) :
    ∀ m : Nat, ∃ r, KD K w a ⟨#[m]⟩ r ∧ (oneWay m = none → r = none) ∧ ∀ v, oneWay m = some v → ∃ u, r = some u ∧ RelV (.str v.sign) u := by
  have f := fnd4 l he
  intro m
  refine ⟨_, ⟨_, _, l, lit, low, f ⟨#[m]⟩⟩, ?_⟩
  have q : ∀ (z : Str) (c : Nat), z = ⟨#[c]⟩ → (((⟨#[m]⟩ : Str) = z) ↔ m = c) := fun z c hz => by rw [hz]; simp
  have q1 := q "^" 94 (by decide +kernel)
  have q2 := q "v" 118 (by decide +kernel)
  have q3 := q "<" 60 (by decide +kernel)
  have q4 := q ">" 62 (by decide +kernel)
  unfold oneWay
  by_cases e1 : m = 94
  · rw [if_pos (q1.mpr e1), if_pos e1]
    exact ⟨fun z => (by cases z), fun v z => (by cases z; exact ⟨_, rfl, u1, rfl⟩)⟩
  rw [if_neg (fun z => e1 (q1.mp z)), if_neg e1]
  by_cases e2 : m = 118
  · rw [if_pos (q2.mpr e2), if_pos e2]
    exact ⟨fun z => (by cases z), fun v z => (by cases z; exact ⟨_, rfl, u2, rfl⟩)⟩
  rw [if_neg (fun z => e2 (q2.mp z)), if_neg e2]
  by_cases e3 : m = 60
  · rw [if_pos (q3.mpr e3), if_pos e3]
    exact ⟨fun z => (by cases z), fun v z => (by cases z; exact ⟨_, rfl, u3, rfl⟩)⟩
  rw [if_neg (fun z => e3 (q3.mp z)), if_neg e3]
  by_cases e4 : m = 62
  · rw [if_pos (q4.mpr e4), if_pos e4]
    exact ⟨fun z => (by cases z), fun v z => (by cases z; exact ⟨_, rfl, u4, rfl⟩)⟩
  rw [if_neg (fun z => e4 (q4.mp z)), if_neg e4]
  exact ⟨fun _ => rfl, fun v z => (by cases z)⟩
end K11
end
section
set_option Elab.async false
set_option linter.all false
set_option maxRecDepth 100000
set_option maxHeartbeats 2000000
namespace K11
open PySem L2
local macro_rules | `(tactic| walk_at "hp") => `(tactic| first | assumption | exact upd_same | (refine (upd_ne (by first | assumption | (apply Ne.symm; assumption))).trans ?_; walk_at "hp"))
local macro_rules | `(tactic| walk_at "rd1") => `(tactic| first
  | (refine ⟨_, rfl, ?_⟩)
  | (refine ⟨_, _, rfl, rfl, ?_⟩)
  | (refine ⟨(rfl : scal _ _ = true), ?_⟩)
  | (refine And.intro (by show (0 : Int) < _; decide) ?_)
  | (refine And.intro (And.intro (by decide) (by decide)) ?_)
  | (refine And.intro (Or.inr (And.intro (by decide) (by decide))) ?_)
  | (refine And.intro (And.intro (by decide) (And.intro (by decide) (by decide))) ?_)
  | (refine And.intro (by assumption) ?_)
  | (refine And.intro (And.intro (by omega) (by omega)) ?_)
  | (refine And.intro (Or.inl (And.intro (by omega) (by omega))) ?_)
  | (refine' ⟨_, _, _, _, rfl, rfl, Or.inl (Or.inl ?h1), ?h2, ?h3⟩; (case h1 => walk_at "hp"); (case h2 => rfl))
  | (refine' ⟨_, _, _, _, rfl, rfl, ?h1, ?h2, ?h3⟩; (case h1 => walk_at "hp"); (case h2 => rfl))
  | (refine' ⟨_, _, rfl, Or.inl (Or.inl (Or.inl ?h1)), ?h3⟩; (case h1 => walk_at "hp"))
  | (refine Or.inl ⟨_, rfl, ?_⟩))
local macro_rules | `(tactic| walk_at "rd") => `(tactic| repeat walk_at "rd1")


/-! # States as the judge takes them -/
def okAt (m : Nat) : Bool := decide (m ∉ [35, 120, 97, 98, 65, 66])
def pits (W : Wld) (go : List Int) : Nat := (go.filter fun c => decide (mark W.z c = 120)).length
structure OkS (W : Wld) (s : Sta) (mo : Int) : Prop where
  ok : Ok W s
  crs : s.cr.Pairwise (· < ·)
  gos : s.go.Pairwise (· < ·)
  uss : s.us.Pairwise (· < ·)
  usm : ∀ c ∈ s.us, c ≤ mo
  cnt : s.cr.length + pits W s.go = (placesL W.z 111 W.z.length).length
  atn : s.at_ ∉ s.cr
  atm : s.at_ ∈ s.go ∨ okAt (mark W.z s.at_) = true
theorem lt_nodup {xs : List Int} (h : xs.Pairwise (· < ·)) : xs.Nodup := h.imp fun a => Int.ne_of_lt a
theorem up_lt {xs : List Int} (h : xs.Pairwise (· ≤ ·)) (n : xs.Nodup) : xs.Pairwise (· < ·) := by
  induction xs with
  | nil => exact .nil
  | cons x r ih =>
    rw [List.pairwise_cons] at h ⊢
    rw [List.nodup_cons] at n
    refine ⟨fun y hy => ?_, ih h.2 n.2⟩
    have a := h.1 y hy
    have b : x ≠ y := fun e => n.1 (e ▸ hy)
    omega
theorem withOne_lt {xs : List Int} {x : Int} (h : xs.Pairwise (· < ·)) (hx : x ∉ xs) : (withOne xs x).Pairwise (· < ·) := up_lt (sortZ_up _) (withOne_nodup (lt_nodup h) hx)
theorem without_lt {xs : List Int} {x : Int} (h : xs.Pairwise (· < ·)) : (without xs x).Pairwise (· < ·) := h.filter _
theorem without_eq : ∀ {xs : List Int} {x : Int}, xs.Nodup → x ∈ xs → (without xs x).length + 1 = xs.length
  | [], _, _, h => by cases h
  | y :: r, x, n, h => by
    rw [List.nodup_cons] at n
    unfold without
    rw [List.filter_cons]
    by_cases e : y = x
    · subst e
      have : (r.filter fun c => decide (c ≠ y)) = r := List.filter_eq_self.mpr fun c hc => by
        have : c ≠ y := fun z => n.1 (z ▸ hc)
        simpa using this
      simp [this]
      exact fun a ha z => n.1 (z ▸ ha)
    · have hm : x ∈ r := by
        rcases List.mem_cons.mp h with q | q
        · exact absurd q.symm e
        · exact q
      have := without_eq n.2 hm
      unfold without at this
      simp [e]
      simpa using this
theorem pits_one (W : Wld) (go : List Int) (b : Int) : pits W (withOne go b) = pits W go + if mark W.z b = 120 then 1 else 0 := by
  unfold pits withOne
  rw [((sortZ_perm (go ++ [b])).filter _).length_eq, List.filter_append, List.length_append]
  by_cases h : mark W.z b = 120 <;> simp [h]
theorem nx_ne {h wd : Nat} (hw : 1 ≤ wd) (w : Way) {i : Int} (h0 : 0 ≤ i) : nx h wd w i ≠ i := by
  unfold nx
  split
  · have e : (i / (wd : Int)) * (wd : Int) + i % (wd : Int) = i := by
      have := Int.mul_ediv_add_emod i wd
      rw [Int.mul_comm] at this
      exact this
    have d : (i / (wd : Int) + w.down) * (wd : Int) = (i / (wd : Int)) * (wd : Int) + w.down * (wd : Int) := Int.add_mul ..
    rw [d]
    cases w with
    | u => simp only [Way.down, Way.across]; omega
    | d => simp only [Way.down, Way.across]; omega
    | l => simp only [Way.down, Way.across]; omega
    | r => simp only [Way.down, Way.across]; omega
  · omega
theorem nb_ne {W : Wld} (O : WOk W) (w : Way) {i : Int} (h0 : 0 ≤ i) : nb W.rows W.wd w i ≠ i := by
  rw [nb_nx O.R w h0]
  split
  · omega
  · exact nx_ne O.R.w1 w h0
theorem nb_wall {W : Wld} (O : WOk W) (w : Way) {i : Int} (h0 : 0 ≤ i) (h : 0 ≤ nb W.rows W.wd w i) : mark W.z (nb W.rows W.wd w i) ≠ 35 := by
  rw [nb_nx O.R w h0] at h ⊢
  split
  · rename_i q
    rw [if_pos q] at h
    omega
  · rename_i q
    exact fun e => q (.inr e)
theorem lies_at {W : Wld} {go : List Int} {c : Int} (h : lies W.z go c = true) : c ∈ go ∨ okAt (mark W.z c) = true := by
  unfold lies at h
  rcases Bool.or_eq_true_iff.mp h with q | q
  · right
    have := of_decide_eq_true q
    rcases this with e | e | e <;> rw [e] <;> decide
  · exact .inl (of_decide_eq_true q)
section
variable {W : Wld} {s : Sta} {w : Way} {mo : Int}
theorem pushed_okS (O : WOk W) (K : OkS W s mo) {goal : Int} {s' : Sta} (hc : goal ∈ s.cr) (h : pushed W s w goal = some s') : OkS W s' mo := by
  have k' := pushed_ok O K.ok hc h
  have lg := lies_at (K.ok.crl _ hc)
  have nd := lt_nodup K.crs
  have we := without_eq nd hc
  unfold pushed at h
  simp only at h
  generalize hb : (if W.strong = true ∧ nb W.rows W.wd w goal ∈ s.cr then nb W.rows W.wd w (nb W.rows W.wd w goal) else nb W.rows W.wd w goal) = b at h
  split at h
  · cases h
  rename_i q
  have bn : b ∉ s.cr := fun z => q (.inr z)
  have bw : b ∉ without s.cr goal := fun z => bn (mem_without.mp z).1
  have bg : goal ≠ b := fun z => bn (z ▸ hc)
  split at h
  · cases h
    refine ⟨k', withOne_lt (without_lt K.crs) bw, K.gos, K.uss, K.usm, ?_, fun z => ?_, lg⟩
    · show (withOne (without s.cr goal) b).length + _ = _
      rw [withOne_len, we]
      exact K.cnt
    · rcases mem_withOne.mp z with z | z
      · exact (mem_without.mp z).2 rfl
      · exact bg z
  · split at h
    · rename_i hl hx
      cases h
      have hn : b ∉ s.go := fun e => hl (by simp [lies, e])
      refine ⟨k', without_lt K.crs, withOne_lt K.gos hn, K.uss, K.usm, ?_, fun z => (mem_without.mp z).2 rfl, ?_⟩
      · show (without s.cr goal).length + pits W (withOne s.go b) = _
        rw [pits_one, if_pos hx]
        have := K.cnt
        omega
      · rcases lg with z | z
        · exact .inl (mem_withOne.mpr (.inl z))
        · exact .inr z
    · cases h
theorem entered_okS (O : WOk W) (K : OkS W s mo) {goal a b : Int} {g : List Int} (hw : mark W.z goal ≠ 35) (h : entered W s goal = some (g, a, b)) :
    g.Pairwise (· < ·) ∧ pits W g = pits W s.go ∧ (goal ∈ g ∨ okAt (mark W.z goal) = true) := by
  unfold entered at h
  split at h
  · rename_i hg; cases h; exact ⟨K.gos, rfl, .inl hg⟩
  rename_i hg
  split at h
  · cases h
  rename_i hx
  split at h
  · rename_i hk
    cases h
    refine ⟨K.gos, rfl, .inr ?_⟩
    have h1 : mark W.z goal ≠ 120 := fun z => hx (.inl z)
    have h2 : ¬ (mark W.z goal = 97 ∨ mark W.z goal = 98 ∨ mark W.z goal = 65 ∨ mark W.z goal = 66) := fun z => by
      have : isKD (mark W.z goal) = true := decide_eq_true z
      rw [hk] at this
      cases this
    simp only [not_or] at h2
    simp [okAt, hw, h1, h2]
  rename_i hk
  split at h
  · cases h
  · rename_i a' b' hb
    cases h
    refine ⟨withOne_lt K.gos hg, ?_, .inl (mem_withOne.mpr (.inr rfl))⟩
    rw [pits_one, if_neg (fun z => hx (.inl z))]
    rfl
theorem moved_okS (O : WOk W) (K : OkS W s mo) {big : Bool} {s' : Sta} (h : moved W s w big = some s') : OkS W s' mo := by
  have k' := moved_ok O K.ok h
  unfold moved at h
  simp only at h
  split at h
  · cases h
  rename_i q
  have hg : 0 ≤ nb W.rows W.wd w s.at_ := by
    by_cases z : nb W.rows W.wd w s.at_ < 0
    · exact absurd (.inl z) q
    · omega
  have hw := nb_wall O w K.ok.at0 hg
  have hne := nb_ne O w K.ok.at0
  split at h
  · rename_i hc
    cases big with
    | true => cases h
    | false => exact pushed_okS O K hc h
  rename_i hc
  split at h
  · cases h
  rename_i g a b he
  obtain ⟨e1, e2, e3⟩ := entered_okS O K hw he
  cases big with
  | false =>
    cases h
    exact ⟨k', K.crs, e1, K.uss, K.usm, by show _ + pits W g = _; rw [e2]; exact K.cnt, hc, e3⟩
  | true =>
    simp only [if_true] at h
    split at h
    · cases h
    rename_i c hp
    cases h
    unfold pulled at hp
    simp only at hp
    split at hp
    · cases hp
    rename_i hq
    cases hp
    have hq1 : nb W.rows W.wd w.back s.at_ ∈ s.cr := by
      by_cases e : nb W.rows W.wd w.back s.at_ ∈ s.cr
      · exact e
      · exact absurd (.inr (.inl e)) hq
    have an : s.at_ ∉ without s.cr (nb W.rows W.wd w.back s.at_) := fun z => K.atn (mem_without.mp z).1
    refine ⟨k', withOne_lt (without_lt K.crs) an, e1, K.uss, K.usm, ?_, fun z => ?_, e3⟩
    · show (withOne _ s.at_).length + pits W g = _
      rw [withOne_len, without_eq (lt_nodup K.crs) hq1, e2]
      exact K.cnt
    · rcases mem_withOne.mp z with z | z
      · exact hc (mem_without.mp z).1
      · exact hne z
theorem OkS.visit (Ks : OkS W s mo) {x a b : Int} (h1 : 1 ≤ x) (h2 : x ≤ 2) (hm : x ≤ mo) (hn : x ∉ s.us) (a0 : 0 ≤ a) (a1 : a ≤ W.cap) (b0 : 0 ≤ b) (b1 : b ≤ W.cap) : OkS W { s with us := withOne s.us x, ba := a, bb := b } mo :=
  ⟨Ks.ok.visit h1 h2 hn a0 a1 b0 b1, Ks.crs, Ks.gos, withOne_lt Ks.uss hn, fun c hc => by
    rcases mem_withOne.mp hc with e | rfl
    · exact Ks.usm c e
    · exact hm, Ks.cnt, Ks.atn, Ks.atm⟩
theorem places_lt (z : Str) (c n : Nat) : (placesL z c n).Pairwise (· < ·) := by
  unfold placesL
  rw [List.pairwise_map]
  exact (List.pairwise_lt_range.filter _).imp fun h => Int.ofNat_lt.mpr h
theorem find_mark {z : Str} {c : Nat} (h : c ∈ z.cps.toList) {n : Nat} (e : Txt.find z ⟨#[c]⟩ = (n : Int)) : mark z (n : Int) = c := by
  have f := PySem.StrLaws.found_one z c
  rw [decide_eq_true h] at f
  cases ho : Builtin.Str.occurrences z ⟨#[c]⟩ 0 z.length 1 with
  | nil => rw [ho] at f; cases f
  | cons i rest =>
    have sp := PySem.StrLaws.occ_spec z ⟨#[c]⟩ 0 z.length 1 i (by rw [ho]; exact List.mem_cons_self ..)
    have ei : Txt.find z ⟨#[c]⟩ = (i : Int) := by
      unfold Txt.find
      rw [ho]
    rw [ei] at e
    have : i = n := by omega
    subst this
    have q := sp.2
    rw [PySem.StrLaws.subAt_eq] at q
    have q := eq_of_beq q
    have l1 : (⟨#[c]⟩ : Str).length = 1 := rfl
    have hl : i < z.cps.size := by
      have h1 := sp.1
      rw [l1] at h1
      exact h1
    have q2 : (List.take 1 (List.drop i z.cps.toList))[0]? = some c := by
      rw [show (1 : Nat) = (⟨#[c]⟩ : Str).length from rfl, q]
      rfl
    rw [List.getElem?_take_of_lt (by omega), List.getElem?_drop, Nat.add_zero, Array.getElem?_toList] at q2
    unfold mark
    rw [Int.toNat_natCast]
    rw [Array.getElem?_eq_getElem hl] at q2
    simp [Array.getD, hl, Option.some.inj q2]
theorem begS_okS (O : WOk W) (hw : wholeZ W.z = true) {ba bb : Int} (a0 : 0 ≤ ba) (a1 : ba ≤ W.cap) (b0 : 0 ≤ bb) (b1 : bb ≤ W.cap) : OkS W (begS W ba bb) mo := by
  obtain ⟨n, e1, e2⟩ := find_there (there_at hw)
  have hm : mark W.z (begS W ba bb).at_ = 64 := by
    show mark W.z (Txt.find W.z "@") = 64
    rw [at_sign, e1]
    exact find_mark (there_at hw) e1
  refine ⟨begS_ok O hw a0 a1 b0 b1, places_lt _ _ _, .nil, .nil, fun c hc => (by cases hc), rfl, fun z => ?_, .inr (by rw [hm]; decide)⟩
  have := (places_mem (show (begS W ba bb).at_ ∈ placesL W.z 111 W.z.length from z)).2.2
  rw [hm] at this
  cases this
end
end K11
end
section
set_option Elab.async false
set_option linter.all false
set_option maxRecDepth 100000
set_option maxHeartbeats 2000000
namespace K11
open PySem L2
local macro_rules | `(tactic| walk_at "hp") => `(tactic| first | assumption | exact upd_same | (refine (upd_ne (by first | assumption | (apply Ne.symm; assumption))).trans ?_; walk_at "hp"))
local macro_rules | `(tactic| walk_at "rd1") => `(tactic| first
  | (refine ⟨_, rfl, ?_⟩)
  | (refine ⟨_, _, rfl, rfl, ?_⟩)
  | (refine ⟨(rfl : scal _ _ = true), ?_⟩)
  | (refine And.intro (by show (0 : Int) < _; decide) ?_)
  | (refine And.intro (And.intro (by decide) (by decide)) ?_)
  | (refine And.intro (Or.inr (And.intro (by decide) (by decide))) ?_)
  | (refine And.intro (And.intro (by decide) (And.intro (by decide) (by decide))) ?_)
  | (refine And.intro (by assumption) ?_)
  | (refine And.intro (And.intro (by omega) (by omega)) ?_)
  | (refine And.intro (Or.inl (And.intro (by omega) (by omega))) ?_)
  | (refine' ⟨_, _, _, _, rfl, rfl, Or.inl (Or.inl ?h1), ?h2, ?h3⟩; (case h1 => walk_at "hp"); (case h2 => rfl))
  | (refine' ⟨_, _, _, _, rfl, rfl, ?h1, ?h2, ?h3⟩; (case h1 => walk_at "hp"); (case h2 => rfl))
  | (refine' ⟨_, _, rfl, Or.inl (Or.inl (Or.inl ?h1)), ?h3⟩; (case h1 => walk_at "hp"))
  | (refine Or.inl ⟨_, rfl, ?_⟩))
local macro_rules | `(tactic| walk_at "rd") => `(tactic| repeat walk_at "rd1")


structure JudT (P : Program) (w : World) (K : PySem.W.Frag) (mg : Str → Option Value) (CR CL aB aO EB EF LB LF GB GF : Addr) : Prop extends StepT P w K mg CR CL aB aO EB EF LB LF where
  r_entry : NoAttr K CR "entry"
  r_crates : NoAttr K CR "crates"
  r_mouths : NoAttr K CR "mouths"
  x_BadBag : RX.ErrT P K mg "BadBag" "value" GB GF
section
variable {P : Program} {w : World} {K : PySem.W.Frag} {mg : Str → Option Value} {base : Heap} {CR CL aB aO EB EF LB LF GB GF : Addr}
theorem tyTup {H : Hp} {a : Addr} {xs : List V} (h : H a = some (.tup xs)) : TyX K H (.ref a) (.type "tuple") := .base (.tup h)
theorem kitTT : PySem.W.kitOne K (.type "tuple") (.type "tuple") = some true := kit_ty (show kitB "tuple" "tuple" = some true by decide +kernel)
theorem tyI {H : Hp} {x : Int} : TyX K H (.int x) (.type "int") := .base (tyN_of (n := "int") rfl)
theorem kII : PySem.W.kitOne K (.type "int") (.type "int") = some true := kit_ty (show kitB "int" "int" = some true by decide +kernel)
theorem kIB : PySem.W.kitOne K (.type "int") (.type "bool") = some false := kit_ty (show kitB "int" "bool" = some false by decide +kernel)
def spAsc : Sp := fun vs H Q _ => ∃ (a : Addr) (xs : List Int) (lo hi : Int), vs = [.ref a, .int lo, .int hi] ∧ H a = some (.tup (xs.map V.int)) ∧ xs.Pairwise (· < ·) ∧ (∀ x ∈ xs, lo ≤ x ∧ x ≤ hi) ∧ Q (.bl true) H
theorem ok_asc {f : Addr} {fd : FuncData} (F : Fun K "is_ascending" "is_ascending" s_is_ascending f fd) (T : Rb mg) (c_is_whole : CalG P w K mg base 1 "is_whole" (spWhole K)) : FnG P w K mg base (CXe P w) 2 f fd ["thing", "least", "most"] spAsc := by
  refine F.okG sc_is_ascending (fun vs H Q E h => ?_) (fun cdv A outer s H vs Q E hgd hr h => ?_)
  · obtain ⟨a, xs, lo, hi, rfl, _⟩ := h; rfl
  · obtain ⟨a, xs, lo, hi, rfl, ha, hp, hb, k⟩ := h
    refine ⟨_, (pss_cons (ps_if (pt_not (pt_val (pe_callB call_isi (by rfl) T.n_isinstance (by decide +kernel) (pa_cons (pv 0) (pa_cons (pe_bltn (v := .ty "tuple") (u := .type "tuple") rfl T.n_tuple (by decide +kernel) rfl) pa_nil))))) (pss_one (ps_ret pe_bl)) pss_nil)
      (pss_cons (ps_set (i := 3) sc_is_ascending.nd rfl (Or.inl rfl) (pv 1))
      (pss_cons (ps_for (passes_of rfl) rfl (pi_tup (pv 0)) (pg_name (i := 4) sc_is_ascending.nd rfl (Or.inl rfl))
      (pss_cons (ps_if (PW.pt (pw_or (pt_not (pt_val (pg_c c_is_whole hgd hr (by decide) (pa_cons (pv 4) pa_nil)))) (pw_or1 (pt_not (pt_chain op_le op_le (pv 3) (pv 4) (pv 2)))))) (pss_one (ps_ret pe_bl)) pss_nil)
      (pss_one (ps_set (i := 3) sc_is_ascending.nd rfl (Or.inl rfl) (pe_op op_add (pv 4) pe_int)))))
      (pss_one (ps_ret pe_bl))))), ?_⟩
    refine ⟨_, rfl, _, _, _, _, _, rfl, .ty _, tyTup ha, kitTT, _, rfl, iteF' (by decide) ?_⟩
    refine ⟨_, rfl, ?_⟩
    refine ⟨_, rfl, a, rfl, ⟨_, SqT.of ha⟩, for_it (walk_tup (xs := xs.map V.int)) (fun i σ H' => (∃ (lw : Int) (o4 : Option V), σ = [some (.ref a), some (.int lo), some (.int hi), some (.int lw), o4] ∧ ∀ x ∈ xs.drop i, lw ≤ x) ∧ H' = H) ⟨⟨lo, none, rfl, fun x hx => (hb x (by simpa using hx)).1⟩, rfl⟩ (fun i σ H' _ q => by rw [q.2]; exact SqT.of ha) ?_ ?_⟩
    · rintro i y σ H1 H2 hi' ⟨⟨lw, o4, rfl, hlw⟩, rfl⟩ ⟨rfl, hy⟩
      rw [List.length_map] at hi'
      cases mapI_get hi' hy
      have hdrop : xs.drop i = xs[i] :: xs.drop (i + 1) := List.drop_eq_getElem_cons hi'
      have hx := hb _ (List.getElem_mem hi')
      have hl := hlw xs[i] (by rw [hdrop]; exact List.mem_cons_self ..)
      refine ⟨_, rfl, _, .type "int", true, false, rfl, tyI, kII, kIB, _, rfl, iteF ?_⟩
      walk_at "rd"
      refine ite2 (fun _ => ?_) (fun z => absurd (decide_eq_true hl) z)
      walk_at "rd"
      refine ite2 (fun z => ?_) (fun _ => ?_)
      · simp [hx.2] at z
      refine ⟨_, rfl, _, _, rfl, rfl, ⟨_, _, rfl, fun x hx' => ?_⟩, rfl⟩
      rw [hdrop] at hlw
      have := List.pairwise_cons.mp (hdrop ▸ hp.drop)
      have := this.1 x hx'
      omega
    · rintro σ H1 ⟨⟨lw, o4, rfl, _⟩, rfl⟩
      exact k
def spBag1 (CL : Addr) : Sp := fun vs H Q _ => ∃ (W : Wld) (r b : Addr) (ba bb : Int), vs = [.ref r, .ref b] ∧ RulesIs CL H r W ∧ H b = some (.tup [.int ba, .int bb]) ∧ 0 ≤ ba ∧ ba ≤ W.cap ∧ 0 ≤ bb ∧ bb ≤ W.cap ∧ Q (.bl true) H
theorem ok_bag1 {f : Addr} {fd : FuncData} (F : Fun K "is_bag" "is_bag" s_is_bag f fd) (T : MovT P w K mg CR CL aB aO) (c_is_whole : CalG P w K mg base 1 "is_whole" (spWhole K)) : FnG P w K mg base (CXe P w) 2 f fd ["rules", "thing"] (spBag1 CL) := by
  refine F.okG sc_is_bag (fun vs H Q E h => ?_) (fun cdv A outer s H vs Q E hgd hr h => ?_)
  · obtain ⟨W, r, b, ba, bb, rfl, _⟩ := h; rfl
  · obtain ⟨W, r, b, ba, bb, rfl, ⟨rdx, hru0⟩, hb, a0, a1, b0, b1, k⟩ := h
    refine ⟨_, (pss_cons (ps_if (PW.pt (pw_or (pt_not (pt_val (pe_callB call_isi (by rfl) T.n_isinstance (by decide +kernel) (pa_cons (pv 1) (pa_cons (pe_bltn (v := .ty "tuple") (u := .type "tuple") rfl T.n_tuple (by decide +kernel) rfl) pa_nil))))) (pw_or1 (pt_cmpR op_ne (pe_callB call_len_seq (by rfl) T.n_len (by decide +kernel) (pa_cons (pv 1) pa_nil)) pe_int (nomark _))))) (pss_one (ps_ret pe_bl)) pss_nil)
      (pss_cons (ps_for (passes_of rfl) rfl (pi_tup (pv 1)) (pg_name (i := 2) sc_is_bag.nd rfl (Or.inl rfl))
      (pss_one (ps_if (PW.pt (pw_or (pt_not (pt_val (pg_c c_is_whole hgd hr (by decide) (pa_cons (pv 2) pa_nil)))) (pw_or1 (pt_not (pt_chain op_le op_le pe_int (pv 2) (pe_fld (pv 0) rfl)))))) (pss_one (ps_ret pe_bl)) pss_nil)))
      (pss_one (ps_ret pe_bl)))), ?_⟩
    refine ⟨_, rfl, _, _, _, _, _, rfl, .ty _, tyTup hb, kitTT, _, rfl, iteF' (by decide) ?_⟩
    refine ⟨_, rfl, b, _, rfl, .inr (SqT.of hb), (rfl : scal _ _ = true), _, rfl, iteF' (by simp) ?_⟩
    refine ⟨_, rfl, b, rfl, ⟨_, SqT.of hb⟩, for_it (walk_tup (xs := [V.int ba, V.int bb])) (fun i σ H' => (∃ (o2 : Option V), σ = [some (.ref r), some (.ref b), o2]) ∧ H' = H) ⟨⟨none, rfl⟩, rfl⟩ (fun i σ H' _ q => by rw [q.2]; exact SqT.of hb) ?_ ?_⟩
    · rintro i y σ H1 H2 hi' ⟨⟨o2, rfl⟩, rfl⟩ ⟨rfl, hy⟩
      obtain ⟨x, rfl, x0, x1⟩ : ∃ x : Int, y = .int x ∧ 0 ≤ x ∧ x ≤ W.cap := by
        have : i = 0 ∨ i = 1 := by have : i < 2 := hi'; omega
        rcases this with rfl | rfl
        · cases hy; exact ⟨ba, rfl, a0, a1⟩
        · cases hy; exact ⟨bb, rfl, b0, b1⟩
      refine ⟨_, rfl, _, .type "int", true, false, rfl, tyI, kII, kIB, _, rfl, iteF ?_⟩
      walk_at "rd"
      refine ite2 (fun _ => ?_) (fun z => absurd (decide_eq_true x0) z)
      refine ⟨_, rfl, r, CL, rdx, _, .int W.cap, rfl, hru0, T.clL, T.l_cap, rfl, _, _, rfl, rfl, _, rfl, ?_⟩
      refine ite2 (fun z => ?_) (fun _ => ?_)
      · simp [x1] at z
      exact ⟨⟨_, rfl⟩, rfl⟩
    · rintro σ H1 ⟨⟨o2, rfl⟩, rfl⟩
      exact k
def spNBag (CL : Addr) : Sp := fun vs H Q _ => ∃ (W : Wld) (r b : Addr) (ba bb : Int), vs = [.ref r, .ref b] ∧ RulesIs CL H r W ∧ H b = some (.tup [.int ba, .int bb]) ∧ 0 ≤ ba ∧ ba ≤ W.cap ∧ 0 ≤ bb ∧ bb ≤ W.cap ∧ Q .non H
theorem ok_nbag {f : Addr} {fd : FuncData} (F : Fun K "need_bag" "need_bag" s_need_bag f fd) (T : JudT P w K mg CR CL aB aO EB EF LB LF GB GF) (c_is_bag : CalG P w K mg base 2 "is_bag" (spBag1 CL)) : FnG P w K mg base (CXe P w) 4 f fd ["rules", "bag"] (spNBag CL) := by
  refine F.okG sc_need_bag (fun vs H Q E h => ?_) (fun cdv A outer s H vs Q E hgd hr h => ?_)
  · obtain ⟨W, r, b, ba, bb, rfl, _⟩ := h; rfl
  · obtain ⟨W, r, b, ba, bb, rfl, hru, hb, a0, a1, b0, b1, k⟩ := h
    refine ⟨_, (pss_one (ps_if (pt_not (pt_val (pg_c c_is_bag hgd hr (by decide) (pa_cons (pv 0) (pa_cons (pv 1) pa_nil))))) (pss_one (ps_raiseErr rfl T.x_BadBag hr (takes_of rfl rfl rfl rfl) (pa_cons (pv 1) pa_nil))) pss_nil)), ?_⟩
    exact ⟨_, rfl, _, rfl, W, r, b, ba, bb, rfl, hru, hb, a0, a1, b0, b1, _, rfl, iteF k⟩
def spFirst (CR : Addr) : Sp := fun vs H Q _ => ∃ (W : Wld) (x b : Addr) (ba bb : Int), vs = [.ref x, .ref b] ∧ RoomAt CR H x W.rows W.wd ∧ H b = some (.tup [.int ba, .int bb]) ∧ ∀ v H', Same H H' → StaAt H' v (begS W ba bb) → Q v H'
theorem ok_first {f : Addr} {fd : FuncData} (F : Fun K "first_state" "first_state" s_first_state f fd) (T : JudT P w K mg CR CL aB aO EB EF LB LF GB GF) : FnG P w K mg base (CXe P w) 1 f fd ["room", "bag"] (spFirst CR) := by
  refine F.okG sc_first_state (fun vs H Q E h => ?_) (fun cdv A outer s H vs Q E hgd hr h => ?_)
  · obtain ⟨W, x, b, ba, bb, rfl, _⟩ := h; rfl
  · obtain ⟨W, x, b, ba, bb, rfl, hR, hb, k⟩ := h
    refine ⟨_, (pss_one (ps_ret (pe_tupA (pa_cons (pe_fld (pv 0) rfl) (pa_cons (pe_fld (pv 0) rfl) (pa_cons (pe_tupA pa_nil) (pa_cons (pe_tupA pa_nil) (pa_cons (pv 1) pa_nil)))))))), ?_⟩
    obtain ⟨dx, t, ct, pt, nd, hx, _, hct, hpt, hnear⟩ := hR.ex
    refine ⟨_, rfl, x, CR, dx, _, _, rfl, hx, T.clR, T.r_entry, rfl, ?_⟩
    refine ⟨_, rfl, x, CR, dx, _, _, rfl, hx, T.clR, T.r_crates, rfl, ?_⟩
    refine And.intro (Nat.zero_le _) fun t3 H3 n3 => And.intro (Nat.zero_le _) fun t4 H4 n4 => ⟨_, rfl, And.intro (Nat.le_of_ble_eq_true rfl) fun t5 H5 n5 => ?_⟩
    have s5 : Same H H5 := (n3.same.trans n4.same).trans n5.same
    exact k _ H5 s5 ⟨t5, ct, t3, t4, b, rfl, n5.at_, s5 _ _ hct, n5.same _ _ (n4.same _ _ n3.at_), n5.same _ _ n4.at_, s5 _ _ hb⟩
def spBegin (CR CL : Addr) : Sp := fun vs H Q _ => ∃ (W : Wld) (x r b : Addr) (ba bb : Int), vs = [.ref x, .ref r, .ref b] ∧ RoomAt CR H x W.rows W.wd ∧ RulesIs CL H r W ∧ H b = some (.tup [.int ba, .int bb]) ∧ 0 ≤ ba ∧ ba ≤ W.cap ∧ 0 ≤ bb ∧ bb ≤ W.cap ∧ ∀ v H', Same H H' → StaAt H' v (begS W ba bb) → Q v H'
theorem ok_begin {f : Addr} {fd : FuncData} (F : Fun K "begin" "begin" s_begin f fd) (T : JudT P w K mg CR CL aB aO EB EF LB LF GB GF) (c_need_room : CalG P w K mg base 3 "need_room" (spNeedC K CR EB)) (c_need_rules : CalG P w K mg base 3 "need_rules" (spNeedC K CL LB)) (c_need_bag : CalG P w K mg base 4 "need_bag" (spNBag CL)) (c_first_state : CalG P w K mg base 1 "first_state" (spFirst CR)) :
    FnG P w K mg base (CXe P w) 5 f fd ["room", "rules", "bag"] (spBegin CR CL) := by
  refine F.okG sc_begin (fun vs H Q E h => ?_) (fun cdv A outer s H vs Q E hgd hr h => ?_)
  · obtain ⟨W, x, r, b, ba, bb, rfl, _⟩ := h; rfl
  · obtain ⟨W, x, r, b, ba, bb, rfl, hR, hru, hb, a0, a1, b0, b1, k⟩ := h
    refine ⟨_, (pss_cons (ps_expr (pg_c c_need_room hgd hr (by decide) (pa_cons (pv 0) pa_nil)))
      (pss_cons (ps_expr (pg_c c_need_rules hgd hr (by decide) (pa_cons (pv 1) pa_nil)))
      (pss_cons (ps_expr (pg_c c_need_bag hgd hr (by decide) (pa_cons (pv 1) (pa_cons (pv 2) pa_nil))))
      (pss_one (ps_ret (pg_c c_first_state hgd hr (by decide) (pa_cons (pv 0) (pa_cons (pv 2) pa_nil)))))))), ?_⟩
    obtain ⟨dx, t, ct, pt, nd, hx, _⟩ := hR.ex
    obtain ⟨rdx, hru0⟩ := id hru
    refine ⟨_, rfl, .ref x, .ref CR, true, rfl, .base (insTy T.icR hx), T.icR.me, fun _ => ?_, fun z => nomatch z⟩
    refine ⟨_, rfl, .ref r, .ref CL, true, rfl, .base (insTy T.icL hru0), T.icL.me, fun _ => ?_, fun z => nomatch z⟩
    exact ⟨_, rfl, _, rfl, W, r, b, ba, bb, rfl, hru, hb, a0, a1, b0, b1, _, rfl, _, rfl, W, x, b, ba, bb, rfl, hR, hb, k⟩
def spGoneOk (CR : Addr) : Sp := fun vs H Q _ => ∃ (W : Wld) (s : Sta) (x g : Addr) (mo : Int), vs = [.ref x, .ref g] ∧ WOk W ∧ RoomAt CR H x W.rows W.wd ∧ H g = some (.tup (s.go.map V.int)) ∧ OkS W s mo ∧ Q (.bl true) H
theorem ok_goneOk {f : Addr} {fd : FuncData} (F : Fun K "_can_be_gone" "_can_be_gone" s__can_be_gone f fd) (T : JudT P w K mg CR CL aB aO EB EF LB LF GB GF) (c_is_ascending : CalG P w K mg base 2 "is_ascending" spAsc) : FnG P w K mg base (CXe P w) 3 f fd ["room", "gone"] (spGoneOk CR) := by
  refine F.okG sc__can_be_gone (fun vs H Q E h => ?_) (fun cdv A outer s H vs Q E hgd hr h => ?_)
  · obtain ⟨W, st, x, g, mo, rfl, _⟩ := h; rfl
  · obtain ⟨W, st, x, g, mo, rfl, O, hR, hg, Ks, k⟩ := h
    refine ⟨_, (pss_cons (ps_if (pt_not (pt_val (pg_c c_is_ascending hgd hr (by decide) (pa_cons (pv 1) (pa_cons pe_int (pa_cons (pe_op op_sub (pe_callB call_len_str (by rfl) T.n_len (by decide +kernel) (pa_cons (pe_fld (pv 0) rfl) pa_nil)) pe_int) pa_nil)))))) (pss_one (ps_ret pe_bl)) pss_nil)
      (pss_cons (ps_for (passes_of rfl) rfl (pi_tup (pv 1)) (pg_name (i := 2) sc__can_be_gone.nd rfl (Or.inl rfl))
      (pss_one (ps_if (pt_cmpR op_notIn_sign (pe_ix ix_str (pe_fld (pv 0) rfl) (pv 2) (fun _ _ => rfl)) pe_str (by rfl)) (pss_one (ps_ret pe_bl)) pss_nil)))
      (pss_one (ps_ret pe_bl)))), ?_⟩
    obtain ⟨dx, t, ct, pt, nd, hx, _, hct, hpt, hnear⟩ := hR.ex
    have hz : W.z.length = W.n := join_len O.R
    refine ⟨_, rfl, ?_⟩
    walk_at "rd"
    refine ⟨x, CR, dx, _, _, rfl, hx, T.clR, T.r_cells, rfl, W.z, rfl, z_fit O, ?_⟩
    refine ⟨_, _, rfl, rfl, g, st.go, 0, (W.z.length : Int) - 1, rfl, hg, Ks.gos, fun c hc => ⟨Ks.ok.go0 c hc, by have := Ks.ok.go1 c hc; omega⟩, _, rfl, iteF' (by decide) ?_⟩
    refine ⟨_, rfl, g, rfl, ⟨_, SqT.of hg⟩, for_it (walk_tup (xs := st.go.map V.int)) (fun i σ H' => (∃ o2, σ = [some (.ref x), some (.ref g), o2]) ∧ H' = H) ⟨⟨none, rfl⟩, rfl⟩ (fun i σ H' _ q => by rw [q.2]; exact SqT.of hg) ?_ ?_⟩
    · rintro i y σ H1 H2 hi ⟨⟨o2, rfl⟩, rfl⟩ ⟨rfl, hy⟩
      rw [List.length_map] at hi
      cases mapI_get hi hy
      have hm := List.getElem_mem hi
      have hk := Ks.ok.gom _ hm
      refine ⟨_, rfl, x, CR, dx, _, _, rfl, hx, T.clR, T.r_cells, rfl, _, rfl, W.z, _, _, rfl, rfl, z_fit O, mark_at (Ks.ok.go0 _ hm) (Ks.ok.go1 _ hm) O.R, _, "abABx", rfl, rfl, _, rfl, ?_⟩
      exact iteF' (by simpa using in_kdx.mpr hk) ⟨⟨_, rfl⟩, rfl⟩
    · rintro σ H1 ⟨⟨o2, rfl⟩, rfl⟩
      exact k
def spCrOk (CR : Addr) : Sp := fun vs H Q _ => ∃ (W : Wld) (s : Sta) (x g c : Addr) (mo : Int), vs = [.ref x, .ref g, .ref c] ∧ WOk W ∧ RoomAt CR H x W.rows W.wd ∧ H g = some (.tup (s.go.map V.int)) ∧ H c = some (.tup (s.cr.map V.int)) ∧ OkS W s mo ∧ ∀ H', Same H H' → Q (.bl true) H'
theorem ok_crOk {f : Addr} {fd : FuncData} (F : Fun K "_can_be_crates" "_can_be_crates" s__can_be_crates f fd) (T : JudT P w K mg CR CL aB aO EB EF LB LF GB GF) (c_is_ascending : CalG P w K mg base 2 "is_ascending" spAsc) (c_can_lie : CalG P w K mg base 1 "can_lie" (spLie CR)) : FnG P w K mg base (CXe P w) 3 f fd ["room", "gone", "crates"] (spCrOk CR) := by
  refine F.okG sc__can_be_crates (fun vs H Q E h => ?_) (fun cdv A outer s H vs Q E hgd hr h => ?_)
  · obtain ⟨W, st, x, g, c, mo, rfl, _⟩ := h; rfl
  · obtain ⟨W, st, x, g, c, mo, rfl, O, hR, hg, hc, Ks, k⟩ := h
    refine ⟨_, (pss_cons (ps_if (pt_not (pt_val (pg_c c_is_ascending hgd hr (by decide) (pa_cons (pv 2) (pa_cons pe_int (pa_cons (pe_op op_sub (pe_callB call_len_str (by rfl) T.n_len (by decide +kernel) (pa_cons (pe_fld (pv 0) rfl) pa_nil)) pe_int) pa_nil)))))) (pss_one (ps_ret pe_bl)) pss_nil)
      (pss_cons (ps_for (passes_of rfl) rfl (pi_tup (pv 2)) (pg_name (i := 3) sc__can_be_crates.nd rfl (Or.inl rfl))
      (pss_one (ps_if (pt_not (pt_val (pg_c c_can_lie hgd hr (by decide) (pa_cons (pv 0) (pa_cons (pv 1) (pa_cons (pv 3) pa_nil)))))) (pss_one (ps_ret pe_bl)) pss_nil)))
      (pss_cons (ps_setLc (i := 4) (own := [("cell", 3)]) (g := gName 3) rfl sc__can_be_crates.nd rfl rfl (sw_true rfl rfl rfl (by decide +kernel)) (pi_tup (pv 1)) (blkOk_by (own := [("cell", 3)]) (N := ["room", "gone", "crates", "cell", "filled"]) (sc := defScope s__can_be_crates) (by decide +kernel)) (fun _ _ _ _ _ => pg_name (i := 3) sc__can_be_crates.nd rfl (Or.inl rfl)) (fun _ _ _ _ _ => pts_one (pt_cmpR op_eq (pe_ix ix_str (show PE _ _ (tFld K (tVar 0) "cells") from pe_fld (pv 0) rfl) (pv 3) (fun _ _ => rfl)) pe_str (nomark _))) (fun _ _ _ _ _ => (pv 3)))
      (pss_one (ps_ret (pe_cmpR op_eq (pe_callB call_len_seq (by rfl) T.n_len (by decide +kernel) (pa_cons (pv 2) pa_nil)) (pe_op op_sub (pe_callB call_len_seq (by rfl) T.n_len (by decide +kernel) (pa_cons (pe_fld (pv 0) rfl) pa_nil)) (pe_callB call_len_seq (by rfl) T.n_len (by decide +kernel) (pa_cons (pv 4) pa_nil))) (nomark _))))))), ?_⟩
    obtain ⟨dx, t, ct, pt, nd, hx, ht, hct, hpt, hnear⟩ := id hR.ex
    have hz : W.z.length = W.n := join_len O.R
    refine ⟨_, rfl, ?_⟩
    walk_at "rd"
    refine ⟨x, CR, dx, _, _, rfl, hx, T.clR, T.r_cells, rfl, W.z, rfl, z_fit O, ?_⟩
    refine ⟨_, _, rfl, rfl, c, st.cr, 0, (W.z.length : Int) - 1, rfl, hc, Ks.crs, fun d hd => ⟨Ks.ok.cr0 d hd, by have := Ks.ok.cr1 d hd; omega⟩, _, rfl, iteF' (by decide) ?_⟩
    refine ⟨_, rfl, c, rfl, ⟨_, SqT.of hc⟩, for_it (walk_tup (xs := st.cr.map V.int)) (fun i σ H' => (∃ o3, σ = [some (.ref x), some (.ref g), some (.ref c), o3, none]) ∧ H' = H) ⟨⟨none, rfl⟩, rfl⟩ (fun i σ H' _ q => by rw [q.2]; exact SqT.of hc) ?_ ?_⟩
    · rintro i y σ H1 H2 hi ⟨⟨o2, rfl⟩, rfl⟩ ⟨rfl, hy⟩
      rw [List.length_map] at hi
      cases mapI_get hi hy
      have hm := List.getElem_mem hi
      have hl := Ks.ok.crl _ hm
      refine ⟨_, rfl, _, rfl, _, rfl, W, x, g, st.go, _, rfl, O, hR, hg, Ks.ok.cr0 _ hm, Ks.ok.cr1 _ hm, _, rfl, ?_⟩
      rw [hl]
      exact iteF' (by decide) ⟨⟨_, rfl⟩, rfl⟩
    · rintro σ H1 ⟨⟨o2, rfl⟩, rfl⟩
      refine ⟨_, rfl, g, rfl, ⟨_, SqT.of hg⟩, fun D hD => lc_it (walk_tup (xs := st.go.map V.int)) (fun i H2 => H2 D = some (.lst (((st.go.take i).filter fun d => decide (mark W.z d = 120)).map V.int)) ∧ Off (fun b => b = D) H1 H2) ⟨upd_same, Off.new hD⟩ (fun i H2 _ z => SqT.of (z.2 _ _ (ne_of_none hg hD) hg)) ?_ ?_⟩
      · rintro i y H2 H3 hi ⟨hacc, off⟩ ⟨rfl, hy⟩
        rw [List.length_map] at hi
        cases mapI_get hi hy
        have hm := List.getElem_mem hi
        have hx3 := off _ _ (ne_of_none hx hD) hx
        refine And.intro rfl ?_
        refine ⟨_, rfl, x, CR, dx, _, _, rfl, hx3, T.clR, T.r_cells, rfl, _, rfl, W.z, _, _, rfl, rfl, z_fit O, mark_at (Ks.ok.go0 _ hm) (Ks.ok.go1 _ hm) O.R, (rfl : scal _ _ = true), _, rfl, ?_⟩
        rw [List.take_add_one, List.getElem?_eq_getElem hi, List.filter_append]
        by_cases h1 : mark W.z st.go[i] = 120
        · refine iteT' ((sg (by decide +kernel)).mpr h1) ⟨_, rfl, _, hacc, sz ?_, ?_, off.trans (Off.mut rfl)⟩
          · rw [List.length_map]
            exact Nat.le_trans (List.length_filter_le ..) (Nat.le_trans (List.length_take_le' ..) (Nat.le_trans (Ks.ok.gol O) (by decide)))
          · rw [upd_same]
            simp [h1]
        · refine iteF' (fun z => h1 ((sg (by decide +kernel)).mp z)) ⟨?_, off⟩
          rw [hacc]
          simp [h1]
      rintro H2 ⟨hacc, off⟩
      rw [List.length_map, List.take_length] at hacc
      have s2 : Same H1 H2 := fun b o e => off b o (ne_of_none e hD) e
      refine ⟨_, rfl, c, _, rfl, .inr (SqT.of (s2 _ _ hc)), _, rfl, x, CR, dx, _, _, rfl, s2 _ _ hx, T.clR, T.r_crates, rfl, ct, _, rfl, .inr (SqT.of (s2 _ _ hct)), _, rfl, D, _, rfl, .inl (SqL.of hacc), _, _, rfl, rfl, (rfl : scal _ _ = true), ?_⟩
      have hcnt := Ks.cnt
      have e : decide (V.int (((st.cr.map V.int).length : Nat) : Int) = V.int ((((placesL W.z 111 W.z.length).map V.int).length : Nat) - ((((st.go.filter fun d => decide (mark W.z d = 120)).map V.int).length : Nat) : Int))) = true := by
        rw [List.length_map, List.length_map, List.length_map]
        unfold pits at hcnt
        refine decide_eq_true ?_
        congr 1
        omega
      have := k H2 s2
      rw [← e] at this
      exact this
def spAtOk (CR : Addr) : Sp := fun vs H Q _ => ∃ (W : Wld) (s : Sta) (x c g : Addr) (mo : Int), vs = [.ref x, .ref c, .ref g, .int s.at_] ∧ WOk W ∧ RoomAt CR H x W.rows W.wd ∧ H g = some (.tup (s.go.map V.int)) ∧ H c = some (.tup (s.cr.map V.int)) ∧ OkS W s mo ∧ Q (.bl true) H
theorem ok_atOk {f : Addr} {fd : FuncData} (F : Fun K "_can_be_at" "_can_be_at" s__can_be_at f fd) (T : JudT P w K mg CR CL aB aO EB EF LB LF GB GF) (c_is_whole : CalG P w K mg base 1 "is_whole" (spWhole K)) : FnG P w K mg base (CXe P w) 2 f fd ["room", "crates", "gone", "at"] (spAtOk CR) := by
  refine F.okG sc__can_be_at (fun vs H Q E h => ?_) (fun cdv A outer s H vs Q E hgd hr h => ?_)
  · obtain ⟨W, st, x, c, g, mo, rfl, _⟩ := h; rfl
  · obtain ⟨W, st, x, c, g, mo, rfl, O, hR, hg, hc, Ks, k⟩ := h
    refine ⟨_, (pss_cons (ps_if (PW.pt (pw_or (pt_not (pt_val (pg_c c_is_whole hgd hr (by decide) (pa_cons (pv 3) pa_nil)))) (pw_or1 (pt_not (pt_chain op_le op_lt pe_int (pv 3) (pe_callB call_len_str (by rfl) T.n_len (by decide +kernel) (pa_cons (pe_fld (pv 0) rfl) pa_nil))))))) (pss_one (ps_ret pe_bl)) pss_nil)
      (pss_one (ps_ret (pe_and (pe_cmpR op_notIn_seq (pv 3) (pv 1) (by rfl)) (pe_one (pe_or (pe_cmpR op_in_seq (pv 3) (pv 2) (by rfl)) (pe_one (pe_cmpR op_notIn_sign (pe_ix ix_str (pe_fld (pv 0) rfl) (pv 3) (fun _ _ => rfl)) pe_str (by rfl))))))))), ?_⟩
    obtain ⟨dx, t, ct, pt, nd, hx, ht, hct, hpt, hnear⟩ := id hR.ex
    have hz : W.z.length = W.n := join_len O.R
    have a0 := Ks.ok.at0
    have a1 := Ks.ok.at1
    refine ⟨_, rfl, _, .type "int", true, false, rfl, tyI, kII, kIB, _, rfl, iteF ?_⟩
    walk_at "rd"
    refine ite2 (fun _ => ?_) (fun z => absurd (decide_eq_true a0) z)
    refine ⟨_, rfl, x, CR, dx, _, _, rfl, hx, T.clR, T.r_cells, rfl, W.z, rfl, z_fit O, _, _, rfl, rfl, _, rfl, ?_⟩
    refine ite2 (fun z => ?_) (fun _ => ?_)
    · have h : ¬ st.at_ < (W.z.length : Int) := by
        intro q
        have : decide (st.at_ < (W.z.length : Int)) = true := decide_eq_true q
        rw [this] at z
        cases z
      exact absurd (by omega) h
    refine ⟨_, rfl, _, rfl, c, _, rfl, .inr (SqT.of hc), rfl, flat_ints _, _, rfl, ?_⟩
    refine iteT' (by simp [inV_ints, Ks.atn]) ?_
    refine ⟨_, rfl, _, rfl, g, _, rfl, .inr (SqT.of hg), rfl, flat_ints _, _, rfl, ?_⟩
    by_cases hgo : st.at_ ∈ st.go
    · exact iteT' (by simp [inV_ints, hgo]) k
    refine iteF' (by simp [inV_ints, hgo]) ?_
    have hm := Ks.atm.resolve_left hgo
    refine ⟨_, rfl, x, CR, dx, _, _, rfl, hx, T.clR, T.r_cells, rfl, _, rfl, W.z, _, _, rfl, rfl, z_fit O, mark_at a0 a1 O.R, _, "#xabAB", rfl, rfl, ?_⟩
    have e : (!decide (mark W.z st.at_ ∈ ("#xabAB" : Str).cps.toList)) = true := by
      have e1 : ("#xabAB" : Str).cps.toList = [35, 120, 97, 98, 65, 66] := by decide +kernel
      rw [e1]
      have := of_decide_eq_true hm
      simp only [this, decide_false, Bool.not_false]
    rw [e]
    exact k
def spJud (CR CL : Addr) : Sp := fun vs H Q _ => ∃ (W : Wld) (s : Sta) (x r : Addr) (v : V), vs = [.ref x, .ref r, v] ∧ WOk W ∧ RoomAt CR H x W.rows W.wd ∧ RulesIs CL H r W ∧ StaAt H v s ∧ OkS W s (manyZ W.z "12") ∧ ∀ H', Same H H' → Q (.bl true) H'
theorem ok_jud {f : Addr} {fd : FuncData} (F : Fun K "is_state" "is_state" s_is_state f fd) (T : JudT P w K mg CR CL aB aO EB EF LB LF GB GF) (c_need_room : CalG P w K mg base 3 "need_room" (spNeedC K CR EB)) (c_need_rules : CalG P w K mg base 3 "need_rules" (spNeedC K CL LB))
    (c_is_ascending : CalG P w K mg base 2 "is_ascending" spAsc) (c_is_bag : CalG P w K mg base 2 "is_bag" (spBag1 CL)) (c__can_be_gone : CalG P w K mg base 3 "_can_be_gone" (spGoneOk CR)) (c__can_be_crates : CalG P w K mg base 3 "_can_be_crates" (spCrOk CR)) (c__can_be_at : CalG P w K mg base 2 "_can_be_at" (spAtOk CR)) :
    FnG P w K mg base (CXe P w) 4 f fd ["room", "rules", "thing"] (spJud CR CL) := by
  refine F.okG sc_is_state (fun vs H Q E h => ?_) (fun cdv A outer s H vs Q E hgd hr h => ?_)
  · obtain ⟨W, st, x, r, v, rfl, _⟩ := h; rfl
  · obtain ⟨W, st, x, r, v, rfl, O, hR, hru, hst, Ks, k⟩ := h
    refine ⟨_, (pss_cons (ps_expr (pg_c c_need_room hgd hr (by decide) (pa_cons (pv 0) pa_nil)))
      (pss_cons (ps_expr (pg_c c_need_rules hgd hr (by decide) (pa_cons (pv 1) pa_nil)))
      (pss_cons (ps_if (PW.pt (pw_or (pt_not (pt_val (pe_callB call_isi (by rfl) T.n_isinstance (by decide +kernel) (pa_cons (pv 2) (pa_cons (pe_bltn (v := .ty "tuple") (u := .type "tuple") rfl T.n_tuple (by decide +kernel) rfl) pa_nil))))) (pw_or1 (pt_cmpR op_ne (pe_callB call_len_seq (by rfl) T.n_len (by decide +kernel) (pa_cons (pv 2) pa_nil)) pe_int (nomark _))))) (pss_one (ps_ret pe_bl)) pss_nil)
      (pss_cons (ps_asg (pv 2) (pg_tup (by rfl) (pgs_cons (pg_name (i := 3) sc_is_state.nd rfl (Or.inl rfl)) (pgs_cons (pg_name (i := 4) sc_is_state.nd rfl (Or.inl rfl)) (pgs_cons (pg_name (i := 5) sc_is_state.nd rfl (Or.inl rfl)) (pgs_cons (pg_name (i := 6) sc_is_state.nd rfl (Or.inl rfl)) (pgs_cons (pg_name (i := 7) sc_is_state.nd rfl (Or.inl rfl)) pgs_nil)))))))
      (pss_one (ps_ret (pe_and (pg_c c__can_be_gone hgd hr (by decide) (pa_cons (pv 0) (pa_cons (pv 5) pa_nil))) (pe_and (pg_c c__can_be_crates hgd hr (by decide) (pa_cons (pv 0) (pa_cons (pv 5) (pa_cons (pv 4) pa_nil)))) (pe_and (pg_c c__can_be_at hgd hr (by decide) (pa_cons (pv 0) (pa_cons (pv 4) (pa_cons (pv 5) (pa_cons (pv 3) pa_nil))))) (pe_and (pg_c c_is_ascending hgd hr (by decide) (pa_cons (pv 6) (pa_cons pe_int (pa_cons (pe_fld (pv 0) rfl) pa_nil)))) (pe_one (pg_c c_is_bag hgd hr (by decide) (pa_cons (pv 1) (pa_cons (pv 7) pa_nil)))))))))))))), ?_⟩
    obtain ⟨dx, t, ct, pt, nd, hx, ht, hct, hpt, hnear⟩ := id hR.ex
    obtain ⟨rdx, hru0⟩ := id hru
    obtain ⟨a, c, g, u, b, rfl, ha, hc, hg, hu, hb⟩ := id hst
    refine ⟨_, rfl, .ref x, .ref CR, true, rfl, .base (insTy T.icR hx), T.icR.me, fun _ => ?_, fun z => nomatch z⟩
    refine ⟨_, rfl, .ref r, .ref CL, true, rfl, .base (insTy T.icL hru0), T.icL.me, fun _ => ?_, fun z => nomatch z⟩
    refine ⟨_, rfl, _, _, _, _, _, rfl, .ty _, tyTup ha, kitTT, _, rfl, iteF' (by decide) ?_⟩
    refine ⟨_, rfl, a, _, rfl, .inr (SqT.of ha), (rfl : scal _ _ = true), _, rfl, iteF' (by simp) ?_⟩
    refine ⟨_, rfl, a, _, rfl, SqT.of ha, rfl, ?_⟩
    refine ⟨_, _, rfl, _, _, rfl, _, _, rfl, _, _, rfl, _, _, rfl, rfl, ?_⟩
    refine ⟨_, rfl, _, rfl, W, st, x, g, _, rfl, O, hR, hg, Ks, _, rfl, iteT ?_⟩
    refine ⟨_, rfl, _, rfl, _, rfl, W, st, x, g, c, _, rfl, O, hR, hg, hc, Ks, fun H1 s1 => ⟨_, rfl, iteT ?_⟩⟩
    refine ⟨_, rfl, _, rfl, _, rfl, _, rfl, W, st, x, c, g, _, rfl, O, hR.same' s1, s1 _ _ hg, s1 _ _ hc, Ks, _, rfl, iteT ?_⟩
    refine ⟨_, rfl, _, rfl, x, CR, dx, _, _, rfl, s1 _ _ hx, T.clR, T.r_mouths, rfl, u, st.us, 1, manyZ W.z "12", rfl, s1 _ _ hu, Ks.uss, fun d hd => ⟨(Ks.ok.us0 d hd).1, Ks.usm d hd⟩, _, rfl, iteT ?_⟩
    exact ⟨_, rfl, _, rfl, W, r, b, st.ba, st.bb, rfl, hru.same s1, s1 _ _ hb, Ks.ok.ba0, Ks.ok.ba1, Ks.ok.bb0, Ks.ok.bb1, k H1 s1⟩
end
end K11
end
section
set_option Elab.async false
set_option linter.all false
set_option maxRecDepth 100000
set_option maxHeartbeats 2000000
namespace K11
open PySem L2
local macro_rules | `(tactic| walk_at "hp") => `(tactic| first | assumption | exact upd_same | (refine (upd_ne (by first | assumption | (apply Ne.symm; assumption))).trans ?_; walk_at "hp"))
local macro_rules | `(tactic| walk_at "rd1") => `(tactic| first
  | (refine ⟨_, rfl, ?_⟩)
  | (refine ⟨_, _, rfl, rfl, ?_⟩)
  | (refine ⟨(rfl : scal _ _ = true), ?_⟩)
  | (refine And.intro (by show (0 : Int) < _; decide) ?_)
  | (refine And.intro (And.intro (by decide) (by decide)) ?_)
  | (refine And.intro (Or.inr (And.intro (by decide) (by decide))) ?_)
  | (refine And.intro (And.intro (by decide) (And.intro (by decide) (by decide))) ?_)
  | (refine And.intro (by assumption) ?_)
  | (refine And.intro (And.intro (by omega) (by omega)) ?_)
  | (refine And.intro (Or.inl (And.intro (by omega) (by omega))) ?_)
  | (refine' ⟨_, _, _, _, rfl, rfl, Or.inl (Or.inl ?h1), ?h2, ?h3⟩; (case h1 => walk_at "hp"); (case h2 => rfl))
  | (refine' ⟨_, _, _, _, rfl, rfl, ?h1, ?h2, ?h3⟩; (case h1 => walk_at "hp"); (case h2 => rfl))
  | (refine' ⟨_, _, rfl, Or.inl (Or.inl (Or.inl ?h1)), ?h3⟩; (case h1 => walk_at "hp"))
  | (refine Or.inl ⟨_, rfl, ?_⟩))
local macro_rules | `(tactic| walk_at "rd") => `(tactic| repeat walk_at "rd1")

theorem mem_mark {z : Str} {c : Int} (h0 : 0 ≤ c) (h1 : c < z.length) : mark z c ∈ z.cps.toList := by
  obtain ⟨k, rfl⟩ := Int.eq_ofNat_of_zero_le h0
  have hk : k < z.cps.size := by have : (k : Int) < ((z.cps.size : Nat) : Int) := h1; omega
  unfold mark
  rw [Int.toNat_natCast]
  have : z.cps.getD k 0 = z.cps[k]'hk := by simp [Array.getD, hk]
  rw [this]
  exact Array.getElem_mem_toList hk
theorem many_sum (z : Str) : manyZ z "12" = Txt.count z "1" + Txt.count z "2" := by
  have : ("12" : Str).cps.toList = [49, 50] := by decide +kernel
  unfold manyZ
  rw [this]
  show Txt.count z ⟨#[49]⟩ + (Txt.count z ⟨#[50]⟩ + 0) = _
  rw [Int.add_zero]
  rfl
theorem mouth_le {z : Str} (hw : wholeZ z = true) {c x : Int} (h0 : 0 ≤ c) (h1 : c < z.length) (h : (mark z c = 49 ∧ x = 1) ∨ (mark z c = 50 ∧ x = 2)) : x ≤ manyZ z "12" := by
  have hm := mem_mark h0 h1
  have e1 : Txt.count z "1" = ((z.cps.toList.count 49 : Nat) : Int) := by rw [show ("1" : Str) = ⟨#[49]⟩ by decide +kernel]; exact count_nat z 49
  have e2 : Txt.count z "2" = ((z.cps.toList.count 50 : Nat) : Int) := by rw [show ("2" : Str) = ⟨#[50]⟩ by decide +kernel]; exact count_nat z 50
  rw [many_sum, e1, e2]
  obtain ⟨_, ⟨_, _, h3⟩, _⟩ := (wholeZ_iff z).mp hw
  rcases h with ⟨e, rfl⟩ | ⟨e, rfl⟩
  · rw [e] at hm
    have := List.count_pos_iff.mpr hm
    omega
  · rw [e] at hm
    have := List.count_pos_iff.mpr hm
    omega
theorem places_len (z : Str) (c : Nat) : ∀ n, n ≤ z.length → (placesL z c n).length = (z.cps.toList.take n).count c
  | 0, _ => rfl
  | n + 1, h => by
    have ih := places_len z c n (by omega)
    have hn : n < z.cps.toList.length := by rw [Array.length_toList]; have : z.length = z.cps.size := rfl; omega
    have hg : z.cps[n]? = some (z.cps.toList[n]) := by rw [← Array.getElem?_toList]; exact List.getElem?_eq_getElem hn
    rw [List.take_add_one, List.getElem?_eq_getElem hn, List.count_append]
    by_cases e : z.cps.toList[n] = c
    · rw [placesL_yes (by rw [hg, e]), List.length_append, ih]
      simp [e]
    · have e0 : List.count c (some z.cps.toList[n]).toList = 0 := by
        show List.count c [z.cps.toList[n]] = 0
        rw [List.count_cons, List.count_nil, if_neg (by simpa using e)]
      rw [placesL_no (by rw [hg]; simpa using e), ih, e0, Nat.add_zero]
theorem places_count (z : Str) : Txt.count z "o" = (((placesL z 111 z.length).length : Nat) : Int) := by
  rw [show ("o" : Str) = ⟨#[111]⟩ by decide +kernel, count_nat, places_len z 111 z.length (Nat.le_refl _), List.take_of_length_le (by rw [Array.length_toList]; exact Nat.le_refl _)]
theorem PairsAt.idx {H : Hp} : ∀ {vs : List V} {ps : List (Str × Sta)} {i : Nat} (hi : i < vs.length) (h : PairsAt H vs ps), ∃ (hq : i < ps.length) (t : Addr) (sv : V), vs[i]? = some (.ref t) ∧ H t = some (.tup [.str ps[i].1, sv]) ∧ StaAt H sv ps[i].2
  | v :: vs, q :: ps, 0, _, ⟨⟨t, sv, e, h1, h2⟩, r⟩ => ⟨by simp, t, sv, by rw [e]; rfl, h1, h2⟩
  | v :: vs, q :: ps, i + 1, hi, ⟨_, r⟩ => by
    obtain ⟨hq, t, sv, e, h1, h2⟩ := PairsAt.idx (i := i) (by simpa using hi) r
    exact ⟨by simpa using hq, t, sv, e, h1, h2⟩
/-! ### a state as a key -/
def stK (s : Sta) : NestedKey := .tup [.num s.at_, .tup (s.cr.map .num), .tup (s.go.map .num), .tup (s.us.map .num), .tup [.num s.ba, .num s.bb]]
theorem nums_inj : ∀ {xs ys : List Int}, xs.map NestedKey.num = ys.map NestedKey.num → xs = ys
  | [], [], _ => rfl
  | [], _ :: _, h => by cases h
  | _ :: _, [], h => by cases h
  | x :: xs, y :: ys, h => by
    rw [List.map_cons, List.map_cons] at h
    injection h with h1 h2
    injection h1 with h1
    rw [h1, nums_inj h2]
theorem stK_inj {s t : Sta} (h : stK s = stK t) : s = t := by
  obtain ⟨a, c, g, u, x, y⟩ := s
  obtain ⟨a', c', g', u', x', y'⟩ := t
  unfold stK at h
  injection h with h
  simp only [List.cons.injEq, NestedKey.num.injEq, NestedKey.tup.injEq, and_true] at h
  obtain ⟨h1, h2, h3, h4, h5, h6⟩ := h
  rw [h1, nums_inj h2, nums_inj h3, nums_inj h4, h5, h6]
theorem nums_depth (xs : List Int) : NestedKey.depthAll (xs.map NestedKey.num) = 0 := by
  induction xs with
  | nil => rfl
  | cons x r ih => simp [NestedKey.depthAll, NestedKey.depth, ih]
theorem stK_depth (s : Sta) : (stK s).depth ≤ 8 := by
  simp [stK, NestedKey.depth, NestedKey.depthAll, nums_depth]
theorem nk_nums (H : Hp) (xs : List Int) : NkAll H (xs.map NestedKey.num) (xs.map V.int) := by
  induction xs with
  | nil => exact .nil
  | cons x r ih => exact .cons (.int x) ih
theorem StaAt.nk {H : Hp} {v : V} {s : Sta} (h : StaAt H v s) : ∃ b, v = .ref b ∧ NkIs H (stK s) (.ref b) := by
  obtain ⟨a, c, g, u, b, rfl, ha, hc, hg, hu, hb⟩ := h
  exact ⟨a, rfl, .tup ha (.cons (.int _) (.cons (.tup hc (nk_nums H _)) (.cons (.tup hg (nk_nums H _)) (.cons (.tup hu (nk_nums H _)) (.cons (.tup hb (nk_nums H [s.ba, s.bb])) .nil)))))⟩
/-- the dict at d knows just these states -/
def Known (P : Program) (w : World) (H : Hp) (d : Addr) (ss : List Sta) : Prop := ∃ xs, H d = some (nkO P w d xs) ∧ xs.map (·.1) = ss.map stK ∧ NkKeys H xs
theorem atKey_mem (xs : List (NestedKey × Addr × Value)) (k : NestedKey) : (atKey xs k).isSome = decide (k ∈ xs.map (·.1)) := by
  unfold atKey
  rw [Option.isSome_map]
  induction xs with
  | nil => rfl
  | cons x r ih =>
    by_cases h : x.1 = k
    · simp [List.find?, h]
    · rw [List.find?_cons_of_neg (by simpa using h), ih]
      have : ¬ k = x.1 := fun z => h z.symm
      simp [this]
theorem known_mem {xs : List (NestedKey × Addr × Value)} {ss : List Sta} (e : xs.map (·.1) = ss.map stK) (s : Sta) : (atKey xs (stK s)).isSome = decide (s ∈ ss) := by
  rw [atKey_mem, e]
  refine decide_eq_decide.mpr ⟨fun h => ?_, fun h => List.mem_map.mpr ⟨s, h, rfl⟩⟩
  obtain ⟨t, ht, q⟩ := List.mem_map.mp h
  rw [← stK_inj q]
  exact ht
/-- the tuples stand -/
def TU (H H' : Hp) : Prop := ∀ a xs, H a = some (HO.tup xs) → H' a = some (HO.tup xs)
theorem TU.of_same {H H' : Hp} (s : Same H H') : TU H H' := fun a _ e => s a _ e
theorem TU.trans {H H1 H2 : Hp} (a : TU H H1) (b : TU H1 H2) : TU H H2 := fun c o e => b c o (a c o e)
theorem TU.mut {H : Hp} {a : Addr} {o u : HO} (e : H a = some u) (n : ∀ xs, u ≠ HO.tup xs) : TU H (upd H a o) := fun b xs q => by
  rw [upd_ne (fun z => by rw [z, e] at q; exact n xs (Option.some.inj q))]
  exact q
theorem StaAt.tu {H H' : Hp} {v : V} {s : Sta} (t : TU H H') (h : StaAt H v s) : StaAt H' v s := by
  obtain ⟨a, c, g, u, b, e, h1, h2, h3, h4, h5⟩ := h
  exact ⟨a, c, g, u, b, e, t _ _ h1, t _ _ h2, t _ _ h3, t _ _ h4, t _ _ h5⟩
theorem nkt {P : Program} {w : World} {d : Addr} {xs : List (NestedKey × Addr × Value)} (l : List V) : ¬ (nkO P w d xs = HO.tup l) := fun z => by unfold nkO at z; cases z
theorem nkl {P : Program} {w : World} {d : Addr} {xs : List (NestedKey × Addr × Value)} (l : List V) : ¬ (nkO P w d xs = HO.lst l) := fun z => by unfold nkO at z; cases z
/-- states in a list -/
def StaAll (H : Hp) : List V → List Sta → Prop
  | [], [] => True
  | v :: vs, s :: ss => StaAt H v s ∧ StaAll H vs ss
  | _, _ => False
theorem StaAll.tu {H H' : Hp} (t : TU H H') : ∀ {vs : List V} {ss : List Sta}, StaAll H vs ss → StaAll H' vs ss
  | [], [], _ => trivial
  | v :: vs, s :: ss, ⟨a, r⟩ => ⟨a.tu t, StaAll.tu t r⟩
theorem StaAll.len {H : Hp} : ∀ {vs : List V} {ss : List Sta}, StaAll H vs ss → vs.length = ss.length
  | [], [], _ => rfl
  | v :: vs, s :: ss, ⟨_, r⟩ => by simp [StaAll.len r]
theorem StaAll.snoc {H : Hp} {v : V} {s : Sta} (h : StaAt H v s) : ∀ {vs : List V} {ss : List Sta}, StaAll H vs ss → StaAll H (vs ++ [v]) (ss ++ [s])
  | [], [], _ => ⟨h, trivial⟩
  | w :: vs, t :: ss, ⟨a, r⟩ => ⟨a, StaAll.snoc h r⟩
theorem StaAll.get {H : Hp} : ∀ {vs : List V} {ss : List Sta} {i : Nat}, StaAll H vs ss → (hi : i < vs.length) → ∃ (hs : i < ss.length), StaAt H vs[i] ss[i]
  | v :: vs, s :: ss, 0, ⟨a, _⟩, _ => ⟨by simp, a⟩
  | v :: vs, s :: ss, i + 1, ⟨_, r⟩, hi => by
    obtain ⟨hs, q⟩ := StaAll.get (i := i) r (by simpa using hi)
    exact ⟨by simpa using hs, q⟩
theorem StaAll.take {H : Hp} : ∀ {vs : List V} {ss : List Sta} (n : Nat), StaAll H vs ss → StaAll H (vs.take n) (ss.take n)
  | _, _, 0, _ => trivial
  | [], [], _ + 1, _ => trivial
  | v :: vs, s :: ss, n + 1, ⟨a, r⟩ => ⟨a, StaAll.take n r⟩
theorem StaAll.dr {H : Hp} : ∀ {vs : List V} {ss : List Sta}, StaAll H vs ss → DrAll true M0 H vs (ss.map stateD)
  | [], [], _ => .nil
  | v :: vs, s :: ss, ⟨a, r⟩ => .cons a.dr (StaAll.dr r)
theorem TU.nk {H H' : Hp} (t : TU H H') {xs : List (NestedKey × Addr × Value)} (h : NkKeys H xs) : NkKeys H' xs := fun y hy => ⟨(h y hy).1.tups t, (h y hy).2⟩
/-! ### level by level -/
def metS (ss : List Sta) (ps : List (Str × Sta)) : List Sta := ps.foldl (fun acc q => if q.2 ∈ acc then acc else acc ++ [q.2]) ss
def metN (W : Wld) (s : Sta) : Nat → List Sta
  | 0 => [s]
  | i + 1 => match (metN W s i)[i]? with
    | some t => metS (metN W s i) (movesOf W t)
    | none => metN W s i
theorem metS_take {ss : List Sta} {ps : List (Str × Sta)} {j : Nat} (hj : j < ps.length) : metS ss (ps.take (j + 1)) = if ps[j].2 ∈ metS ss (ps.take j) then metS ss (ps.take j) else metS ss (ps.take j) ++ [ps[j].2] := by
  unfold metS
  rw [List.take_add_one, List.getElem?_eq_getElem hj, List.foldl_append]
  rfl
theorem metS_len (ss : List Sta) : ∀ ps : List (Str × Sta), (metS ss ps).length ≤ ss.length + ps.length := by
  intro ps
  induction ps generalizing ss with
  | nil => exact Nat.le_refl _
  | cons q r ih =>
    show (metS (if q.2 ∈ ss then ss else ss ++ [q.2]) r).length ≤ _
    refine Nat.le_trans (ih _) ?_
    split <;> simp only [List.length_append, List.length_cons, List.length_nil] <;> omega
theorem metN_len (W : Wld) (s : Sta) : ∀ n, (metN W s n).length ≤ 1 + 8 * n
  | 0 => Nat.le_refl _
  | n + 1 => by
    have ih := metN_len W s n
    unfold metN
    split
    · rename_i t _
      have h1 := metS_len (metN W s n) (movesOf W t)
      have h2 := moves_len W t
      omega
    · omega
theorem metS_ok {mo : Int} {W : Wld} (O : WOk W) : ∀ {ps : List (Str × Sta)} {ss : List Sta}, (∀ s ∈ ss, OkS W s mo) → (∀ q ∈ ps, OkS W q.2 mo) → ∀ s ∈ metS ss ps, OkS W s mo
  | [], _, h, _ => h
  | q :: r, ss, h, hp => by
    refine metS_ok (ps := r) (ss := if q.2 ∈ ss then ss else ss ++ [q.2]) O ?_ fun x hx => hp x (List.mem_cons_of_mem _ hx)
    split
    · exact h
    · intro s hs
      rcases List.mem_append.mp hs with z | z
      · exact h s z
      · rw [List.mem_singleton.mp z]
        exact hp q (List.mem_cons_self ..)
theorem metN_ok {mo : Int} {W : Wld} {s : Sta} (O : WOk W) (Ks : OkS W s mo) : ∀ n, ∀ t ∈ metN W s n, OkS W t mo
  | 0 => fun t ht => by rw [List.mem_singleton.mp ht]; exact Ks
  | n + 1 => by
    have ih := metN_ok O Ks n
    unfold metN
    split
    · rename_i t ht
      refine metS_ok O ih fun q hq => ?_
      obtain ⟨_, _, _, _, hm⟩ := pairs_mem hq
      exact moved_okS O (ih t (List.mem_of_getElem? ht)) hm
    · exact ih
theorem u9 {k : Nat} {A : Around} (r : L2.Room k A) : A.units + 9 < cLine := by have := r.un; omega
end K11
end
section
set_option Elab.async false
set_option linter.all false
set_option maxRecDepth 100000
set_option maxHeartbeats 2000000
namespace K11
open PySem L2
local macro_rules | `(tactic| walk_at "hp") => `(tactic| first | assumption | exact upd_same | (refine (upd_ne (by first | assumption | (apply Ne.symm; assumption))).trans ?_; walk_at "hp"))
local macro_rules | `(tactic| walk_at "rd1") => `(tactic| first
  | (refine ⟨_, rfl, ?_⟩)
  | (refine ⟨_, _, rfl, rfl, ?_⟩)
  | (refine ⟨(rfl : scal _ _ = true), ?_⟩)
  | (refine And.intro (by show (0 : Int) < _; decide) ?_)
  | (refine And.intro (And.intro (by decide) (by decide)) ?_)
  | (refine And.intro (Or.inr (And.intro (by decide) (by decide))) ?_)
  | (refine And.intro (And.intro (by decide) (And.intro (by decide) (by decide))) ?_)
  | (refine And.intro (by assumption) ?_)
  | (refine And.intro (And.intro (by omega) (by omega)) ?_)
  | (refine And.intro (Or.inl (And.intro (by omega) (by omega))) ?_)
  | (refine' ⟨_, _, _, _, rfl, rfl, Or.inl (Or.inl ?h1), ?h2, ?h3⟩; (case h1 => walk_at "hp"); (case h2 => rfl))
  | (refine' ⟨_, _, _, _, rfl, rfl, ?h1, ?h2, ?h3⟩; (case h1 => walk_at "hp"); (case h2 => rfl))
  | (refine' ⟨_, _, rfl, Or.inl (Or.inl (Or.inl ?h1)), ?h3⟩; (case h1 => walk_at "hp"))
  | (refine Or.inl ⟨_, rfl, ?_⟩))
local macro_rules | `(tactic| walk_at "rd") => `(tactic| repeat walk_at "rd1")

theorem sz2 {n : Nat} (h : n ≤ 2000) : n < sizeLine := by rw [sizeLine_eq]; omega
section
variable {P : Program} {w : World} {K : PySem.W.Frag} {mg : Str → Option Value} {base : Heap} {CR CL aB aO EB EF LB LF : Addr}
/-- _law_met -/
def spMet (P : Program) (w : World) : Sp := fun vs H Q _ => ∃ (W : Wld) (st : Sta) (rw_ ru sv : V) (n : Nat) (mo : Int), vs = [rw_, ru, sv, .int n] ∧ WOk W ∧ LRows H rw_ W ∧ LRules H ru W ∧ StaAt H sv st ∧ OkS W st mo ∧ n ≤ 200 ∧ ∀ D vs H', Same H H' → H' D = some (.lst vs) → StaAll H' vs (metN W st n) → Q (.ref D) H'
theorem ok_met {f : Addr} {fd : FuncData} (F : Fun K "_law_met" "_law_met" s__law_met f fd) (T : LawT mg) (c__law_moves : CalG P w K mg base 5 "_law_moves" spLMovs) :
    FnG P w K mg base (CXe P w) 6 f fd ["rows", "rules", "state", "most"] (spMet P w) := by
  refine F.okG sc__law_met (fun vs H Q E h => ?_) (fun cdv A outer s H vs Q E hgd hr h => ?_)
  · obtain ⟨W, st, rw_, ru, sv, n, mo, rfl, _⟩ := h; rfl
  · obtain ⟨W, st, rw_, ru, sv, n, mo, rfl, O, hL, hru, hst, Ks, hn, k⟩ := h
    refine ⟨_, (pss_cons (ps_set (i := 4) sc__law_met.nd rfl (Or.inl rfl) (pe_lstA (pa_cons (pv 2) pa_nil)))
      (pss_cons (ps_set (i := 5) sc__law_met.nd rfl (Or.inl rfl) (show PE _ _ (tNk1 P w (tVar 2) (tC (V.bl true))) from pe_nk1 (u9 hr) (pv 2) pe_bl))
      (pss_cons (ps_for (passes_of rfl) rfl (pi_range1 (by rfl) T.n_range (pa_cons (pv 3) pa_nil)) (pg_name (i := 6) sc__law_met.nd rfl (Or.inl rfl))
      (pss_one (ps_if (pt_cmpR op_lt (pv 6) (pe_callB call_len_seq (by rfl) T.n_len (by decide +kernel) (pa_cons (pv 4) pa_nil)) (nomark _)) (pss_one (ps_for (passes_of rfl) rfl (pi_list (pg_c c__law_moves hgd hr (by decide) (pa_cons (pv 0) (pa_cons (pv 1) (pa_cons (pe_ix ix_list (pv 4) (pv 6) (fun _ _ => rfl)) pa_nil))))) (pg_tup (by rfl) (pgs_cons (pg_name (i := 7) sc__law_met.nd rfl (Or.inl rfl)) (pgs_cons (pg_name (i := 8) sc__law_met.nd rfl (Or.inl rfl)) pgs_nil)))
      (pss_one (ps_if (pt_cmpR (show OpR _ (compareOp .NotIn) (rNotInNk P w) from op_notInNk (u9 hr)) (pv 8) (pv 5) (by rfl)) (pss_cons (ps_asg pe_bl (pg_sub (pv 5) (pv 8) (show PSet _ (rSetNk P w) from set_nk (u9 hr))))
      (pss_one (ps_expr (pe_bm PySem.F.plainAttrs_list PySem.F.slot_list_append PySem.F.type_list_append mt_append (pv 4) (pa_cons (pv 8) pa_nil))))) pss_nil)))) pss_nil)))
      (pss_one (ps_ret (pv 4)))))), ?_⟩
    refine ⟨_, rfl, And.intro (Nat.le_of_ble_eq_true rfl) fun F0 H1 n1 => ?_⟩
    have hst1 := hst.same n1.same
    refine fun Kd hKd => ?_
    have s2 : Same H1 (upd H1 Kd (nkO P w Kd [])) := same_new hKd
    have e2 : upd H1 Kd (nkO P w Kd []) Kd = some (nkO P w Kd []) := upd_same
    have hst2 := hst1.same s2
    obtain ⟨b, rfl, hnk⟩ := hst2.nk
    refine ⟨_, rfl, b, stK st, true, rfl, rfl, e2, hnk, stK_depth st, ?_⟩
    have same3 : Same H1 (upd (upd H1 Kd (nkO P w Kd [])) Kd (nkO P w Kd [(stK st, b, .bool true)])) := fun b' o e => by
      rw [upd_ne (ne_of_none e hKd), upd_ne (ne_of_none e hKd)]
      exact e
    have e3 : upd (upd H1 Kd (nkO P w Kd [])) Kd (nkO P w Kd [(stK st, b, .bool true)]) Kd = some (nkO P w Kd [(stK st, b, .bool true)]) := upd_same
    generalize upd (upd H1 Kd (nkO P w Kd [])) Kd (nkO P w Kd [(stK st, b, .bool true)]) = H3 at same3 e3 ⊢
    have hst3 := hst1.same same3
    have hF3 := same3 _ _ n1.at_
    have hFK : F0 ≠ Kd := ne_of_none n1.at_ hKd
    have s03 : Same H H3 := n1.same.trans same3
    have hKdH : H Kd = none := n1.same.free hKd
    have kn3 : Known P w H3 Kd [st] := ⟨_, e3, rfl, fun y hy => by
      rw [List.mem_singleton.mp hy]
      obtain ⟨b', eb, nk⟩ := hst3.nk
      cases eb
      exact ⟨nk, stK_depth st⟩⟩
    refine ⟨_, rfl, (n : Int), rfl, by omega, by omega, ?_⟩
    rw [Int.toNat_natCast]
    refine for_range (n := n) (fun i σ H2 => ∃ vs o6 o7 o8, σ = [some rw_, some ru, some (.ref b), some (.int n), some (.ref F0), some (.ref Kd), o6, o7, o8] ∧ H2 F0 = some (.lst vs) ∧ StaAll H2 vs (metN W st i) ∧ Known P w H2 Kd (metN W st i) ∧ Same H H2) ⟨_, none, none, none, rfl, hF3, ⟨hst3, trivial⟩, kn3, s03⟩ ?_ ?_
    · rintro i σ H4 hi ⟨vs, o6, o7, o8, rfl, hF4, hA4, kn4, s04⟩
      have ll := hA4.len
      have lb := metN_len W st i
      refine ⟨_, rfl, _, rfl, F0, _, rfl, .inl (SqL.of hF4), _, _, rfl, rfl, _, rfl, ?_⟩
      by_cases hin : i < vs.length
      case neg =>
        refine iteF' (by simpa using hin) ⟨vs, _, o7, o8, rfl, hF4, ?_, ?_, s04⟩
        · have : (metN W st i)[i]? = none := List.getElem?_eq_none (by omega)
          show StaAll H4 vs (metN W st (i + 1))
          unfold metN
          rw [this]
          exact hA4
        · have : (metN W st i)[i]? = none := List.getElem?_eq_none (by omega)
          show Known P w H4 Kd (metN W st (i + 1))
          unfold metN
          rw [this]
          exact kn4
      refine iteT' (decide_eq_true (by omega)) ?_
      obtain ⟨hs, hsti⟩ := hA4.get hin
      have hok := metN_ok O Ks i _ (List.getElem_mem hs)
      have emet : metN W st (i + 1) = metS (metN W st i) (movesOf W (metN W st i)[i]) := by
        show (match (metN W st i)[i]? with | some t => metS (metN W st i) (movesOf W t) | none => metN W st i) = _
        rw [List.getElem?_eq_getElem hs]
      generalize hti : (metN W st i)[i] = ti at hsti hok emet
      have hat : atI vs (0 + (i : Int)) = some vs[i] := by rw [Int.zero_add]; exact atI_nat (List.getElem?_eq_getElem hin)
      refine ⟨_, rfl, _, rfl, _, rfl, _, rfl, F0, vs, _, vs[i], rfl, rfl, SqL.of hF4, hat, W, ti, rw_, ru, vs[i], rfl, O, hL.same s04, hru.same s04, hsti, hok.ok, fun D ws H5 s5 fD hD hP => ?_⟩
      have hDF : D ≠ F0 := fun z => by rw [z, hF4] at fD; cases fD
      have hDK : D ≠ Kd := fun z => by
        obtain ⟨xs, e, _⟩ := kn4
        rw [z, e] at fD
        cases fD
      have kn5 : Known P w H5 Kd (metN W st i) := by
        obtain ⟨xs, e, q1, q2⟩ := kn4
        exact ⟨xs, s5 _ _ e, q1, (TU.of_same s5).nk q2⟩
      have lm := moves_len W ti
      have lp := hP.len
      refine ⟨D, rfl, ⟨_, SqL.of hD⟩, for_it (walk_list (xs := ws)) (fun j σ H6 => (∃ vs' o7 o8, σ = [some rw_, some ru, some (.ref b), some (.int n), some (.ref F0), some (.ref Kd), some (.int (0 + (i : Int))), o7, o8] ∧ H6 F0 = some (.lst vs') ∧ StaAll H6 vs' (metS (metN W st i) ((movesOf W ti).take j)) ∧ Known P w H6 Kd (metS (metN W st i) ((movesOf W ti).take j))) ∧ Off (fun b => b = F0 ∨ b = Kd) H5 H6) ⟨⟨vs, o7, o8, rfl, s5 _ _ hF4, hA4.tu (TU.of_same s5), kn5⟩, Off.refl _⟩ (fun j σ H6 _ z => SqL.of (z.2 _ _ (fun q => q.elim hDF hDK) hD)) ?_ ?_⟩
      · rintro j y σ H6 H7 hj ⟨⟨vs', q7, q8, rfl, hF6, hA6, kn6⟩, off⟩ ⟨rfl, hy⟩
        have t57 : TU H5 H7 := fun b' o e => by
          refine off b' _ (fun z => ?_) e
          rcases z with z | z
          · rw [z, s5 _ _ hF4] at e
            cases e
          · obtain ⟨xs, e', _⟩ := kn5
            rw [z, e'] at e
            exact nkt _ (Option.some.inj e)
        obtain ⟨hq, t, svq, e, ht, hsq⟩ := PairsAt.idx hj hP
        rw [hy] at e
        cases e
        have ht7 := t57 _ _ ht
        have hsq7 := hsq.tu t57
        have ej := metS_take (ss := metN W st i) hq
        have ls := metS_len (metN W st i) ((movesOf W ti).take j)
        have lt : ((movesOf W ti).take j).length ≤ 8 := Nat.le_trans (List.length_take_le' ..) lm
        have l6 := hA6.len
        generalize hqq : (movesOf W ti)[j] = qq at *
        generalize metS (metN W st i) ((movesOf W ti).take j) = ss at *
        obtain ⟨bq, rfl, hnkq⟩ := hsq7.nk
        obtain ⟨xs, hK6, ek, nk6⟩ := kn6
        have lxs : xs.length = ss.length := by have := congrArg List.length ek; simpa using this
        refine ⟨t, _, rfl, SqT.of ht7, rfl, _, _, rfl, _, _, rfl, rfl, ?_⟩
        refine ⟨_, rfl, _, rfl, Kd, xs, bq, stK qq.2, rfl, rfl, hK6, nk6, hnkq, stK_depth _, _, rfl, ?_⟩
        have em := known_mem ek qq.2
        rw [ej]
        by_cases hm : qq.2 ∈ ss
        · rw [if_pos hm]
          exact iteF' (by rw [em, decide_eq_true hm]; decide) ⟨⟨vs', _, _, rfl, hF6, hA6, xs, hK6, ek, nk6⟩, off⟩
        · rw [if_neg hm]
          refine iteT' (by rw [em, decide_eq_false hm]; decide) ?_
          have en : atKey xs (stK qq.2) = none := by
            rw [decide_eq_false hm] at em
            cases h : atKey xs (stK qq.2) with
            | none => rfl
            | some z => rw [h] at em; cases em
          refine ⟨_, rfl, _, rfl, Kd, xs, bq, stK qq.2, true, rfl, rfl, rfl, hK6, nk6, hnkq, stK_depth _, sz2 (by omega), ?_⟩
          rw [storedH_new en]
          have t78 : TU H7 (upd H7 Kd (nkO P w Kd (xs ++ [(stK qq.2, bq, .bool true)]))) := TU.mut hK6 nkt
          have o78 : Off (fun b => b = F0 ∨ b = Kd) H7 (upd H7 Kd (nkO P w Kd (xs ++ [(stK qq.2, bq, .bool true)]))) := Off.mut (.inr rfl)
          have hK8 : upd H7 Kd (nkO P w Kd (xs ++ [(stK qq.2, bq, .bool true)])) Kd = some (nkO P w Kd (xs ++ [(stK qq.2, bq, .bool true)])) := upd_same
          have hF8 : upd H7 Kd (nkO P w Kd (xs ++ [(stK qq.2, bq, .bool true)])) F0 = some (.lst vs') := by rw [upd_ne hFK]; exact hF6
          generalize upd H7 Kd (nkO P w Kd (xs ++ [(stK qq.2, bq, .bool true)])) = H8 at t78 o78 hK8 hF8 ⊢
          refine ⟨_, rfl, .inl ⟨rfl, _, SqL.of hF8⟩, _, rfl, F0, _, _, rfl, rfl, hF8, sz2 (by omega), ?_⟩
          have t89 : TU H8 (upd H8 F0 (.lst (vs' ++ [V.ref bq]))) := TU.mut hF8 fun _ z => by cases z
          refine ⟨⟨_, _, _, rfl, upd_same, StaAll.snoc ((hsq7.tu t78).tu t89) ((hA6.tu t78).tu t89), xs ++ [(stK qq.2, bq, .bool true)], by rw [upd_ne (Ne.symm hFK)]; exact hK8, by rw [List.map_append, List.map_append, ek]; rfl, ?_⟩, (off.trans o78).trans (Off.mut (.inl rfl))⟩
          refine (t78.trans t89).nk fun y hy => ?_
          rcases List.mem_append.mp hy with hy | hy
          · exact nk6 y hy
          · rw [List.mem_singleton.mp hy]
            exact ⟨hnkq, stK_depth _⟩
      · rintro σ H6 ⟨⟨vs', q7, q8, rfl, hF6, hA6, kn6⟩, off⟩
        rw [lp, List.take_length] at hA6 kn6
        refine ⟨vs', _, q7, q8, rfl, hF6, by rw [emet]; exact hA6, by rw [emet]; exact kn6, fun b' o e => ?_⟩
        refine off b' o (fun z => ?_) (s5 _ _ (s04 _ _ e))
        rcases z with z | z
        · rw [z, n1.free] at e; cases e
        · rw [z, hKdH] at e; cases e
    · rintro σ H4 ⟨vs, o6, o7, o8, rfl, hF4, hA4, kn4, s04⟩
      exact ⟨_, rfl, k F0 vs H4 s04 hF4 hA4⟩
/-- _law_told -/
def spTold (P : Program) (w : World) (CR CL : Addr) : Sp := fun vs H Q _ => ∃ (W : Wld) (st : Sta) (x r : Addr) (sv : V) (n : Nat) (mo : Int), vs = [.ref x, .ref r, sv, .int n] ∧ WOk W ∧ RoomAt CR H x W.rows W.wd ∧ RulesIs CL H r W ∧ StaAt H sv st ∧ OkS W st mo ∧ n ≤ 200 ∧ ∀ D vs H', Same H H' → H' D = some (.lst vs) → StaAll H' vs (metN W st n) → Q (.ref D) H'
theorem ok_told {f : Addr} {fd : FuncData} (F : Fun K "_law_told" "_law_told" s__law_told f fd) (T : LawT mg) (c_steps : CalG P w K mg base 5 "steps" (spMovs CR CL)) :
    FnG P w K mg base (CXe P w) 6 f fd ["room", "book", "state", "most"] (spTold P w CR CL) := by
  refine F.okG sc__law_told (fun vs H Q E h => ?_) (fun cdv A outer s H vs Q E hgd hr h => ?_)
  · obtain ⟨W, st, x, r, sv, n, mo, rfl, _⟩ := h; rfl
  · obtain ⟨W, st, x, r, sv, n, mo, rfl, O, hR, hbk, hst, Ks, hn, k⟩ := h
    refine ⟨_, (pss_cons (ps_set (i := 4) sc__law_told.nd rfl (Or.inl rfl) (pe_lstA (pa_cons (pv 2) pa_nil)))
      (pss_cons (ps_set (i := 5) sc__law_told.nd rfl (Or.inl rfl) (show PE _ _ (tNk1 P w (tVar 2) (tC (V.bl true))) from pe_nk1 (u9 hr) (pv 2) pe_bl))
      (pss_cons (ps_for (passes_of rfl) rfl (pi_range1 (by rfl) T.n_range (pa_cons (pv 3) pa_nil)) (pg_name (i := 6) sc__law_told.nd rfl (Or.inl rfl))
      (pss_one (ps_if (pt_cmpR op_lt (pv 6) (pe_callB call_len_seq (by rfl) T.n_len (by decide +kernel) (pa_cons (pv 4) pa_nil)) (nomark _)) (pss_one (ps_for (passes_of rfl) rfl (pi_list (pg_c c_steps hgd hr (by decide) (pa_cons (pv 0) (pa_cons (pv 1) (pa_cons (pe_ix ix_list (pv 4) (pv 6) (fun _ _ => rfl)) pa_nil))))) (pg_tup (by rfl) (pgs_cons (pg_name (i := 7) sc__law_told.nd rfl (Or.inl rfl)) (pgs_cons (pg_name (i := 8) sc__law_told.nd rfl (Or.inl rfl)) pgs_nil)))
      (pss_one (ps_if (pt_cmpR (show OpR _ (compareOp .NotIn) (rNotInNk P w) from op_notInNk (u9 hr)) (pv 8) (pv 5) (by rfl)) (pss_cons (ps_asg pe_bl (pg_sub (pv 5) (pv 8) (show PSet _ (rSetNk P w) from set_nk (u9 hr))))
      (pss_one (ps_expr (pe_bm PySem.F.plainAttrs_list PySem.F.slot_list_append PySem.F.type_list_append mt_append (pv 4) (pa_cons (pv 8) pa_nil))))) pss_nil)))) pss_nil)))
      (pss_one (ps_ret (pv 4)))))), ?_⟩
    refine ⟨_, rfl, And.intro (Nat.le_of_ble_eq_true rfl) fun F0 H1 n1 => ?_⟩
    have hst1 := hst.same n1.same
    refine fun Kd hKd => ?_
    have s2 : Same H1 (upd H1 Kd (nkO P w Kd [])) := same_new hKd
    have e2 : upd H1 Kd (nkO P w Kd []) Kd = some (nkO P w Kd []) := upd_same
    have hst2 := hst1.same s2
    obtain ⟨b, rfl, hnk⟩ := hst2.nk
    refine ⟨_, rfl, b, stK st, true, rfl, rfl, e2, hnk, stK_depth st, ?_⟩
    have same3 : Same H1 (upd (upd H1 Kd (nkO P w Kd [])) Kd (nkO P w Kd [(stK st, b, .bool true)])) := fun b' o e => by
      rw [upd_ne (ne_of_none e hKd), upd_ne (ne_of_none e hKd)]
      exact e
    have e3 : upd (upd H1 Kd (nkO P w Kd [])) Kd (nkO P w Kd [(stK st, b, .bool true)]) Kd = some (nkO P w Kd [(stK st, b, .bool true)]) := upd_same
    generalize upd (upd H1 Kd (nkO P w Kd [])) Kd (nkO P w Kd [(stK st, b, .bool true)]) = H3 at same3 e3 ⊢
    have hst3 := hst1.same same3
    have hF3 := same3 _ _ n1.at_
    have hFK : F0 ≠ Kd := ne_of_none n1.at_ hKd
    have s03 : Same H H3 := n1.same.trans same3
    have hKdH : H Kd = none := n1.same.free hKd
    have kn3 : Known P w H3 Kd [st] := ⟨_, e3, rfl, fun y hy => by
      rw [List.mem_singleton.mp hy]
      obtain ⟨b', eb, nk⟩ := hst3.nk
      cases eb
      exact ⟨nk, stK_depth st⟩⟩
    refine ⟨_, rfl, (n : Int), rfl, by omega, by omega, ?_⟩
    rw [Int.toNat_natCast]
    refine for_range (n := n) (fun i σ H2 => ∃ vs o6 o7 o8, σ = [some (.ref x), some (.ref r), some (.ref b), some (.int n), some (.ref F0), some (.ref Kd), o6, o7, o8] ∧ H2 F0 = some (.lst vs) ∧ StaAll H2 vs (metN W st i) ∧ Known P w H2 Kd (metN W st i) ∧ Same H H2) ⟨_, none, none, none, rfl, hF3, ⟨hst3, trivial⟩, kn3, s03⟩ ?_ ?_
    · rintro i σ H4 hi ⟨vs, o6, o7, o8, rfl, hF4, hA4, kn4, s04⟩
      have ll := hA4.len
      have lb := metN_len W st i
      refine ⟨_, rfl, _, rfl, F0, _, rfl, .inl (SqL.of hF4), _, _, rfl, rfl, _, rfl, ?_⟩
      by_cases hin : i < vs.length
      case neg =>
        refine iteF' (by simpa using hin) ⟨vs, _, o7, o8, rfl, hF4, ?_, ?_, s04⟩
        · have : (metN W st i)[i]? = none := List.getElem?_eq_none (by omega)
          show StaAll H4 vs (metN W st (i + 1))
          unfold metN
          rw [this]
          exact hA4
        · have : (metN W st i)[i]? = none := List.getElem?_eq_none (by omega)
          show Known P w H4 Kd (metN W st (i + 1))
          unfold metN
          rw [this]
          exact kn4
      refine iteT' (decide_eq_true (by omega)) ?_
      obtain ⟨hs, hsti⟩ := hA4.get hin
      have hok := metN_ok O Ks i _ (List.getElem_mem hs)
      have emet : metN W st (i + 1) = metS (metN W st i) (movesOf W (metN W st i)[i]) := by
        show (match (metN W st i)[i]? with | some t => metS (metN W st i) (movesOf W t) | none => metN W st i) = _
        rw [List.getElem?_eq_getElem hs]
      generalize hti : (metN W st i)[i] = ti at hsti hok emet
      have hat : atI vs (0 + (i : Int)) = some vs[i] := by rw [Int.zero_add]; exact atI_nat (List.getElem?_eq_getElem hin)
      refine ⟨_, rfl, _, rfl, _, rfl, _, rfl, F0, vs, _, vs[i], rfl, rfl, SqL.of hF4, hat, W, ti, x, r, vs[i], rfl, O, hR.same' s04, hbk.same s04, hsti, hok.ok, fun D ws H5 s5 fD hD hP => ?_⟩
      have hDF : D ≠ F0 := fun z => by rw [z, hF4] at fD; cases fD
      have hDK : D ≠ Kd := fun z => by
        obtain ⟨xs, e, _⟩ := kn4
        rw [z, e] at fD
        cases fD
      have kn5 : Known P w H5 Kd (metN W st i) := by
        obtain ⟨xs, e, q1, q2⟩ := kn4
        exact ⟨xs, s5 _ _ e, q1, (TU.of_same s5).nk q2⟩
      have lm := moves_len W ti
      have lp := hP.len
      refine ⟨D, rfl, ⟨_, SqL.of hD⟩, for_it (walk_list (xs := ws)) (fun j σ H6 => (∃ vs' o7 o8, σ = [some (.ref x), some (.ref r), some (.ref b), some (.int n), some (.ref F0), some (.ref Kd), some (.int (0 + (i : Int))), o7, o8] ∧ H6 F0 = some (.lst vs') ∧ StaAll H6 vs' (metS (metN W st i) ((movesOf W ti).take j)) ∧ Known P w H6 Kd (metS (metN W st i) ((movesOf W ti).take j))) ∧ Off (fun b => b = F0 ∨ b = Kd) H5 H6) ⟨⟨vs, o7, o8, rfl, s5 _ _ hF4, hA4.tu (TU.of_same s5), kn5⟩, Off.refl _⟩ (fun j σ H6 _ z => SqL.of (z.2 _ _ (fun q => q.elim hDF hDK) hD)) ?_ ?_⟩
      · rintro j y σ H6 H7 hj ⟨⟨vs', q7, q8, rfl, hF6, hA6, kn6⟩, off⟩ ⟨rfl, hy⟩
        have t57 : TU H5 H7 := fun b' o e => by
          refine off b' _ (fun z => ?_) e
          rcases z with z | z
          · rw [z, s5 _ _ hF4] at e
            cases e
          · obtain ⟨xs, e', _⟩ := kn5
            rw [z, e'] at e
            exact nkt _ (Option.some.inj e)
        obtain ⟨hq, t, svq, e, ht, hsq⟩ := PairsAt.idx hj hP
        rw [hy] at e
        cases e
        have ht7 := t57 _ _ ht
        have hsq7 := hsq.tu t57
        have ej := metS_take (ss := metN W st i) hq
        have ls := metS_len (metN W st i) ((movesOf W ti).take j)
        have lt : ((movesOf W ti).take j).length ≤ 8 := Nat.le_trans (List.length_take_le' ..) lm
        have l6 := hA6.len
        generalize hqq : (movesOf W ti)[j] = qq at *
        generalize metS (metN W st i) ((movesOf W ti).take j) = ss at *
        obtain ⟨bq, rfl, hnkq⟩ := hsq7.nk
        obtain ⟨xs, hK6, ek, nk6⟩ := kn6
        have lxs : xs.length = ss.length := by have := congrArg List.length ek; simpa using this
        refine ⟨t, _, rfl, SqT.of ht7, rfl, _, _, rfl, _, _, rfl, rfl, ?_⟩
        refine ⟨_, rfl, _, rfl, Kd, xs, bq, stK qq.2, rfl, rfl, hK6, nk6, hnkq, stK_depth _, _, rfl, ?_⟩
        have em := known_mem ek qq.2
        rw [ej]
        by_cases hm : qq.2 ∈ ss
        · rw [if_pos hm]
          exact iteF' (by rw [em, decide_eq_true hm]; decide) ⟨⟨vs', _, _, rfl, hF6, hA6, xs, hK6, ek, nk6⟩, off⟩
        · rw [if_neg hm]
          refine iteT' (by rw [em, decide_eq_false hm]; decide) ?_
          have en : atKey xs (stK qq.2) = none := by
            rw [decide_eq_false hm] at em
            cases h : atKey xs (stK qq.2) with
            | none => rfl
            | some z => rw [h] at em; cases em
          refine ⟨_, rfl, _, rfl, Kd, xs, bq, stK qq.2, true, rfl, rfl, rfl, hK6, nk6, hnkq, stK_depth _, sz2 (by omega), ?_⟩
          rw [storedH_new en]
          have t78 : TU H7 (upd H7 Kd (nkO P w Kd (xs ++ [(stK qq.2, bq, .bool true)]))) := TU.mut hK6 nkt
          have o78 : Off (fun b => b = F0 ∨ b = Kd) H7 (upd H7 Kd (nkO P w Kd (xs ++ [(stK qq.2, bq, .bool true)]))) := Off.mut (.inr rfl)
          have hK8 : upd H7 Kd (nkO P w Kd (xs ++ [(stK qq.2, bq, .bool true)])) Kd = some (nkO P w Kd (xs ++ [(stK qq.2, bq, .bool true)])) := upd_same
          have hF8 : upd H7 Kd (nkO P w Kd (xs ++ [(stK qq.2, bq, .bool true)])) F0 = some (.lst vs') := by rw [upd_ne hFK]; exact hF6
          generalize upd H7 Kd (nkO P w Kd (xs ++ [(stK qq.2, bq, .bool true)])) = H8 at t78 o78 hK8 hF8 ⊢
          refine ⟨_, rfl, .inl ⟨rfl, _, SqL.of hF8⟩, _, rfl, F0, _, _, rfl, rfl, hF8, sz2 (by omega), ?_⟩
          have t89 : TU H8 (upd H8 F0 (.lst (vs' ++ [V.ref bq]))) := TU.mut hF8 fun _ z => by cases z
          refine ⟨⟨_, _, _, rfl, upd_same, StaAll.snoc ((hsq7.tu t78).tu t89) ((hA6.tu t78).tu t89), xs ++ [(stK qq.2, bq, .bool true)], by rw [upd_ne (Ne.symm hFK)]; exact hK8, by rw [List.map_append, List.map_append, ek]; rfl, ?_⟩, (off.trans o78).trans (Off.mut (.inl rfl))⟩
          refine (t78.trans t89).nk fun y hy => ?_
          rcases List.mem_append.mp hy with hy | hy
          · exact nk6 y hy
          · rw [List.mem_singleton.mp hy]
            exact ⟨hnkq, stK_depth _⟩
      · rintro σ H6 ⟨⟨vs', q7, q8, rfl, hF6, hA6, kn6⟩, off⟩
        rw [lp, List.take_length] at hA6 kn6
        refine ⟨vs', _, q7, q8, rfl, hF6, by rw [emet]; exact hA6, by rw [emet]; exact kn6, fun b' o e => ?_⟩
        refine off b' o (fun z => ?_) (s5 _ _ (s04 _ _ e))
        rcases z with z | z
        · rw [z, n1.free] at e; cases e
        · rw [z, hKdH] at e; cases e
    · rintro σ H4 ⟨vs, o6, o7, o8, rfl, hF4, hA4, kn4, s04⟩
      exact ⟨_, rfl, k F0 vs H4 s04 hF4 hA4⟩
end
end K11
end
section
set_option Elab.async false
set_option linter.all false
set_option maxRecDepth 100000
set_option maxHeartbeats 2000000
namespace K11
open PySem L2
local macro_rules | `(tactic| walk_at "hp") => `(tactic| first | assumption | exact upd_same | (refine (upd_ne (by first | assumption | (apply Ne.symm; assumption))).trans ?_; walk_at "hp"))
local macro_rules | `(tactic| walk_at "rd1") => `(tactic| first
  | (refine ⟨_, rfl, ?_⟩)
  | (refine ⟨_, _, rfl, rfl, ?_⟩)
  | (refine ⟨(rfl : scal _ _ = true), ?_⟩)
  | (refine And.intro (by show (0 : Int) < _; decide) ?_)
  | (refine And.intro (And.intro (by decide) (by decide)) ?_)
  | (refine And.intro (Or.inr (And.intro (by decide) (by decide))) ?_)
  | (refine And.intro (And.intro (by decide) (And.intro (by decide) (by decide))) ?_)
  | (refine And.intro (by assumption) ?_)
  | (refine And.intro (And.intro (by omega) (by omega)) ?_)
  | (refine And.intro (Or.inl (And.intro (by omega) (by omega))) ?_)
  | (refine' ⟨_, _, _, _, rfl, rfl, Or.inl (Or.inl ?h1), ?h2, ?h3⟩; (case h1 => walk_at "hp"); (case h2 => rfl))
  | (refine' ⟨_, _, _, _, rfl, rfl, ?h1, ?h2, ?h3⟩; (case h1 => walk_at "hp"); (case h2 => rfl))
  | (refine' ⟨_, _, rfl, Or.inl (Or.inl (Or.inl ?h1)), ?h3⟩; (case h1 => walk_at "hp"))
  | (refine Or.inl ⟨_, rfl, ?_⟩))
local macro_rules | `(tactic| walk_at "rd") => `(tactic| repeat walk_at "rd1")

theorem moved_keeps {W : Wld} {s s' : Sta} {wy : Way} {big : Bool} (h : moved W s wy big = some s') : (∀ c ∈ s.go, c ∈ s'.go) ∧ s'.us = s.us := by
  have ent : ∀ {g : Int} {q : List Int × Int × Int}, entered W s g = some q → ∀ c ∈ s.go, c ∈ q.1 := fun {g q} e c hc => by
    unfold entered at e
    split at e
    · cases e; exact hc
    split at e
    · cases e
    split at e
    · cases e; exact hc
    split at e
    · cases e
    · cases e; exact mem_withOne.mpr (.inl hc)
  unfold moved at h
  simp only at h
  split at h
  · cases h
  split at h
  · cases big with
    | true => simp at h
    | false =>
      simp only [Bool.false_eq_true, if_false] at h
      unfold pushed at h
      simp only at h
      repeat' (first | (cases h; done) | split at h)
      all_goals first
        | (cases h; exact ⟨fun _ hc => hc, rfl⟩)
        | (cases h; exact ⟨fun _ hc => mem_withOne.mpr (.inl hc), rfl⟩)
        | cases h
  · split at h
    · cases h
    · rename_i g a b he
      have en := ent he
      cases big with
      | false =>
        simp only [Bool.false_eq_true, if_false] at h
        cases h
        exact ⟨en, rfl⟩
      | true =>
        simp only [if_true] at h
        split at h
        · cases h
        · cases h; exact ⟨en, rfl⟩
theorem dpI {K : PySem.W.Frag} {H : Hp} (xs : List Int) : DpAll K H (xs.map V.int) (xs.map PyData.int) := by
  induction xs with
  | nil => exact .nil
  | cons x r ih => exact .cons (.int x) ih
theorem layI (xs : List Int) : PyData.canLayAll0 (xs.map PyData.int) = true := by simp [PySem.W.ke_canLayAll0]
theorem shapedI (xs : List Int) : SeqAt.shaped (.tuple (xs.map PyData.int)) = true := PySem.W.ke_shaped_ints xs
theorem cut_to (xs : List V) (n : Nat) : cutV xs none (some (n : Int)) = xs.take n := by
  unfold cutV
  have a : HT.sIx xs.length 0 none = 0 := rfl
  have b : HT.sIx xs.length xs.length (some (n : Int)) = min n xs.length := by
    show (if (n : Int) < 0 then ((n : Int) + (xs.length : Int)).toNat else min (n : Int).toNat xs.length) = _
    rw [if_neg (by omega), Int.toNat_natCast]
  rw [a, b, Nat.sub_zero, List.drop_zero]
  rw [← List.take_eq_take_min]
theorem statesD_ok {W : Wld} (O : WOk W) {mo : Int} {ss : List Sta} (h : ∀ s ∈ ss, OkS W s mo) (hl : ss.length ≤ 1601) : (PyData.list (ss.map stateD)).showable = true ∧ (PyData.list (ss.map stateD)).depth ≤ 60 ∧ (PyData.list (ss.map stateD)).shown.length ≤ sizeLine := by
  have s : Sh (.list (ss.map stateD)) 3 (1601 * 787 + 3) := Sh.list (n := 2) (l := 785) (m := 1601) (fun d hd => by
    obtain ⟨t, ht, rfl⟩ := List.mem_map.mp hd
    exact stateD_sh O (h t ht).ok) (by rw [List.length_map]; exact hl)
  exact ⟨s.ok, Nat.le_trans s.deep (by decide), Nat.le_trans s.len (by rw [sizeLine_eq]; exact Nat.le_of_ble_eq_true rfl)⟩
theorem take_flt {α : Type} (f : α → Bool) {ps : List α} {i : Nat} (hi : i < ps.length) : (ps.take (i + 1)).filter f = if f ps[i] = true then (ps.take i).filter f ++ [ps[i]] else (ps.take i).filter f := by
  rw [List.take_add_one, List.getElem?_eq_getElem hi, List.filter_append]
  by_cases h : f ps[i] = true <;> simp [h]
section
variable {P : Program} {w : World} {K : PySem.W.Frag} {mg : Str → Option Value} {base : Heap} {CR CL aB aO EB EF LB LF GB GF : Addr}
theorem marks_ok : MarksOk ".#^v<>abABoxpg*o....." := ⟨by decide +kernel, by decide +kernel, by decide +kernel⟩
theorem ok_law {f : Addr} {fd : FuncData} (F : Fun K "law" "law" s_law f fd) (T : LawT mg) (m_Room : MakG P w K mg base 4 "Room" CR (spRoomInit K CR EB) []) (m_Rules : MakG P w K mg base 4 "Rules" CL (spRInit K CL LB) [])
    (c__law_pool : CalG P w K mg base 1 "_law_pool" (spPool K)) (c__law_draw : CalG P w K mg base 1 "_law_draw" (spDraw K)) (c__law_rows : CalG P w K mg base 3 "_law_rows" (spRows K)) (c__law_rules : CalG P w K mg base 2 "_law_rules" (spRul K)) (c__law_bag : CalG P w K mg base 2 "_law_bag" (spBag K))
    (c_begin : CalG P w K mg base 5 "begin" (spBegin CR CL)) (c__law_begun : CalG P w K mg base 1 "_law_begun" spBeg) (c_steps : CalG P w K mg base 5 "steps" (spMovs CR CL)) (c_is_state : CalG P w K mg base 4 "is_state" (spJud CR CL))
    (c__law_met : CalG P w K mg base 6 "_law_met" (spMet P w)) (c__law_told : CalG P w K mg base 6 "_law_told" (spTold P w CR CL)) :
    FnG P w K mg base (CXe P w) 8 f fd ["script"] (spLaw K) := by
  refine F.okG sc_law (fun vs H Q E h => ?_) (fun cdv A outer s H vs Q E hgd hr h => ?_)
  · obtain ⟨a, ns, rfl, _⟩ := h; rfl
  · obtain ⟨a, ns, rfl, hs, hl, k⟩ := h
    refine ⟨_, (pss_cons (ps_set (i := 1) sc_law.nd rfl (Or.inl rfl) (pg_c c__law_pool hgd hr (by decide) (pa_cons (pv 0) pa_nil)))
      (pss_cons (ps_set (i := 2) sc_law.nd rfl (Or.inl rfl) (pg_c c__law_rows hgd hr (by decide) (pa_cons (pv 1) (pa_cons pe_str (pa_cons (pg_c c__law_draw hgd hr (by decide) (pa_cons (pv 1) (pa_cons pe_int pa_nil))) pa_nil)))))
      (pss_cons (ps_set (i := 3) sc_law.nd rfl (Or.inl rfl) (pg_c c__law_rules hgd hr (by decide) (pa_cons (pv 1) pa_nil)))
      (pss_cons (ps_set (i := 4) sc_law.nd rfl (Or.inl rfl) (pg_mk m_Room hgd hr (by decide) (pa_cons (pv 2) pa_nil)))
      (pss_cons (ps_set (i := 5) sc_law.nd rfl (Or.inl rfl) (pg_mk m_Rules hgd hr (by decide) (pa_cons (pe_ix ix_tup (pv 3) pe_int (fun _ _ => rfl)) (pa_cons (pe_ix ix_tup (pv 3) pe_int (fun _ _ => rfl)) (pa_cons (pe_ix ix_tup (pv 3) pe_int (fun _ _ => rfl)) pa_nil)))))
      (pss_cons (ps_set (i := 6) sc_law.nd rfl (Or.inl rfl) (pg_c c__law_bag hgd hr (by decide) (pa_cons (pv 1) (pa_cons (pv 3) pa_nil))))
      (pss_cons (ps_set (i := 7) sc_law.nd rfl (Or.inl rfl) (pe_ix ix_list (pe_lstA (pa_cons pe_int (pa_cons pe_int (pa_cons pe_int (pa_cons pe_int pa_nil))))) (pg_c c__law_draw hgd hr (by decide) (pa_cons (pv 1) (pa_cons pe_int pa_nil))) (fun _ _ => rfl)))
      (pss_cons (ps_set (i := 8) sc_law.nd rfl (Or.inl rfl) (pg_c c__law_told hgd hr (by decide) (pa_cons (pv 4) (pa_cons (pv 5) (pa_cons (pg_c c_begin hgd hr (by decide) (pa_cons (pv 4) (pa_cons (pv 5) (pa_cons (pv 6) pa_nil)))) (pa_cons (pv 7) pa_nil))))))
      (pss_cons (ps_if (pt_cmpR op_ne (pe_callB (call_reprD hgd hr) (by rfl) T.n_repr (by decide +kernel) (pa_cons (pv 8) pa_nil)) (pe_callB (call_reprD hgd hr) (by rfl) T.n_repr (by decide +kernel) (pa_cons (pg_c c__law_met hgd hr (by decide) (pa_cons (pv 2) (pa_cons (pv 3) (pa_cons (pg_c c__law_begun hgd hr (by decide) (pa_cons (pv 2) (pa_cons (pv 6) pa_nil))) (pa_cons (pv 7) pa_nil))))) pa_nil)) (nomark _)) (pss_one (ps_ret pe_bl)) pss_nil)
      (pss_cons (ps_set (i := 9) sc_law.nd rfl (Or.inr rfl) (pe_m1 PySem.F.slot_str_join PySem.F.type_str_join mt_join pe_str (pv 2)))
      (pss_cons (ps_for (passes_of rfl) rfl (pi_list (pe_slice sl_list (pv 8) po_none (po_some pe_int))) (pg_name (i := 10) sc_law.nd rfl (Or.inl rfl))
      (pss_cons (ps_if (pt_cmpR op_notBl (pg_c c_is_state hgd hr (by decide) (pa_cons (pv 4) (pa_cons (pv 5) (pa_cons (pv 10) pa_nil)))) pe_bl (nomark _)) (pss_one (ps_ret pe_bl)) pss_nil)
      (pss_cons (ps_set (i := 11) sc_law.nd rfl (Or.inl rfl) (pe_callB call_len_seq (by rfl) T.n_len (by decide +kernel) (pa_cons (pe_lc (own := [("cell", 14)]) (g := gName 14) rfl sc_law.nd (pi_tup (pe_ix ix_tup (pv 10) pe_int (fun _ _ => rfl))) (blkOk_by (own := [("cell", 14)]) (N := ["script", "pool", "rows", "rules", "room", "book", "bag", "most", "told", "cells", "state", "filled", "letter", "behind", "cell"]) (sc := defScope s_law) (by decide +kernel)) (fun _ _ _ _ _ => pg_name (i := 14) sc_law.nd rfl (Or.inl rfl)) (fun _ _ _ _ _ => pts_one (pt_cmpR op_eq (pe_ix ix_str (pv 9) (pv 14) (fun _ _ => rfl)) pe_str (nomark _))) (fun _ _ _ _ _ => (pv 14))) pa_nil)))
      (pss_cons (ps_if (pt_cmpR op_ne (pe_op op_add (pe_callB call_len_seq (by rfl) T.n_len (by decide +kernel) (pa_cons (pe_ix ix_tup (pv 10) pe_int (fun _ _ => rfl)) pa_nil)) (pv 11)) (pe_m1 PySem.F.slot_str_count PySem.F.type_str_count mt_count (pv 9) pe_str) (nomark _)) (pss_one (ps_ret pe_bl)) pss_nil)
      (pss_one (ps_for (passes_of rfl) rfl (pi_list (pg_c c_steps hgd hr (by decide) (pa_cons (pv 4) (pa_cons (pv 5) (pa_cons (pv 10) pa_nil))))) (pg_tup (by rfl) (pgs_cons (pg_name (i := 12) sc_law.nd rfl (Or.inl rfl)) (pgs_cons (pg_name (i := 13) sc_law.nd rfl (Or.inr rfl)) pgs_nil)))
      (pss_one (ps_if (PW.pt (pw_or (pt_cmpR op_gt (pe_callB call_len_seq (by rfl) T.n_len (by decide +kernel) (pa_cons (pe_lc (own := [("cell", 14)]) (g := gName 14) rfl sc_law.nd (pi_tup (pe_ix ix_tup (pv 10) pe_int (fun _ _ => rfl))) (blkOk_by (own := [("cell", 14)]) (N := ["script", "pool", "rows", "rules", "room", "book", "bag", "most", "told", "cells", "state", "filled", "letter", "behind", "cell"]) (sc := defScope s_law) (by decide +kernel)) (fun _ _ _ _ _ => pg_name (i := 14) sc_law.nd rfl (Or.inl rfl)) (fun _ _ _ _ _ => pts_one (pt_cmpR (show OpR _ (compareOp .NotIn) (rIn K true) from op_notIn_seq) (pv 14) (pe_ix (show IxR _ (rIxT K) from ix_tup) (pv 13) pe_int (fun _ _ => rfl)) (by rfl))) (fun _ _ _ _ _ => (pv 14))) pa_nil)) pe_int (nomark _)) (pw_or1 (pt_cmpR (op_neD hr.units) (pe_ix ix_tup (pv 13) pe_int (fun _ _ => rfl)) (pe_ix ix_tup (pv 10) pe_int (fun _ _ => rfl)) (nomark _))))) (pss_one (ps_ret pe_bl)) pss_nil))))))))
      (pss_one (ps_ret pe_bl))))))))))))), ?_⟩
    refine ⟨_, rfl, a, ns, rfl, hs, hl, fun l p H1 np s1 hp1 => ?_⟩
    refine ⟨_, rfl, _, rfl, l, p, 3, rfl, hp1, by decide, by decide, fun r1 H2 ra1 rb1 o2 hp2 => ?_⟩
    refine ⟨l, p, ".#^v<>abABoxpg*o.....", r1.toNat, congrArg (fun z : Int => [V.ref p, .str ".#^v<>abABoxpg*o.....", .int z]) (by omega), hp2, marks_ok, by omega, fun R rows wd H3 nR RO hli hwh hR o3 hp3 => ?_⟩
    refine ⟨_, rfl, l, p, rfl, hp3, fun tr H4 cc ss pl o4 hp4 hc1 hc2 htr => ?_⟩
    have hRp : R ≠ p := fun z => by
      obtain ⟨xs, i, c, n, z', h1, _⟩ := hp2.ex
      rw [z] at nR
      rw [nR] at h1
      cases h1
    have hR4 := o4 _ _ hRp hR
    refine ⟨_, rfl, fun x dx nx ndx nex => make_room nx ndx (.inl hR4) RO hli hwh fun H5 s5 hX5 => ⟨rfl, ?_⟩⟩
    have htr5 := s5 _ _ htr
    have at_ : ∀ j : Nat, ∀ v, [V.int cc, V.bl ss, V.bl pl][j]? = some v → atI [V.int cc, V.bl ss, V.bl pl] (j : Int) = some v := fun j v h => atI_nat h
    refine ⟨_, rfl, tr, _, 0, .int cc, rfl, rfl, SqT.of htr5, at_ 0 _ rfl, ?_⟩
    refine ⟨_, rfl, tr, _, 1, .bl ss, rfl, rfl, SqT.of htr5, at_ 1 _ rfl, ?_⟩
    refine ⟨_, rfl, tr, _, 2, .bl pl, rfl, rfl, SqT.of htr5, at_ 2 _ rfl, ?_⟩
    refine fun r dr nr ndr ner => make_rules hc1 hc2 nr ndr fun H6 s6 hB6 => ⟨rfl, ?_⟩
    let W : Wld := ⟨rows, wd, cc, ss, pl⟩
    have S6 : Scene K CR CL H6 l p x r (.ref R) (.ref tr) W := ⟨⟨RO, hc1, hc2⟩, hwh, (hp4.same s5).same s6, fun z => hRp (V.ref.inj z), hX5.same' s6, ⟨dr, hB6⟩, ⟨R, rfl, s6 _ _ (s5 _ _ hR4)⟩, ⟨tr, rfl, s6 _ _ htr5⟩⟩
    have hz : W.z.length = W.n := join_len S6.O.R
    have hn := S6.O.n30
    refine ⟨_, rfl, _, rfl, l, p, .ref tr, W, rfl, S6.pool, S6.U, S6.O, fun tb H7 ba bb o7 hp7 q1 q2 q3 q4 htb => ?_⟩
    have S7 := S6.off o7 hp7
    refine And.intro (Nat.le_of_ble_eq_true rfl) fun lq H8 n8 => ?_
    have S8 := S7.same n8.same
    have hlqp := S7.pool.ne n8.free
    refine ⟨_, rfl, l, p, 4, rfl, S8.pool, by decide, by decide, fun rr H9 ar br o9 hp9 => ?_⟩
    have S9 := S8.off o9 hp9
    have htb9 := (TS.of_off S8.pool o9).tup (n8.same _ _ htb)
    obtain ⟨N, hN, hNl⟩ : ∃ N : Nat, atI [V.int 20, V.int 40, V.int 40, V.int 200] rr = some (V.int (N : Int)) ∧ N ≤ 200 := by
      have : rr = 0 ∨ rr = 1 ∨ rr = 2 ∨ rr = 3 := by omega
      rcases this with rfl | rfl | rfl | rfl
      · exact ⟨20, rfl, by decide⟩
      · exact ⟨40, rfl, by decide⟩
      · exact ⟨40, rfl, by decide⟩
      · exact ⟨200, rfl, by decide⟩
    refine ⟨lq, _, rr, .int (N : Int), rfl, rfl, SqL.of (o9 _ _ hlqp n8.at_), hN, ?_⟩
    have K0 : OkS W (begS W ba bb) (manyZ W.z "12") := begS_okS S9.O S9.whole q1 q2 q3 q4
    refine ⟨_, rfl, _, rfl, _, rfl, _, rfl, _, rfl, W, x, r, tb, ba, bb, rfl, S9.R, S9.B, htb9, q1, q2, q3, q4, fun sv Ha sa hsta => ?_⟩
    have Sa := S9.same sa
    refine ⟨_, rfl, W, begS W ba bb, x, r, sv, N, manyZ W.z "12", rfl, Sa.O, Sa.R, Sa.B, hsta, K0, hNl, fun D vs Hb sb hD hA => ?_⟩
    have Sb := Sa.same sb
    have oks := metN_ok Sb.O K0 N
    have mlen : (metN W (begS W ba bb) N).length ≤ 1601 := by have := metN_len W (begS W ba bb) N; omega
    obtain ⟨w1, w2, w3⟩ := statesD_ok Sb.O oks mlen
    refine ⟨_, rfl, .ref D, .list ((metN W (begS W ba bb) N).map stateD), true, M0, rfl, .lst hD id rfl hA.dr, w1, w2, w3, ?_⟩
    have htbb := sb _ _ (sa _ _ htb9)
    refine ⟨_, rfl, _, rfl, _, rfl, _, rfl, W, .ref R, tb, ba, bb, rfl, Sb.O, Sb.L, Sb.whole, htbb, fun sv2 Hc sc hst2 => ?_⟩
    have Sc := Sb.same sc
    refine ⟨_, rfl, W, begS W ba bb, .ref R, .ref tr, sv2, N, manyZ W.z "12", rfl, Sc.O, Sc.L, Sc.U, hst2, K0, hNl, fun D2 vs2 Hd sd hD2 hA2 => ?_⟩
    refine ⟨.ref D2, .list ((metN W (begS W ba bb) N).map stateD), true, M0, rfl, .lst hD2 id rfl hA2.dr, w1, w2, w3, ?_⟩
    refine ⟨(rfl : scal _ _ = true), _, rfl, iteF' (by simp) ?_⟩
    have Sd := Sc.same sd
    have sbd := sc.trans sd
    have hDd := sbd _ _ hD
    have hAd := hA.tu (TU.of_same sbd)
    generalize metN W (begS W ba bb) N = sts at hAd oks
    clear w1 w2 w3 hA hA2 hD hD2 hst2 hsta
    obtain ⟨R', eR, hRd⟩ := id Sd.L.ex
    cases eR
    refine ⟨⟨_, rfl⟩, _, rfl, "", R, rows, rfl, rfl, .inl (SqL.of hRd), join_fit Sd.O, ?_⟩
    refine ⟨_, rfl, _, rfl, D, vs, rfl, SqL.of hDd, fun q hq => ?_⟩
    have hq1 : Same Hd (upd Hd q (.lst (cutV vs none (some 60)))) := same_new hq
    have hqq : upd Hd q (.lst (cutV vs none (some 60))) q = some (.lst (vs.take 60)) := by rw [upd_same, show cutV vs none (some 60) = _ from cut_to vs 60]
    generalize upd Hd q (.lst (cutV vs none (some 60))) = He at hq1 hqq ⊢
    have Se := Sd.same hq1
    have hA60 := (hAd.tu (TU.of_same hq1)).take 60
    have ok60 : ∀ s ∈ sts.take 60, OkS W s (manyZ W.z "12") := fun s hs => oks s (List.mem_of_mem_take hs)
    generalize vs.take 60 = us at hqq hA60
    generalize sts.take 60 = tt at hA60 ok60
    refine ⟨q, rfl, ⟨_, SqL.of hqq⟩, for_it (walk_list (xs := us)) (fun i σ H2 => (∃ o10 o11 o12 o13, σ = [some (.ref a), some (.ref p), some (.ref R), some (.ref tr), some (.ref x), some (.ref r), some (.ref tb), some (.int N), some (.ref D), some (.str W.z), o10, o11, o12, o13, none]) ∧ Same He H2) ⟨⟨none, none, none, none, rfl⟩, Same.refl _⟩ (fun i σ H2 _ z => SqL.of (z.2 _ _ hqq)) ?_ ?_⟩
    · rintro i y σ Hf Hg hi ⟨⟨o10, o11, o12, o13, rfl⟩, sgg⟩ ⟨rfl, hy⟩
      obtain ⟨hs, hst⟩ := hA60.get hi
      rw [List.getElem?_eq_getElem hi] at hy
      cases Option.some.inj hy
      have Ks := ok60 _ (List.getElem_mem hs)
      have hstg := hst.same sgg
      generalize tt[i] = st at hstg Ks
      generalize us[i] = sv at hstg
      have Sg := Se.same sgg
      refine ⟨_, rfl, _, rfl, _, rfl, W, st, x, r, sv, rfl, Sg.O, Sg.R, Sg.B, hstg, Ks, fun Hh sh => ⟨true, true, rfl, rfl, _, rfl, iteF' (by decide) ?_⟩⟩
      have Sh := Sg.same sh
      have hsth := hstg.same sh
      obtain ⟨sa', sc', sg', su', sb', rfl, hsa, hsc, hsg, hsu, hsb⟩ := id hsth
      have ats : ∀ (j : Nat) v, [V.int st.at_, V.ref sc', V.ref sg', V.ref su', V.ref sb'][j]? = some v → atI [V.int st.at_, V.ref sc', V.ref sg', V.ref su', V.ref sb'] (j : Int) = some v := fun j v h => atI_nat h
      -- as many as at first
      refine ⟨_, rfl, sa', _, 2, .ref sg', rfl, rfl, SqT.of hsa, ats 2 _ rfl, sg', rfl, ⟨_, SqT.of hsg⟩, fun D3 hD3 => lc_it (walk_tup (xs := st.go.map V.int)) (fun j H' => H' D3 = some (.lst (((st.go.take j).filter fun c => decide (mark W.z c = 120)).map V.int)) ∧ Off (fun b => b = D3) Hh H') ⟨upd_same, Off.new hD3⟩ (fun j H' _ z => SqT.of (z.2 _ _ (ne_of_none hsg hD3) hsg)) ?_ ?_⟩
      · rintro j y' Hx Hy hj ⟨hacc, off⟩ ⟨rfl, hy'⟩
        rw [List.length_map] at hj
        cases mapI_get hj hy'
        have hm := List.getElem_mem hj
        rw [take_flt _ hj]
        refine And.intro rfl ?_
        refine ⟨_, rfl, _, rfl, W.z, _, _, rfl, rfl, z_fit Sh.O, mark_at (Ks.ok.go0 _ hm) (Ks.ok.go1 _ hm) Sh.O.R, (rfl : scal _ _ = true), _, rfl, ?_⟩
        by_cases hk : mark W.z st.go[j] = 120
        · rw [if_pos (by simpa using hk)]
          refine iteT' ((sg (by decide +kernel)).mpr hk) ⟨_, rfl, _, hacc, sz ?_, ?_, off.trans (Off.mut rfl)⟩
          · rw [List.length_map]
            exact Nat.le_trans (List.length_filter_le ..) (Nat.le_trans (List.length_take_le' ..) (Nat.le_trans (Ks.ok.gol Sh.O) (by decide)))
          · rw [upd_same, List.map_append]; rfl
        · rw [if_neg (by simpa using hk)]
          exact iteF' (fun z => hk ((sg (by decide +kernel)).mp z)) ⟨hacc, off⟩
      rintro Hi ⟨hacc, off⟩
      rw [List.length_map, List.take_length] at hacc
      have shi : Same Hh Hi := fun b o e => off b o (ne_of_none e hD3) e
      have Si := Sh.same shi
      have hsti := hsth.same shi
      have hsai := shi _ _ hsa
      refine ⟨D3, _, rfl, .inl (SqL.of hacc), ?_⟩
      refine ⟨_, rfl, sa', _, 1, .ref sc', rfl, rfl, SqT.of hsai, ats 1 _ rfl, sc', _, rfl, .inr (SqT.of (shi _ _ hsc)), _, rfl, _, _, rfl, rfl, _, rfl, ⟨_, rfl⟩, _, _, rfl, rfl, (rfl : scal _ _ = true), _, rfl, ?_⟩
      have ecnt : (!decide (V.int ((((st.cr.map V.int).length : Nat) : Int) + (((((st.go.filter fun c => decide (mark W.z c = 120)).map V.int).length : Nat)) : Int)) = V.int (Txt.count W.z "o"))) = false := by
        have hc := Ks.cnt
        unfold pits at hc
        rw [places_count, List.length_map, List.length_map, decide_eq_true]
        · rfl
        · congr 1
          omega
      refine iteF' (fun y => by have := ecnt.symm.trans y; cases this) ?_
      clear ecnt hacc off
      -- the steps keep what is gone and used
      refine ⟨_, rfl, _, rfl, _, rfl, W, st, x, r, .ref sa', rfl, Si.O, Si.R, Si.B, hsti, Ks.ok, fun D4 ws Hj sj fD4 hD4 hP => ?_⟩
      have Sj := Si.same sj
      have lm := moves_len W st
      refine ⟨D4, rfl, ⟨_, SqL.of hD4⟩, for_it (walk_list (xs := ws)) (fun j σ H2 => (∃ o12 o13, σ = [some (.ref a), some (.ref p), some (.ref R), some (.ref tr), some (.ref x), some (.ref r), some (.ref tb), some (.int N), some (.ref D), some (.str W.z), some (.ref sa'), some (.int ((((st.go.filter fun c => decide (mark W.z c = 120)).map V.int).length : Nat) : Int)), o12, o13, none]) ∧ Same Hj H2) ⟨⟨_, _, rfl⟩, Same.refl _⟩ (fun j σ H2 _ z => SqL.of (z.2 _ _ hD4)) ?_ ?_⟩
      · rintro j y' σ Hk Hl hj ⟨⟨q12, q13, rfl⟩, sk⟩ ⟨rfl, hy'⟩
        obtain ⟨hq, t, svq, e, ht, hsq⟩ := PairsAt.idx hj hP
        rw [hy'] at e
        cases e
        have ht' := sk _ _ ht
        have hsq' := hsq.same sk
        have hmem := List.getElem_mem hq
        generalize (movesOf W st)[j] = qq at *
        obtain ⟨wy, big, _, elt, hmv⟩ := pairs_mem hmem
        obtain ⟨kg, ku⟩ := moved_keeps hmv
        obtain ⟨ta, tc, tg, tu, tb', rfl, hta, htc, htg, htu, htb'⟩ := id hsq'
        have att : ∀ (j : Nat) v, [V.int qq.2.at_, V.ref tc, V.ref tg, V.ref tu, V.ref tb'][j]? = some v → atI [V.int qq.2.at_, V.ref tc, V.ref tg, V.ref tu, V.ref tb'] (j : Int) = some v := fun j v h => atI_nat h
        have sil := sj.trans sk
        have hsal := sil _ _ hsai
        have hsgl := sil _ _ (shi _ _ hsg)
        have hsul := sil _ _ (shi _ _ hsu)
        refine ⟨t, _, rfl, SqT.of ht', rfl, _, _, rfl, _, _, rfl, rfl, ?_⟩
        refine ⟨_, rfl, sa', _, 2, .ref sg', rfl, rfl, SqT.of hsal, ats 2 _ rfl, sg', rfl, ⟨_, SqT.of hsgl⟩, fun D5 hD5 => lc_it (walk_tup (xs := st.go.map V.int)) (fun m H' => H' D5 = some (.lst []) ∧ Off (fun b => b = D5) Hl H') ⟨upd_same, Off.new hD5⟩ (fun m H' _ z => SqT.of (z.2 _ _ (ne_of_none hsgl hD5) hsgl)) ?_ ?_⟩
        · rintro m z Hx Hy hm ⟨hacc, off⟩ ⟨rfl, hz'⟩
          rw [List.length_map] at hm
          cases mapI_get hm hz'
          have hin := kg _ (List.getElem_mem hm)
          have nD : Same Hl Hy := fun b o e => off b o (ne_of_none e hD5) e
          refine And.intro rfl ?_
          refine ⟨_, rfl, _, rfl, ta, _, 2, .ref tg, rfl, rfl, SqT.of (nD _ _ hta), att 2 _ rfl, tg, _, rfl, .inr (SqT.of (nD _ _ htg)), rfl, flat_ints _, _, rfl, ?_⟩
          rw [inV_ints]
          exact iteF' (by simp [hin]) ⟨hacc, off⟩
        rintro Hm ⟨hacc, off⟩
        have sm : Same Hl Hm := fun b o e => off b o (ne_of_none e hD5) e
        refine ⟨D5, [], rfl, .inl (SqL.of hacc), _, _, rfl, rfl, _, rfl, iteF' (by simp) ?_⟩
        refine ⟨_, rfl, ta, _, 3, .ref tu, rfl, rfl, SqT.of (sm _ _ hta), att 3 _ rfl, _, rfl, sa', _, 3, .ref su', rfl, rfl, SqT.of (sm _ _ hsal), ats 3 _ rfl, ?_⟩
        have ev : PyData.eqv (.tuple (qq.2.us.map PyData.int)) (.tuple (st.us.map PyData.int)) = true := by
          rw [ku]
          exact SeqAt.eqv_refl _ (layI st.us)
        refine ⟨.tuple (qq.2.us.map PyData.int), .tuple (st.us.map PyData.int), .tup (SqT.of (sm _ _ htu)) (dpI _), .tup (SqT.of (sm _ _ hsul)) (dpI _), shapedI _, shapedI _, _, rfl, iteF' (by rw [ev]; decide) ?_⟩
        exact ⟨⟨_, _, rfl⟩, sk.trans sm⟩
      · rintro σ Hk ⟨⟨q12, q13, rfl⟩, sk⟩
        exact ⟨⟨_, _, _, _, rfl⟩, (((sgg.trans sh).trans shi).trans sj).trans sk⟩
    · rintro σ Hf ⟨⟨o10, o11, o12, o13, rfl⟩, sgg⟩
      exact k _
end
end K11
end
section
set_option Elab.async false
set_option linter.all false
set_option maxRecDepth 100000
set_option maxHeartbeats 2000000
namespace K11
open PySem L2 PyProof.Rows
/-- what the top has left, and the law's promise over it -/
theorem all_mk {P : Program} {w : World} {K : PySem.W.Frag} {h : Heap} {mg : Str → Option Value} {fa CR CL f_is_whole f_is_row f_can_lie f__with_one f__is_gate_open f__changed_bag f__entered f__pushed f__pulled f_moved f_moves f__is_line f__need_lines f__many f__is_whole_room f__places f__neighbours f_Room_init f_Rules_init f_need_room f_need_rules f_steps f_is_ascending f_is_bag f_need_bag f_first_state f_begin f__can_be_gone f__can_be_crates f__can_be_at f_is_state f__law_pool f__law_draw f__law_shuffled f__law_rows f__law_next f__law_lies f__law_with f__law_without f__law_pushed f__law_bag_behind f__law_walked f__law_step f__law_moves f__law_rules f__law_bag f__law_begun f__law_met f__law_told f_law EB EF LB LF GB GF aB aO : Addr} {d_is_whole d_is_row d_can_lie d__with_one d__is_gate_open d__changed_bag d__entered d__pushed d__pulled d_moved d_moves d__is_line d__need_lines d__many d__is_whole_room d__places d__neighbours d_Room_init d_Rules_init d_need_room d_need_rules d_steps d_is_ascending d_is_bag d_need_bag d_first_state d_begin d__can_be_gone d__can_be_crates d__can_be_at d_is_state d__law_pool d__law_draw d__law_shuffled d__law_rows d__law_next d__law_lies d__law_with d__law_without d__law_pushed d__law_bag_behind d__law_walked d__law_step d__law_moves d__law_rules d__law_bag d__law_begun d__law_met d__law_told d_law : FuncData} {t_MARKS t_MOST_LINES t_MOST_ACROSS t_MOST_CELLS t_MOST_CRATES t_MOST_KEYS_AND_DOORS t_STEPS t_STEPS_WITH_PULLING tb1 tb2 tb3 tb4 ub1 ub2 ub3 ub4 to1 to2 to3 to4 uo1 uo2 uo3 uo4 : Tok} {esB esO : Array DictEntry} {nB nO : Nat} {hb1 hb2 hb3 hb4 ho1 ho2 ho3 ho4 : Int}
    (X : K.In h) (G : h.Ns mainGlobals mg) (hfa : mg "law" = some (.ref fa))
    (aC_Room : PySem.W.nsIn K mainGlobals "Room" = some (some (.ref CR))) (cC_Room : Cls K CR)
    (n_Room_rows : NoAttr K CR "rows")
    (n_Room_cells : NoAttr K CR "cells")
    (n_Room_entry : NoAttr K CR "entry")
    (n_Room_mouths : NoAttr K CR "mouths")
    (n_Room_crates : NoAttr K CR "crates")
    (n_Room_plates : NoAttr K CR "plates")
    (n_Room_near : NoAttr K CR "near")
    (aC_Rules : PySem.W.nsIn K mainGlobals "Rules" = some (some (.ref CL))) (cC_Rules : Cls K CL)
    (n_Rules_cap : NoAttr K CL "cap")
    (n_Rules_strong : NoAttr K CL "strong")
    (n_Rules_pull : NoAttr K CL "pull")
    (a_is_whole : PySem.W.nsIn K mainGlobals "is_whole" = some (some (.ref f_is_whole))) (F_is_whole : Fun K "is_whole" "is_whole" s_is_whole f_is_whole d_is_whole)
    (a_is_row : PySem.W.nsIn K mainGlobals "is_row" = some (some (.ref f_is_row))) (F_is_row : Fun K "is_row" "is_row" s_is_row f_is_row d_is_row)
    (a_can_lie : PySem.W.nsIn K mainGlobals "can_lie" = some (some (.ref f_can_lie))) (F_can_lie : Fun K "can_lie" "can_lie" s_can_lie f_can_lie d_can_lie)
    (a__with_one : PySem.W.nsIn K mainGlobals "_with_one" = some (some (.ref f__with_one))) (F__with_one : Fun K "_with_one" "_with_one" s__with_one f__with_one d__with_one)
    (a__is_gate_open : PySem.W.nsIn K mainGlobals "_is_gate_open" = some (some (.ref f__is_gate_open))) (F__is_gate_open : Fun K "_is_gate_open" "_is_gate_open" s__is_gate_open f__is_gate_open d__is_gate_open)
    (a__changed_bag : PySem.W.nsIn K mainGlobals "_changed_bag" = some (some (.ref f__changed_bag))) (F__changed_bag : Fun K "_changed_bag" "_changed_bag" s__changed_bag f__changed_bag d__changed_bag)
    (a__entered : PySem.W.nsIn K mainGlobals "_entered" = some (some (.ref f__entered))) (F__entered : Fun K "_entered" "_entered" s__entered f__entered d__entered)
    (a__pushed : PySem.W.nsIn K mainGlobals "_pushed" = some (some (.ref f__pushed))) (F__pushed : Fun K "_pushed" "_pushed" s__pushed f__pushed d__pushed)
    (a__pulled : PySem.W.nsIn K mainGlobals "_pulled" = some (some (.ref f__pulled))) (F__pulled : Fun K "_pulled" "_pulled" s__pulled f__pulled d__pulled)
    (a_moved : PySem.W.nsIn K mainGlobals "moved" = some (some (.ref f_moved))) (F_moved : Fun K "moved" "moved" s_moved f_moved d_moved)
    (a_moves : PySem.W.nsIn K mainGlobals "moves" = some (some (.ref f_moves))) (F_moves : Fun K "moves" "moves" s_moves f_moves d_moves)
    (a__is_line : PySem.W.nsIn K mainGlobals "_is_line" = some (some (.ref f__is_line))) (F__is_line : Fun K "_is_line" "_is_line" s__is_line f__is_line d__is_line)
    (a__need_lines : PySem.W.nsIn K mainGlobals "_need_lines" = some (some (.ref f__need_lines))) (F__need_lines : Fun K "_need_lines" "_need_lines" s__need_lines f__need_lines d__need_lines)
    (a__many : PySem.W.nsIn K mainGlobals "_many" = some (some (.ref f__many))) (F__many : Fun K "_many" "_many" s__many f__many d__many)
    (a__is_whole_room : PySem.W.nsIn K mainGlobals "_is_whole_room" = some (some (.ref f__is_whole_room))) (F__is_whole_room : Fun K "_is_whole_room" "_is_whole_room" s__is_whole_room f__is_whole_room d__is_whole_room)
    (a__places : PySem.W.nsIn K mainGlobals "_places" = some (some (.ref f__places))) (F__places : Fun K "_places" "_places" s__places f__places d__places)
    (a__neighbours : PySem.W.nsIn K mainGlobals "_neighbours" = some (some (.ref f__neighbours))) (F__neighbours : Fun K "_neighbours" "_neighbours" s__neighbours f__neighbours d__neighbours)
    (mC_Room : Mk K CR f_Room_init)
    (F_Room_init : Fun K "__init__" "Room.__init__" s_Room_init f_Room_init d_Room_init)
    (mC_Rules : Mk K CL f_Rules_init)
    (F_Rules_init : FunD K "__init__" "Rules.__init__" (defArgs s_Rules_init) (defBody s_Rules_init) (defScope s_Rules_init) [.int 1, .bl false, .bl false] [] f_Rules_init d_Rules_init)
    (a_need_room : PySem.W.nsIn K mainGlobals "need_room" = some (some (.ref f_need_room))) (F_need_room : Fun K "need_room" "need_room" s_need_room f_need_room d_need_room)
    (a_need_rules : PySem.W.nsIn K mainGlobals "need_rules" = some (some (.ref f_need_rules))) (F_need_rules : Fun K "need_rules" "need_rules" s_need_rules f_need_rules d_need_rules)
    (a_steps : PySem.W.nsIn K mainGlobals "steps" = some (some (.ref f_steps))) (F_steps : Fun K "steps" "steps" s_steps f_steps d_steps)
    (a_is_ascending : PySem.W.nsIn K mainGlobals "is_ascending" = some (some (.ref f_is_ascending))) (F_is_ascending : Fun K "is_ascending" "is_ascending" s_is_ascending f_is_ascending d_is_ascending)
    (a_is_bag : PySem.W.nsIn K mainGlobals "is_bag" = some (some (.ref f_is_bag))) (F_is_bag : Fun K "is_bag" "is_bag" s_is_bag f_is_bag d_is_bag)
    (a_need_bag : PySem.W.nsIn K mainGlobals "need_bag" = some (some (.ref f_need_bag))) (F_need_bag : Fun K "need_bag" "need_bag" s_need_bag f_need_bag d_need_bag)
    (a_first_state : PySem.W.nsIn K mainGlobals "first_state" = some (some (.ref f_first_state))) (F_first_state : Fun K "first_state" "first_state" s_first_state f_first_state d_first_state)
    (a_begin : PySem.W.nsIn K mainGlobals "begin" = some (some (.ref f_begin))) (F_begin : Fun K "begin" "begin" s_begin f_begin d_begin)
    (a__can_be_gone : PySem.W.nsIn K mainGlobals "_can_be_gone" = some (some (.ref f__can_be_gone))) (F__can_be_gone : Fun K "_can_be_gone" "_can_be_gone" s__can_be_gone f__can_be_gone d__can_be_gone)
    (a__can_be_crates : PySem.W.nsIn K mainGlobals "_can_be_crates" = some (some (.ref f__can_be_crates))) (F__can_be_crates : Fun K "_can_be_crates" "_can_be_crates" s__can_be_crates f__can_be_crates d__can_be_crates)
    (a__can_be_at : PySem.W.nsIn K mainGlobals "_can_be_at" = some (some (.ref f__can_be_at))) (F__can_be_at : Fun K "_can_be_at" "_can_be_at" s__can_be_at f__can_be_at d__can_be_at)
    (a_is_state : PySem.W.nsIn K mainGlobals "is_state" = some (some (.ref f_is_state))) (F_is_state : Fun K "is_state" "is_state" s_is_state f_is_state d_is_state)
    (a__law_pool : PySem.W.nsIn K mainGlobals "_law_pool" = some (some (.ref f__law_pool))) (F__law_pool : Fun K "_law_pool" "_law_pool" s__law_pool f__law_pool d__law_pool)
    (a__law_draw : PySem.W.nsIn K mainGlobals "_law_draw" = some (some (.ref f__law_draw))) (F__law_draw : Fun K "_law_draw" "_law_draw" s__law_draw f__law_draw d__law_draw)
    (a__law_shuffled : PySem.W.nsIn K mainGlobals "_law_shuffled" = some (some (.ref f__law_shuffled))) (F__law_shuffled : Fun K "_law_shuffled" "_law_shuffled" s__law_shuffled f__law_shuffled d__law_shuffled)
    (a__law_rows : PySem.W.nsIn K mainGlobals "_law_rows" = some (some (.ref f__law_rows))) (F__law_rows : Fun K "_law_rows" "_law_rows" s__law_rows f__law_rows d__law_rows)
    (a__law_next : PySem.W.nsIn K mainGlobals "_law_next" = some (some (.ref f__law_next))) (F__law_next : Fun K "_law_next" "_law_next" s__law_next f__law_next d__law_next)
    (a__law_lies : PySem.W.nsIn K mainGlobals "_law_lies" = some (some (.ref f__law_lies))) (F__law_lies : Fun K "_law_lies" "_law_lies" s__law_lies f__law_lies d__law_lies)
    (a__law_with : PySem.W.nsIn K mainGlobals "_law_with" = some (some (.ref f__law_with))) (F__law_with : Fun K "_law_with" "_law_with" s__law_with f__law_with d__law_with)
    (a__law_without : PySem.W.nsIn K mainGlobals "_law_without" = some (some (.ref f__law_without))) (F__law_without : Fun K "_law_without" "_law_without" s__law_without f__law_without d__law_without)
    (a__law_pushed : PySem.W.nsIn K mainGlobals "_law_pushed" = some (some (.ref f__law_pushed))) (F__law_pushed : Fun K "_law_pushed" "_law_pushed" s__law_pushed f__law_pushed d__law_pushed)
    (a__law_bag_behind : PySem.W.nsIn K mainGlobals "_law_bag_behind" = some (some (.ref f__law_bag_behind))) (F__law_bag_behind : Fun K "_law_bag_behind" "_law_bag_behind" s__law_bag_behind f__law_bag_behind d__law_bag_behind)
    (a__law_walked : PySem.W.nsIn K mainGlobals "_law_walked" = some (some (.ref f__law_walked))) (F__law_walked : Fun K "_law_walked" "_law_walked" s__law_walked f__law_walked d__law_walked)
    (a__law_step : PySem.W.nsIn K mainGlobals "_law_step" = some (some (.ref f__law_step))) (F__law_step : Fun K "_law_step" "_law_step" s__law_step f__law_step d__law_step)
    (a__law_moves : PySem.W.nsIn K mainGlobals "_law_moves" = some (some (.ref f__law_moves))) (F__law_moves : Fun K "_law_moves" "_law_moves" s__law_moves f__law_moves d__law_moves)
    (a__law_rules : PySem.W.nsIn K mainGlobals "_law_rules" = some (some (.ref f__law_rules))) (F__law_rules : Fun K "_law_rules" "_law_rules" s__law_rules f__law_rules d__law_rules)
    (a__law_bag : PySem.W.nsIn K mainGlobals "_law_bag" = some (some (.ref f__law_bag))) (F__law_bag : Fun K "_law_bag" "_law_bag" s__law_bag f__law_bag d__law_bag)
    (a__law_begun : PySem.W.nsIn K mainGlobals "_law_begun" = some (some (.ref f__law_begun))) (F__law_begun : Fun K "_law_begun" "_law_begun" s__law_begun f__law_begun d__law_begun)
    (a__law_met : PySem.W.nsIn K mainGlobals "_law_met" = some (some (.ref f__law_met))) (F__law_met : Fun K "_law_met" "_law_met" s__law_met f__law_met d__law_met)
    (a__law_told : PySem.W.nsIn K mainGlobals "_law_told" = some (some (.ref f__law_told))) (F__law_told : Fun K "_law_told" "_law_told" s__law_told f__law_told d__law_told)
    (a_law : PySem.W.nsIn K mainGlobals "law" = some (some (.ref f_law))) (F_law : Fun K "law" "law" s_law f_law d_law)
    (x_BadRoom : RX.ErrT P K mg "BadRoom" "value" EB EF)
    (x_BadRules : RX.ErrT P K mg "BadRules" "value" LB LF)
    (x_BadBag : RX.ErrT P K mg "BadBag" "value" GB GF)
    (z_isinstance : PySem.W.nsIn K mainGlobals "isinstance" = some none)
    (z_int : PySem.W.nsIn K mainGlobals "int" = some none)
    (z_bool : PySem.W.nsIn K mainGlobals "bool" = some none)
    (z_list : PySem.W.nsIn K mainGlobals "list" = some none)
    (z_len : PySem.W.nsIn K mainGlobals "len" = some none)
    (z_range : PySem.W.nsIn K mainGlobals "range" = some none)
    (z_repr : PySem.W.nsIn K mainGlobals "repr" = some none)
    (z_str : PySem.W.nsIn K mainGlobals "str" = some none)
    (z_tuple : PySem.W.nsIn K mainGlobals "tuple" = some none)
    (z_max : PySem.W.nsIn K mainGlobals "max" = some none)
    (z_sum : PySem.W.nsIn K mainGlobals "sum" = some none)
    (z_enumerate : PySem.W.nsIn K mainGlobals "enumerate" = some none)
    (z_sorted : PySem.W.nsIn K mainGlobals "sorted" = some none)
    (z_min : PySem.W.nsIn K mainGlobals "min" = some none)
    (z_all : PySem.W.nsIn K mainGlobals "all" = some none)
    (z_dict : PySem.W.nsIn K mainGlobals "dict" = some none)
    (k_MARKS : PySem.W.nsIn K mainGlobals "MARKS" = some (some (.str "#.^v<>abABoxpg*@12" t_MARKS)))
    (k_MOST_LINES : PySem.W.nsIn K mainGlobals "MOST_LINES" = some (some (.int 5 t_MOST_LINES)))
    (k_MOST_ACROSS : PySem.W.nsIn K mainGlobals "MOST_ACROSS" = some (some (.int 6 t_MOST_ACROSS)))
    (k_MOST_CELLS : PySem.W.nsIn K mainGlobals "MOST_CELLS" = some (some (.int 24 t_MOST_CELLS)))
    (k_MOST_CRATES : PySem.W.nsIn K mainGlobals "MOST_CRATES" = some (some (.int 3 t_MOST_CRATES)))
    (k_MOST_KEYS_AND_DOORS : PySem.W.nsIn K mainGlobals "MOST_KEYS_AND_DOORS" = some (some (.int 4 t_MOST_KEYS_AND_DOORS)))
    (k_STEPS : PySem.W.nsIn K mainGlobals "STEPS" = some (some (.str "udlr" t_STEPS)))
    (k_STEPS_WITH_PULLING : PySem.W.nsIn K mainGlobals "STEPS_WITH_PULLING" = some (some (.str "udlrUDLR" t_STEPS_WITH_PULLING)))
    (g_BACK : PySem.W.nsIn K mainGlobals "BACK" = some (some (.ref aB)))
    (l_BACK : K.lookup aB = some ⟨.type "dict", none, .dict esB nB, #[]⟩)
    (lit_BACK : PySem.W.KeysLit w.params esB.toList)
    (low_BACK : (aB == sysModules) = false)
    (he_BACK : esB.toList = [⟨hb1, .str "u" tb1, .str "d" ub1⟩, ⟨hb2, .str "d" tb2, .str "u" ub2⟩, ⟨hb3, .str "l" tb3, .str "r" ub3⟩, ⟨hb4, .str "r" tb4, .str "l" ub4⟩])
    (g_ONE_WAY : PySem.W.nsIn K mainGlobals "ONE_WAY" = some (some (.ref aO)))
    (l_ONE_WAY : K.lookup aO = some ⟨.type "dict", none, .dict esO nO, #[]⟩)
    (lit_ONE_WAY : PySem.W.KeysLit w.params esO.toList)
    (low_ONE_WAY : (aO == sysModules) = false)
    (he_ONE_WAY : esO.toList = [⟨ho1, .str "^" to1, .str "u" uo1⟩, ⟨ho2, .str "v" to2, .str "d" uo2⟩, ⟨ho3, .str "<" to3, .str "l" uo3⟩, ⟨ho4, .str ">" to4, .str "r" uo4⟩])
    (ic_Room : C8.InsC K CR)
    (ic_Rules : C8.InsC K CL) :
    ∃ fd : FuncData, (∀ (s : Shared) (u : Value), BindsTo s fd ⟨[u], []⟩ [("script", u)]) ∧ ∀ base : Heap, K.In base → base.Ns mainGlobals mg → FnG P w K mg base (CXe P w) 8 fa fd ["script"] (spLaw K) := by
  have e := hfa.symm.trans (PySem.W.mg_of X G a_law)
  cases e
  have no_ := @PySem.W.mg_none_of
  have B0 : Blt mg := ⟨PySem.W.mg_none_of X G z_isinstance, PySem.W.mg_none_of X G z_int, PySem.W.mg_none_of X G z_bool, PySem.W.mg_none_of X G z_list, PySem.W.mg_none_of X G z_len, PySem.W.mg_none_of X G z_range, PySem.W.mg_none_of X G z_repr⟩
  have B : Rb mg := { toBlt := B0, n_str := PySem.W.mg_none_of X G z_str, n_tuple := PySem.W.mg_none_of X G z_tuple, n_max := PySem.W.mg_none_of X G z_max, n_sum := PySem.W.mg_none_of X G z_sum, n_enumerate := PySem.W.mg_none_of X G z_enumerate, k_MARKS := ⟨_, PySem.W.mg_of X G k_MARKS⟩, k_MOST_LINES := ⟨_, PySem.W.mg_of X G k_MOST_LINES⟩, k_MOST_ACROSS := ⟨_, PySem.W.mg_of X G k_MOST_ACROSS⟩, k_MOST_CELLS := ⟨_, PySem.W.mg_of X G k_MOST_CELLS⟩, k_MOST_CRATES := ⟨_, PySem.W.mg_of X G k_MOST_CRATES⟩, k_MOST_KEYS_AND_DOORS := ⟨_, PySem.W.mg_of X G k_MOST_KEYS_AND_DOORS⟩ }
  have RT : RoomT P K mg EB EF := { toRb := B, x_BadRoom := x_BadRoom }
  have TR : RulT P K mg CL LB LF := { toBlt := B0, cl := cC_Rules, a_cap := n_Rules_cap, a_strong := n_Rules_strong, a_pull := n_Rules_pull, g_Rules := PySem.W.mg_of X G aC_Rules, x_BadRules := x_BadRules }
  have LT : LawT mg := { toRb := B, n_sorted := PySem.W.mg_none_of X G z_sorted, n_all := PySem.W.mg_none_of X G z_all, n_dict := PySem.W.mg_none_of X G z_dict }
  have TM : MovT P w K mg CR CL aB aO := { toRb := B, clR := cC_Room, r_rows := n_Room_rows, r_cells := n_Room_cells, r_near := n_Room_near, r_plates := n_Room_plates, clL := cC_Rules, l_cap := n_Rules_cap, l_strong := n_Rules_strong, l_pull := n_Rules_pull, k_STEPS := ⟨_, PySem.W.mg_of X G k_STEPS⟩, k_STEPS_WITH_PULLING := ⟨_, PySem.W.mg_of X G k_STEPS_WITH_PULLING⟩, g_BACK := PySem.W.mg_of X G g_BACK, g_ONE_WAY := PySem.W.mg_of X G g_ONE_WAY, bk := bk_mk l_BACK lit_BACK low_BACK he_BACK, ow := ow_mk l_ONE_WAY lit_ONE_WAY low_ONE_WAY he_ONE_WAY, n_sorted := PySem.W.mg_none_of X G z_sorted, n_min := PySem.W.mg_none_of X G z_min }
  have TS_ : StepT P w K mg CR CL aB aO EB EF LB LF := { toMovT := TM, icR := ic_Room, icL := ic_Rules, g_Room := PySem.W.mg_of X G aC_Room, g_Rules := PySem.W.mg_of X G aC_Rules, x_BadRoom := x_BadRoom, x_BadRules := x_BadRules }
  have TJ : JudT P w K mg CR CL aB aO EB EF LB LF GB GF := { toStepT := TS_, r_entry := n_Room_entry, r_crates := n_Room_crates, r_mouths := n_Room_mouths, x_BadBag := x_BadBag }
  refine ⟨d_law, ?_, fun base _ _ => ?_⟩
  · obtain ⟨oc, od, kV, doc, pm, an, cdv, ct, osl, rfl, lk, hcd⟩ := F_law.ex
    exact fun s v => .of_eq rfl
  have b_is_whole := F_is_whole.binds (ps := ["thing"]) fun _ _ _ _ _ _ us hl => match us, hl with | [_], _ => rfl
  have b_is_row := F_is_row.binds (ps := ["thing"]) fun _ _ _ _ _ _ us hl => match us, hl with | [_], _ => rfl
  have b_can_lie := F_can_lie.binds (ps := ["room", "gone", "cell"]) fun _ _ _ _ _ _ us hl => match us, hl with | [_, _, _], _ => rfl
  have b__with_one := F__with_one.binds (ps := ["numbers", "number"]) fun _ _ _ _ _ _ us hl => match us, hl with | [_, _], _ => rfl
  have b__is_gate_open := F__is_gate_open.binds (ps := ["room", "crates"]) fun _ _ _ _ _ _ us hl => match us, hl with | [_, _], _ => rfl
  have b__changed_bag := F__changed_bag.binds (ps := ["rules", "bag", "mark"]) fun _ _ _ _ _ _ us hl => match us, hl with | [_, _, _], _ => rfl
  have b__entered := F__entered.binds (ps := ["room", "rules", "state", "goal"]) fun _ _ _ _ _ _ us hl => match us, hl with | [_, _, _, _], _ => rfl
  have b__pushed := F__pushed.binds (ps := ["room", "rules", "state", "way"]) fun _ _ _ _ _ _ us hl => match us, hl with | [_, _, _, _], _ => rfl
  have b__pulled := F__pulled.binds (ps := ["room", "rules", "state", "way"]) fun _ _ _ _ _ _ us hl => match us, hl with | [_, _, _, _], _ => rfl
  have b_moved := F_moved.binds (ps := ["room", "rules", "state", "letter"]) fun _ _ _ _ _ _ us hl => match us, hl with | [_, _, _, _], _ => rfl
  have b_moves := F_moves.binds (ps := ["room", "rules", "state"]) fun _ _ _ _ _ _ us hl => match us, hl with | [_, _, _], _ => rfl
  have b__is_line := F__is_line.binds (ps := ["thing"]) fun _ _ _ _ _ _ us hl => match us, hl with | [_], _ => rfl
  have b__need_lines := F__need_lines.binds (ps := ["rows"]) fun _ _ _ _ _ _ us hl => match us, hl with | [_], _ => rfl
  have b__many := F__many.binds (ps := ["cells", "marks"]) fun _ _ _ _ _ _ us hl => match us, hl with | [_, _], _ => rfl
  have b__is_whole_room := F__is_whole_room.binds (ps := ["cells"]) fun _ _ _ _ _ _ us hl => match us, hl with | [_], _ => rfl
  have b__places := F__places.binds (ps := ["cells", "mark"]) fun _ _ _ _ _ _ us hl => match us, hl with | [_, _], _ => rfl
  have b__neighbours := F__neighbours.binds (ps := ["rows", "down", "across"]) fun _ _ _ _ _ _ us hl => match us, hl with | [_, _, _], _ => rfl
  have b_Room_init := F_Room_init.binds (ps := ["self", "rows"]) fun _ _ _ _ _ _ us hl => match us, hl with | [_, _], _ => rfl
  obtain ⟨ds0_Rules_init, v0_Rules_init, b0_Rules_init⟩ := F_Rules_init.binds1 (ps := ["self", "cap", "strong", "pull"]) 4 3 (by simp) rfl fun T kV doc pm an cdv ct us its h1 h2 => match us, its, h1, h2 with | [_, _, _, _], [_, _, _], _, _ => ⟨_, rfl, rfl⟩
  have b_need_room := F_need_room.binds (ps := ["room"]) fun _ _ _ _ _ _ us hl => match us, hl with | [_], _ => rfl
  have b_need_rules := F_need_rules.binds (ps := ["rules"]) fun _ _ _ _ _ _ us hl => match us, hl with | [_], _ => rfl
  have b_steps := F_steps.binds (ps := ["room", "rules", "state"]) fun _ _ _ _ _ _ us hl => match us, hl with | [_, _, _], _ => rfl
  have b_is_ascending := F_is_ascending.binds (ps := ["thing", "least", "most"]) fun _ _ _ _ _ _ us hl => match us, hl with | [_, _, _], _ => rfl
  have b_is_bag := F_is_bag.binds (ps := ["rules", "thing"]) fun _ _ _ _ _ _ us hl => match us, hl with | [_, _], _ => rfl
  have b_need_bag := F_need_bag.binds (ps := ["rules", "bag"]) fun _ _ _ _ _ _ us hl => match us, hl with | [_, _], _ => rfl
  have b_first_state := F_first_state.binds (ps := ["room", "bag"]) fun _ _ _ _ _ _ us hl => match us, hl with | [_, _], _ => rfl
  have b_begin := F_begin.binds (ps := ["room", "rules", "bag"]) fun _ _ _ _ _ _ us hl => match us, hl with | [_, _, _], _ => rfl
  have b__can_be_gone := F__can_be_gone.binds (ps := ["room", "gone"]) fun _ _ _ _ _ _ us hl => match us, hl with | [_, _], _ => rfl
  have b__can_be_crates := F__can_be_crates.binds (ps := ["room", "gone", "crates"]) fun _ _ _ _ _ _ us hl => match us, hl with | [_, _, _], _ => rfl
  have b__can_be_at := F__can_be_at.binds (ps := ["room", "crates", "gone", "at"]) fun _ _ _ _ _ _ us hl => match us, hl with | [_, _, _, _], _ => rfl
  have b_is_state := F_is_state.binds (ps := ["room", "rules", "thing"]) fun _ _ _ _ _ _ us hl => match us, hl with | [_, _, _], _ => rfl
  have b__law_pool := F__law_pool.binds (ps := ["script"]) fun _ _ _ _ _ _ us hl => match us, hl with | [_], _ => rfl
  have b__law_draw := F__law_draw.binds (ps := ["pool", "many"]) fun _ _ _ _ _ _ us hl => match us, hl with | [_, _], _ => rfl
  have b__law_shuffled := F__law_shuffled.binds (ps := ["pool", "things"]) fun _ _ _ _ _ _ us hl => match us, hl with | [_, _], _ => rfl
  have b__law_rows := F__law_rows.binds (ps := ["pool", "marks", "mouths"]) fun _ _ _ _ _ _ us hl => match us, hl with | [_, _, _], _ => rfl
  have b__law_next := F__law_next.binds (ps := ["rows", "at", "letter"]) fun _ _ _ _ _ _ us hl => match us, hl with | [_, _, _], _ => rfl
  have b__law_lies := F__law_lies.binds (ps := ["rows", "gone", "at"]) fun _ _ _ _ _ _ us hl => match us, hl with | [_, _, _], _ => rfl
  have b__law_with := F__law_with.binds (ps := ["cells", "at"]) fun _ _ _ _ _ _ us hl => match us, hl with | [_, _], _ => rfl
  have b__law_without := F__law_without.binds (ps := ["cells", "at"]) fun _ _ _ _ _ _ us hl => match us, hl with | [_, _], _ => rfl
  have b__law_pushed := F__law_pushed.binds (ps := ["rows", "strong", "crates", "gone", "at", "letter"]) fun _ _ _ _ _ _ us hl => match us, hl with | [_, _, _, _, _, _], _ => rfl
  have b__law_bag_behind := F__law_bag_behind.binds (ps := ["rules", "bag", "mark"]) fun _ _ _ _ _ _ us hl => match us, hl with | [_, _, _], _ => rfl
  have b__law_walked := F__law_walked.binds (ps := ["rows", "rules", "state", "letter"]) fun _ _ _ _ _ _ us hl => match us, hl with | [_, _, _, _], _ => rfl
  have b__law_step := F__law_step.binds (ps := ["rows", "rules", "state", "letter"]) fun _ _ _ _ _ _ us hl => match us, hl with | [_, _, _, _], _ => rfl
  have b__law_moves := F__law_moves.binds (ps := ["rows", "rules", "state"]) fun _ _ _ _ _ _ us hl => match us, hl with | [_, _, _], _ => rfl
  have b__law_rules := F__law_rules.binds (ps := ["pool"]) fun _ _ _ _ _ _ us hl => match us, hl with | [_], _ => rfl
  have b__law_bag := F__law_bag.binds (ps := ["pool", "rules"]) fun _ _ _ _ _ _ us hl => match us, hl with | [_, _], _ => rfl
  have b__law_begun := F__law_begun.binds (ps := ["rows", "bag"]) fun _ _ _ _ _ _ us hl => match us, hl with | [_, _], _ => rfl
  have b__law_met := F__law_met.binds (ps := ["rows", "rules", "state", "most"]) fun _ _ _ _ _ _ us hl => match us, hl with | [_, _, _, _], _ => rfl
  have b__law_told := F__law_told.binds (ps := ["room", "book", "state", "most"]) fun _ _ _ _ _ _ us hl => match us, hl with | [_, _, _, _], _ => rfl
  have c_is_whole : CalG P w K mg base 1 "is_whole" (spWhole K) := ⟨f_is_whole, d_is_whole, _, ok_whole F_is_whole B0, PySem.W.mg_of X G a_is_whole, F_is_whole.kp, b_is_whole⟩
  have c_is_row : CalG P w K mg base 1 "is_row" (spIsRow K) := ⟨f_is_row, d_is_row, _, ok_is_row F_is_row B, PySem.W.mg_of X G a_is_row, F_is_row.kp, b_is_row⟩
  have c_can_lie : CalG P w K mg base 1 "can_lie" (spLie CR) := ⟨f_can_lie, d_can_lie, _, ok_lie F_can_lie TM, PySem.W.mg_of X G a_can_lie, F_can_lie.kp, b_can_lie⟩
  have c__with_one : CalG P w K mg base 1 "_with_one" (spWith K) := ⟨f__with_one, d__with_one, _, ok_with F__with_one TM, PySem.W.mg_of X G a__with_one, F__with_one.kp, b__with_one⟩
  have c__is_gate_open : CalG P w K mg base 1 "_is_gate_open" (spGate CR) := ⟨f__is_gate_open, d__is_gate_open, _, ok_gate F__is_gate_open TM, PySem.W.mg_of X G a__is_gate_open, F__is_gate_open.kp, b__is_gate_open⟩
  have c__changed_bag : CalG P w K mg base 1 "_changed_bag" (spChg CL) := ⟨f__changed_bag, d__changed_bag, _, ok_chg F__changed_bag TM, PySem.W.mg_of X G a__changed_bag, F__changed_bag.kp, b__changed_bag⟩
  have c__entered : CalG P w K mg base 2 "_entered" (spEnt CR CL) := ⟨f__entered, d__entered, _, ok_ent F__entered TM c__is_gate_open c__changed_bag c__with_one, PySem.W.mg_of X G a__entered, F__entered.kp, b__entered⟩
  have c__pushed : CalG P w K mg base 2 "_pushed" (spPsh CR CL) := ⟨f__pushed, d__pushed, _, ok_psh F__pushed TM c_can_lie c__with_one, PySem.W.mg_of X G a__pushed, F__pushed.kp, b__pushed⟩
  have c__pulled : CalG P w K mg base 2 "_pulled" (spPul CR CL) := ⟨f__pulled, d__pulled, _, ok_pul F__pulled TM c_can_lie c__with_one, PySem.W.mg_of X G a__pulled, F__pulled.kp, b__pulled⟩
  have c_moved : CalG P w K mg base 3 "moved" (spMov CR CL) := ⟨f_moved, d_moved, _, ok_mov F_moved TM c__entered c__pushed c__pulled, PySem.W.mg_of X G a_moved, F_moved.kp, b_moved⟩
  have c_moves : CalG P w K mg base 4 "moves" (spMovs CR CL) := ⟨f_moves, d_moves, _, ok_movs F_moves TM c_moved, PySem.W.mg_of X G a_moves, F_moves.kp, b_moves⟩
  have c__is_line : CalG P w K mg base 1 "_is_line" (spIsLine K) := ⟨f__is_line, d__is_line, _, ok_is_line F__is_line B, PySem.W.mg_of X G a__is_line, F__is_line.kp, b__is_line⟩
  have c__need_lines : CalG P w K mg base 3 "_need_lines" (spNeed K EB) := ⟨f__need_lines, d__need_lines, _, ok_need F__need_lines RT c_is_row c__is_line, PySem.W.mg_of X G a__need_lines, F__need_lines.kp, b__need_lines⟩
  have c__many : CalG P w K mg base 1 "_many" (spMany) := ⟨f__many, d__many, _, ok_many F__many B, PySem.W.mg_of X G a__many, F__many.kp, b__many⟩
  have c__is_whole_room : CalG P w K mg base 2 "_is_whole_room" (spWR) := ⟨f__is_whole_room, d__is_whole_room, _, ok_whole_room F__is_whole_room B c__many, PySem.W.mg_of X G a__is_whole_room, F__is_whole_room.kp, b__is_whole_room⟩
  have c__places : CalG P w K mg base 1 "_places" (spPlaces) := ⟨f__places, d__places, _, ok_places F__places B, PySem.W.mg_of X G a__places, F__places.kp, b__places⟩
  have c__neighbours : CalG P w K mg base 1 "_neighbours" (spNeigh K) := ⟨f__neighbours, d__neighbours, _, ok_neigh F__neighbours B, PySem.W.mg_of X G a__neighbours, F__neighbours.kp, b__neighbours⟩
  have hI_Room := ok_room_init (w := w) (base := base) F_Room_init RT cC_Room n_Room_rows n_Room_cells n_Room_entry n_Room_mouths n_Room_crates n_Room_plates n_Room_near c__need_lines c__is_whole_room c__many c__places c__neighbours
  have m_Room : MakG P w K mg base 4 "Room" CR (spRoomInit K CR EB) [] := ⟨f_Room_init, d_Room_init, _, [], hI_Room, mC_Room, PySem.W.mg_of X G aC_Room, b_Room_init, .nil⟩
  have hI_Rules := ok_rinit (w := w) (base := base) F_Rules_init TR c_is_whole
  have m_Rules : MakG P w K mg base 4 "Rules" CL (spRInit K CL LB) [] := ⟨f_Rules_init, d_Rules_init, _, ds0_Rules_init, hI_Rules, mC_Rules, PySem.W.mg_of X G aC_Rules, b0_Rules_init, v0_Rules_init⟩
  have c_need_room : CalG P w K mg base 3 "need_room" (spNeedC K CR EB) := ⟨f_need_room, d_need_room, _, ok_needM F_need_room TS_, PySem.W.mg_of X G a_need_room, F_need_room.kp, b_need_room⟩
  have c_need_rules : CalG P w K mg base 3 "need_rules" (spNeedC K CL LB) := ⟨f_need_rules, d_need_rules, _, ok_needR F_need_rules TS_, PySem.W.mg_of X G a_need_rules, F_need_rules.kp, b_need_rules⟩
  have c_steps : CalG P w K mg base 5 "steps" (spMovs CR CL) := ⟨f_steps, d_steps, _, ok_steps F_steps TS_ c_need_room c_need_rules c_moves, PySem.W.mg_of X G a_steps, F_steps.kp, b_steps⟩
  have c_is_ascending : CalG P w K mg base 2 "is_ascending" (spAsc) := ⟨f_is_ascending, d_is_ascending, _, ok_asc F_is_ascending B c_is_whole, PySem.W.mg_of X G a_is_ascending, F_is_ascending.kp, b_is_ascending⟩
  have c_is_bag : CalG P w K mg base 2 "is_bag" (spBag1 CL) := ⟨f_is_bag, d_is_bag, _, ok_bag1 F_is_bag TM c_is_whole, PySem.W.mg_of X G a_is_bag, F_is_bag.kp, b_is_bag⟩
  have c_need_bag : CalG P w K mg base 4 "need_bag" (spNBag CL) := ⟨f_need_bag, d_need_bag, _, ok_nbag F_need_bag TJ c_is_bag, PySem.W.mg_of X G a_need_bag, F_need_bag.kp, b_need_bag⟩
  have c_first_state : CalG P w K mg base 1 "first_state" (spFirst CR) := ⟨f_first_state, d_first_state, _, ok_first F_first_state TJ, PySem.W.mg_of X G a_first_state, F_first_state.kp, b_first_state⟩
  have c_begin : CalG P w K mg base 5 "begin" (spBegin CR CL) := ⟨f_begin, d_begin, _, ok_begin F_begin TJ c_need_room c_need_rules c_need_bag c_first_state, PySem.W.mg_of X G a_begin, F_begin.kp, b_begin⟩
  have c__can_be_gone : CalG P w K mg base 3 "_can_be_gone" (spGoneOk CR) := ⟨f__can_be_gone, d__can_be_gone, _, ok_goneOk F__can_be_gone TJ c_is_ascending, PySem.W.mg_of X G a__can_be_gone, F__can_be_gone.kp, b__can_be_gone⟩
  have c__can_be_crates : CalG P w K mg base 3 "_can_be_crates" (spCrOk CR) := ⟨f__can_be_crates, d__can_be_crates, _, ok_crOk F__can_be_crates TJ c_is_ascending c_can_lie, PySem.W.mg_of X G a__can_be_crates, F__can_be_crates.kp, b__can_be_crates⟩
  have c__can_be_at : CalG P w K mg base 2 "_can_be_at" (spAtOk CR) := ⟨f__can_be_at, d__can_be_at, _, ok_atOk F__can_be_at TJ c_is_whole, PySem.W.mg_of X G a__can_be_at, F__can_be_at.kp, b__can_be_at⟩
  have c_is_state : CalG P w K mg base 4 "is_state" (spJud CR CL) := ⟨f_is_state, d_is_state, _, ok_jud F_is_state TJ c_need_room c_need_rules c_is_ascending c_is_bag c__can_be_gone c__can_be_crates c__can_be_at, PySem.W.mg_of X G a_is_state, F_is_state.kp, b_is_state⟩
  have c__law_pool : CalG P w K mg base 1 "_law_pool" (spPool K) := ⟨f__law_pool, d__law_pool, _, ok_pool F__law_pool B0, PySem.W.mg_of X G a__law_pool, F__law_pool.kp, b__law_pool⟩
  have c__law_draw : CalG P w K mg base 1 "_law_draw" (spDraw K) := ⟨f__law_draw, d__law_draw, _, ok_draw F__law_draw B0, PySem.W.mg_of X G a__law_draw, F__law_draw.kp, b__law_draw⟩
  have c__law_shuffled : CalG P w K mg base 2 "_law_shuffled" (spShuf K) := ⟨f__law_shuffled, d__law_shuffled, _, ok_shuf F__law_shuffled B c__law_draw, PySem.W.mg_of X G a__law_shuffled, F__law_shuffled.kp, b__law_shuffled⟩
  have c__law_rows : CalG P w K mg base 3 "_law_rows" (spRows K) := ⟨f__law_rows, d__law_rows, _, ok_rows F__law_rows B c__law_draw c__law_shuffled, PySem.W.mg_of X G a__law_rows, F__law_rows.kp, b__law_rows⟩
  have c__law_next : CalG P w K mg base 1 "_law_next" (spNext) := ⟨f__law_next, d__law_next, _, ok_next F__law_next LT, PySem.W.mg_of X G a__law_next, F__law_next.kp, b__law_next⟩
  have c__law_lies : CalG P w K mg base 1 "_law_lies" (spLLies) := ⟨f__law_lies, d__law_lies, _, ok_llies F__law_lies LT, PySem.W.mg_of X G a__law_lies, F__law_lies.kp, b__law_lies⟩
  have c__law_with : CalG P w K mg base 1 "_law_with" (spLWith) := ⟨f__law_with, d__law_with, _, ok_lwith F__law_with LT, PySem.W.mg_of X G a__law_with, F__law_with.kp, b__law_with⟩
  have c__law_without : CalG P w K mg base 1 "_law_without" (spLWo) := ⟨f__law_without, d__law_without, _, ok_lwo F__law_without LT, PySem.W.mg_of X G a__law_without, F__law_without.kp, b__law_without⟩
  have c__law_pushed : CalG P w K mg base 2 "_law_pushed" (spLPsh) := ⟨f__law_pushed, d__law_pushed, _, ok_lpsh F__law_pushed LT c__law_next c__law_lies c__law_with c__law_without, PySem.W.mg_of X G a__law_pushed, F__law_pushed.kp, b__law_pushed⟩
  have c__law_bag_behind : CalG P w K mg base 1 "_law_bag_behind" (spLBag) := ⟨f__law_bag_behind, d__law_bag_behind, _, ok_lbag F__law_bag_behind LT, PySem.W.mg_of X G a__law_bag_behind, F__law_bag_behind.kp, b__law_bag_behind⟩
  have c__law_walked : CalG P w K mg base 3 "_law_walked" (spWalk) := ⟨f__law_walked, d__law_walked, _, ok_walk F__law_walked LT c__law_next c__law_with c__law_pushed c__law_bag_behind, PySem.W.mg_of X G a__law_walked, F__law_walked.kp, b__law_walked⟩
  have c__law_step : CalG P w K mg base 4 "_law_step" (spLStep) := ⟨f__law_step, d__law_step, _, ok_lstep F__law_step LT c__law_next c__law_lies c__law_with c__law_without c__law_walked, PySem.W.mg_of X G a__law_step, F__law_step.kp, b__law_step⟩
  have c__law_moves : CalG P w K mg base 5 "_law_moves" (spLMovs) := ⟨f__law_moves, d__law_moves, _, ok_lmovs F__law_moves LT c__law_step, PySem.W.mg_of X G a__law_moves, F__law_moves.kp, b__law_moves⟩
  have c__law_rules : CalG P w K mg base 2 "_law_rules" (spRul K) := ⟨f__law_rules, d__law_rules, _, ok_rul F__law_rules LT c__law_draw, PySem.W.mg_of X G a__law_rules, F__law_rules.kp, b__law_rules⟩
  have c__law_bag : CalG P w K mg base 2 "_law_bag" (spBag K) := ⟨f__law_bag, d__law_bag, _, ok_bag F__law_bag LT c__law_draw, PySem.W.mg_of X G a__law_bag, F__law_bag.kp, b__law_bag⟩
  have c__law_begun : CalG P w K mg base 1 "_law_begun" (spBeg) := ⟨f__law_begun, d__law_begun, _, ok_beg F__law_begun LT, PySem.W.mg_of X G a__law_begun, F__law_begun.kp, b__law_begun⟩
  have c__law_met : CalG P w K mg base 6 "_law_met" (spMet P w) := ⟨f__law_met, d__law_met, _, ok_met F__law_met LT c__law_moves, PySem.W.mg_of X G a__law_met, F__law_met.kp, b__law_met⟩
  have c__law_told : CalG P w K mg base 6 "_law_told" (spTold P w CR CL) := ⟨f__law_told, d__law_told, _, ok_told F__law_told LT c_steps, PySem.W.mg_of X G a__law_told, F__law_told.kp, b__law_told⟩
  exact ok_law F_law LT m_Room m_Rules c__law_pool c__law_draw c__law_rows c__law_rules c__law_bag c_begin c__law_begun c_steps c_is_state c__law_met c__law_told
theorem walk {l : PySem.W.OpenLaw} {q : Program} {loose : List Str} {XP : (Str → Option Value) → Heap → Prop} {YP : World → Heap → Prop} {d : DefRec} {K : Params → PySem.W.Frag} (hn : l.most = some 63) (hdf : d.params.defaults = [])
    (hY : ∀ (w : World) (h : Heap), YP w h → (K w.params).In h)
    (F : ∀ (w : World) (mg : Str → Option Value) (fa : Addr) (h : Heap), (K w.params).In h → h.Ns mainGlobals mg → mg d.name = some (.ref fa) →
      ∃ fd : FuncData, (∀ (s : Shared) (u : Value), BindsTo s fd ⟨[u], []⟩ [("script", u)]) ∧ ∀ base : Heap, (K w.params).In base → base.Ns mainGlobals mg → FnG l.prog w (K w.params) mg base (CXe l.prog w) 8 fa fd ["script"] (spLaw (K w.params))) :
    PySem.W.WalkO q loose XP YP l.row.toRowW d [] (fun f vs => PySem.call f vs) :=
  L2.walk_ofG (n := 63) (k := 8) (x := "script") (CX := fun w => CXe l.prog w) (sp := fun w => spLaw (K w.params)) hn (by decide) hdf ⟨rfl, by decide, by decide⟩ hY F (fun _ _ a ns hl _ hS => ⟨a, ns, rfl, hS, hl, fun _ => rfl⟩) fun w H s e s' z => by
    obtain ⟨_, _, _, _, _, _, _, _, _, _, _, _, hE⟩ := z
    exact hE
end K11
end
section
set_option Elab.async false
set_option maxRecDepth 100000
open PySem PySem.W PyProof.Rows
set_option maxRecDepth 100000 in
set_option maxHeartbeats 0 in
theorem PySem.Challenge.cw_roomsthrough_k11_whole_states_met_by_ste_holds : PySem.Challenge.rw_roomsthrough_k11_whole_states_met_by_ste.Holds := by
  w_on; o_law; k_head; (case hw => w_witness2)
  k_fill
  refine K11.walk (l := PySem.Challenge.rw_roomsthrough_k11_whole_states_met_by_ste) rfl rfl (fun w h Y => PySem.W.kIn_of Y) ?F
  case F =>
    intro w mg fa h KX G hmg
    refine' K11.all_mk KX G hmg ?aC_Room ?cC_Room ?n_Room_rows ?n_Room_cells ?n_Room_entry ?n_Room_mouths ?n_Room_crates ?n_Room_plates ?n_Room_near ?aC_Rules ?cC_Rules ?n_Rules_cap ?n_Rules_strong ?n_Rules_pull ?a_is_whole ?F_is_whole ?a_is_row ?F_is_row ?a_can_lie ?F_can_lie ?a__with_one ?F__with_one ?a__is_gate_open ?F__is_gate_open ?a__changed_bag ?F__changed_bag ?a__entered ?F__entered ?a__pushed ?F__pushed ?a__pulled ?F__pulled ?a_moved ?F_moved ?a_moves ?F_moves ?a__is_line ?F__is_line ?a__need_lines ?F__need_lines ?a__many ?F__many ?a__is_whole_room ?F__is_whole_room ?a__places ?F__places ?a__neighbours ?F__neighbours ?mC_Room ?F_Room_init ?mC_Rules ?F_Rules_init ?a_need_room ?F_need_room ?a_need_rules ?F_need_rules ?a_steps ?F_steps ?a_is_ascending ?F_is_ascending ?a_is_bag ?F_is_bag ?a_need_bag ?F_need_bag ?a_first_state ?F_first_state ?a_begin ?F_begin ?a__can_be_gone ?F__can_be_gone ?a__can_be_crates ?F__can_be_crates ?a__can_be_at ?F__can_be_at ?a_is_state ?F_is_state ?a__law_pool ?F__law_pool ?a__law_draw ?F__law_draw ?a__law_shuffled ?F__law_shuffled ?a__law_rows ?F__law_rows ?a__law_next ?F__law_next ?a__law_lies ?F__law_lies ?a__law_with ?F__law_with ?a__law_without ?F__law_without ?a__law_pushed ?F__law_pushed ?a__law_bag_behind ?F__law_bag_behind ?a__law_walked ?F__law_walked ?a__law_step ?F__law_step ?a__law_moves ?F__law_moves ?a__law_rules ?F__law_rules ?a__law_bag ?F__law_bag ?a__law_begun ?F__law_begun ?a__law_met ?F__law_met ?a__law_told ?F__law_told ?a_law ?F_law ?x_BadRoom ?x_BadRules ?x_BadBag ?z_isinstance ?z_int ?z_bool ?z_list ?z_len ?z_range ?z_repr ?z_str ?z_tuple ?z_max ?z_sum ?z_enumerate ?z_sorted ?z_min ?z_all ?z_dict ?k_MARKS ?k_MOST_LINES ?k_MOST_ACROSS ?k_MOST_CELLS ?k_MOST_CRATES ?k_MOST_KEYS_AND_DOORS ?k_STEPS ?k_STEPS_WITH_PULLING ?g_BACK ?l_BACK ?lit_BACK ?low_BACK ?he_BACK ?g_ONE_WAY ?l_ONE_WAY ?lit_ONE_WAY ?low_ONE_WAY ?he_ONE_WAY ?ic_Room ?ic_Rules
    (case aC_Room => k_is)
    (case cC_Room => exact ⟨by k_is, by k_is, by k_is, by k_is⟩)
    (case n_Room_rows => unfold L2.NoAttr; k_is)
    (case n_Room_cells => unfold L2.NoAttr; k_is)
    (case n_Room_entry => unfold L2.NoAttr; k_is)
    (case n_Room_mouths => unfold L2.NoAttr; k_is)
    (case n_Room_crates => unfold L2.NoAttr; k_is)
    (case n_Room_plates => unfold L2.NoAttr; k_is)
    (case n_Room_near => unfold L2.NoAttr; k_is)
    (case aC_Rules => k_is)
    (case cC_Rules => exact ⟨by k_is, by k_is, by k_is, by k_is⟩)
    (case n_Rules_cap => unfold L2.NoAttr; k_is)
    (case n_Rules_strong => unfold L2.NoAttr; k_is)
    (case n_Rules_pull => unfold L2.NoAttr; k_is)
    (case a_is_whole => k_is)
    (case F_is_whole => (refine' L2.fun_mk ?l_is_whole ?c_is_whole ?q_is_whole; (case l_is_whole => k_is); (case c_is_whole => k_is); (case q_is_whole => k_is)))
    (case a_is_row => k_is)
    (case F_is_row => (refine' L2.fun_mk ?l_is_row ?c_is_row ?q_is_row; (case l_is_row => k_is); (case c_is_row => k_is); (case q_is_row => k_is)))
    (case a_can_lie => k_is)
    (case F_can_lie => (refine' L2.fun_mk ?l_can_lie ?c_can_lie ?q_can_lie; (case l_can_lie => k_is); (case c_can_lie => k_is); (case q_can_lie => k_is)))
    (case a__with_one => k_is)
    (case F__with_one => (refine' L2.fun_mk ?l__with_one ?c__with_one ?q__with_one; (case l__with_one => k_is); (case c__with_one => k_is); (case q__with_one => k_is)))
    (case a__is_gate_open => k_is)
    (case F__is_gate_open => (refine' L2.fun_mk ?l__is_gate_open ?c__is_gate_open ?q__is_gate_open; (case l__is_gate_open => k_is); (case c__is_gate_open => k_is); (case q__is_gate_open => k_is)))
    (case a__changed_bag => k_is)
    (case F__changed_bag => (refine' L2.fun_mk ?l__changed_bag ?c__changed_bag ?q__changed_bag; (case l__changed_bag => k_is); (case c__changed_bag => k_is); (case q__changed_bag => k_is)))
    (case a__entered => k_is)
    (case F__entered => (refine' L2.fun_mk ?l__entered ?c__entered ?q__entered; (case l__entered => k_is); (case c__entered => k_is); (case q__entered => k_is)))
    (case a__pushed => k_is)
    (case F__pushed => (refine' L2.fun_mk ?l__pushed ?c__pushed ?q__pushed; (case l__pushed => k_is); (case c__pushed => k_is); (case q__pushed => k_is)))
    (case a__pulled => k_is)
    (case F__pulled => (refine' L2.fun_mk ?l__pulled ?c__pulled ?q__pulled; (case l__pulled => k_is); (case c__pulled => k_is); (case q__pulled => k_is)))
    (case a_moved => k_is)
    (case F_moved => (refine' L2.fun_mk ?l_moved ?c_moved ?q_moved; (case l_moved => k_is); (case c_moved => k_is); (case q_moved => k_is)))
    (case a_moves => k_is)
    (case F_moves => (refine' L2.fun_mk ?l_moves ?c_moves ?q_moves; (case l_moves => k_is); (case c_moves => k_is); (case q_moves => k_is)))
    (case a__is_line => k_is)
    (case F__is_line => (refine' L2.fun_mk ?l__is_line ?c__is_line ?q__is_line; (case l__is_line => k_is); (case c__is_line => k_is); (case q__is_line => k_is)))
    (case a__need_lines => k_is)
    (case F__need_lines => (refine' L2.fun_mk ?l__need_lines ?c__need_lines ?q__need_lines; (case l__need_lines => k_is); (case c__need_lines => k_is); (case q__need_lines => k_is)))
    (case a__many => k_is)
    (case F__many => (refine' L2.fun_mk ?l__many ?c__many ?q__many; (case l__many => k_is); (case c__many => k_is); (case q__many => k_is)))
    (case a__is_whole_room => k_is)
    (case F__is_whole_room => (refine' L2.fun_mk ?l__is_whole_room ?c__is_whole_room ?q__is_whole_room; (case l__is_whole_room => k_is); (case c__is_whole_room => k_is); (case q__is_whole_room => k_is)))
    (case a__places => k_is)
    (case F__places => (refine' L2.fun_mk ?l__places ?c__places ?q__places; (case l__places => k_is); (case c__places => k_is); (case q__places => k_is)))
    (case a__neighbours => k_is)
    (case F__neighbours => (refine' L2.fun_mk ?l__neighbours ?c__neighbours ?q__neighbours; (case l__neighbours => k_is); (case c__neighbours => k_is); (case q__neighbours => k_is)))
    (case mC_Room => refine' ⟨?a_Room, ?b_Room, ?c2_Room, ?d_Room⟩; (case a_Room => k_is); (case b_Room => k_is); (case c2_Room => k_is); (case d_Room => k_is))
    (case F_Room_init => (refine' L2.fun_mk ?l_Room_init ?c_Room_init ?q_Room_init; (case l_Room_init => k_is); (case c_Room_init => k_is); (case q_Room_init => k_is)))
    (case mC_Rules => refine' ⟨?a_Rules, ?b_Rules, ?c2_Rules, ?d_Rules⟩; (case a_Rules => k_is); (case b_Rules => k_is); (case c2_Rules => k_is); (case d_Rules => k_is))
    (case F_Rules_init => refine' L2.funD_mk ?l_Rules_init ?c_Rules_init ?k_Rules_init ?t_Rules_init ?u_Rules_init ?v_Rules_init ?ne_Rules_init; (case l_Rules_init => k_is); (case c_Rules_init => k_is); (case k_Rules_init => k_is); (case t_Rules_init => k_is); (case u_Rules_init => rfl); (case v_Rules_init => exact .cons ⟨_, rfl⟩ (.cons rfl (.cons rfl .nil))); (case ne_Rules_init => exact List.cons_ne_nil _ _))
    (case a_need_room => k_is)
    (case F_need_room => (refine' L2.fun_mk ?l_need_room ?c_need_room ?q_need_room; (case l_need_room => k_is); (case c_need_room => k_is); (case q_need_room => k_is)))
    (case a_need_rules => k_is)
    (case F_need_rules => (refine' L2.fun_mk ?l_need_rules ?c_need_rules ?q_need_rules; (case l_need_rules => k_is); (case c_need_rules => k_is); (case q_need_rules => k_is)))
    (case a_steps => k_is)
    (case F_steps => (refine' L2.fun_mk ?l_steps ?c_steps ?q_steps; (case l_steps => k_is); (case c_steps => k_is); (case q_steps => k_is)))
    (case a_is_ascending => k_is)
    (case F_is_ascending => (refine' L2.fun_mk ?l_is_ascending ?c_is_ascending ?q_is_ascending; (case l_is_ascending => k_is); (case c_is_ascending => k_is); (case q_is_ascending => k_is)))
    (case a_is_bag => k_is)
    (case F_is_bag => (refine' L2.fun_mk ?l_is_bag ?c_is_bag ?q_is_bag; (case l_is_bag => k_is); (case c_is_bag => k_is); (case q_is_bag => k_is)))
    (case a_need_bag => k_is)
    (case F_need_bag => (refine' L2.fun_mk ?l_need_bag ?c_need_bag ?q_need_bag; (case l_need_bag => k_is); (case c_need_bag => k_is); (case q_need_bag => k_is)))
    (case a_first_state => k_is)
    (case F_first_state => (refine' L2.fun_mk ?l_first_state ?c_first_state ?q_first_state; (case l_first_state => k_is); (case c_first_state => k_is); (case q_first_state => k_is)))
    (case a_begin => k_is)
    (case F_begin => (refine' L2.fun_mk ?l_begin ?c_begin ?q_begin; (case l_begin => k_is); (case c_begin => k_is); (case q_begin => k_is)))
    (case a__can_be_gone => k_is)
    (case F__can_be_gone => (refine' L2.fun_mk ?l__can_be_gone ?c__can_be_gone ?q__can_be_gone; (case l__can_be_gone => k_is); (case c__can_be_gone => k_is); (case q__can_be_gone => k_is)))
    (case a__can_be_crates => k_is)
    (case F__can_be_crates => (refine' L2.fun_mk ?l__can_be_crates ?c__can_be_crates ?q__can_be_crates; (case l__can_be_crates => k_is); (case c__can_be_crates => k_is); (case q__can_be_crates => k_is)))
    (case a__can_be_at => k_is)
    (case F__can_be_at => (refine' L2.fun_mk ?l__can_be_at ?c__can_be_at ?q__can_be_at; (case l__can_be_at => k_is); (case c__can_be_at => k_is); (case q__can_be_at => k_is)))
    (case a_is_state => k_is)
    (case F_is_state => (refine' L2.fun_mk ?l_is_state ?c_is_state ?q_is_state; (case l_is_state => k_is); (case c_is_state => k_is); (case q_is_state => k_is)))
    (case a__law_pool => k_is)
    (case F__law_pool => (refine' L2.fun_mk ?l__law_pool ?c__law_pool ?q__law_pool; (case l__law_pool => k_is); (case c__law_pool => k_is); (case q__law_pool => k_is)))
    (case a__law_draw => k_is)
    (case F__law_draw => (refine' L2.fun_mk ?l__law_draw ?c__law_draw ?q__law_draw; (case l__law_draw => k_is); (case c__law_draw => k_is); (case q__law_draw => k_is)))
    (case a__law_shuffled => k_is)
    (case F__law_shuffled => (refine' L2.fun_mk ?l__law_shuffled ?c__law_shuffled ?q__law_shuffled; (case l__law_shuffled => k_is); (case c__law_shuffled => k_is); (case q__law_shuffled => k_is)))
    (case a__law_rows => k_is)
    (case F__law_rows => (refine' L2.fun_mk ?l__law_rows ?c__law_rows ?q__law_rows; (case l__law_rows => k_is); (case c__law_rows => k_is); (case q__law_rows => k_is)))
    (case a__law_next => k_is)
    (case F__law_next => (refine' L2.fun_mk ?l__law_next ?c__law_next ?q__law_next; (case l__law_next => k_is); (case c__law_next => k_is); (case q__law_next => k_is)))
    (case a__law_lies => k_is)
    (case F__law_lies => (refine' L2.fun_mk ?l__law_lies ?c__law_lies ?q__law_lies; (case l__law_lies => k_is); (case c__law_lies => k_is); (case q__law_lies => k_is)))
    (case a__law_with => k_is)
    (case F__law_with => (refine' L2.fun_mk ?l__law_with ?c__law_with ?q__law_with; (case l__law_with => k_is); (case c__law_with => k_is); (case q__law_with => k_is)))
    (case a__law_without => k_is)
    (case F__law_without => (refine' L2.fun_mk ?l__law_without ?c__law_without ?q__law_without; (case l__law_without => k_is); (case c__law_without => k_is); (case q__law_without => k_is)))
    (case a__law_pushed => k_is)
    (case F__law_pushed => (refine' L2.fun_mk ?l__law_pushed ?c__law_pushed ?q__law_pushed; (case l__law_pushed => k_is); (case c__law_pushed => k_is); (case q__law_pushed => k_is)))
    (case a__law_bag_behind => k_is)
    (case F__law_bag_behind => (refine' L2.fun_mk ?l__law_bag_behind ?c__law_bag_behind ?q__law_bag_behind; (case l__law_bag_behind => k_is); (case c__law_bag_behind => k_is); (case q__law_bag_behind => k_is)))
    (case a__law_walked => k_is)
    (case F__law_walked => (refine' L2.fun_mk ?l__law_walked ?c__law_walked ?q__law_walked; (case l__law_walked => k_is); (case c__law_walked => k_is); (case q__law_walked => k_is)))
    (case a__law_step => k_is)
    (case F__law_step => (refine' L2.fun_mk ?l__law_step ?c__law_step ?q__law_step; (case l__law_step => k_is); (case c__law_step => k_is); (case q__law_step => k_is)))
    (case a__law_moves => k_is)
    (case F__law_moves => (refine' L2.fun_mk ?l__law_moves ?c__law_moves ?q__law_moves; (case l__law_moves => k_is); (case c__law_moves => k_is); (case q__law_moves => k_is)))
    (case a__law_rules => k_is)
    (case F__law_rules => (refine' L2.fun_mk ?l__law_rules ?c__law_rules ?q__law_rules; (case l__law_rules => k_is); (case c__law_rules => k_is); (case q__law_rules => k_is)))
    (case a__law_bag => k_is)
    (case F__law_bag => (refine' L2.fun_mk ?l__law_bag ?c__law_bag ?q__law_bag; (case l__law_bag => k_is); (case c__law_bag => k_is); (case q__law_bag => k_is)))
    (case a__law_begun => k_is)
    (case F__law_begun => (refine' L2.fun_mk ?l__law_begun ?c__law_begun ?q__law_begun; (case l__law_begun => k_is); (case c__law_begun => k_is); (case q__law_begun => k_is)))
    (case a__law_met => k_is)
    (case F__law_met => (refine' L2.fun_mk ?l__law_met ?c__law_met ?q__law_met; (case l__law_met => k_is); (case c__law_met => k_is); (case q__law_met => k_is)))
    (case a__law_told => k_is)
    (case F__law_told => (refine' L2.fun_mk ?l__law_told ?c__law_told ?q__law_told; (case l__law_told => k_is); (case c__law_told => k_is); (case q__law_told => k_is)))
    (case a_law => k_is)
    (case F_law => (refine' L2.fun_mk ?l_law ?c_law ?q_law; (case l_law => k_is); (case c_law => k_is); (case q_law => k_is)))
    (case x_BadRoom =>
      refine' RX.errT_mk KX G ?y_BadRoom_gC ?y_BadRoom_cls ?y_BadRoom_rv ?y_BadRoom_sa ?y_BadRoom_ga ?y_BadRoom_gg ?y_BadRoom_noN ?y_BadRoom_iC ?y_BadRoom_tC ?y_BadRoom_kC ?y_BadRoom_exC ?y_BadRoom_tyC ?y_BadRoom_hdC ?y_BadRoom_icC ?y_BadRoom_sC ?y_BadRoom_veC ?y_BadRoom_selfM ?y_BadRoom_up ?y_BadRoom_third ?y_BadRoom_noS ?y_BadRoom_top ?y_BadRoom_fl ?y_BadRoom_bd ?y_BadRoom_l ?y_BadRoom_cd ?y_BadRoom_lc ?y_BadRoom_v2 ?y_BadRoom_vf ?y_BadRoom_lcc ?y_BadRoom_ln
      (case y_BadRoom_gC => k_is); (case y_BadRoom_cls => k_is); (case y_BadRoom_rv => decide +kernel); (case y_BadRoom_sa => k_is); (case y_BadRoom_ga => k_is); (case y_BadRoom_gg => k_is); (case y_BadRoom_noN => k_is); (case y_BadRoom_iC => k_is); (case y_BadRoom_tC => k_is); (case y_BadRoom_kC => k_is); (case y_BadRoom_exC => k_is); (case y_BadRoom_tyC => k_is); (case y_BadRoom_hdC => k_is); (case y_BadRoom_icC => k_is); (case y_BadRoom_sC => first | rfl | k_is); (case y_BadRoom_veC => k_is); (case y_BadRoom_selfM => k_is); (case y_BadRoom_up => ks_is); (case y_BadRoom_third => k_is); (case y_BadRoom_noS => k_is); (case y_BadRoom_top => decide +kernel); (case y_BadRoom_fl => decide +kernel); (case y_BadRoom_bd => intros; rfl); (case y_BadRoom_l => k_is); (case y_BadRoom_cd => k_is); (case y_BadRoom_lc => k_is); (case y_BadRoom_v2 => rfl); (case y_BadRoom_vf => decide +kernel); (case y_BadRoom_lcc => k_is); (case y_BadRoom_ln => rfl))
    (case x_BadRules =>
      refine' RX.errT_mk KX G ?y_BadRules_gC ?y_BadRules_cls ?y_BadRules_rv ?y_BadRules_sa ?y_BadRules_ga ?y_BadRules_gg ?y_BadRules_noN ?y_BadRules_iC ?y_BadRules_tC ?y_BadRules_kC ?y_BadRules_exC ?y_BadRules_tyC ?y_BadRules_hdC ?y_BadRules_icC ?y_BadRules_sC ?y_BadRules_veC ?y_BadRules_selfM ?y_BadRules_up ?y_BadRules_third ?y_BadRules_noS ?y_BadRules_top ?y_BadRules_fl ?y_BadRules_bd ?y_BadRules_l ?y_BadRules_cd ?y_BadRules_lc ?y_BadRules_v2 ?y_BadRules_vf ?y_BadRules_lcc ?y_BadRules_ln
      (case y_BadRules_gC => k_is); (case y_BadRules_cls => k_is); (case y_BadRules_rv => decide +kernel); (case y_BadRules_sa => k_is); (case y_BadRules_ga => k_is); (case y_BadRules_gg => k_is); (case y_BadRules_noN => k_is); (case y_BadRules_iC => k_is); (case y_BadRules_tC => k_is); (case y_BadRules_kC => k_is); (case y_BadRules_exC => k_is); (case y_BadRules_tyC => k_is); (case y_BadRules_hdC => k_is); (case y_BadRules_icC => k_is); (case y_BadRules_sC => first | rfl | k_is); (case y_BadRules_veC => k_is); (case y_BadRules_selfM => k_is); (case y_BadRules_up => ks_is); (case y_BadRules_third => k_is); (case y_BadRules_noS => k_is); (case y_BadRules_top => decide +kernel); (case y_BadRules_fl => decide +kernel); (case y_BadRules_bd => intros; rfl); (case y_BadRules_l => k_is); (case y_BadRules_cd => k_is); (case y_BadRules_lc => k_is); (case y_BadRules_v2 => rfl); (case y_BadRules_vf => decide +kernel); (case y_BadRules_lcc => k_is); (case y_BadRules_ln => rfl))
    (case x_BadBag =>
      refine' RX.errT_mk KX G ?y_BadBag_gC ?y_BadBag_cls ?y_BadBag_rv ?y_BadBag_sa ?y_BadBag_ga ?y_BadBag_gg ?y_BadBag_noN ?y_BadBag_iC ?y_BadBag_tC ?y_BadBag_kC ?y_BadBag_exC ?y_BadBag_tyC ?y_BadBag_hdC ?y_BadBag_icC ?y_BadBag_sC ?y_BadBag_veC ?y_BadBag_selfM ?y_BadBag_up ?y_BadBag_third ?y_BadBag_noS ?y_BadBag_top ?y_BadBag_fl ?y_BadBag_bd ?y_BadBag_l ?y_BadBag_cd ?y_BadBag_lc ?y_BadBag_v2 ?y_BadBag_vf ?y_BadBag_lcc ?y_BadBag_ln
      (case y_BadBag_gC => k_is); (case y_BadBag_cls => k_is); (case y_BadBag_rv => decide +kernel); (case y_BadBag_sa => k_is); (case y_BadBag_ga => k_is); (case y_BadBag_gg => k_is); (case y_BadBag_noN => k_is); (case y_BadBag_iC => k_is); (case y_BadBag_tC => k_is); (case y_BadBag_kC => k_is); (case y_BadBag_exC => k_is); (case y_BadBag_tyC => k_is); (case y_BadBag_hdC => k_is); (case y_BadBag_icC => k_is); (case y_BadBag_sC => first | rfl | k_is); (case y_BadBag_veC => k_is); (case y_BadBag_selfM => k_is); (case y_BadBag_up => ks_is); (case y_BadBag_third => k_is); (case y_BadBag_noS => k_is); (case y_BadBag_top => decide +kernel); (case y_BadBag_fl => decide +kernel); (case y_BadBag_bd => intros; rfl); (case y_BadBag_l => k_is); (case y_BadBag_cd => k_is); (case y_BadBag_lc => k_is); (case y_BadBag_v2 => rfl); (case y_BadBag_vf => decide +kernel); (case y_BadBag_lcc => k_is); (case y_BadBag_ln => rfl))
    (case z_isinstance => k_is)
    (case z_int => k_is)
    (case z_bool => k_is)
    (case z_list => k_is)
    (case z_len => k_is)
    (case z_range => k_is)
    (case z_repr => k_is)
    (case z_str => k_is)
    (case z_tuple => k_is)
    (case z_max => k_is)
    (case z_sum => k_is)
    (case z_enumerate => k_is)
    (case z_sorted => k_is)
    (case z_min => k_is)
    (case z_all => k_is)
    (case z_dict => k_is)
    (case k_MARKS => k_is)
    (case k_MOST_LINES => k_is)
    (case k_MOST_ACROSS => k_is)
    (case k_MOST_CELLS => k_is)
    (case k_MOST_CRATES => k_is)
    (case k_MOST_KEYS_AND_DOORS => k_is)
    (case k_STEPS => k_is)
    (case k_STEPS_WITH_PULLING => k_is)
    (case g_BACK => k_is)
    (case l_BACK => k_is)
    (case lit_BACK => k_keys)
    (case low_BACK => decide)
    (case he_BACK => rfl)
    (case g_ONE_WAY => k_is)
    (case l_ONE_WAY => k_is)
    (case lit_ONE_WAY => k_keys)
    (case low_ONE_WAY => decide)
    (case he_ONE_WAY => rfl)
    (case ic_Room =>
      refine' ⟨⟨?qa1_Room, ?qa2_Room, ?qa3_Room, ?qa4_Room⟩, ?qe_Room, ?qf_Room, ?qg_Room, ?qh_Room, ?qi_Room⟩
      (case qa1_Room => k_is); (case qa2_Room => k_is); (case qa3_Room => k_is); (case qa4_Room => k_is); (case qe_Room => k_is); (case qf_Room => k_is); (case qg_Room => k_is); (case qh_Room => k_is); (case qi_Room => first | k_is | kit_is | (unfold PySem.W.kitOne; simp)))
    (case ic_Rules =>
      refine' ⟨⟨?qa1_Rules, ?qa2_Rules, ?qa3_Rules, ?qa4_Rules⟩, ?qe_Rules, ?qf_Rules, ?qg_Rules, ?qh_Rules, ?qi_Rules⟩
      (case qa1_Rules => k_is); (case qa2_Rules => k_is); (case qa3_Rules => k_is); (case qa4_Rules => k_is); (case qe_Rules => k_is); (case qf_Rules => k_is); (case qg_Rules => k_is); (case qh_Rules => k_is); (case qi_Rules => first | k_is | kit_is | (unfold PySem.W.kitOne; simp)))
end
