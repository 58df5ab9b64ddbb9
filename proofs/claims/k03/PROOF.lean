import PyProof.Rows.All
import Wide.All
import OpenK.AllK
import Wide.FinOn
import PyProof.EqAt
import PyProof.EqKinds
import PyProof.TupleCall
import HandS.ForMost
import HandS.ForExc
import HandS.ExcField
import HandS.ExcInit
import HandS.IsInst
import HandS.Defaults
import HandS.Small
import KE.KExcSuper
import KE.KExcMake
import HandS.Codes
import HandS.Evl
import HandS.Walk
import KE.GoesEnum
import HandS.Zip0
import HandS.Translate
import HandS.Replace
import PyProof.Rows.StrRev
import HandS.Conv
import PySem.Challenge.RW_roomsthrough_k03_rooms_told
section
set_option Elab.async false
set_option linter.all false
set_option maxRecDepth 100000
set_option maxHeartbeats 2000000
/-! # The errors of the package: each with an __init__ that says super().__init__(text) and keeps one value. -/
namespace RX
open PySem PySem.W PySem.Calls PyProof.Rows PySem.HandSPX
/-! ### the text of such an __init__, its field a letter -/
def eA (fld : Str) (p1 p2 : Pos) : Arguments := { posonlyargs := [], args := [{ arg := "self", annotation := none, pos := p1 }, { arg := fld, annotation := none, pos := p2 }], vararg := none, kwonlyargs := [], kw_defaults := [], kwarg := none, defaults := [] }
def eB (fld msg : Str) (q1 q2 q3 q4 q5 q6 q7 q8 q9 q10 : Pos) : List Stmt :=
  [.Expr (.Call (.Attribute (.Call (.Name "super" q1) [] [] q2) "__init__" q3) [.Constant (.str msg) 0 q4] [] q5) q6,
   .Assign [.Attribute (.Name "self" q7) fld q8] (.Name fld q9) q10]
def eS (fld : Str) : Scope := { kind := .function, names := [("self", .local), (fld, .local), ("__class__", .free), ("super", .globalImplicit)], isGenerator := false, isCoroutine := false, more := [] }
/-- what the top says of the class at C, whose __init__ stands at fI and sees the class by the cell at cc -/
structure ErrT (prog : Program) (K : Frag) (mg : Str → Option Value) (cn fld : Str) (C fI : Addr) : Prop where
  gC : mg cn = some (.ref C)
  cls : ∃ nm q N bs bm sn sub ab col dd k0 k1 k2 k3 k5, K.lookup C = some (excClassObj nm q C N bs bm true sn sub ab col dd k0 k1 k2 k3 k5 "ValueError.__new__") ∧ refsVE bm = true
  sa : findIn K (.ref C) "__setattr__" = some (some (.builtin "object.__setattr__"))
  xf : L2.XfC K C
  noN : findIn K (.ref C) fld = some none
  iC : findIn K (.ref C) "__init__" = some (some (.ref fI))
  tC : typeIn K (.ref fI) = some (.type "function")
  kC : keepIn K (.ref C) = true
  exC : subIn K (.ref C) (.type "BaseException") = some true
  tyC : typeIn K (.ref C) = some (.type "type")
  hdC : hasDictIn K C = true
  te : exmOne K (.ref C) (.ref C) = some true
  veC : subIn K (.ref C) (.type "ValueError") = some true
  selfM : mroIn K C (.ref C) = some true
  up : ks_superIn K C C "__init__" = some (some (.builtin "ValueError.__init__"))
  third : nsIn K cStatics "thirdparty.any" = some none
  noS : nsIn K mainGlobals "super" = some none
  top : (prog.main.scope.names.lookup ("super" : Str)).isSome = false
  fl : (eS fld).names.lookup fld = some .local ∧ (fld == ("self" : Str)) = false ∧ (eS fld).names.lookup ("super" : Str) = some .globalImplicit ∧ (eS fld).names.lookup ("__class__" : Str) = some .free ∧ (fld == ("__debug__" : Str)) = false
  bd : ∀ (qual : Str) (body : List Stmt) (doc pm : Value) (an : Option Addr) (cd ct : Value) (cc : Addr) (p1 p2 : Pos) (a b : Value), bindArgs (ksFn "__init__" qual (eA fld p1 p2) body (eS fld) .none .none doc pm an cd ct cc) ⟨[a, b], []⟩ = pure [(("self" : Str), a), (fld, b)]
  fn : ∃ (oc : Value) (od : Option Addr) (doc pm : Value) (an : Option Addr) (cda cc : Addr) (ct : Value) (osl : Array (Option Value)) (msg : Str) (qual : Str) (p1 p2 q1 q2 q3 q4 q5 q6 q7 q8 q9 q10 : Pos)
    (ccl cl : Value) (cdd cld : Option Addr) (ccs csl : Array (Option Value)) (vs : Array Value) (file : Str) (tf : Tok),
    K.lookup fI = some ⟨oc, od, .func (ksFn "__init__" qual (eA fld p1 p2) (eB fld msg q1 q2 q3 q4 q5 q6 q7 q8 q9 q10) (eS fld) .none .none doc pm an (.ref cda) ct cc), osl⟩ ∧ codeIn K (.ref cda) qual = true ∧
    K.lookup cda = some ⟨ccl, cdd, .fields vs, ccs⟩ ∧ vs[2]? = some (.str file tf) ∧ ((prog.main.file : Str) == file) = true ∧ K.lookup cc = some ⟨cl, cld, .cell (some (.ref C)), csl⟩ ∧ (q3.endLine == q5.line) = true
/-- what such an __init__ leaves of a fresh exception at x -/
structure ErrEnd (h h' : Heap) (fld : Str) (x C dx : Addr) (v : Value) : Prop where
  keep : ∀ b o, b ≠ x → h.get? b = some o → h'.get? b = some o
  obj : ∃ t1, h'.get? x = some { cls := .ref C, dict := some dx, data := .fields #[.ref t1, .none, .none, .none, .bool false, .none] }
  dbig : h.objs.size ≤ dx
  dne : dx ≠ x
  ns : h'.Ns1 dx (fun y => if y = fld then some v else none)
theorem size1 (v : Value) : [v].length ≤ sizeLine := by
  rw [sizeLine_eq]; exact (by decide : 1 ≤ 16777216)
section
variable {prog : Program} {w : World} {A : Around} {E : Value → Shared → Prop} {R : Result → Shared → Prop} {s : Shared} {K : Frag} {mg : Str → Option Value} {g : Heap} {cn fld : Str} {C fI : Addr}
theorem err_init (T : ErrT prog K mg cn fld C fI) {x t0 : Addr} {v : Value} (M : L2.Mod K mg g) (hg : ∀ b o, g.get? b = some o → s.heap.get? b = some o) (hx : s.heap.get? x = some (excO C t0)) (hnx : K.lookup x = none) (hroom : A.depth < recursionLimit)
    (hq : ∀ h' tk dx, ErrEnd s.heap h' fld x C dx v → R (.ok (.ret .none)) { s with heap := h', toks := tk }) :
    codeAny (model prog w) A (.call (.ref fI) ⟨[.ref x, v], []⟩) R s := by
  obtain ⟨oc, od, doc, pm, an, cda, cc, ct, osl, msg, qual, p1, p2, q1, q2, q3, q4, q5, q6, q7, q8, q9, q10, ccl, cl, cdd, cld, ccs, csl, vs, file, tf, ho, hcd, hcode, hvs, hfile, hcell, hpos⟩ := T.fn
  obtain ⟨nm, q, N, bs, bm, sn, sub, ab, col, dd, k0, k1, k2, k3, k5, hC, hbm⟩ := T.cls
  obtain ⟨hfl, hfs, hsu, hcs, hfd⟩ := T.fl
  have X : K.In s.heap := M.kin.keeps hg
  have hcl : clsIn K C = some { name := nm, bases := bs, mro := .ref C :: bm, ns := N, qualname := q, hasDict := true, slotNames := sn, subclasses := sub, abstract := ab, collection := col, hasDel := false } := by unfold clsIn; rw [hC] <;> rfl
  have hfs' : ("self" == fld) = false := by
    have : ¬ fld = ("self" : Str) := by simpa using hfs
    simpa using fun z => this z.symm
  refine ks_codeAny_call_defAt (fd := ksFn "__init__" qual (eA fld p1 p2) (eB fld msg q1 q2 q3 q4 q5 q6 q7 q8 q9 q10) (eS fld) .none .none doc pm an (.ref cda) ct cc) (binds := [("self", .ref x), (fld, v)])
    hroom (X _ _ ho) rfl (M.nolimit.keeps hg) (codeRec_of X hcd) rfl ?hb ?hc ?hl (fun h1 hns k => ?_) rfl rfl rfl
  case hb => exact BindsTo.of_eq (T.bd _ _ _ _ _ _ _ _ _ _ _ _)
  case hc => 
    intro y hy
    simp only [ksFn, eS, List.mem_cons, List.not_mem_nil, or_false] at hy
    rcases hy with rfl | rfl | rfl | rfl <;> (intro z; cases z)
  case hl =>
    intro y hy
    simp only [List.mem_cons, List.not_mem_nil, or_false] at hy
    rcases hy with rfl | rfl
    · rfl
    · exact hfl
  have k : ∀ b o, s.heap.get? b = some o → h1.get? b = some o := k
  have X1 : K.In h1 := X.keeps k
  have hx1 := k _ _ hx
  have M1 : ∀ b o, g.get? b = some o → h1.get? b = some o := fun b o e => k b o (hg b o e)
  have mself : (fun y => List.lookup y ([("self", .ref x), (fld, v)] : List (Str × Value)).reverse) "self" = some (.ref x) := by
    simp only [List.reverse_cons, List.reverse_nil, List.nil_append, List.cons_append, List.lookup]
    rw [hfs']
    rfl
  have mfld : (fun y => List.lookup y ([("self", .ref x), (fld, v)] : List (Str × Value)).reverse) fld = some v := by
    simp [List.reverse_cons, List.lookup]
  refine ks_wpAt_execs_cons (ks_wpAt_Expr_any (ks_wpAt_MethodCall (pl := (do return (← importBound (.Call (.Name "super" q1) [] [] q2) (callEnv (ksFn "__init__" qual (eA fld p1 p2) (eB fld msg q1 q2 q3 q4 q5 q6 q7 q8 q9 q10) (eS fld) .none .none doc pm an (.ref cda) ct cc) s.heap.objs.size fI)).getD true)) ?_ ?he))
  case he =>
    show (do let ov ← _; standAt q3.atName; methodCall _ _ _ _ _ ov _ _ _) = _
    unfold methodCall methodCallPos
    rw [hpos]
    rfl
  have hD : ∃ oD, h1.get? C = some oD ∧ oD.data = .cls { name := nm, bases := bs, mro := .ref C :: bm, ns := N, qualname := q, hasDict := true, slotNames := sn, subclasses := sub, abstract := ab, collection := col, hasDel := false } := ⟨_, X1 _ _ hC, rfl⟩
  obtain ⟨oD, hD1, hD2⟩ := hD
  refine ks_wpAt_super_base hsu hcs rfl rfl (X1 _ _ ho) rfl rfl rfl (X1 _ _ hcode) rfl hvs hfile T.top ?_
  obtain ⟨mb, hmb, hmb2⟩ := M.blt
  refine ks_loadName_global rfl hsu (loadGlobal_builtin (mg := mg) (mb := mb) (M.glob.keeps M1) (mg_none_of M.kin M.glob T.noS) (hmb.keeps M1) ((hmb2 _ (by decide)).trans (by decide +kernel)) ⟨rfl, ?_⟩)
  refine wpAny_loadName_free rfl hcs rfl ⟨_, X1 _ _ hcell, rfl⟩ ?_
  refine wpAny_loadName_local rfl rfl hns mself ?_
  refine ks_wpAny_isType_cls hD1 hD2 ⟨rfl, ?_⟩
  refine ks_wpAny_call_super hD1 hD2 hx1 rfl (fun c z => by cases z) (looks_mroIn X1 T.selfM) (fun h2 e2 k2 => ?_)
  have X2 : K.In h2 := X1.keeps k2
  have hx2 := k2 _ _ hx1
  have I2 : InstAt h2 x (excO C t0) C none := ⟨hx2, rfl, rfl, trivial⟩
  have hf2 : alongIn K "__init__" (((.ref C :: bm : List Value).dropWhile (· != .ref C)).drop 1) = some (some (.builtin "ValueError.__init__")) := by
    have := T.up
    unfold ks_superIn at this
    rw [hcl] at this
    exact this
  refine kxs_getMethod kxs_ValueError e2 (looks_opaque X2 T.third) (l₀ := .ref C :: bm) (fun A Q E s k q => wpAny_bind ((looks_clsIn X2 hcl) A _ E s k (wpAny_pure q))) rfl X2 hf2 (I2.type.andThen (looks_subIn X2 T.veC)) (ks_ne X2 I2 hcl) rfl ?_
  -- the wrapper is called with the text
  have hu3 : (h2.push (kxs_mw "ValueError.__init__" x)).get? h2.objs.size = some (kxs_mw "ValueError.__init__" x) := Heap.get?_push_at rfl rfl
  have k3 : ∀ b o, h2.get? b = some o → (h2.push (kxs_mw "ValueError.__init__" x)).get? b = some o := fun b o e => Heap.get?_push_of_some _ e
  refine kxs_callWith (i := "ValueError.__init__") (x := x) rfl (evalArgs_plain ?_)
  refine spliced_more (Calls.Constant_str ?_)
  refine spliced_none ?_
  refine ⟨hu3, ?_⟩
  have hx3 := k3 _ _ hx2
  have hC3 := k3 _ _ (X2 _ _ hC)
  show wpAny (model prog w) (A.deeper _) (call (.ref h2.objs.size) [.str msg _]) _ _ _
  refine wpAny_call (codeAny_of_tree ?_)
  show wpAny _ (A.deeper _).in1 (callAny (.ref h2.objs.size) ⟨[.str msg _], []⟩) _ _ _
  simp only [callAny]
  refine wpAny_bind (wpAny_load hu3 ?_)
  simp only [kxs_mw, show (Value.type "method-wrapper" == Value.type "method" || Value.type "method-wrapper" == Value.type "builtin_function_or_method" || Value.type "method-wrapper" == Value.type "method-wrapper") = true by decide, if_true]
  refine KFB.if_so (by decide) ?_
  refine wpAny_bind (check_bound_init F.excBase_ValueError.toExcCallFacts hC3 hx3 rfl ?_)
  refine wpAny_bind (wpAny_pure (wpAny_pure ?_))
  refine ⟨plainId_quiet F.excBase_ValueError.init.plain _, codeAny_builtin F.excBase_ValueError.initEntry ?_⟩
  refine exc_init_tree (cls := .ref C) (t0 := t0) (dv := none) (c2 := .none) (c3 := .none) (b4 := .bool false) hx3 (size1 _) (fun h4 k4 hx4 ht4 => ?_)
  -- self.field = value
  have k14 : ∀ b o, b ≠ x → h1.get? b = some o → h4.get? b = some o := fun b o hb e => k4 b o hb (k3 _ _ (k2 _ _ e))
  have X4 : K.In h4 := fun a o e => k14 a o (fun z => by rw [z, hnx] at e; cases e) (X1 a o e)
  have hL : s.heap.objs.size ≠ x := Nat.ne_of_gt (Heap.lt_size hx)
  have hn4 : h4.Ns s.heap.objs.size (fun y => List.lookup y ([("self", .ref x), (fld, v)] : List (Str × Value)).reverse) := hns.at (fun o e => k14 _ _ hL e)
  show PySem.wpAt _ _ _ (execs _ _) _ _ _
  refine ks_wpAt_execs_cons (ks_wpAt_Assign_Attr ?_)
  have hfl' : (callEnv (ksFn "__init__" qual (eA fld p1 p2) (eB fld msg q1 q2 q3 q4 q5 q6 q7 q8 q9 q10) (eS fld) .none .none doc pm an (.ref cda) ct cc) s.heap.objs.size fI).kindOf fld = some .local := hfl
  refine wpAt_of_wpAny (wpAny_Name ?_ hfd)
  refine wpAny_loadName_local (m := fun y => List.lookup y ([("self", .ref x), (fld, v)] : List (Str × Value)).reverse) (v := v) rfl hfl' hn4 mfld ?_
  refine wpAny_Name ?_
  refine wpAny_loadName_local (m := fun y => List.lookup y ([("self", .ref x), (fld, v)] : List (Str × Value)).reverse) (v := .ref x) rfl rfl hn4 mself ?_
  have hx5 : h4.get? x = some (excO C _) := hx4
  refine set_plain X4 (ox := excO C _) (od := none) ⟨hx5, rfl, rfl, trivial⟩ T.sa ?_
  refine exc_osa X4 hx5 hcl (show refsVE (.ref C :: bm) = true from hbm) rfl T.noN (fun h5 tk5 dx k5' dn dne hx6 hn5 => ?_)
  show PySem.wpAt _ _ _ (execs _ _) _ _ _
  have big : s.heap.objs.size ≤ dx := Nat.le_trans (Nat.le_of_lt hn4.lt) dn
  refine wpAt_of_wpAny (wpAny_execs_nil (hq h5 tk5 dx ⟨fun b o hb e => k5' b o hb (k14 b o hb (k b o e)), ⟨_, hx6⟩, big, dne, hn5⟩))
/-- a made error -/
structure ErrMade (h h' : Heap) (fld : Str) (e C d : Addr) (v : Value) : Prop where
  keep : ∀ b o, h.get? b = some o → h'.get? b = some o
  new : h.objs.size ≤ e
  obj : ∃ oe vs, h'.get? e = some oe ∧ oe.cls = .ref C ∧ oe.dict = some d ∧ oe.data = .fields vs ∧ vs[1]? = some .none
  dbig : h.objs.size ≤ d
  dne : d ≠ e
  ns : h'.Ns1 d (fun y => if y = fld then some v else none)
theorem err_made (T : ErrT prog K mg cn fld C fI) {v : Value} (M : L2.Mod K mg g) (hg : ∀ b o, g.get? b = some o → s.heap.get? b = some o) (hroom : A.depth + 1 < recursionLimit)
    (hq : ∀ h' tk e d, ErrMade s.heap h' fld e C d v → R (.ok (.ret (.ref e))) { s with heap := h', toks := tk }) :
    codeAny (model prog w) A (.call (.ref C) ⟨[v], []⟩) R s := by
  obtain ⟨nm, q, N, bs, bm, sn, sub, ab, col, dd, k0, k1, k2, k3, k5, hC, hbm⟩ := T.cls
  have X : K.In s.heap := M.kin.keeps hg
  obtain ⟨hp, gs, dr, tk, os⟩ := s
  have k : ∀ b o, hp.get? b = some o → ((hp.push (kdv_tup [v])).push (excO C hp.objs.size)).get? b = some o := fun b o e => Heap.get?_push_of_some _ (Heap.get?_push_of_some _ e)
  have hget : ((hp.push (kdv_tup [v])).push (excO C hp.objs.size)).get? (hp.objs.size + 1) = some (excO C hp.objs.size) := by heap_get
  have hnx : K.lookup (hp.objs.size + 1) = none := by
    cases e : K.lookup (hp.objs.size + 1) with
    | none => rfl
    | some o =>
      have z : hp.get? (hp.objs.size + 1) = some o := X _ _ e
      exact absurd (Nat.lt_of_succ_lt (Heap.lt_size z)) (Nat.lt_irrefl _)
  refine call_own F.excBase_ValueError (fun X => refsVE_contains X bm hbm) (X _ _ hC) (looks_findIn X T.iC) (fun self => bind_fn X self T.tC) (size1 v) ?_
  refine err_init (s := ⟨(hp.push (kdv_tup [v])).push (excO C hp.objs.size), gs, dr, tk, os⟩) (g := g) T M (fun b o e => k b o (hg b o e)) hget hnx ?_ fun h' tk' dx ⟨k', hx, dn, dne, hns⟩ => ?_
  · show A.depth + 1 < recursionLimit
    exact hroom
  · obtain ⟨t1, hx⟩ := hx
    have old : ∀ b o, hp.get? b = some o → h'.get? b = some o := fun b o e => k' b o (Nat.ne_of_lt (Nat.lt_succ_of_lt (Heap.lt_size e))) (k b o e)
    have z : hp.objs.size + 1 + 1 ≤ dx := by
      first
        | (simpa only [Heap.size_push] using dn)
        | exact dn
        | (have q := dn; rw [Heap.size_push, Heap.size_push] at q; exact q)
    exact ⟨rfl, hq h' tk' (hp.objs.size + 1) dx ⟨old, Nat.le_succ _, ⟨_, _, hx, rfl, rfl, rfl, rfl⟩, Nat.le_trans (Nat.le_trans (Nat.le_succ _) (Nat.le_succ _)) z, dne, hns⟩⟩
end
end RX
namespace L2
open PySem PySem.Spec PyProof.Rows
theorem relO_one {fld : Str} {v : V} {v' : Value} (r : RelV v v') (f : Str) : RelO (List.lookup f [(fld, v)]) (if f = fld then some v' else none) := by
  by_cases hw : f = fld
  · subst hw
    rw [if_pos rfl]
    have q : List.lookup f [(f, v)] = some v := by simp [List.lookup]
    rw [q]; exact r
  · rw [if_neg hw]
    have qw : (f == fld) = false := by simpa using hw
    have q2 : List.lookup f [(fld, v)] = none := by simp [List.lookup, qw]
    rw [q2]; trivial
section
variable {X : Cx} {C fI : Addr} {cn fld : Str}
/-- Err(e): its own dict d is new and holds the field -/
def tMkErr (fld : Str) (C : Addr) (ta : TA) : St → Hp → XK → Prop := fun σ H Q => ta σ H fun vs H1 => ∃ v, vs = [v] ∧ ∀ d, H1 d = none → Q (.ref C) (some d) (upd H1 d (.xd [(fld, v)]))
theorem pmk_err {a : Expr} {ta : TA} {p pos : Pos} {k : Nat} (T : RX.ErrT X.prog X.K X.mg cn fld C fI) (hr : Room k X.A) (ha : PA X [a] ta) (hg : Gl X cn := by rfl) (hdb : (cn == ("__debug__" : Str)) = false := by decide)
    (he : starEach (a :: []) X.env = (false, eval a X.env) :: starEach [] X.env := by rfl) (hpl : (backTo pos (starEach [] X.env)).any (·.1) = false := by rfl) :
    PMk X (.Call (.Name cn p) [a] [] pos) (tMkErr fld C ta) := by
  intro pins s σ H Q I h
  refine wpAny_Call_Name_kw (ld_glob I hg T.gC ?_ hdb)
  refine PySem.W.callWith_K (h₀ := X.base) I.ok.mod.kin T.kC (thn (ha.run pos pins s σ H _ I h) fun us s1 hh => ?_) he hpl
  obtain ⟨vs, H1, I1, r1, v, ev, q1⟩ := hh
  subst ev
  refine ⟨I1.kIn, ?_⟩
  cases r1 with
  | cons rv rn =>
    rename_i v' us'
    cases rn
    show wpAny _ _ (call (.ref C) [v']) _ _ _
    have hbk := I1.bk
    obtain ⟨hp, g, dr, tk, os⟩ := s1
    refine wpAny_call (RX.err_made T I1.mod hbk (by have := hr.dp; omega) fun h' tk' e d M => ?_)
    show MkP X pins σ Q (.ref e) ⟨h', g, dr, tk', os⟩
    obtain ⟨oe, fv, hoe, hc, hd, hdat, h1⟩ := M.obj
    have hns := M.ns
    obtain ⟨G', g1, g2⟩ := restrict h' fun b => decide (b ≠ e)
    have gk : ∀ b, b ≠ e → G'.get? b = h'.get? b := fun b hb => g1 b (decide_eq_true hb)
    have ge : G'.get? e = none := g2 e (by simp)
    have old : ∀ b o, hp.get? b = some o → G'.get? b = some o := fun b o q => (gk b (Nat.ne_of_lt (Nat.lt_of_lt_of_le (Heap.lt_size q) M.new))).trans (M.keep b o q)
    have ob : ObjOk X.prog X.w (upd H1 d (.xd [(fld, v)])) G' d (.xd [(fld, v)]) :=
      ⟨_, hns.at (fun o q => (gk d M.dne).trans q), fun f => relO_one rv f⟩
    have J : Inv X pins σ (upd H1 d (.xd [(fld, v)])) ⟨G', g, dr, tk', os⟩ := I1.laid (t' := tk') old M.dbig ob
    refine ⟨e, oe, fv, ⟨G', g, dr, tk', os⟩, _, .ref C, some d, rfl, J, fun b o q => ?_, ge, hoe, ⟨hc, hd⟩, hdat, h1, ?_, rfl, I1.bare, raises_own T.exC T.tyC, q1 d (I1.hok.fresh M.dbig)⟩
    · by_cases hb : b = e
      · have q' : G'.get? b = some o := q
        rw [hb, ge] at q'; cases q'
      · exact (gk b hb).symm.trans q
    · rw [upd_ne (Ne.symm M.dne)]
      exact I1.hok.fresh M.new
/-- raise Err(e) -/
def tRaiseErr (fld : Str) (C : Addr) (W : WX) (ta : TA) : TS := fun _ σ H => tMkErr fld C ta σ H fun cls d H' => W cls d σ H'
theorem ps_raiseErr {a : Expr} {ta : TA} {W : WX} {p pos pos2 : Pos} {k : Nat} (hc : X.calm = true) (T : RX.ErrT X.prog X.K X.mg cn fld C fI) (hr : Room k X.A) (tk : Takes X W) (ha : PA X [a] ta) (hg : Gl X cn := by rfl) (hdb : (cn == ("__debug__" : Str)) = false := by decide)
    (he : starEach (a :: []) X.env = (false, eval a X.env) :: starEach [] X.env := by rfl) (hpl : (backTo pos (starEach [] X.env)).any (·.1) = false := by rfl) :
    PS X (.Raise (some (.Call (.Name cn p) [a] [] pos)) none pos2) (tRaiseErr fld C W ta) := ps_raise hc tk (pmk_err T hr ha hg hdb he hpl)
end
end L2
end
section
set_option Elab.async false
set_option linter.all false
set_option maxRecDepth 100000
set_option maxHeartbeats 2000000
/-! # Calls within which nothing is being shown: what repr needs to be told. -/
namespace L2
open PySem PySem.Spec PyProof.Rows
/-- as FnOk, but only where no repr is under way around the call -/
structure FnG (P : Program) (w : World) (K : PySem.W.Frag) (mg : Str → Option Value) (base : Heap)
    (CX : CXT) (k : Nat) (f : Addr) (fd : FuncData) (ps : List Str) (sp : Sp) : Prop where
  len : ∀ vs H Q E, sp vs H Q E → vs.length = ps.length
  run : ∀ (A : Around) (outer : List Env) (s : Shared) (H : Hp) (args : Args) (us : List Value)
    (vs : List V) (Q : VK) (E : XK), A.guards = some [] → Room k A → Env0 P w K mg base A outer s H →
    BindsTo s fd args (ps.zip us) → Vals vs us → sp vs H Q E →
    codeAny (model P w) A (.call (.ref f) args) (CR CX outer P w H s Q E) s
section
variable {P : Program} {w : World} {K : PySem.W.Frag} {mg : Str → Option Value} {base : Heap}
  {CX : CXT} {k j : Nat} {f : Addr} {fd : FuncData} {ps : List Str} {sp sp' : Sp}
theorem FnOk.g (F : FnOk P w K mg base CX k f fd ps sp) : FnG P w K mg base CX k f fd ps sp :=
  ⟨F.len, fun A o s H a us vs Q E _ => F.run A o s H a us vs Q E⟩
theorem FnG.mono (F : FnG P w K mg base CX j f fd ps sp) (h : j ≤ k) : FnG P w K mg base CX k f fd ps sp :=
  ⟨F.len, fun A o s H a us vs Q E hg hr => F.run A o s H a us vs Q E hg (hr.mono h)⟩
theorem FnG.imp (F : FnG P w K mg base CX k f fd ps sp) (h : ∀ vs H Q E, sp' vs H Q E → sp vs H Q E) :
    FnG P w K mg base CX k f fd ps sp' :=
  ⟨fun vs H Q E q => F.len vs H Q E (h _ _ _ _ q),
   fun A o s H a us vs Q E hg hr he hb hv hs => F.run A o s H a us vs Q E hg hr he hb hv (h _ _ _ _ hs)⟩
end
/-- a def by its body, where nothing is being shown -/
theorem fn_ofG {CX : CXT} {P : Program} {w : World} {K : PySem.W.Frag} {mg : Str → Option Value} {base : Heap}
    {k : Nat} {f : Addr} {name qual : Str} {params : Arguments} {body : List Stmt} {scope : Scope}
    {dV kV doc pm cdv ct oc : Value} {an od : Option Addr} {osl : Array (Option Value)} {N ps : List Str} {sp : Sp}
    (lk : K.lookup f = some ⟨oc, od, .func (PySem.W.fnOf name qual params body scope dV kV doc pm an cdv ct), osl⟩)
    (hcd : PySem.W.codeIn K cdv qual = true) (S : FnScope N ps scope)
    (len : ∀ vs H Q E, sp vs H Q E → vs.length = ps.length)
    (hbody : ∀ (A : Around) (outer : List Env) (s : Shared) (H : Hp) (vs : List V) (Q : VK) (E : XK),
      A.guards = some [] → Room k (A.deeper (envOfC qual scope s.heap.objs.size f cdv)) → sp vs H Q E →
      ∃ t, PSs (cxOf CX P w K mg base N qual scope f cdv A outer s H E) body t ∧
        t { nx := fun _ H' => Q .non H', rt := Q } (start N vs) H) :
    FnG P w K mg base CX (k + 1) f (PySem.W.fnOf name qual params body scope dV kV doc pm an cdv ct) ps sp := by
  constructor
  · exact len
  intro A outer s H args us vs Q E hgd hr e0 hb r hsp
  have lenV := len _ _ _ _ hsp
  have kept : ∀ b o, base.get? b = some o → s.heap.get? b = some o := fun b o e => (e0.bs b o e).1
  have KX : K.In s.heap := e0.mod.kin.keeps kept
  have noLim : s.heap.NoLimit := e0.mod.nolimit.keeps kept
  have kinds : ∀ y ∈ ps.zip us, scope.names.lookup y.1 = some .local ∨
      (scope.names.lookup y.1 = some .cell ∧ ((cellsFrom (s.heap.objs.size + 1) scope.names []).lookup y.1).isSome = true) := by
    rintro ⟨n, v⟩ hy
    have hn : n ∈ ps := (List.of_mem_zip hy).1
    rcases S.par n hn with z | z
    · exact Or.inl z
    · exact Or.inr ⟨z, PySem.W.cellsFrom_some _ _ _ (Or.inl z)⟩
  refine codeAny_call_function hr.depth (KX _ _ lk) rfl S.co S.gen rfl (PySem.W.codeRec_of KX hcd) ?_
  apply hb
  refine wpAny_newFunctionEnv_cells S.kind kinds ?_
  rintro env rfl s1 x
  refine ⟨noLim.keeps x.toInCall.keep, codeAny_func ?_⟩
  obtain ⟨t, ht, hq⟩ := hbody A outer s H vs Q E hgd (hr.deeper _) hsp
  have I := inv_start (CX := CX) (E := E) S hr.hd e0 lenV r x
  refine wpAny_mono (ht.run [] s1 (start N vs) H _ I hq) ?_ (fun _ _ z => z)
  intro fl s' hs
  have done : ∀ {σ' : St} {H' : Hp} {v : V} {u : Value},
      Inv (cxOf CX P w K mg base N qual scope f cdv A outer s H E) [] σ' H' s' → RelV v u → Q v H' →
      CE outer P w H s Q u s' := by
    intro σ' H' v u J rv q
    exact ⟨v, H', J.os, J.bare, J.base, J.hok, rv, q⟩
  match fl, hs with
  | .ret u, hs => obtain ⟨v, σ', H', J, rv, q⟩ := hs; exact done J rv q
  | .next, hs => obtain ⟨σ', H', J, q⟩ := hs; exact done (v := .non) (u := .none) J rfl q
  | .brk, hs => obtain ⟨_, _, _, q⟩ := hs; exact q.elim
  | .cont, hs => obtain ⟨_, _, _, q⟩ := hs; exact q.elim
section
variable {X : Cx} {CX : CXT} {k : Nat} {f C : Addr} {fd : FuncData} {ps : List Str} {sp : Sp} {dvs : List V} {ds : List Value} {E : XK} {x m : Str} {p pos apos : Pos} {e o : Expr} {es : List Expr} {ta : TE} {t : TA}
theorem run_fnG {pins : List (Addr × Obj)} {σ : St} {H : Hp} {s : Shared} {Q : VK} {us : List Value} {vs : List V}
    (F : FnG X.prog X.w X.K X.mg X.base CX k f fd ps sp) (hgd : X.A.guards = some []) (hr : Room k X.A) (hb : Binds X.K fd ps ds) (hd : Vals dvs ds)
    (hx : Passes CX X E) (I : Inv X pins σ H s) (r : Vals vs us) (h : sp (vs ++ dvs) H Q E) :
    wpAny (model X.prog X.w) X.A (call (.ref f) us) (EP X pins σ Q) X.xe s := by
  have r2 := r.append hd
  have hl : (us ++ ds).length = ps.length := r2.length.symm.trans (F.len _ _ _ _ h)
  apply wpAny_call
  refine codeAny_mono (F.run X.A X.stack s H ⟨us, []⟩ (us ++ ds) (vs ++ dvs) Q E hgd hr I.env0 (hb s us I.kIn hl) r2 h) ?_
  intro r s' hq
  match r, hq with
  | .error e, hq => exact hx pins σ H s e s' I hq
  | .ok (.ret u), hq => exact I.after hq
  | .ok .next, hq => exact False.elim hq
  | .ok .brk, hq => exact False.elim hq
  | .ok .cont, hq => exact False.elim hq
theorem pg_call (F : FnG X.prog X.w X.K X.mg X.base CX k f fd ps sp) (hgd : X.A.guards = some []) (hr : Room k X.A) (hg : Gl X x) (hm : X.mg x = some (.ref f))
    (hk : PySem.W.keepIn X.K (.ref f) = true) (hb : Binds X.K fd ps ds) (hd : Vals dvs ds) (hx : Passes CX X E)
    (ha : PA X (e :: es) t) (hdb : (x == ("__debug__" : Str)) = false := by decide)
    (he : starEach (e :: es) X.env = (false, eval e X.env) :: starEach es X.env := by rfl)
    (hpl : (backTo pos (starEach es X.env)).any (·.1) = false := by rfl) :
    PE X (.Call (.Name x p) (e :: es) [] pos) (tCall sp dvs E t) := by
  constructor
  intro pins s σ H Q I h
  refine wpAny_Call_Name_kw (ld_glob I hg hm ?_ hdb)
  refine PySem.W.callWith_K (h₀ := X.base) I.ok.mod.kin hk (thn (ha.run pos pins s σ H _ I h) ?_) he hpl
  rintro us s1 ⟨vs, H1, I1, r, q⟩
  exact ⟨I1.kIn, run_fnG F hgd hr hb hd hx I1 r q⟩
theorem pg_meth {pl : Sem Bool} (he : PE X o ta) (c : Cls X.K C) (hm : Meth X.K C m f) (F : FnG X.prog X.w X.K X.mg X.base CX k f fd ps sp)
    (hgd : X.A.guards = some []) (hr : Room k X.A) (hb : Binds X.K fd ps ds) (hd : Vals dvs ds) (hx : Passes CX X E) (ha : PA X (e :: es) t)
    (hst : starEach (e :: es) X.env = (false, eval e X.env) :: starEach es X.env := by rfl)
    (hpl : (backTo pos (starEach es X.env)).any (·.1) = false := by rfl)
    (ht : eval (.Call (.Attribute o m apos) (e :: es) [] pos) X.env =
      (do let ov ← eval o X.env; standAt apos.atName; let (f, first) ← holding [ov] (getMethod ov m pl); callWith pos f first (backTo pos (starEach (e :: es) X.env)) (backToKw pos (keywordEach [] X.env))) := by rfl) :
    PE X (.Call (.Attribute o m apos) (e :: es) [] pos) (tMeth C m sp dvs E ta t) := by
  constructor
  intro pins s σ H Q I h
  refine PySem.W.methodCall_KW (pl := pl) (thn (he.run pins s σ H _ I h) ?_) ht
  rintro u s1 ⟨x, H1, I1, rx, a, dx, fs, ex, ea, l, q⟩
  subst ex
  cases (show u = Value.ref a from rx)
  refine getmeth_ok I1 ea c hm l ?_
  refine PySem.W.callWith_K (first := [.ref a]) (h₀ := X.base) I.ok.mod.kin hm.kp (thn (ha.run pos pins s1 σ H1 _ I1 q) ?_) hst hpl
  rintro us s2 ⟨vs, H2, I2, r, q2⟩
  exact ⟨I2.kIn, run_fnG (us := .ref a :: us) (vs := .ref a :: vs) F hgd hr hb hd hx I2 (.cons rfl r) q2⟩
end
/-- the law's own call, at the heap behind the top -/
theorem law_callG {P : Program} {w : World} {K : PySem.W.Frag} {mg mb : Str → Option Value} {CX : CXT} {k : Nat} {fa a : Addr} {fd : FuncData} {x : Str} {sp : Sp} {s₁ : Shared} {vs : List Value} {ns : List Int}
    (KX : K.In s₁.heap) (hns : s₁.heap.Ns mainGlobals mg) (hb : s₁.heap.Ns builtinsNs mb) (hbb : ∀ x : Str, x ≠ "__name__" → mb x = bootBuiltins x)
    (hlim : s₁.heap.NoLimit) (hg : s₁.gens = #[]) (ha : s₁.heap.get? a = some { cls := .type "list", data := .seq vs.toArray })
    (hi : IntsAre vs ns) (hl : ns.length ≤ sizeLine) (hr : Room k callerA)
    (F : ∀ base : Heap, K.In base → base.Ns mainGlobals mg → FnG P w K mg base CX k fa fd [x] sp)
    (hbind : ∀ (s : Shared) (u : Value), BindsTo s fd ⟨[u], []⟩ [(x, u)])
    (hsp : ∀ H : Hp, Only H → SqL K H a (ns.map V.int) → sp [.ref a] H (fun v _ => v = .bl true) fun _ _ _ => False)
    (hCX : ∀ H e s', CX [] H s₁ (fun _ _ _ => False) e s' → False) :
    codeAny (model P w) callerA (.call (.ref fa) ⟨[.ref a], []⟩)
      (fun r s' => r = .ok (.ret (.bool true)) ∧ OldK s₁.heap s'.heap ∧ s'.os = s₁.os ∧ AllBare s'.gens) s₁ := by
  have rv := vals_ints hi
  have lenV := hi.length
  have core : ∀ H : Hp, Only H → SqL K H a (ns.map V.int) → HOk P w H s₁.heap → (∀ b, H b ≠ none → b = a) → (H a ≠ none → K.lookup a = none) →
      codeAny (model P w) callerA (.call (.ref fa) ⟨[.ref a], []⟩)
        (fun r s' => r = .ok (.ret (.bool true)) ∧ OldK s₁.heap s'.heap ∧ s'.os = s₁.os ∧ AllBare s'.gens) s₁ := by
    intro H hO hS hok hA hK
    have toB : ∀ {b : Addr} {o : Obj}, s₁.heap.get? b = some o → H b = none → (hidT s₁.heap H).get? b = some o := hidT_get
    have notA : ∀ {b : Addr} {o : Obj} {es : Array DictEntry} {ep : Nat}, s₁.heap.get? b = some o → o.data = .dict es ep → H b = none := by
      intro b o es ep e d
      cases q : H b with
      | none => rfl
      | some u =>
        cases (hA b (by rw [q]; simp))
        rw [ha] at e
        cases e
        exact nomatch (show Data.seq vs.toArray _ = Data.dict es ep from d)
    have toNs : ∀ {b : Addr} {m : Str → Option Value}, s₁.heap.Ns b m → (hidT s₁.heap H).Ns b m := by
      rintro b m ⟨o, es, ep, e, d, r⟩
      exact ⟨o, es, ep, toB e (notA e d), d, r⟩
    have inB : K.In (hidT s₁.heap H) := by
      intro b o e
      refine toB (KX b o e) ?_
      cases q : H b with
      | none => rfl
      | some u =>
        cases (hA b (by rw [q]; simp))
        have z := hK (by rw [q]; simp)
        rw [z] at e
        cases e
    have hM : Mod K mg (hidT s₁.heap H) := by
      obtain ⟨mc, h1, h2⟩ := hlim
      exact ⟨inB, toNs hns, ⟨mb, toNs hb, hbb⟩, ⟨mc, toNs h1, h2⟩⟩
    have e0 : Env0 P w K mg (hidT s₁.heap H) callerA [] s₁ H :=
      { frames := rfl, mod := hM, bs := fun b o e => of_hidT e, bsz := Nat.le_of_eq (hidT_size _ _), funs := trivial,
        frf := fun b hb => absurd (show b ∈ ([] : List Addr) from hb) (by simp), hok := hok, bare := .of_eq hg }
    have run := (F _ inB (toNs hns)).run callerA [] s₁ H ⟨[.ref a], []⟩ [.ref a] [.ref a] _ _ rfl hr e0 (hbind s₁ (.ref a)) (.cons rfl .nil) (hsp H hO hS)
    refine codeAny_mono run ?_
    intro r s' h
    match r, h with
    | .error e, h => exact (hCX H e s' h).elim
    | .ok .next, h => exact False.elim h
    | .ok .brk, h => exact False.elim h
    | .ok .cont, h => exact False.elim h
    | .ok (.ret u), h =>
      obtain ⟨v, H', os, bare, un, hok', r', q⟩ := h
      cases (show v = V.bl true from q)
      cases (show u = Value.bool true from r')
      refine ⟨rfl, OldK.of_keep ?_, os, bare⟩
      intro b o e
      cases q2 : H b with
      | none => exact un.keep b o e q2 (by intro z; exact absurd (show b ∈ ([] : List Addr) from z) (by simp)) (by simp)
      | some u2 =>
        rcases hO b with z | ⟨ob, xs, z⟩
        · rw [q2] at z
          cases z
        · obtain ⟨e1, _⟩ := hok b _ z
          obtain ⟨e2, _⟩ := hok' b _ (un.frzs b ob _ z)
          rw [e] at e1
          cases e1
          exact e2
  cases hk : K.lookup a with
  | some o =>
    have e := KX a o hk
    rw [ha] at e
    cases e
    refine core (fun _ => none) (fun _ => Or.inl rfl) (Or.inr ⟨_, vs.toArray, _, hk, rfl, rfl, rfl, ?_, ?_⟩) ?_ (fun b z => absurd rfl z) (fun z => absurd rfl z)
    · rw [List.size_toArray, lenV]
      exact hl
    · simpa using rv
    · intro b u z
      exact nomatch (show (none : Option HO) = some u from z)
  | none =>
    have hif : ∀ b, b ≠ a → (fun b => if b = a then some (HO.frz { cls := .type "list", data := .seq vs.toArray } (.lst (ns.map V.int))) else none) b = none := fun b h => if_neg h
    refine core (fun b => if b = a then some (.frz { cls := .type "list", data := .seq vs.toArray } (.lst (ns.map V.int))) else none) ?_ (Or.inl (Or.inr ⟨_, if_pos rfl⟩)) ?_ ?_ (fun _ => hk)
    · intro b
      by_cases h : b = a
      · exact Or.inr ⟨_, _, if_pos h⟩
      · exact Or.inl (hif b h)
    · intro b u z
      by_cases h : b = a
      · subst h
        cases (if_pos rfl).symm.trans z
        refine ⟨ha, ?_, vs, _, rv, ha⟩
        rw [List.length_map]
        exact hl
      · cases (hif b h).symm.trans z
    · intro b z
      by_cases h : b = a
      · exact h
      · exact absurd (hif b h) z
theorem walk_ofG {l : PySem.W.OpenLaw} {n k : Nat} {q : Program} {loose : List Str} {XP : (Str → Option Value) → Heap → Prop} {YP : World → Heap → Prop} {d : DefRec} {K : Params → PySem.W.Frag} {CX : World → CXT} {sp : World → Sp} {x : Str}
    (hn : l.most = some n) (hn2 : n ≤ sizeLine) (hdf : d.params.defaults = []) (hr : Room k callerA) (hY : ∀ (w : World) (h : Heap), YP w h → (K w.params).In h)
    (F : ∀ (w : World) (mg : Str → Option Value) (fa : Addr) (h : Heap), (K w.params).In h → h.Ns mainGlobals mg → mg d.name = some (.ref fa) →
      ∃ fd : FuncData, (∀ (s : Shared) (u : Value), BindsTo s fd ⟨[u], []⟩ [(x, u)]) ∧ ∀ base : Heap, (K w.params).In base → base.Ns mainGlobals mg → FnG l.prog w (K w.params) mg base (CX w) k fa fd [x] (sp w))
    (hsp : ∀ (w : World) (H : Hp) (a : Addr) (ns : List Int), ns.length ≤ n → Only H → SqL (K w.params) H a (ns.map V.int) → sp w [.ref a] H (fun v _ => v = .bl true) fun _ _ _ => False)
    (hCX : ∀ (w : World) (H : Hp) (s : Shared) (e : Value) (s' : Shared), CX w [] H s (fun _ _ _ => False) e s' → False) :
    PySem.W.WalkO q loose XP YP l.row.toRowW d [] (fun f vs => PySem.call f vs) := by
  refine Att.attach_call hn hdf ?_
  intro w s₀ s₁ mg mb fa o pm cd doc a vs ns G Y ho hd hcd hmg hobj hints hlen hg
  have KX := hY w _ Y
  obtain ⟨fd, hb, hF⟩ := F w mg fa _ KX G.T.g hmg
  exact law_callG KX G.T.g G.T.b G.T.builtins G.T.nolimit hg hobj hints (Nat.le_trans hlen hn2) hr hF hb
    (fun H hO hS => hsp w H a ns hlen hO hS) (fun H e s' => hCX w H s₁ e s')
end L2
end
section
set_option Elab.async false
set_option linter.all false
set_option maxRecDepth 100000
set_option maxHeartbeats 2000000
/-! # Data that stands still: what a value shows, and repr of it. -/
namespace L2
open PySem PySem.Spec PyProof.Rows
-- the value v is the datum d at the heap H; its lists and dicts stand at no address of M. L: lists may be in it, but no dict; else the empty dict, but no list
mutual
inductive Dr (L : Bool) (M : Addr → Prop) (H : Hp) : V → PyData → Prop
  | non : Dr L M H .non .none
  | bl (b : Bool) : Dr L M H (.bl b) (.bool b)
  | int (i : Int) : Dr L M H (.int i) (.int i)
  | str (x : Str) : Dr L M H (.str x) (.str x)
  | lst {a : Addr} {xs : List V} {ds : List PyData} (e : H a = some (.lst xs)) (n : ¬ M a) (l : L = true) (t : DrAll L M H xs ds) : Dr L M H (.ref a) (.list ds)
  | tup {a : Addr} {xs : List V} {ds : List PyData} (e : H a = some (.tup xs)) (n : ¬ M a) (t : DrAll L M H xs ds) : Dr L M H (.ref a) (.tuple ds)
  | dct {a : Addr} (e : H a = some (.dK [])) (n : ¬ M a) (l : L = false) : Dr L M H (.ref a) (.dict [])
inductive DrAll (L : Bool) (M : Addr → Prop) (H : Hp) : List V → List PyData → Prop
  | nil : DrAll L M H [] []
  | cons {v : V} {vs : List V} {d : PyData} {ds : List PyData} (h : Dr L M H v d) (t : DrAll L M H vs ds) : DrAll L M H (v :: vs) (d :: ds)
end
/-- what is tracked off M stays -/
def Off (M : Addr → Prop) (H H' : Hp) : Prop := ∀ b o, ¬ M b → H b = some o → H' b = some o
theorem Off.refl {M : Addr → Prop} (H : Hp) : Off M H H := fun _ _ _ e => e
theorem Off.trans {M : Addr → Prop} {H H1 H2 : Hp} (a : Off M H H1) (b : Off M H1 H2) : Off M H H2 := fun c o n e => b c o n (a c o n e)
theorem Off.new {M : Addr → Prop} {H : Hp} {p : Addr} {o : HO} (h : H p = none) : Off M H (upd H p o) := fun b u _ e => by
  rw [upd_ne (ne_of_none e h)]; exact e
theorem Off.mut {M : Addr → Prop} {H : Hp} {p : Addr} {o : HO} (h : M p) : Off M H (upd H p o) := fun b u n e => by
  rw [upd_ne (fun z => n (by rw [z]; exact h))]; exact e
theorem Off.same {M : Addr → Prop} {H H' : Hp} (h : Same H H') : Off M H H' := fun b o _ e => h b o e
section
variable {L : Bool} {M M' : Addr → Prop} {H H' : Hp}
mutual
theorem Dr.keep (h : Off M H H') : ∀ {v : V} {d : PyData}, Dr L M H v d → Dr L M H' v d
  | _, _, .non => .non
  | _, _, .bl b => .bl b
  | _, _, .int i => .int i
  | _, _, .str x => .str x
  | _, _, .lst e n l t => .lst (h _ _ n e) n l (DrAll.keep h t)
  | _, _, .tup e n t => .tup (h _ _ n e) n (DrAll.keep h t)
  | _, _, .dct e n l => .dct (h _ _ n e) n l
theorem DrAll.keep (h : Off M H H') : ∀ {vs : List V} {ds : List PyData}, DrAll L M H vs ds → DrAll L M H' vs ds
  | _, _, .nil => .nil
  | _, _, .cons a t => .cons (Dr.keep h a) (DrAll.keep h t)
end
mutual
/-- more may move, if it is nothing that is tracked -/
theorem Dr.wide (h : ∀ a, M' a → M a ∨ H a = none) : ∀ {v : V} {d : PyData}, Dr L M H v d → Dr L M' H v d
  | _, _, .non => .non
  | _, _, .bl b => .bl b
  | _, _, .int i => .int i
  | _, _, .str x => .str x
  | _, _, .lst e n l t => .lst e (fun z => (h _ z).elim n fun q => by rw [q] at e; cases e) l (DrAll.wide h t)
  | _, _, .tup e n t => .tup e (fun z => (h _ z).elim n fun q => by rw [q] at e; cases e) (DrAll.wide h t)
  | _, _, .dct e n l => .dct e (fun z => (h _ z).elim n fun q => by rw [q] at e; cases e) l
theorem DrAll.wide (h : ∀ a, M' a → M a ∨ H a = none) : ∀ {vs : List V} {ds : List PyData}, DrAll L M H vs ds → DrAll L M' H vs ds
  | _, _, .nil => .nil
  | _, _, .cons a t => .cons (Dr.wide h a) (DrAll.wide h t)
end
mutual
theorem Dr.noDict : ∀ {v : V} {d : PyData}, Dr true M H v d → d.hasDict = false
  | _, _, .non => rfl
  | _, _, .bl _ => rfl
  | _, _, .int _ => rfl
  | _, _, .str _ => rfl
  | _, _, .lst _ _ _ t => by simpa [PyData.hasDict] using DrAll.noDict t
  | _, _, .tup _ _ t => by simpa [PyData.hasDict] using DrAll.noDict t
  | _, _, .dct _ _ l => by cases l
theorem DrAll.noDict : ∀ {vs : List V} {ds : List PyData}, DrAll true M H vs ds → PyData.hasDictAll ds = false
  | _, _, .nil => rfl
  | _, _, .cons a t => by simp [PyData.hasDictAll, Dr.noDict a, DrAll.noDict t]
end
mutual
theorem Dr.reads {P : Program} {w : World} {h : Heap} (ok : HOk P w H h) : ∀ {v : V} {d : PyData} {u : Value}, Dr L M H v d → RelV v u → ∃ as, Reads h u d as ∧ (L = false → sysModules ∉ as)
  | _, _, _, .non, r => by
    cases (show _ = Value.none from r)
    exact ⟨[], .none, fun _ => by simp⟩
  | _, _, _, .bl b, r => by
    cases (show _ = Value.bool b from r)
    exact ⟨[], .bool b, fun _ => by simp⟩
  | _, _, _, .int i, r => by
    obtain ⟨t, rfl⟩ := (show ∃ t, _ = Value.int i t from r)
    exact ⟨[], .int i t, fun _ => by simp⟩
  | _, _, _, .str x, r => by
    obtain ⟨t, rfl⟩ := (show ∃ t, _ = Value.str x t from r)
    exact ⟨[], .str x t, fun _ => by simp⟩
  | _, _, _, .lst (a := a) e n l t, r => by
    cases (show _ = Value.ref a from r)
    obtain ⟨_, its, m, rv, ho⟩ := ok a _ e
    obtain ⟨as, hr, _⟩ := DrAll.reads ok t rv
    exact ⟨a :: as, .list ho rfl rfl (by simpa using hr), fun z => by rw [l] at z; cases z⟩
  | _, _, _, .tup (a := a) e n t, r => by
    cases (show _ = Value.ref a from r)
    obtain ⟨_, its, rv, o, ho, hc, m, hd⟩ := ok a _ e
    obtain ⟨as, hr, hs⟩ := DrAll.reads ok t rv
    exact ⟨as, .tuple ho hc hd (by simpa using hr), hs⟩
  | _, _, _, .dct (a := a) e n l, r => by
    cases (show _ = Value.ref a from r)
    obtain ⟨_, hn, vs, kv, o, es, ep, ho, hc, hd, hrest⟩ := ok a _ e
    cases kv
    obtain ⟨_, hp, _⟩ := hrest
    have hes : es.toList = [] := by
      generalize es.toList = l at hp
      cases hp
      rfl
    refine ⟨[a], ?_, fun _ z => ?_⟩
    · have q : Reads h (.ref a) (.dict []) (a :: [] ++ []) := .dict ho hc.1 hd (by rw [hes]; exact .nil) (by rw [hes]; exact .nil)
      simpa using q
    · simp only [List.mem_singleton] at z
      rw [← z] at hn
      simp at hn
theorem DrAll.reads {P : Program} {w : World} {h : Heap} (ok : HOk P w H h) : ∀ {vs : List V} {ds : List PyData} {us : List Value}, DrAll L M H vs ds → Vals vs us → ∃ as, ReadsAll h us ds as ∧ (L = false → sysModules ∉ as)
  | _, _, _, .nil, .nil => ⟨[], .nil, fun _ => by simp⟩
  | _, _, _, .cons a t, .cons r rs => by
    obtain ⟨as, h1, s1⟩ := Dr.reads ok a r
    obtain ⟨bs, h2, s2⟩ := DrAll.reads ok t rs
    exact ⟨as ++ bs, .cons h1 h2, fun z y => (List.mem_append.mp y).elim (s1 z) (s2 z)⟩
end
end
/-- repr(x), x a datum, where nothing is being shown -/
def rRepr : List V → Hp → VK → Prop := fun xs H Q => ∃ (v : V) (d : PyData) (L : Bool) (M : Addr → Prop), xs = [v] ∧ Dr L M H v d ∧ d.showable = true ∧ d.depth ≤ 60 ∧ d.shown.length ≤ sizeLine ∧ Q (.str d.shown) H
theorem call_reprD {X : Cx} {k : Nat} (hgd : X.A.guards = some []) (hr : Room k X.A) : CallR X (.builtin "repr") rRepr := by
  intro pins s σ H xs us Q I r h
  obtain ⟨v, d, L, M, rfl, hd, hs, hdep, hz, q⟩ := h
  obtain ⟨u, rfl, ru⟩ : ∃ u, us = [u] ∧ RelV v u := by
    cases r with
    | cons r1 r2 => cases r2; exact ⟨_, rfl, r1⟩
  have hu := hr.un
  obtain ⟨as, hreads, hsys⟩ := hd.reads I.hok ru
  have hsm : d.hasDict = true → sysModules ∉ as := by
    intro z
    cases L with
    | false => exact hsys rfl
    | true => rw [hd.noDict] at z; cases z
  cases hd with
  | non =>
    cases (show u = Value.none from ru)
    exact PySem.P.repr_of_none ⟨.str _, H, I.tok _, ⟨_, rfl⟩, q⟩
  | bl b =>
    cases (show u = Value.bool b from ru)
    exact PySem.P.repr_of_bool ⟨.str _, H, I.tok _, ⟨_, rfl⟩, by simpa [PyData.shown] using q⟩
  | int i =>
    obtain ⟨t, rfl⟩ := (show ∃ t, u = Value.int i t from ru)
    exact PySem.P.repr_of_int (by simpa [PyData.showable] using hs) ⟨.str _, H, I.tok _, ⟨_, rfl⟩, by simpa [PyData.shown] using q⟩
  | str x =>
    obtain ⟨t, rfl⟩ := (show ∃ t, u = Value.str x t from ru)
    exact PySem.P.repr_of_str ⟨.str _, H, I.tok _, ⟨_, rfl⟩, by simpa [PyData.shown] using q⟩ (by simpa [PyData.shown] using hz)
  | @lst a xs ds e n l t =>
    cases (show u = Value.ref a from ru)
    exact repr_of_reads' hreads hs hsm hgd (by omega) (fun _ _ z => z) (fun h' u' tk hk => ⟨.str _, H, I.kept (t' := tk) hk, ⟨u', rfl⟩, q⟩) hz
  | @tup a xs ds e n t =>
    cases (show u = Value.ref a from ru)
    exact repr_of_reads' hreads hs hsm hgd (by omega) (fun _ _ z => z) (fun h' u' tk hk => ⟨.str _, H, I.kept (t' := tk) hk, ⟨u', rfl⟩, q⟩) hz
  | @dct a e n l =>
    cases (show u = Value.ref a from ru)
    exact repr_of_reads' hreads hs hsm hgd (by omega) (fun _ _ z => z) (fun h' u' tk hk => ⟨.str _, H, I.kept (t' := tk) hk, ⟨u', rfl⟩, q⟩) hz
end L2
end
section
set_option Elab.async false
set_option linter.all false
set_option maxRecDepth 100000
set_option maxHeartbeats 2000000
/-! # == and != of an instance whose class has an __eq__ of its own, with anything. -/
namespace L2
open PySem PySem.Spec PyProof.Rows
section
variable {X : Cx} {pins : List (Addr × Obj)} {σ : St} {H : Hp} {s : Shared}
theorem tyOf_looks {M : Model} {x : V} {u t : Value} (I : Inv X pins σ H s) (rx : RelV x u) (ty : TyOf X.K H x t) : PySem.W.Looks M s.heap (typeOf u) t := by
  have viaRef : ∀ {a : Addr} {o : Obj} {T : String}, s.heap.get? a = some o → o.cls = .type T → PySem.W.Looks M s.heap (typeOf (.ref a)) (.type T) := by
    intro a o T ho hc A Q E s' k q
    exact wpAny_typeOf ⟨o, k _ _ ho, hc⟩ q
  cases ty with
  | non => cases (show u = Value.none from rx); exact fun A Q E s' k q => wpAny_typeOf (PySem.typeIs_none s') q
  | bl b => cases (show u = Value.bool b from rx); exact fun A Q E s' k q => wpAny_typeOf (PySem.typeIs_bool s' b) q
  | int i => obtain ⟨t, rfl⟩ := (show ∃ t, u = Value.int i t from rx); exact fun A Q E s' k q => wpAny_typeOf (typeIs_int s' i t) q
  | str y => obtain ⟨t, rfl⟩ := (show ∃ t, u = Value.str y t from rx); exact fun A Q E s' k q => wpAny_typeOf (typeIs_str s' y t) q
  | flt y => obtain ⟨t, rfl⟩ := (show ∃ t, u = Value.float y t from rx); exact fun A Q E s' k q => wpAny_typeOf (PySem.typeIs_float s' y t) q
  | @lst a xs e =>
    cases (show u = Value.ref a from rx)
    obtain ⟨_, its, m, _, ho⟩ := I.hok a _ e
    exact viaRef ho rfl
  | @frz a o xs e =>
    cases (show u = Value.ref a from rx)
    obtain ⟨_, _, its, m, _, ho⟩ := I.hok a _ e
    exact viaRef ho rfl
  | @tup a xs e =>
    cases (show u = Value.ref a from rx)
    obtain ⟨_, its, _, o, ho, hc, _⟩ := I.hok a _ e
    exact viaRef ho hc
  | @dK a kvs e =>
    cases (show u = Value.ref a from rx)
    obtain ⟨_, _, vs, _, o, es, ep, ho, hc, _⟩ := I.hok a _ e
    exact viaRef ho hc.1
  | @dT a kvs e =>
    cases (show u = Value.ref a from rx)
    obtain ⟨_, _, xs, _, o, es, ep, ho, hc, _⟩ := I.hok a _ e
    exact viaRef ho hc.1
  | @ins a C dx fs e cl ha hn htk hm =>
    cases (show u = Value.ref a from rx)
    obtain ⟨mA, O, _⟩ := ins_get I.hok e
    obtain ⟨od, J, _⟩ := O.look
    exact J.type
end
section
variable {X : Cx} {CX : CXT} {C f : Addr} {fd : FuncData} {ps : List Str} {sp : Sp} {n : Nat} {E : XK}
/-- what the top says of a class with an __eq__ of its own, at f -/
structure EqC (K : PySem.W.Frag) (C f : Addr) : Prop where
  eq : PySem.W.findIn K (.ref C) "__eq__" = some (some (.ref f))
  ne : PySem.W.findIn K (.ref C) "__ne__" = some (some (.builtin "object.__ne__"))
  fn : PySem.W.isFn K (.ref f) = true
  ob : PySem.W.mroIn K C (.type "object") = some true
def rEqO (K : PySem.W.Frag) (C : Addr) (sp : Sp) (E : XK) : R2 := fun x y H Q => ∃ a dx fs t, x = .ref a ∧ H a = some (.ins C dx fs) ∧ TyOf K H y t ∧ PySem.W.notFirst K C t = true ∧ sp [x, y] H (fun v H' => ∃ b, v = .bl b ∧ Q (.bl b) H') E
def rNeO (K : PySem.W.Frag) (C : Addr) (sp : Sp) (E : XK) : R2 := fun x y H Q => ∃ a dx fs t, x = .ref a ∧ H a = some (.ins C dx fs) ∧ TyOf K H y t ∧ PySem.W.notFirst K C t = true ∧ sp [x, y] H (fun v H' => ∃ b, v = .bl b ∧ Q (.bl (!b)) H') E
theorem op_eqO (T : EqC X.K C f) (F : FnG X.prog X.w X.K X.mg X.base CX n f fd ps sp) (hgd : X.A.guards = some []) (hr : Room n X.A) (hb : Binds X.K fd ps []) (hx : Passes CX X E) : OpR X (compareOp .Eq) (rEqO X.K C sp E) := by
  intro pins s σ H x y v u Q I rx ry h
  obtain ⟨a, dx, fs, t, rfl, ha, ty, hn, q⟩ := h
  cases (show v = Value.ref a from rx)
  obtain ⟨mA, O, _⟩ := ins_get I.hok ha
  obtain ⟨od, J, _⟩ := O.look
  obtain ⟨m, hF⟩ := I.fr
  show wpAny (model X.prog X.w) X.A (richCompare .Eq (.ref a) u) (EP X pins σ Q) X.xe s
  refine PySem.W.cmp_K (op := .Eq) (tb := t) hr.units0 hF I.ok.mod.kin J (tyOf_looks I ry ty) hn T.eq T.fn ?_
  refine wpAny_mono (run_fnG (us := [.ref a, u]) (vs := [.ref a, y]) F hgd hr hb .nil hx I (.cons rfl (.cons ry .nil)) q) ?_ (fun _ _ z => z)
  rintro w s' ⟨v', H', I', rv, b, rfl, q'⟩
  cases (show w = Value.bool b from rv)
  exact ⟨.bl b, H', I', rfl, q'⟩
theorem ne_body {A : Around} {M : Model} {a : Addr} {b : Value} {Q : Fin → Shared → Prop} {E' : Value → Shared → Prop} {s : Shared} (hu : A.units < cLine)
    (h : wpAny M A (callSpecialIfBound? (.ref a) "__eq__" [b]) (fun r s' => ∃ k, r = some (.bool k) ∧ Q (.done (.ret (.bool (!k)))) s') E' s) :
    wpAny M A (Builtin.«object.__ne__» ⟨[.ref a, b], []⟩) Q E' s := by
  unfold Builtin.«object.__ne__»
  repeat (first | with_reducible refine wpAny_cRoomFor hu ?_ | (with_reducible refine wpAny_bind (wpAny_mono h ?_ fun _ _ z => z)) | wp_step)
  rintro r s' ⟨k, rfl, hq⟩
  exact wpAny_bind (wpAny_of_eq (show truthy (.bool k) = pure k from rfl) (wpAny_pure hq))
theorem op_neO (T : EqC X.K C f) (F : FnG X.prog X.w X.K X.mg X.base CX n f fd ps sp) (hgd : X.A.guards = some []) (hr : Room (n + 1) X.A) (hb : Binds X.K fd ps []) (hx : Passes CX X E) : OpR X (compareOp .NotEq) (rNeO X.K C sp E) := by
  intro pins s σ H x y v u Q I rx ry h
  obtain ⟨a, dx, fs, t, rfl, ha, ty, hn, q⟩ := h
  cases (show v = Value.ref a from rx)
  obtain ⟨mA, O, _⟩ := ins_get I.hok ha
  obtain ⟨od, J, _⟩ := O.look
  have X0 : X.K.In s.heap := I.kIn
  have hb2 := tyOf_looks (M := model X.prog X.w) I ry ty
  -- the method called within object.__ne__
  have inner : wpAny (model X.prog X.w) X.A.in1 (call (.ref f) [.ref a, u]) (fun w s' => ∃ k, w = .bool k ∧ EP X pins σ Q (.bool (!k)) s') X.xe s := by
    have r2 : Vals [V.ref a, y] [Value.ref a, u] := .cons rfl (.cons ry .nil)
    have hl : ([Value.ref a, u] ++ ([] : List Value)).length = ps.length := r2.length.symm.trans (F.len _ _ _ _ q)
    apply wpAny_call
    refine codeAny_mono (F.run X.A.in1 X.stack s H ⟨[.ref a, u], []⟩ ([.ref a, u] ++ []) [.ref a, y] _ E hgd hr.in1 I.env0.in1 (hb s [.ref a, u] X0 hl) (by simpa using r2) q) ?_
    intro r s' hq
    match r, hq with
    | .error e, hq => exact hx pins σ H s e s' I hq
    | .ok (.ret w), hq =>
      obtain ⟨v', H', I', rv, b, rfl, q'⟩ := I.after hq
      cases (show w = Value.bool b from rv)
      exact ⟨b, rfl, .bl (!b), H', I', rfl, q'⟩
    | .ok .next, hq => exact False.elim hq
    | .ok .brk, hq => exact False.elim hq
    | .ok .cont, hq => exact False.elim hq
  have one : wpAny (model X.prog X.w) X.A (tryCompare (.ref a) "__ne__" u) (fun r s' => ∃ k, r = some (.bool k) ∧ EP X pins σ Q (.bool k) s') X.xe s := by
    unfold tryCompare
    refine wpAny_bind ?_
    simp only [callSpecialIfBound?, bindSpecialIfBound?]
    refine wpAny_holding (wpAny_bind (wpAny_bind (wpAny_bind (J.type.here ((PySem.W.looks_findIn X0 T.ne).here ?_)))))
    refine wpAny_bind (wpAny_askSetting (wpAny_ite ?_))
    have sub : PySem.W.Looks (model X.prog X.w) s.heap (isInstance (.ref a) (.type "object")) true := J.type.andThen (PySem.W.looks_mroIn X0 T.ob)
    have called : wpAny (model X.prog X.w) X.A (call (.builtin "object.__ne__") [.ref a, u]) (fun w s' => ∃ k, w = .bool k ∧ EP X pins σ Q (.bool k) s') X.xe s := by
      refine wpAny_call (codeAny_call_builtin PySem.F.cmp_object.ne.plain PySem.F.cmpEntry_ne (PySem.W.check_slot PySem.F.cmpKind_ne PySem.F.cmpSplit_ne sub (PySem.F.cmpArgs_ne _ _) ?_))
      refine ne_body (by have := hr.un; show X.A.units + 1 < cLine; omega) ?_
      refine PySem.W.ifBound_K X0 J T.eq T.fn (wpAny_mono inner ?_ fun _ _ z => z)
      rintro w s' ⟨k, rfl, z⟩
      exact ⟨k, rfl, !k, rfl, z⟩
    have fin : wpAny (model X.prog X.w) X.A (call (.builtin "object.__ne__") ([.ref a] ++ [u]) >>= fun v => pure (some v)) (fun r s' => wpAny (model X.prog X.w) X.A (match r with
        | some .notImplemented => pure none
        | none => pure none
        | some v => pure (some v)) (fun r s' => ∃ k, r = some (.bool k) ∧ EP X pins σ Q (.bool k) s') X.xe s') X.xe s := by
      refine wpAny_bind (wpAny_mono called ?_ fun _ _ z => z)
      rintro w s' ⟨k, rfl, z⟩
      exact wpAny_pure (wpAny_pure ⟨k, rfl, z⟩)
    split
    · exact wpAny_bind (wpAny_of_eq (PySem.F.cmp_object.ne.bind _) (wpAny_pure fin))
    · exact wpAny_tryCatch (wpAny_bind (wpAny_of_eq (PySem.F.cmp_object.ne.bind _) (wpAny_pure fin)))
  show wpAny (model X.prog X.w) X.A (richCompare .NotEq (.ref a) u) (EP X pins σ Q) X.xe s
  unfold richCompare
  simp only [PySem.oneThing_ref]
  refine wpAny_holding (wpAny_bind (wpAny_cRoomFor hr.units0 ?_))
  refine wpAny_bind (J.type.here (wpAny_bind (hb2.here ?_)))
  split
  · rename_i z
    have e : PySem.W.subIn X.K t (.ref C) = some false := by
      rcases Bool.or_eq_true_iff.mp hn with e | e
      · rw [beq_iff_eq.mp e] at z
        simp at z
      · exact beq_iff_eq.mp e
    refine wpAny_bind ((PySem.W.looks_subIn X0 e).here ?_)
    simp only [Bool.false_eq_true, if_false]
    refine wpAny_bind (wpAny_mono one ?_ fun _ _ z => z)
    rintro r s' ⟨k, rfl, z⟩
    exact wpAny_pure z
  · refine wpAny_bind (wpAny_pure ?_)
    simp only [Bool.false_eq_true, if_false]
    refine wpAny_bind (wpAny_mono one ?_ fun _ _ z => z)
    rintro r s' ⟨k, rfl, z⟩
    exact wpAny_pure z
end
end L2
end
section
set_option Elab.async false
set_option linter.all false
set_option maxRecDepth 100000
set_option maxHeartbeats 2000000
/-! # range(n) as a value, walked later. -/
namespace L2
open PySem PySem.Spec PyProof.Rows
section
variable {X : Cx}
theorem cr_rangeOne : CallR X (.type "range") (fun vs H Q => ∃ j, vs = [V.int j] ∧ ∀ p, H p = none → Q (.ref p) (upd H p (.rng 0 j))) := by
  intro pins s σ H vs us Q I r h
  obtain ⟨j, rfl, q⟩ := h
  obtain ⟨u, rfl, t, rfl⟩ : ∃ u, us = [u] ∧ ∃ t, u = Value.int j t := by
    cases r with
    | cons r1 r2 => cases r2; exact ⟨_, rfl, r1⟩
  have hf : H s.heap.objs.size = none := I.hok.fresh (Nat.le_refl _)
  refine call_range_1 ⟨.ref s.heap.objs.size, upd H s.heap.objs.size (.rng 0 j), ?_, rfl, q _ hf⟩
  exact I.laid (fun b o e => Heap.get?_push_of_some _ e) (Nat.le_refl _) ⟨_, t, _, Heap.get?_push_size _ rfl⟩
/-- for .. in r, r a range object that is tracked -/
def iRngV (te : TE) : TI := fun σ H R => te σ H fun x H1 => ∃ a lo hi, x = .ref a ∧ H1 a = some (.rng lo hi) ∧ -(2 ^ 62) ≤ lo ∧ lo < 2 ^ 62 ∧ -(2 ^ 62) ≤ hi ∧ hi < 2 ^ 62 ∧ R (Itr lo (hi - lo).toNat) H1
theorem pi_rngV {tg e : Expr} {te : TE} (he : PE X e te) : PI X tg e (iRngV te) := by
  constructor
  intro pins s σ H R I h
  refine thn (he.run pins s σ H _ I h) ?_
  rintro v s1 ⟨x, H1, I1, r1, a, lo, hi, rfl, ha, h1, h2, h3, h4, q⟩
  cases (show v = Value.ref a from r1)
  obtain ⟨t, u, w, ho⟩ := (show ObjOk X.prog X.w H1 s1.heap a (.rng lo hi) from I1.hok a _ ha)
  refine wpAny_pyIter_range (show IsRange s1.heap a lo hi 1 t u w from ho) (small_one h1 h2 h3 h4) ?_
  refine ⟨s1.heap.objs.size, [s1.heap.objs.size], _, _, H1, rfl, I1.kept (t' := s1.toks) (fun b o e => Heap.get?_push_of_some _ e), turn_range _ lo (hi - lo).toNat, ?_, ?_, q⟩
  · have e1 : lo + ((0 : Nat) : Int) * 1 = lo := by simp
    have e2 : (((hi - lo).toNat : Nat) : Int) - ((0 : Nat) : Int) = Builtin.Range.rangeSize lo hi 1 := by
      rw [rangeSize_one]
      split <;> omega
    show IsRangeIter _ _ (lo + ((0 : Nat) : Int) * 1) ((((hi - lo).toNat : Nat) : Int) - ((0 : Nat) : Int)) 1
    rw [e1, e2]
    exact Heap.get?_push_size _ rfl
  · intro b hb
    cases (by simpa using hb : b = s1.heap.objs.size)
    exact I1.fpOk (Nat.le_refl _) (I1.hok.fresh (Nat.le_refl _))
end
end L2
end
section
set_option Elab.async false
set_option linter.all false
set_option maxRecDepth 100000
set_option maxHeartbeats 2000000
/-! # Defs, classes and methods as one fact each. -/
namespace L2
open PySem PySem.Spec PyProof.Rows
abbrev CXe (P : Program) (w : World) : CXT := L2.CX P w
/-- a def of the module, called by its name -/
structure CalG (P : Program) (w : World) (K : PySem.W.Frag) (mg : Str → Option Value) (base : Heap) (k : Nat) (x : Str) (sp : Sp) : Prop where
  ex : ∃ (f : Addr) (fd : FuncData) (ps : List Str), FnG P w K mg base (CXe P w) k f fd ps sp ∧ mg x = some (.ref f) ∧ PySem.W.keepIn K (.ref f) = true ∧ Binds K fd ps []
/-- a class, called: its __init__ at sp, dvs its last defaults -/
structure MakG (P : Program) (w : World) (K : PySem.W.Frag) (mg : Str → Option Value) (base : Heap) (k : Nat) (x : Str) (C : Addr) (sp : Sp) (dvs : List V) : Prop where
  ex : ∃ (f : Addr) (fd : FuncData) (ps : List Str) (ds : List Value), FnG P w K mg base (CXe P w) k f fd ps sp ∧ Mk K C f ∧ mg x = some (.ref C) ∧ Binds K fd ps ds ∧ Vals dvs ds
/-- a method -/
structure MetG (P : Program) (w : World) (K : PySem.W.Frag) (mg : Str → Option Value) (base : Heap) (k : Nat) (C : Addr) (m : Str) (sp : Sp) : Prop where
  ex : ∃ (f : Addr) (fd : FuncData) (ps : List Str), FnG P w K mg base (CXe P w) k f fd ps sp ∧ Cls K C ∧ Meth K C m f ∧ Binds K fd ps []
section
variable {X : Cx} {k j : Nat} {x m : Str} {C : Addr} {sp : Sp} {dvs : List V} {e o : Expr} {es : List Expr} {ta : TE} {t : TA} {p pos apos : Pos} {E : St → XK}
theorem run_fnGS {pins : List (Addr × Obj)} {σ : St} {H : Hp} {s : Shared} {Q : VK} {us : List Value} {vs : List V} {CX : CXT} {f : Addr} {fd : FuncData} {ps : List Str} {E : XK}
    (F : FnG X.prog X.w X.K X.mg X.base CX k f fd ps sp) (hgd : X.A.guards = some []) (hr : Room k X.A) (hb : Binds X.K fd ps [])
    (hx : PassesAt CX X σ E) (I : Inv X pins σ H s) (r : Vals vs us) (h : sp vs H Q E) :
    wpAny (model X.prog X.w) X.A (call (.ref f) us) (EP X pins σ Q) X.xe s := by
  have hl : (us ++ []).length = ps.length := by
    rw [List.append_nil]
    exact r.length.symm.trans (F.len _ _ _ _ h)
  have hbb := hb s us I.kIn hl
  rw [List.append_nil] at hbb
  apply wpAny_call
  refine codeAny_mono (F.run X.A X.stack s H ⟨us, []⟩ us vs Q E hgd hr I.env0 hbb r h) ?_
  intro r s' hq
  match r, hq with
  | .error e, hq => exact hx pins H s e s' I hq
  | .ok (.ret u), hq => exact I.after hq
  | .ok .next, hq => exact False.elim hq
  | .ok .brk, hq => exact False.elim hq
  | .ok .cont, hq => exact False.elim hq
/-- f(e, ..): E says by the slots what is wanted of an exception -/
theorem pg_cS (c : CalG X.prog X.w X.K X.mg X.base k x sp) (hgd : X.A.guards = some []) (hr : Room j X.A) (hk : k ≤ j) (hx : ∀ σ, PassesAt (CXe X.prog X.w) X σ (E σ))
    (ha : PA X (e :: es) t) (hg : Gl X x := by rfl) (hdb : (x == ("__debug__" : Str)) = false := by decide)
    (he : starEach (e :: es) X.env = (false, eval e X.env) :: starEach es X.env := by rfl)
    (hpl : (backTo pos (starEach es X.env)).any (·.1) = false := by rfl) :
    PE X (.Call (.Name x p) (e :: es) [] pos) (tCallS sp E t) := by
  obtain ⟨f, fd, ps, F, hm, kp, hb⟩ := c.ex
  constructor
  intro pins s σ H Q I h
  refine wpAny_Call_Name_kw (ld_glob I hg hm ?_ hdb)
  refine PySem.W.callWith_K (h₀ := X.base) I.ok.mod.kin kp (thn (ha.run pos pins s σ H _ I h) ?_) he hpl
  rintro us s1 ⟨vs, H1, I1, r, q⟩
  exact ⟨I1.kIn, run_fnGS F hgd (hr.mono hk) hb (hx σ) I1 r q⟩
/-- where no exception leaves -/
theorem pg_c (c : CalG X.prog X.w X.K X.mg X.base k x sp) (hgd : X.A.guards = some []) (hr : Room j X.A) (hk : k ≤ j)
    (ha : PA X (e :: es) t) (hg : Gl X x := by rfl) (hdb : (x == ("__debug__" : Str)) = false := by decide)
    (he : starEach (e :: es) X.env = (false, eval e X.env) :: starEach es X.env := by rfl)
    (hpl : (backTo pos (starEach es X.env)).any (·.1) = false := by rfl) :
    PE X (.Call (.Name x p) (e :: es) [] pos) (tCallS sp (fun _ => E0) t) :=
  pg_cS c hgd hr hk (fun σ pins H s e s' I c => passL pins σ H s e s' I c) ha hg hdb he hpl
def tMakeS (C : Addr) (sp : Sp) (dvs : List V) (E : St → XK) (t : TA) : TE := fun σ H Q => t σ H fun vs H1 => ∀ x dx, H1 x = none → H1 dx = none → dx ≠ x →
  sp (.ref x :: (vs ++ dvs)) (upd (upd H1 dx (.own x)) x (.ins C dx [])) (fun v H2 => v = .non ∧ Q (.ref x) H2) (E σ)
theorem run_makeGS {pins : List (Addr × Obj)} {σ : St} {H : Hp} {s : Shared} {Q : VK} {us ds : List Value} {vs : List V} {CX : CXT} {f : Addr} {fd : FuncData} {ps : List Str} {E : XK}
    (M : Mk X.K C f) (F : FnG X.prog X.w X.K X.mg X.base CX k f fd ps sp) (hgd : X.A.guards = some []) (hr : Room (k + 1) X.A) (hb : Binds X.K fd ps ds) (hd : Vals dvs ds)
    (hx : PassesAt CX X σ E) (I : Inv X pins σ H s) (r : Vals vs us)
    (h : ∀ x dx, H x = none → H dx = none → dx ≠ x → sp (.ref x :: (vs ++ dvs)) (upd (upd H dx (.own x)) x (.ins C dx [])) (fun v H2 => v = .non ∧ Q (.ref x) H2) E) :
    wpAny (model X.prog X.w) X.A (call (.ref C) us) (EP X pins σ Q) X.xe s := by
  have q0 := h (s.heap.objs.size + 1) s.heap.objs.size (I.hok.fresh (Nat.le_succ _)) (I.hok.fresh (Nat.le_refl _)) (Nat.ne_of_lt (Nat.lt_succ_self _))
  have I2 := Inv.made (C := C) I
  have r2 : Vals (V.ref (s.heap.objs.size + 1) :: (vs ++ dvs)) (Value.ref (s.heap.objs.size + 1) :: (us ++ ds)) := Paired.cons rfl (r.append hd)
  have hl : (Value.ref (s.heap.objs.size + 1) :: us ++ ds).length = ps.length := r2.length.symm.trans (F.len _ _ _ _ q0)
  have gd : (X.A.under (.builtin "type.__call__" ⟨.ref C :: us, []⟩)).guards = some [] := by
    have z : (X.A.under (.builtin "type.__call__" ⟨.ref C :: us, []⟩)).guards = X.A.guards := by
      first | rfl | simp [Around.under, Code.guards, pushGuards, guardIds]
    rw [z, hgd]
  apply wpAny_call
  refine make_map (f := f) I.kIn M.makes M.init (beq_iff_eq.mp M.fn) ?_
  refine codeAny_mono (F.run _ X.stack _ _ ⟨Value.ref (s.heap.objs.size + 1) :: us, []⟩ (Value.ref (s.heap.objs.size + 1) :: (us ++ ds)) _ _ E gd (hr.make C us []) (I2.env0.make C us []) (hb _ (Value.ref (s.heap.objs.size + 1) :: us) I2.kIn hl) r2 q0) ?_
  intro r s' hq
  match r, hq with
  | .error e, hq => exact hx pins _ _ e s' I2 hq
  | .ok (.ret u), hq =>
    obtain ⟨v, H', I3, rv, ev, q3⟩ := I2.after hq
    subst ev
    exact ⟨rv, ⟨V.ref (s.heap.objs.size + 1), H', I3, rfl, q3⟩⟩
  | .ok .next, hq => exact False.elim hq
  | .ok .brk, hq => exact False.elim hq
  | .ok .cont, hq => exact False.elim hq
theorem pg_mkS (c : MakG X.prog X.w X.K X.mg X.base k x C sp dvs) (hgd : X.A.guards = some []) (hr : Room j X.A) (hk : k + 1 ≤ j) (hx : ∀ σ, PassesAt (CXe X.prog X.w) X σ (E σ))
    (ha : PA X (e :: es) t) (hg : Gl X x := by rfl) (hdb : (x == ("__debug__" : Str)) = false := by decide)
    (he : starEach (e :: es) X.env = (false, eval e X.env) :: starEach es X.env := by rfl)
    (hpl : (backTo pos (starEach es X.env)).any (·.1) = false := by rfl) :
    PE X (.Call (.Name x p) (e :: es) [] pos) (tMakeS C sp dvs E t) := by
  obtain ⟨f, fd, ps, ds, F, M, hm, hb, hd⟩ := c.ex
  constructor
  intro pins s σ H Q I h
  refine wpAny_Call_Name_kw (ld_glob I hg hm ?_ hdb)
  refine PySem.W.callWith_K (h₀ := X.base) I.ok.mod.kin M.kp (thn (ha.run pos pins s σ H _ I h) ?_) he hpl
  rintro us s1 ⟨vs, H1, I1, r, q⟩
  exact ⟨I1.kIn, run_makeGS M F hgd (hr.mono hk) hb hd (hx σ) I1 r q⟩
theorem pg_mk (c : MakG X.prog X.w X.K X.mg X.base k x C sp dvs) (hgd : X.A.guards = some []) (hr : Room j X.A) (hk : k + 1 ≤ j)
    (ha : PA X (e :: es) t) (hg : Gl X x := by rfl) (hdb : (x == ("__debug__" : Str)) = false := by decide)
    (he : starEach (e :: es) X.env = (false, eval e X.env) :: starEach es X.env := by rfl)
    (hpl : (backTo pos (starEach es X.env)).any (·.1) = false := by rfl) :
    PE X (.Call (.Name x p) (e :: es) [] pos) (tMakeS C sp dvs (fun _ => E0) t) :=
  pg_mkS c hgd hr hk (fun σ pins H s e s' I c => passL pins σ H s e s' I c) ha hg hdb he hpl
theorem pg_mk0 (c : MakG X.prog X.w X.K X.mg X.base k x C sp dvs) (hgd : X.A.guards = some []) (hr : Room j X.A) (hk : k + 1 ≤ j)
    (hg : Gl X x := by rfl) (hdb : (x == ("__debug__" : Str)) = false := by decide) :
    PE X (.Call (.Name x p) [] [] pos) (tMakeS C sp dvs (fun _ => E0) tNil) := by
  obtain ⟨f, fd, ps, ds, F, M, hm, hb, hd⟩ := c.ex
  constructor
  intro pins s σ H Q I h
  refine wpAny_Call_Name_kw (ld_glob I hg hm ?_ hdb)
  exact PySem.W.callWith_K0 I.kIn M.kp (run_makeGS (us := []) M F hgd (hr.mono hk) hb hd (fun pins H s e s' I c => passL pins σ H s e s' I c) I .nil h)
def tMethX6 (C : Addr) (m : Str) (sp : Sp) (E : St → XK) (ta : TE) (t : TA) : TE := fun σ H Q => ta σ H fun x H1 => ∃ a dx fs, x = .ref a ∧ H1 a = some (.ins C dx fs) ∧ fs.lookup m = none ∧
  t σ H1 fun vs H2 => sp (x :: vs) H2 Q (E σ)
theorem pg_mtS {pl : Sem Bool} (c : MetG X.prog X.w X.K X.mg X.base k C m sp) (hgd : X.A.guards = some []) (hr : Room j X.A) (hk : k ≤ j) (hx : ∀ σ, PassesAt (CXe X.prog X.w) X σ (E σ)) (ho : PE X o ta) (ha : PA X (e :: es) t)
    (hst : starEach (e :: es) X.env = (false, eval e X.env) :: starEach es X.env := by rfl)
    (hpl : (backTo pos (starEach es X.env)).any (·.1) = false := by rfl)
    (ht : eval (.Call (.Attribute o m apos) (e :: es) [] pos) X.env =
      (do let ov ← eval o X.env; standAt apos.atName; let (f, first) ← holding [ov] (getMethod ov m pl); callWith pos f first (backTo pos (starEach (e :: es) X.env)) (backToKw pos (keywordEach [] X.env))) := by rfl) :
    PE X (.Call (.Attribute o m apos) (e :: es) [] pos) (tMethX6 C m sp E ta t) := by
  obtain ⟨f, fd, ps, F, cl, hm, hb⟩ := c.ex
  constructor
  intro pins s σ H Q I h
  refine PySem.W.methodCall_KW (pl := pl) (thn (ho.run pins s σ H _ I h) ?_) ht
  rintro u s1 ⟨x, H1, I1, rx, a, dx, fs, ex, ea, l, q⟩
  subst ex
  cases (show u = Value.ref a from rx)
  refine getmeth_ok I1 ea cl hm l ?_
  refine PySem.W.callWith_K (first := [.ref a]) (h₀ := X.base) I.ok.mod.kin hm.kp (thn (ha.run pos pins s1 σ H1 _ I1 q) ?_) hst hpl
  rintro us s2 ⟨vs, H2, I2, r, q2⟩
  exact ⟨I2.kIn, run_fnGS (us := .ref a :: us) (vs := .ref a :: vs) F hgd (hr.mono hk) hb (hx σ) I2 (.cons rfl r) q2⟩
theorem pg_mt {pl : Sem Bool} (c : MetG X.prog X.w X.K X.mg X.base k C m sp) (hgd : X.A.guards = some []) (hr : Room j X.A) (hk : k ≤ j) (ho : PE X o ta) (ha : PA X (e :: es) t)
    (hst : starEach (e :: es) X.env = (false, eval e X.env) :: starEach es X.env := by rfl)
    (hpl : (backTo pos (starEach es X.env)).any (·.1) = false := by rfl)
    (ht : eval (.Call (.Attribute o m apos) (e :: es) [] pos) X.env =
      (do let ov ← eval o X.env; standAt apos.atName; let (f, first) ← holding [ov] (getMethod ov m pl); callWith pos f first (backTo pos (starEach (e :: es) X.env)) (backToKw pos (keywordEach [] X.env))) := by rfl) :
    PE X (.Call (.Attribute o m apos) (e :: es) [] pos) (tMethX6 C m sp (fun _ => E0) ta t) :=
  pg_mtS c hgd hr hk (fun σ pins H s e s' I c => passL pins σ H s e s' I c) ho ha hst hpl ht
theorem pg_mt0 {pl : Sem Bool} (c : MetG X.prog X.w X.K X.mg X.base k C m sp) (hgd : X.A.guards = some []) (hr : Room j X.A) (hk : k ≤ j) (ho : PE X o ta)
    (ht : eval (.Call (.Attribute o m apos) [] [] pos) X.env =
      (do let ov ← eval o X.env; standAt apos.atName; let (f, first) ← holding [ov] (getMethod ov m pl); callWith pos f first (backTo pos (starEach [] X.env)) (backToKw pos (keywordEach [] X.env))) := by rfl) :
    PE X (.Call (.Attribute o m apos) [] [] pos) (tMethX6 C m sp (fun _ => E0) ta tNil) := by
  obtain ⟨f, fd, ps, F, cl, hm, hb⟩ := c.ex
  constructor
  intro pins s σ H Q I h
  refine PySem.W.methodCall_KW (pl := pl) (thn (ho.run pins s σ H _ I h) ?_) ht
  rintro u s1 ⟨x, H1, I1, rx, a, dx, fs, ex, ea, l, q⟩
  subst ex
  cases (show u = Value.ref a from rx)
  refine getmeth_ok I1 ea cl hm l ?_
  exact PySem.W.callWith_K0 (first := [.ref a]) I1.kIn hm.kp (run_fnGS (us := [.ref a]) (vs := [.ref a]) F hgd (hr.mono hk) hb (fun pins H s e s' I c => passL pins σ H s e s' I c) I1 (.cons rfl .nil) q)
end
section
variable {P : Program} {w : World} {K : PySem.W.Frag} {mg : Str → Option Value} {base : Heap} {x qual : Str} {f : Addr} {fd : FuncData} {N ps : List Str} {k : Nat} {sp : Sp}
/-- a def by its body: it may raise, and nothing is being shown around it -/
theorem Fun.okG {st : Stmt} (F : Fun K x qual st f fd) (S : FnScope N ps (defScope st)) (len : ∀ vs H Q E, sp vs H Q E → vs.length = ps.length)
    (hbody : ∀ (cdv : Value) (A : Around) (outer : List Env) (s : Shared) (H : Hp) (vs : List V) (Q : VK) (E : XK), (A.deeper (envOfC qual (defScope st) s.heap.objs.size f cdv)).guards = some [] →
      Room k (A.deeper (envOfC qual (defScope st) s.heap.objs.size f cdv)) → sp vs H Q E →
      ∃ t, PSs (cxOf (CXe P w) P w K mg base N qual (defScope st) f cdv A outer s H E) (defBody st) t ∧ t { nx := fun _ H' => Q .non H', rt := Q } (start N vs) H) :
    FnG P w K mg base (CXe P w) (k + 1) f fd ps sp := by
  obtain ⟨oc, od, kV, doc, pm, an, cdv, ct, osl, rfl, lk, hcd⟩ := F.ex
  exact fn_ofG lk hcd S len fun A outer s H vs Q E hg hr hsp => hbody cdv A outer s H vs Q E hg hr hsp
theorem FunD.okG {params : Arguments} {body : List Stmt} {scope : Scope} {dvs : List V} {kws : List (Str × V)} (F : FunD K x qual params body scope dvs kws f fd) (S : FnScope N ps scope) (len : ∀ vs H Q E, sp vs H Q E → vs.length = ps.length)
    (hbody : ∀ (cdv : Value) (A : Around) (outer : List Env) (s : Shared) (H : Hp) (vs : List V) (Q : VK) (E : XK), (A.deeper (envOfC qual scope s.heap.objs.size f cdv)).guards = some [] →
      Room k (A.deeper (envOfC qual scope s.heap.objs.size f cdv)) → sp vs H Q E →
      ∃ t, PSs (cxOf (CXe P w) P w K mg base N qual scope f cdv A outer s H E) body t ∧ t { nx := fun _ H' => Q .non H', rt := Q } (start N vs) H) :
    FnG P w K mg base (CXe P w) (k + 1) f fd ps sp := by
  obtain ⟨oc, od, dV, kV, doc, pm, an, cdv, ct, osl, rfl, lk, hcd, _, _⟩ := F.ex
  exact fn_ofG lk hcd S len fun A outer s H vs Q E hg hr hsp => hbody cdv A outer s H vs Q E hg hr hsp
end
/-- the type of a tracked value, where it is one of the common ones -/
def tyN (H : Hp) : V → Option String
  | .non => some "NoneType"
  | .bl _ => some "bool"
  | .int _ => some "int"
  | .str _ => some "str"
  | .ref a => match H a with
    | some (.lst _) => some "list"
    | some (.tup _) => some "tuple"
    | some (.dK _) => some "dict"
    | some (.dT _) => some "dict"
    | _ => none
  | _ => none
theorem tyN_of {K : PySem.W.Frag} {H : Hp} {v : V} {n : String} (h : tyN H v = some n) : TyOf K H v (.type n) := by
  cases v with
  | non => cases h; exact .non
  | bl b => cases h; exact .bl b
  | int i => cases h; exact .int i
  | str x => cases h; exact .str x
  | byt b => cases h
  | flt b => cases h
  | ty t => cases h
  | ref a =>
    simp only [tyN] at h
    cases e : H a with
    | none => rw [e] at h; cases h
    | some o =>
      rw [e] at h
      cases o <;> simp only at h <;> first | (cases h; done) | skip
      all_goals first
        | (cases h; exact .lst e)
        | (cases h; exact .tup e)
        | (cases h; exact .dK e)
        | (cases h; exact .dT e)
end L2
end
section
set_option Elab.async false
set_option linter.all false
set_option maxRecDepth 100000
set_option maxHeartbeats 2000000
/-! # New objects, the heap behind them a letter. -/
namespace L2
open PySem PySem.Spec PyProof.Rows
theorem same_new {H : Hp} {p : Addr} {o : HO} (h : H p = none) : Same H (upd H p o) := fun b u e => by
  rw [upd_ne (ne_of_none e h)]; exact e
/-- o stands at p, new, in H2; else H2 is H -/
structure New (H H2 : Hp) (p : Addr) (o : HO) : Prop where
  free : H p = none
  at_ : H2 p = some o
  same : Same H H2
  rest : ∀ b, b ≠ p → H2 b = H b
theorem New.mk' {H : Hp} {p : Addr} {o : HO} (h : H p = none) : New H (upd H p o) p o := ⟨h, upd_same, same_new h, fun _ hb => upd_ne hb⟩
theorem New.off {M : Addr → Prop} {H H2 : Hp} {p : Addr} {o : HO} (n : New H H2 p o) : Off M H H2 := Off.same n.same
section
variable {X : Cx} {es : List Expr} {t : TA} {pos : Pos}
def tTupA (t : TA) : TE := fun σ H Q => t σ H fun xs H1 => xs.length ≤ sizeLine ∧ ∀ p H2, New H1 H2 p (.tup xs) → Q (.ref p) H2
def tLstA (t : TA) : TE := fun σ H Q => t σ H fun xs H1 => xs.length ≤ sizeLine ∧ ∀ p H2, New H1 H2 p (.lst xs) → Q (.ref p) H2
theorem pe_tupA {x1} (h : PA X es t) : PE X (.Tuple es x1 pos) (tTupA t) := by
  constructor
  intro pins s σ H Q I hq
  refine wpAny_Tuple_spliced (thn (h.run pos pins s σ H _ I hq) ?_)
  rintro us s1 ⟨xs, H1, I1, r, z, q⟩
  refine ⟨by rw [← r.length]; exact z, ?_⟩
  have hf : H1 s1.heap.objs.size = none := I1.hok.fresh (Nat.le_refl _)
  refine ⟨.ref s1.heap.objs.size, upd H1 s1.heap.objs.size (.tup xs), ?_, rfl, q _ _ (New.mk' hf)⟩
  exact I1.laid (t' := s1.toks) (fun b u e => Heap.get?_push_of_some _ e) (Nat.le_refl _) ⟨z, us, r, _, Heap.get?_push_size _ rfl, rfl, _, rfl⟩
theorem pe_lstA (h : PA X es t) : PE X (.List es pos) (tLstA t) := by
  constructor
  intro pins s σ H Q I hq
  refine wpAny_List_spliced (thn (h.run pos pins s σ H _ I hq) ?_)
  rintro us s1 ⟨xs, H1, I1, r, z, q⟩
  refine ⟨by rw [← r.length]; exact z, ?_⟩
  have hf : H1 s1.heap.objs.size = none := I1.hok.fresh (Nat.le_refl _)
  refine ⟨.ref s1.heap.objs.size, upd H1 s1.heap.objs.size (.lst xs), ?_, rfl, q _ _ (New.mk' hf)⟩
  exact I1.laid (t' := s1.toks) (fun b u e => Heap.get?_push_of_some _ e) (Nat.le_refl _) ⟨z, us, 0, r, Heap.get?_push_size _ rfl⟩
def tDNewA : TE := fun _ H Q => ∀ p H2, New H H2 p (.dK []) → Q (.ref p) H2
theorem pe_dnewA : PE X (.Dict [] [] pos) tDNewA := by
  constructor
  intro pins s σ H Q I hq
  exact pe_dnewK.run pins s σ H Q I fun p hp => hq p _ (New.mk' hp)
end
end L2
end
section
set_option Elab.async false
set_option linter.all false
set_option maxRecDepth 100000
set_option maxHeartbeats 2000000
/-! # What the top leaves, each fact from facts that are looked up. -/
namespace L2
open PySem PySem.Spec PyProof.Rows
theorem funD_mk {K : PySem.W.Frag} {x qual : Str} {params : Arguments} {body : List Stmt} {scope : Scope} {dvs : List V} {f T : Addr} {oc : Value} {od an : Option Addr} {osl : Array (Option Value)} {kV doc pm cdv ct : Value} {o : Obj} {its : List Value} {n : Nat}
    (l : K.lookup f = some ⟨oc, od, .func (PySem.W.fnOf x qual params body scope (.ref T) kV doc pm an cdv ct), osl⟩) (c : PySem.W.codeIn K cdv qual = true) (k : PySem.W.keepIn K (.ref f) = true)
    (t : K.lookup T = some o) (u : o.data = .seq its.toArray n) (v : Vals dvs its) (ne : dvs ≠ []) : FunD K x qual params body scope dvs [] f (PySem.W.fnOf x qual params body scope (.ref T) kV doc pm an cdv ct) :=
  ⟨⟨oc, od, _, kV, doc, pm, an, cdv, ct, osl, rfl, l, c, .inr ⟨ne, T, o, its, n, rfl, t, u, v⟩, .inl rfl⟩, k⟩
end L2
namespace RX
open PySem PySem.W PySem.Calls PyProof.Rows PySem.HandSPX
theorem te_of {K : Frag} {S : Addr} (a : subIn K (.ref S) (.type "BaseException") = some true) (b : isClsIn K S = true) (c : typeIn K (.ref S) = some (.type "type")) (d : subIn K (.ref S) (.ref S) = some true) : exmOne K (.ref S) (.ref S) = some true := by
  have b' : (clsIn K S).isSome = true := b
  simp [exmOne, kitCls, a, b', c, d]
/-- an error of the package, from facts that are looked up -/
theorem errT_mk {prog : Program} {K : Frag} {mg : Str → Option Value} {h : Heap} {cn fld : Str} {C fI : Addr} (X : K.In h) (G : h.Ns mainGlobals mg)
    {nm q : Str} {N : Addr} {bs bm : List Value} {sn : List Str} {sub : List Value} {ab : Bool} {col : Option Bool} {dd : Option Addr} {k0 k1 k2 k3 k5 : Option Value}
    {oc : Value} {od : Option Addr} {doc pm : Value} {an : Option Addr} {cda cc : Addr} {ct : Value} {osl : Array (Option Value)} {msg : Str} {qual : Str} {p1 p2 q1 q2 q3 q4 q5 q6 q7 q8 q9 q10 : Pos}
    {ccl cl : Value} {cdd cld : Option Addr} {ccs csl : Array (Option Value)} {vs : Array Value} {file : Str} {tf : Tok}
    (gC : nsIn K mainGlobals cn = some (some (.ref C)))
    (cls : K.lookup C = some (excClassObj nm q C N bs bm true sn sub ab col dd k0 k1 k2 k3 k5 "ValueError.__new__")) (rv : refsVE bm = true)
    (sa : findIn K (.ref C) "__setattr__" = some (some (.builtin "object.__setattr__")))
    (ga : findIn K (.ref C) "__getattribute__" = some (some (.builtin "BaseException.__getattribute__"))) (gg : findIn K (.ref C) "__getattr__" = some none)
    (noN : findIn K (.ref C) fld = some none) (iC : findIn K (.ref C) "__init__" = some (some (.ref fI))) (tC : typeIn K (.ref fI) = some (.type "function")) (kC : keepIn K (.ref C) = true)
    (exC : subIn K (.ref C) (.type "BaseException") = some true) (tyC : typeIn K (.ref C) = some (.type "type")) (hdC : hasDictIn K C = true)
    (icC : isClsIn K C = true) (sC : subIn K (.ref C) (.ref C) = some true)
    (veC : subIn K (.ref C) (.type "ValueError") = some true) (selfM : mroIn K C (.ref C) = some true) (up : ks_superIn K C C "__init__" = some (some (.builtin "ValueError.__init__")))
    (third : nsIn K cStatics "thirdparty.any" = some none) (noS : nsIn K mainGlobals "super" = some none) (top : (prog.main.scope.names.lookup ("super" : Str)).isSome = false)
    (fl : (eS fld).names.lookup fld = some .local ∧ (fld == ("self" : Str)) = false ∧ (eS fld).names.lookup ("super" : Str) = some .globalImplicit ∧ (eS fld).names.lookup ("__class__" : Str) = some .free ∧ (fld == ("__debug__" : Str)) = false)
    (bd : ∀ (qual : Str) (body : List Stmt) (doc pm : Value) (an : Option Addr) (cd ct : Value) (cc : Addr) (p1 p2 : Pos) (a b : Value), bindArgs (ksFn "__init__" qual (eA fld p1 p2) body (eS fld) .none .none doc pm an cd ct cc) ⟨[a, b], []⟩ = pure [(("self" : Str), a), (fld, b)])
    (l : K.lookup fI = some ⟨oc, od, .func (ksFn "__init__" qual (eA fld p1 p2) (eB fld msg q1 q2 q3 q4 q5 q6 q7 q8 q9 q10) (eS fld) .none .none doc pm an (.ref cda) ct cc), osl⟩) (cd : codeIn K (.ref cda) qual = true)
    (lc : K.lookup cda = some ⟨ccl, cdd, .fields vs, ccs⟩) (v2 : vs[2]? = some (.str file tf)) (vf : ((prog.main.file : Str) == file) = true) (lcc : K.lookup cc = some ⟨cl, cld, .cell (some (.ref C)), csl⟩) (ln : (q3.endLine == q5.line) = true) :
    ErrT prog K mg cn fld C fI :=
  { gC := mg_of X G gC, cls := ⟨nm, q, N, bs, bm, sn, sub, ab, col, dd, k0, k1, k2, k3, k5, cls, rv⟩, sa := sa, xf := ⟨ga, gg, exC, hdC⟩, noN := noN, iC := iC, tC := tC, kC := kC, exC := exC, tyC := tyC, hdC := hdC, te := te_of exC icC tyC sC, veC := veC, selfM := selfM, up := up, third := third,
    noS := noS, top := top, fl := fl, bd := bd, fn := ⟨oc, od, doc, pm, an, cda, cc, ct, osl, msg, qual, p1, p2, q1, q2, q3, q4, q5, q6, q7, q8, q9, q10, ccl, cl, cdd, cld, ccs, csl, vs, file, tf, l, cd, lc, v2, vf, lcc, ln⟩ }
end RX
end
section
set_option Elab.async false
set_option linter.all false
set_option maxRecDepth 100000
set_option maxHeartbeats 2000000
/-! # enumerate of a tuple, and of a list or a tuple. -/
namespace L2
open PySem PySem.Spec PyProof.Rows
theorem meets_en1 {v : Value} {o : Obj} {Z : Heap → Prop} (B : Begins v o Z) :
    Meets (Builtin.«enumerate.__new__» ⟨[.type "enumerate", v], []⟩) (fun _ R s => Z s.heap ∧ R (.ok (.ret (.ref (s.heap.push o).objs.size)))
      { s with heap := (s.heap.push o).push { cls := .type "enumerate", data := .fields #[.none, .bool false, .ref s.heap.objs.size, rawInt 0, .none, .none] } }) :=
  .of_wp fun prog w A R s q => by
    obtain ⟨hp, ge, dr, tk, os⟩ := s
    obtain ⟨z1, q⟩ := q
    have hs := sub_enumerate
    have step : ∀ {A' : Around} {E : Value → Shared → Prop} {Q : Value → Shared → Prop}, Q (.ref hp.objs.size) ⟨hp.push o, ge, dr, tk, os⟩ → wpAny (model prog w) A' (pyIter v) Q E ⟨hp, ge, dr, tk, os⟩ := fun u => B.iter prog w _ _ ⟨hp, ge, dr, tk, os⟩ _ z1 u
    wp_walk using step
    refine wpAny_stack_any fun sk => wpAny_pure ?_
    split
    · rename_i c _ _ _ _ _
      cases (c == Value.type "enumerate") <;> (wp_walk using step; exact ⟨_, rfl, q⟩)
    · wp_walk using step
      exact ⟨_, rfl, q⟩
section
variable {prog : Program} {w : World} {A : Around} {E : Value → Shared → Prop} {s : Shared}
/-- enumerate(v): its two new cells -/
theorem call_en {v : Value} {o : Obj} {Z : Heap → Prop} {Q : Value → Shared → Prop} (B : Begins v o Z) (z1 : Z s.heap)
    (q : ∀ h', IsEnum h' (s.heap.objs.size + 1) s.heap.objs.size 0 .none → h'.get? s.heap.objs.size = some o → h'.objs.size = s.heap.objs.size + 2 → (∀ b u, s.heap.get? b = some u → h'.get? b = some u) → Q (.ref (s.heap.objs.size + 1)) { s with heap := h' }) :
    wpAny (model prog w) A (call (.type "enumerate") [v]) Q E s := by
  refine callType_new F.called_enumerate (by decide) (F.typeCall_enumerate_1 _) (F.newCall_enumerate_1 _) (fun obj => F.args_object_init_2 obj _) F.entry_enumerate_new (meets_en1 B) ⟨z1, ?_⟩
  have e1 : (s.heap.push o).objs.size = s.heap.objs.size + 1 := Heap.size_push ..
  show _ ∧ _
  rw [e1]
  have he : IsEnum ((s.heap.push o).push { cls := .type "enumerate", data := .fields #[.none, .bool false, .ref s.heap.objs.size, rawInt 0, .none, .none] }) (s.heap.objs.size + 1) s.heap.objs.size 0 .none := by
    have u := Heap.get?_push_size (s.heap.push o) (o := { cls := .type "enumerate", data := .fields #[.none, .bool false, .ref s.heap.objs.size, rawInt 0, .none, .none] }) rfl
    rwa [e1] at u
  exact ⟨⟨_, he, rfl⟩, q _ he (Heap.get?_push_of_some _ (Heap.get?_push_size _ B.free)) (by rw [Heap.size_push, e1]) fun b u x => Heap.get?_push_of_some _ (Heap.get?_push_of_some _ x)⟩
end
/-- the tuple at a, each item in a new pair -/
def IteT (K : PySem.W.Frag) (a : Addr) : It :=
  ⟨fun i H => ∃ (xs : List V) (x : V), SqT K H a xs ∧ xs[i]? = some x, fun i H v H' => ∃ T x, v = .ref T ∧ H T = none ∧ H' = upd H T (.tup [.int (i : Nat), x]) ∧ ∀ xs, SqT K H a xs → xs[i]? = some x, fun i H => ∃ xs : List V, SqT K H a xs ∧ xs.length ≤ i⟩
theorem turn_enT {P : Program} {w : World} {K : PySem.W.Frag} {elts : List Expr} {kk : Nat} {tpos : Pos} (a e it : Addr) :
    Turn P w K (.Tuple elts kk tpos) (IteT K a) [e, it] e (fun i h => (∃ old, IsEnum h e it ((i : Nat) : Int) old) ∧ h.IsTupleIter it a i ∧ e ≠ it) where
  mem := by simp
  obj := fun i h st b hb => by
    obtain ⟨⟨old, he⟩, ⟨o, ho, hc, hd⟩, _⟩ := st
    rcases (by simpa using hb : b = e ∨ b = it) with z | z
    · exact z ▸ ⟨_, he, fun v q => nomatch q⟩
    · exact z ▸ ⟨o, ho, fun v q => by rw [hd] at q; cases q⟩
  keep := fun i h h' st k => ⟨let ⟨old, he⟩ := st.1; ⟨old, k e (by simp) _ he⟩, st.2.1.at fun o q => k it (by simp) o q, st.2.2⟩
  item := by
    intro X hP hw hK hc i pins s σ H E I hf st hg
    subst hP hw hK
    obtain ⟨⟨old, he⟩, hit, hne⟩ := st
    obtain ⟨xs, x, hq, hx⟩ := hg
    obtain ⟨its, rv, p, hz⟩ := I.tuple hq
    obtain ⟨u, hu, ru⟩ := rv.get hx
    have hel : e < s.heap.objs.size := Heap.lt_size he
    have hil : it < s.heap.objs.size := by obtain ⟨_, q, _⟩ := hit; exact Heap.lt_size q
    have ht : s.heap.IsTuple a its.toArray := p
    have hai : a ≠ it := by
      rintro rfl
      obtain ⟨o1, q1, c1, _⟩ := hit
      obtain ⟨o2, q2, c2, _⟩ := ht
      rw [q1] at q2
      cases q2
      exact absurd (Value.type.inj (c1.symm.trans c2)) (by decide)
    have hea : e ≠ a := by
      rintro rfl
      obtain ⟨o2, q2, c2, _⟩ := ht
      rw [he] at q2
      cases q2
      exact absurd (Value.type.inj (c2 : Value.type "enumerate" = .type "tuple")) (by decide)
    have hlt : i < its.toArray.size := by
      have := (List.getElem?_eq_some_iff.mp (by simpa using hu : its[i]? = some u)).1
      simpa using this
    refine wpAny_pyNext_enum_itemD (Draws.tuple (A := X.A.in1) (I.ok.hd hc) it a hai its.toArray) he ⟨hit, ht⟩ hlt hne (by simp [hne, hea]) fun x' h' tk hx' ho hst hT hsz hk => ?_
    have eu : x' = u := by
      have : its.toArray[i]? = some u := by simpa using hu
      exact Option.some.inj (hx'.symm.trans this)
    subst eu
    refine ⟨_, rfl, wpAny_letOwnedTupleGo_enum (s := { s with heap := h', toks := tk + 1 }) ho fun h'' he' sb => ?_⟩
    have hT2 : h''.get? s.heap.objs.size = some { cls := .type "tuple", data := .seq #[.int i tk, x'] } := (sb.2 _ (Nat.ne_of_gt hel)).trans hT
    have nw : ObjOk X.prog X.w (upd H s.heap.objs.size (.tup [.int (i : Nat), x])) h'' s.heap.objs.size (.tup [.int (i : Nat), x]) :=
      ⟨by show 2 ≤ sizeLine; decide, [.int i tk, x'], .cons ⟨_, rfl⟩ (.cons ru .nil), ⟨_, hT2, rfl, _, rfl⟩⟩
    have I1 : Inv X pins σ (upd H s.heap.objs.size (.tup [.int (i : Nat), x])) { s with heap := h'', toks := tk + 1 } :=
      I.turnedNew (ch := [e, it]) (fun b ob hb q => (sb.2 b (fun z => hb (by simp [z]))).trans (hk b ob (fun z => hb (by simp [z])) (fun z => hb (by simp [z])) q)) hf (Nat.le_refl _) nw
    refine ⟨.ref s.heap.objs.size, _, I1, rfl, ⟨_, x, rfl, I.hok.fresh (Nat.le_refl _), rfl, fun ys hy => by rw [I.tuple_inj hy hq]; exact hx⟩, ⟨⟨x', ?_⟩, hst.1.at fun o q => (sb.2 it (Ne.symm hne)).trans q, hne⟩, fun b hb => ?_⟩
    · rw [show ((i + 1 : Nat) : Int) = (i : Int) + 1 by omega]
      exact he'
    · have hb' : b < s.heap.objs.size := by
        rcases (by simpa using hb : b = e ∨ b = it) with z | z
        · exact z ▸ hel
        · exact z ▸ hil
      rw [upd_ne (Nat.ne_of_lt hb')]
      exact (hf b hb).1
  done := by
    intro X hP hw hK hc i pins s σ H E I hf st hg
    subst hP hw hK
    obtain ⟨⟨old, he⟩, hit, hne⟩ := st
    obtain ⟨xs, hq, hx⟩ := hg
    obtain ⟨its, rv, p, hz⟩ := I.tuple hq
    have ht : s.heap.IsTuple a its.toArray := p
    have hl := rv.length
    obtain ⟨f0, f1, f2, f3, f4, f5⟩ := hf it (by simp)
    have hT : s.TypeIs (.ref e) "enumerate" := ⟨_, he, rfl⟩
    have nn : its.toArray[i]? = none := by simp; omega
    unfold pyNext
    refine wpAny_bind (wpAny_attempt (wpAny_callSpecial?_slot (name := Str.ofString "__next__") hT F.slot_enumerate_next (wpAny_call_entry F.slot_enumerate_next hT F.entry_enumerate_next ?_ (F.args_enumerate_next_1 _))))
    show wpAny _ X.A.in1 (field (.ref e) 2 >>= _) _ _ s
    refine wpAny_bind (wpAny_field he rfl (x := .ref it) rfl (wpAny_bind (RZ.nextOf_tuple_end (A := X.A.in1) (I.ok.hd hc) hit ht nn fun h' y hy ht' => ?_)))
    obtain ⟨o, q1, q2⟩ := ht'
    refine wpAny_bind (wpAny_isInstance (T := "StopIteration") (b := true) ⟨o, q1, q2⟩ isSubtype_stop (wpAny_pure ⟨rfl, ?_⟩))
    exact I.turned (t' := s.toks) (fun b o hb q => hy b o hb q) f0 f1 f3 f4 f5
  self := fun A i s Q E st h => let ⟨⟨_, he⟩, _⟩ := st; wpAny_pyIter_enum he h
theorem walk_enT {K : PySem.W.Frag} {a : Addr} {xs : List V} : Walk (IteT K a) xs.length (fun H => SqT K H a xs) (YPair (fun i => some (.int (i : Nat))) (fun i => xs[i]?)) :=
  ⟨fun i _ hi q => ⟨xs, xs[i], q, by simp [hi]⟩, fun _ q => ⟨xs, q, Nat.le_refl _⟩, fun i H v H' _ q ⟨T, x, h1, h2, h3, h4⟩ => ⟨T, .int (i : Nat), x, h1, h2, h3, rfl, h4 xs q⟩⟩
section
variable {X : Cx} {e : Expr} {ta : TA} {p pos tpos : Pos} {elts : List Expr} {kk : Nat}
/-- enumerate(v), v a list or a tuple -/
def iEnum2 (K : PySem.W.Frag) (ta : TA) : TI := fun σ H R => ta σ H fun vs H1 => ∃ a xs, vs = [.ref a] ∧ (SqL K H1 a xs ∨ SqT K H1 a xs) ∧
  ∀ (J : It) (G : Hp → Prop), Walk J xs.length G (YPair (fun i => some (.int (i : Nat))) (fun i => xs[i]?)) → (∀ H', Same H1 H' → G H') → R J H1
theorem pi_enum2 (hg : Gl X "enumerate") (hm : X.mg "enumerate" = none) (ha : PA X [e] ta) (hs : starEach [e] X.env = [(false, eval e X.env)] := by rfl) : PI X (.Tuple elts kk tpos) (.Call (.Name "enumerate" p) [e] [] pos) (iEnum2 X.K ta) := by
  refine ⟨fun pins s σ H R I h => ?_⟩
  refine Call_ (ld_blt I hg hm boot_enumerate (PyProof.Rows.callWith_type1 (thn (ha.run pos pins s σ H _ I h) fun us s1 ⟨vs, H1, I1, r1, q1⟩ => ?_) hs rfl))
  obtain ⟨a, xs, ex, q1, q2⟩ := q1
  subst ex
  cases r1 with
  | cons r rr =>
    cases rr
    cases r
    have big : ∀ (b : Addr), b ∈ [s1.heap.objs.size + 1, s1.heap.objs.size] → FpOk X pins H1 b := fun b hb => by
      have hle : s1.heap.objs.size ≤ b := by
        rcases (by simpa using hb : b = s1.heap.objs.size + 1 ∨ b = s1.heap.objs.size) with z | z
        · exact z ▸ Nat.le_succ _
        · exact z ▸ Nat.le_refl _
      exact I1.fpOk hle (I1.hok.fresh hle)
    rcases q1 with hq | hq
    · have q := q2 _ _ walk_enum fun H' s' => s'.seq hq
      obtain ⟨its, rv, p', hz⟩ := I1.list hq
      refine call_en (begins_list a its.toArray) p'.isList fun h' he ho hsz hk => wpAny_pyIter_enum he ?_
      exact ⟨s1.heap.objs.size + 1, [s1.heap.objs.size + 1, s1.heap.objs.size], _, _, H1, rfl, I1.kept (t' := s1.toks) hk, turn_enum a (s1.heap.objs.size + 1) s1.heap.objs.size, ⟨⟨.none, he⟩, ⟨_, ho, rfl, rfl⟩, Nat.succ_ne_self _⟩, big, q⟩
    · have q := q2 _ _ walk_enT fun H' s' => hq.imp (fun z => z.imp (fun e => s' _ _ e) (fun ⟨o, e⟩ => ⟨o, s' _ _ e⟩)) id
      obtain ⟨its, rv, p', hz⟩ := I1.tuple hq
      refine call_en (begins_tuple a its.toArray) (show s1.heap.IsTuple a its.toArray from p') fun h' he ho hsz hk => wpAny_pyIter_enum he ?_
      exact ⟨s1.heap.objs.size + 1, [s1.heap.objs.size + 1, s1.heap.objs.size], _, _, H1, rfl, I1.kept (t' := s1.toks) hk, turn_enT a (s1.heap.objs.size + 1) s1.heap.objs.size, ⟨⟨.none, he⟩, ⟨_, ho, rfl, rfl⟩, Nat.succ_ne_self _⟩, big, q⟩
end
section
variable {X : Cx}
/-- tuple(v), v a list or a tuple that stands: a tuple of the same things stands then, the old one or a new one -/
def rTup2 : List V → Hp → VK → Prop := fun xs H Q => ∃ a ys, xs = [.ref a] ∧ (H a = some (.lst ys) ∨ H a = some (.tup ys)) ∧ ∀ t H', Same H H' → H' t = some (.tup ys) → (H t = none ∨ t = a) → Q (.ref t) H'
theorem cr_tup2 : CallR X (.type "tuple") rTup2 := fun pins s σ H xs us Q I rv h => by
  obtain ⟨a, ys, rfl, h1, k⟩ := h
  refine call_tuple_of pins s σ H [.ref a] us Q I rv ⟨a, ys, rfl, ?_⟩
  rcases h1 with e | e
  · exact .inl ⟨SqL.of e, fun l hl => k l _ (same_new hl) upd_same (.inl hl)⟩
  · exact .inr ⟨SqT.of e, k a H (Same.refl _) e (.inr rfl)⟩
end
end L2
end
section
set_option Elab.async false
set_option linter.all false
set_option maxRecDepth 100000
set_option maxHeartbeats 2000000
/-! # text.translate(a dict of signs for signs), text[::-1], text.index(a sign that is there) -/
namespace L2
open PySem PySem.Spec PyProof.Rows PySem.Builtin PySem.Builtin.Str
/-- what the dict tells of each sign: one ASCII sign, or nothing -/
def Swaps (f : Key → Option Value) (one : Nat → Nat) : Prop := ∀ c : Nat, (∃ (e : Nat) (t : Tok), f (.inl (c : Int)) = some (.str ⟨#[e]⟩ t) ∧ e < 128 ∧ one c = e) ∨ (f (.inl (c : Int)) = none ∧ one c = c)
section
variable {P : Program} {w : World} {A : Around} {E : Value → Shared → Prop} {s : Shared} {d : Addr} {c : Nat} {one : Nat → Nat}
theorem sw_mapOf {h h' : Heap} {f : Key → Option Value} (m : h.MapOf (mixKind P w) d f) (k : ∀ b o, h.get? b = some o → h'.get? b = some o) : h'.MapOf (mixKind P w) d f := by
  obtain ⟨ob, es, ep, q, rest⟩ := m
  exact ⟨ob, es, ep, k _ _ q, rest⟩
theorem sw_look {f : Key → Option Value} {Q : Mapped → Shared → Prop} (quiet : A.handled = none) (low : (d == sysModules) = false) (m : s.heap.MapOf (mixKind P w) d f) (sw : Swaps f one)
    (hit : one c < 128 → ∀ h1 k1, (∀ b o, s.heap.get? b = some o → h1.get? b = some o) → Q (.text ⟨#[one c]⟩) { s with heap := h1, toks := k1 })
    (miss : one c = c → ∀ h1 k1, (∀ b o, s.heap.get? b = some o → h1.get? b = some o) → Q .keep { s with heap := h1, toks := k1 }) : wpAny (model P w) A (tableLookup (.ref d) c) Q E s := by
  unfold tableLookup
  refine wpAny_bind (wpAny_attempt (wpAny_bind (wpAny_mkInt ?_)))
  rcases sw c with ⟨e, t, q1, q2, q3⟩ | ⟨q1, q3⟩
  · refine wpAny_getItem_of (knd := mixKind P w) (k := Sum.inl (c : Int)) (kV_is (k := Sum.inl (c : Int)) ⟨_, rfl⟩) m q1 ?_
    show wpAny _ _ (do let o ← asInt? (Value.str ⟨#[e]⟩ t); _) _ _ _
    refine wpAny_bind (wpAny_of_eq (a := none) rfl ?_)
    refine wpAny_bind (wpAny_of_eq (a := some ⟨#[e]⟩) rfl ?_)
    rw [← q3]
    exact wpAny_pure (hit (q3 ▸ q2) s.heap _ fun _ _ z => z)
  · refine wpAny_getItem_missing_of (knd := mixKind P w) (k := Sum.inl (c : Int)) (kV_is (k := Sum.inl (c : Int)) ⟨_, rfl⟩) low quiet m q1 fun h1 x new => ?_
    show wpAny _ _ (do let b ← isInstance (.ref x) (.type "LookupError"); _) _ _ _
    obtain ⟨ob, t, o1, o2, _⟩ := new.there
    refine wpAny_bind (wpAny_isInstance (T := "KeyError") (b := true) ⟨ob, o1, o2⟩ key_is_lookup ?_)
    rw [if_pos rfl]
    exact wpAny_bind (wpAny_rule (wpAny_pure (miss q3 h1 _ new.keeps)))
end
theorem sw_fold (one : Nat → Nat) : ∀ (l : List Nat) (acc : Array Nat), List.foldl (fun r (p : Str) => r ++ p.cps) acc (l.map fun c => (⟨#[one c]⟩ : Str)) = acc ++ (l.map one).toArray
  | [], acc => by simp
  | a :: l, acc => by
    rw [List.map_cons, List.foldl_cons, sw_fold one l]
    apply Array.toList_inj.mp
    simp
/-- what stands ahead of each turn -/
def SwAt (one : Nat → Nat) (x : List Nat) (ascii : Bool) (s : Shared) (rest : List Nat) (st : List Str × Nat × Bool × List (Nat × Option Nat) × Bool) (s1 : Shared) : Prop :=
  ∃ (done : List Nat) (ps : List Str) (kn : List (Nat × Option Nat)) (h1 : Heap) (k1 : Nat), x = done ++ rest ∧ st = (ps, done.length, ascii, kn, false) ∧ ps.reverse = done.map (fun c => (⟨#[one c]⟩ : Str)) ∧
    (∀ c a, List.lookup c kn = some a → a = some (one c)) ∧ s1 = { s with heap := h1, toks := k1 } ∧ ∀ b o, s.heap.get? b = some o → h1.get? b = some o
theorem SwAt.step {one : Nat → Nat} {x : List Nat} {ascii : Bool} {s : Shared} {rest done : List Nat} {c : Nat} {ps : List Str} {kn : List (Nat × Option Nat)} {h1 : Heap} {k1 : Nat} (q1 : x = done ++ c :: rest)
    (q2 : ps.reverse = done.map (fun c => (⟨#[one c]⟩ : Str))) (q3 : ∀ c a, List.lookup c kn = some a → a = some (one c)) (q4 : ∀ b o, s.heap.get? b = some o → h1.get? b = some o) :
    SwAt one x ascii s rest (⟨#[one c]⟩ :: ps, done.length + 1, ascii, kn, false) { s with heap := h1, toks := k1 } :=
  ⟨done ++ [c], _, kn, h1, k1, by rw [q1, List.append_assoc]; rfl, by rw [List.length_append]; rfl, by rw [List.reverse_cons, q2, List.map_append]; rfl, q3, rfl, q4⟩
theorem sw_meets {P : Program} {w : World} (one : Nat → Nat) (x : List Nat) (t : Tok) (d : Addr) (low : (d == sysModules) = false) (short : x.length ≤ 16000000) : MeetsIn P w («str.translate» ⟨[.str (SX.S x) t, .ref d], []⟩) (fun A R s =>
    A.handled = none ∧ (∃ f, s.heap.MapOf (mixKind P w) d f ∧ Swaps f one) ∧ ∀ (v : Value) (h1 : Heap) (k1 : Nat), (∀ b o, s.heap.get? b = some o → h1.get? b = some o) → (∃ t1, v = .str (SX.S (x.map one)) t1) → R (.ok (.ret v)) { s with heap := h1, toks := k1 }) := by
  refine .of_wp fun A R s hyp => ?_
  obtain ⟨quiet, ⟨f, m, sw⟩, fin⟩ := hyp
  have quiet1 : A.in1.handled = none := quiet
  show wpAny _ _ (if ((SX.S x).length == 0) = true then (do rule "str.translate.empty"; ret (.str (SX.S x) t)) else (do
    let st ← forIn (SX.S x).cps (([], 0, (SX.S x).cps.all fun y => decide (y < 128), [], false) : List Str × Nat × Bool × List (Nat × Option Nat) × Bool) _
    _)) _ _ s
  by_cases none0 : ((SX.S x).length == 0) = true
  · rw [if_pos none0]
    have hx : x = [] := by
      rw [beq_iff_eq, SX.S_len] at none0
      exact List.eq_nil_of_length_eq_zero none0
    subst hx
    exact wpAny_bind (wpAny_rule (wpAny_pure ⟨_, rfl, fin _ s.heap s.toks (fun _ _ z => z) ⟨t, rfl⟩⟩))
  rw [if_neg none0]
  generalize ((SX.S x).cps.all fun y => decide (y < 128)) = ascii
  refine wpAny_bind (MeetsSeq2.wpAny_forIn_array _ (SwAt one x ascii s) _ (fun c rest st s1 I => ?turn) (fun st s1 I => ?last) (SX.S x).cps ([], 0, ascii, [], false) ?first)
  case first => exact ⟨[], [], [], s.heap, s.toks, by show x = [] ++ x.toArray.toList; simp, rfl, rfl, fun c a z => (by rw [List.lookup_nil] at z; cases z), rfl, fun _ _ z => z⟩
  case turn =>
    obtain ⟨done, ps, kn, h1, k1, e1, e2, e3, e4, e5, e6⟩ := I
    subst e2
    subst e5
    have few : done.length ≤ 16000000 := by
      have := congrArg List.length e1
      rw [List.length_append] at this
      omega
    have m1 : ({ s with heap := h1, toks := k1 } : Shared).heap.MapOf (mixKind P w) d f := sw_mapOf m e6
    have known1 : ∀ c' a, List.lookup c' ((c, some (one c)) :: kn) = some a → a = some (one c') := fun c' a z => by
      rcases lookup_new z with ⟨y1, y2⟩ | y
      · rw [y2, y1]
      · exact e4 c' a y
    show wpAny _ _ (if tooLong done.length = true then _ else (if ascii = true then _ else _)) _ _ _
    rw [show tooLong done.length = false from PyProof.Rows.short24 (by omega), if_neg Bool.false_ne_true]
    cases ascii with
    | true =>
      rw [if_pos rfl]
      cases lk : List.lookup c kn with
      | some a =>
        have ea := e4 c a lk
        subst ea
        exact wpAny_bind (wpAny_pure (wpAny_pure (SwAt.step e1 e3 e4 e6)))
      | none =>
        refine wpAny_bind (sw_look (one := one) quiet1 low m1 sw (fun lt h2 k2 k3 => ?_) (fun eq h2 k2 k3 => ?_))
        · have q := SwAt.step (ascii := true) (k1 := k2) (kn := (c, some (one c)) :: kn) e1 e3 known1 (fun b o z => k3 b o (e6 b o z))
          have cond : (((⟨#[one c]⟩ : Str).length == 1) && ((⟨#[one c]⟩ : Str).cps.all fun y => decide (y < 128))) = true := by
            have : decide (one c < 128) = true := decide_eq_true lt
            simp [Str.length, this]
          simp only [cond, if_true]
          refine wpAny_bind (wpAny_pure ?_)
          exact wpAny_pure q
        · have q := SwAt.step (ascii := true) (k1 := k2) (kn := (c, some (one c)) :: kn) e1 e3 known1 (fun b o z => k3 b o (e6 b o z))
          rw [eq] at q
          refine wpAny_bind (wpAny_pure ?_)
          exact wpAny_pure q
    | false =>
      rw [if_neg Bool.false_ne_true]
      show wpAny _ _ (if false = true then _ else _) _ _ _
      rw [if_neg Bool.false_ne_true]
      refine wpAny_bind (sw_look (one := one) quiet1 low m1 sw (fun lt h2 k2 k3 => ?_) (fun eq h2 k2 k3 => ?_))
      · exact wpAny_pure (SwAt.step (ascii := false) (k1 := k2) e1 e3 e4 (fun b o z => k3 b o (e6 b o z)))
      · have q := SwAt.step (ascii := false) (k1 := k2) e1 e3 e4 (fun b o z => k3 b o (e6 b o z))
        rw [eq] at q
        exact wpAny_pure q
  case last =>
    obtain ⟨done, ps, kn, h1, k1, e1, e2, e3, e4, e5, e6⟩ := I
    subst e2
    subst e5
    have all : x = done := by rw [e1, List.append_nil]
    show wpAny _ _ (if tooLong done.length = true then _ else retStr { cps := List.foldl (fun acc (p : Str) => acc ++ p.cps) #[] ps.reverse }) _ _ _
    rw [show tooLong done.length = false from PyProof.Rows.short24 (by rw [← all]; omega), if_neg Bool.false_ne_true, e3, sw_fold, ← all]
    have ev : (⟨#[] ++ (x.map one).toArray⟩ : Str) = SX.S (x.map one) := by rw [Array.empty_append]
    rw [ev]
    exact wpAny_bind (wpAny_mkStr (wpAny_pure ⟨_, rfl, fin _ h1 _ e6 ⟨_, rfl⟩⟩) (by rw [SX.S_len, List.length_map, sizeLine_eq]; omega))
/-- the same of a dict at a tracked address -/
def SwapsK (kvs : List (Key × V)) (one : Nat → Nat) : Prop := ∀ c : Nat, (∃ e : Nat, valV kvs (.inl (c : Int)) = some (.str ⟨#[e]⟩) ∧ e < 128 ∧ one c = e) ∨ (valV kvs (.inl (c : Int)) = none ∧ one c = c)
section
variable {X : Cx}
theorem mt_swaps (one : Nat → Nat) (hc : X.calm = true) : MtR X "str.translate" (fun x xs H Q => ∃ (z : Str) (d : Addr) (kvs : List (Key × V)), x = .str z ∧ xs = [.ref d] ∧ H d = some (.dK kvs) ∧ SwapsK kvs one ∧ z.length ≤ 16000000 ∧ Q (.str ⟨(z.cps.toList.map one).toArray⟩) H) := by
  intro pins s σ H x xs v us Q I rx rs h
  obtain ⟨z, d, kvs, rfl, rfl, hd, sw, hl, q⟩ := h
  obtain ⟨t, rfl⟩ := rx
  cases rs with
  | cons r1 rs =>
    cases rs
    cases r1
    obtain ⟨_, low, vs, rel, dd⟩ := dk_of I.hok hd
    have ez : z = SX.S z.cps.toList := by cases z with | mk c => show (⟨c⟩ : Str) = ⟨c.toList.toArray⟩; simp
    have sw1 : Swaps (valueAt vs) one := fun c => by
      have rv := rel.val (.inl (c : Int))
      rcases sw c with ⟨e, q1, q2, q3⟩ | ⟨q1, q3⟩
      · rw [q1] at rv
        obtain ⟨u, hu, ru⟩ := RelO.some_of (v := .str ⟨#[e]⟩) (o := valueAt vs (.inl (c : Int))) rv
        obtain ⟨t2, rfl⟩ := ru
        exact .inl ⟨e, t2, hu, q2, q3⟩
      · rw [q1] at rv
        refine .inr ⟨?_, q3⟩
        cases hv : valueAt vs (.inl (c : Int)) with
        | none => rfl
        | some y => rw [hv] at rv; exact False.elim rv
    have hl2 : z.cps.toList.length ≤ 16000000 := by simpa [Str.length] using hl
    rw [ez]
    refine call_meetsIn F.slot_str_translate (typeIs_str _ _ _) F.entry_str_translate (F.args_str_translate_2 _ _) (sw_meets one z.cps.toList t d low hl2) ⟨I.ok.hd hc, ⟨valueAt vs, dd.mapOf, sw1⟩, ?_⟩
    intro v h1 k1 keep ⟨t1, e⟩
    subst e
    exact ⟨.str _, H, I.kept (t' := k1) keep, ⟨t1, rfl⟩, q⟩
/-- text.index(sign), where it is -/
theorem mt_signAt : MtR X "str.index" (fun x xs H Q => ∃ (z : Str) (c : Nat), x = .str z ∧ xs = [.str ⟨#[c]⟩] ∧ c ∈ z.cps.toList ∧ Q (.int (Txt.find z ⟨#[c]⟩)) H) := by
  intro pins s σ H x xs v us Q I rx rs h
  obtain ⟨z, c, rfl, rfl, hm, q⟩ := h
  have f := PySem.StrLaws.found_one z c
  rw [decide_eq_true hm] at f
  cases ho : Builtin.Str.occurrences z ⟨#[c]⟩ 0 z.length 1 with
  | nil => rw [ho] at f; cases f
  | cons i rest =>
    refine mt_sindex pins s σ H _ _ v us Q I rx rs ⟨z, _, i, rest, rfl, rfl, ho, ?_⟩
    have e : Txt.find z ⟨#[c]⟩ = (i : Int) := by
      unfold Txt.find
      rw [ho]
    rw [← e]
    exact q
/-- text[::-1] -/
def revS (z : Str) : Str := ⟨z.cps.toList.reverse.toArray⟩
theorem sliceBy_rev (z : Str) (u : Tok) : Txt.sliceBy z none none (-1, u) = revS z := by
  have h := step_rev_list z u
  have e : (List.range z.length).map (fun k => z.cps.getD (z.length - 1 - k) 0) = z.cps.toList.reverse := by
    refine List.ext_getElem (by simp [Str.length]) fun i h1 h2 => ?_
    rw [List.length_map, List.length_range] at h1
    have h3 : z.length - 1 - i < z.cps.size := by
      have : z.length = z.cps.size := rfl
      omega
    rw [List.getElem_map, List.getElem_range, List.getElem_reverse]
    simp [Array.getD, h3]
    rfl
  rw [e] at h
  generalize Txt.sliceBy z none none (-1, u) = y at h
  cases y with
  | mk c =>
    show (⟨c⟩ : Str) = ⟨z.cps.toList.reverse.toArray⟩
    have : c.toList = z.cps.toList.reverse := h
    rw [← this]
def tRevS (te : TE) : TE := fun σ H Q => te σ H fun x H1 => ∃ z, x = .str z ∧ z.length ≤ sizeLine ∧ Q (.str (revS z)) H1
theorem pe_revS {e : Expr} {te : TE} {k : Nat} {p1 p2 p3 pos : Pos} (he : PE X e te) : PE X (.Subscript e (.Slice none none (some (.UnaryOp .USub (.Constant (.int 1) k p1) p2)) p3) pos) (tRevS te) := by
  refine ⟨fun pins s σ H Q I hyp => ?_⟩
  refine Subscript_ (thn (he.run pins s σ H _ I hyp) fun v s1 ⟨x, H1, I1, r1, z, ex, hz, q⟩ => ?_)
  subst ex
  obtain ⟨t, rfl⟩ := r1
  have neg : PO X (some (.UnaryOp .USub (.Constant (.int 1) k p1) p2)) (tPart (tUn (rU fun i => .int (-i)) (tC (.int 1)))) := po_some (pe_un un_neg pe_int)
  refine wpAny_Slice (thn (po_none.run pins s1 σ H1 (fun o H2 => o = none ∧ H2 = H1) I1 ⟨rfl, rfl⟩) fun vl s2 ⟨l, H2, I2, pl, el, e2⟩ => ?_)
  subst el
  subst e2
  refine thn (po_none.run pins s2 σ H2 (fun o H3 => o = none ∧ H3 = H2) I2 ⟨rfl, rfl⟩) fun vu s3 ⟨u, H3, I3, pu, eu, e3⟩ => ?_
  subst eu
  subst e3
  refine thn (neg.run pins s3 σ H3 (fun o H4 => o = some (-1) ∧ H4 = H3) I3 ⟨1, rfl, -1, rfl, rfl, rfl⟩) fun vs s4 ⟨o, H4, I4, ps, eo, e4⟩ => ?_
  subst eo
  subst e4
  have I5 : Inv X pins σ H4 { s4 with heap := s4.heap.push { cls := .type "slice", data := .fields #[vl, vu, vs] } } := I4.kept (t' := s4.toks) fun b ob q => Heap.get?_push_of_some _ q
  obtain ⟨l1, rfl, el1⟩ := IsPart.raw pl
  obtain ⟨u1, rfl, eu1⟩ := IsPart.raw pu
  obtain ⟨st1, rfl, es1⟩ := IsPart.raw ps
  have l0 : l1 = none := by cases l1 with | none => rfl | some y => cases el1
  have u0 : u1 = none := by cases u1 with | none => rfl | some y => cases eu1
  subst l0
  subst u0
  obtain ⟨tk, rfl⟩ : ∃ tk, st1 = some (-1, tk) := by
    cases st1 with
    | none => cases es1
    | some y =>
      obtain ⟨y1, y2⟩ := y
      have : y1 = -1 := Option.some.inj es1
      subst this
      exact ⟨y2, rfl⟩
  show wpAny (model X.prog X.w) X.A (subscriptTail e (.Slice none none (some (.UnaryOp .USub (.Constant (.int 1) k p1) p2)) p3) (.str z t) (.ref s4.heap.objs.size)) (EP X pins σ Q) X.xe { s4 with heap := s4.heap.push { cls := .type "slice", data := .fields #[_, _, _] } }
  refine tail_any (ops := [.str z t, .ref s4.heap.objs.size]) (typeIs_str _ _ _) F.slot_str_getitem.lookup ?_ (by with_unfolding_all rfl)
  refine wpAny_getItem_str_slice (l := none) (u := none) (st := some (-1, tk)) ⟨_, Heap.get?_push_size _ rfl, rfl, rfl⟩ rfl ?_
  have hl : (revS z).length ≤ sizeLine := by
    have : (revS z).length = z.length := by simp [revS, Str.length]
    rw [this]
    exact hz
  have em : ∀ st : Str, Txt.sliceBy z none none (-1, tk) = st → sliceMade z t none none (some (-1, tk)) = .str st := fun st h => by
    unfold Txt.sliceBy at h
    unfold sliceMade
    have no : ¬ ((((some ((-1 : Int), tk)).map (·.1)).getD 1 == 1 && (slicePicked z none none (some (-1, tk))).length == z.length) = true) := by
      have : ((((some ((-1 : Int), tk)).map (·.1)).getD 1 == 1)) = false := rfl
      rw [this, Bool.false_and]
      exact Bool.false_ne_true
    rw [if_neg no] at h ⊢
    rw [h]
  rw [em _ (sliceBy_rev z tk)]
  exact ⟨hl, .str _, _, I5.tok _, ⟨_, rfl⟩, q⟩
end
end L2
end
section
set_option Elab.async false
set_option linter.all false
set_option maxRecDepth 100000
set_option maxHeartbeats 2000000
namespace K03
open PySem L2
local macro_rules | `(tactic| walk_at "hp") => `(tactic| first | assumption | exact upd_same | (refine (upd_ne (by first | assumption | (apply Ne.symm; assumption))).trans ?_; walk_at "hp"))
local macro_rules | `(tactic| walk_at "rd1") => `(tactic| first
  | (refine ⟨_, rfl, ?_⟩)
  | (refine ⟨_, _, rfl, rfl, ?_⟩)
  | (refine ⟨(rfl : scal _ _ = true), ?_⟩)
  | (refine And.intro (by show (0 : Int) < _; decide) ?_)
  | (refine And.intro (And.intro (by decide) (by decide)) ?_)
  | (refine And.intro (Or.inr (And.intro (by decide) (by decide))) ?_)
  | (refine And.intro (And.intro (by decide) (And.intro (by decide) (by decide))) ?_)
  | (refine And.intro (by assumption) ?_)
  | (refine And.intro (And.intro (by omega) (by omega)) ?_)
  | (refine And.intro (Or.inl (And.intro (by omega) (by omega))) ?_)
  | (refine' ⟨_, _, _, _, rfl, rfl, Or.inl (Or.inl ?h1), ?h2, ?h3⟩; (case h1 => walk_at "hp"); (case h2 => rfl))
  | (refine' ⟨_, _, _, _, rfl, rfl, ?h1, ?h2, ?h3⟩; (case h1 => walk_at "hp"); (case h2 => rfl))
  | (refine' ⟨_, _, rfl, Or.inl (Or.inl (Or.inl ?h1)), ?h3⟩; (case h1 => walk_at "hp"))
  | (refine Or.inl ⟨_, rfl, ?_⟩))
local macro_rules | `(tactic| walk_at "rd") => `(tactic| repeat walk_at "rd1")
def top (i : Nat) : Stmt := PySem.Challenge.pw_roomsthrough_k03_rooms_told.main.body.getD i (.Pass ⟨0, 0, 0, 0⟩)
abbrev s_BadRoom_init : Stmt := inClass (top 2) 0
abbrev s_BadCell_init : Stmt := inClass (top 3) 0
abbrev s_BadMouth_init : Stmt := inClass (top 4) 0
abbrev s_is_whole : Stmt := top 6
abbrev s_is_row : Stmt := top 7
abbrev s_Room_init : Stmt := inClass (top 15) 0
abbrev s_Room_eq : Stmt := inClass (top 15) 1
abbrev s_Room_cell : Stmt := inClass (top 15) 2
abbrev s_Room_mouth : Stmt := inClass (top 15) 3
abbrev s_Room_mirrored : Stmt := inClass (top 15) 4
abbrev s__need_lines : Stmt := top 16
abbrev s__is_line : Stmt := top 17
abbrev s__many : Stmt := top 18
abbrev s__is_whole_room : Stmt := top 19
abbrev s__places : Stmt := top 20
abbrev s__neighbours : Stmt := top 21
abbrev s__law_pool : Stmt := top 23
abbrev s__law_draw : Stmt := top 24
abbrev s__law_odd : Stmt := top 25
abbrev s__law_shuffled : Stmt := top 26
abbrev s__law_rows : Stmt := top 27
abbrev s__law_cell : Stmt := top 28
abbrev s__law_mouth : Stmt := top 29
abbrev s__law_turned : Stmt := top 30
abbrev s__law_right : Stmt := top 31
abbrev s_law : Stmt := top 32
theorem sc_is_whole : FnScope ["thing"] ["thing"] (defScope s_is_whole) := ⟨rfl, rfl, rfl, by decide +kernel, rfl, by decide +kernel, by decide +kernel⟩
theorem sc__law_pool : FnScope ["script"] ["script"] (defScope s__law_pool) := ⟨rfl, rfl, rfl, by decide +kernel, rfl, by decide +kernel, by decide +kernel⟩
theorem sc__law_draw : FnScope ["pool", "many", "cell", "digit", "number"] ["pool", "many"] (defScope s__law_draw) := ⟨rfl, rfl, rfl, by decide +kernel, rfl, by decide +kernel, by decide +kernel⟩
/-- built-ins that stand -/
structure Blt (mg : Str → Option Value) : Prop where
  n_isinstance : mg "isinstance" = none
  n_int : mg "int" = none
  n_bool : mg "bool" = none
  n_list : mg "list" = none
  n_len : mg "len" = none
  n_range : mg "range" = none
  n_repr : mg "repr" = none
section
variable {P : Program} {w : World} {K : PySem.W.Frag} {mg : Str → Option Value} {base : Heap}
def spWhole (K : PySem.W.Frag) : Sp := fun vs H Q _ => ∃ v t b1 b2, vs = [v] ∧ TyX K H v t ∧ PySem.W.kitOne K t (.type "int") = some b1 ∧ PySem.W.kitOne K t (.type "bool") = some b2 ∧ Q (.bl (b1 && !b2)) H
theorem ok_whole {f : Addr} {fd : FuncData} (F : Fun K "is_whole" "is_whole" s_is_whole f fd) (T : Blt mg) : FnG P w K mg base (CXe P w) 1 f fd ["thing"] (spWhole K) := by
  refine F.okG sc_is_whole (fun vs H Q E h => ?_) (fun cdv A outer s H vs Q E hgd hr h => ?_)
  · obtain ⟨v, t, b1, b2, rfl, _⟩ := h; rfl
  · obtain ⟨v, t, b1, b2, rfl, ty, e1, e2, k⟩ := h
    refine ⟨_, (pss_one (ps_ret (pe_and (pe_callB call_isi (by rfl) T.n_isinstance (by decide +kernel) (pa_cons (pv 0) (pa_cons (pe_bltn (v := .ty "int") (u := .type "int") rfl T.n_int (by decide +kernel) rfl) pa_nil))) (pe_one (pe_not (pe_callB call_isi (by rfl) T.n_isinstance (by decide +kernel) (pa_cons (pv 0) (pa_cons (pe_bltn (v := .ty "bool") (u := .type "bool") rfl T.n_bool (by decide +kernel) rfl) pa_nil)))))))), ?_⟩
    refine ⟨_, rfl, _, _, _, _, _, rfl, .ty _, ty, e1, _, rfl, ?_⟩
    cases b1 with
    | false => exact iteF k
    | true =>
      refine iteT ⟨_, rfl, _, _, _, _, _, rfl, .ty _, ty, e2, _, rfl, ?_⟩
      exact k
/-- a pool: the script's cells at l, and four numbers -/
def poolO (l : Addr) (i c n z : Int) : HO := .lst [.ref l, .int i, .int c, .int n, .int z]
structure PoolAt (K : PySem.W.Frag) (H : Hp) (l p : Addr) : Prop where
  ex : ∃ (xs : List Int) (i c n z : Int), H p = some (poolO l i c n z) ∧ l ≠ p ∧ H l = some (.lst (xs.map V.int)) ∧ 0 ≤ i ∧ 0 ≤ c
def spPool (K : PySem.W.Frag) : Sp := fun vs H Q _ => ∃ (a : Addr) (ns : List Int), vs = [.ref a] ∧ SqL K H a (ns.map V.int) ∧ ns.length ≤ 63 ∧ ∀ l p H', H p = none → Same H H' → PoolAt K H' l p → Q (.ref p) H'
theorem ok_pool {f : Addr} {fd : FuncData} (F : Fun K "_law_pool" "_law_pool" s__law_pool f fd) (T : Blt mg) : FnG P w K mg base (CXe P w) 1 f fd ["script"] (spPool K) := by
  refine F.okG sc__law_pool (fun vs H Q E h => ?_) (fun cdv A outer s H vs Q E hgd hr h => ?_)
  · obtain ⟨a, ns, rfl, _⟩ := h; rfl
  · obtain ⟨a, ns, rfl, hs, hl, k⟩ := h
    refine ⟨_, (pss_one (ps_ret (pe_lstA (pa_cons (pe_callTy call_list_of (by rfl) T.n_list (by decide +kernel) (pa_cons (pv 0) pa_nil)) (pa_cons pe_int (pa_cons pe_int (pa_cons pe_int (pa_cons pe_int pa_nil)))))))), ?_⟩
    refine ⟨_, rfl, _, _, rfl, .inl hs, fun l hl => ?_⟩
    refine And.intro (Nat.le_of_ble_eq_true rfl) (fun p H1 N => ?_)
    have hlp : l ≠ p := ne_of_none upd_same N.free
    have hp0 : H p = none := by rw [← N.free, upd_ne hlp.symm]
    exact k l p _ hp0 ((same_new hl).trans N.same) ⟨ns, 0, 0, 0, 1, N.at_, hlp, N.same _ _ upd_same, Int.le_refl _, Int.le_refl _⟩
def spDraw (K : PySem.W.Frag) : Sp := fun vs H Q _ => ∃ (l p : Addr) (m : Int), vs = [.ref p, .int m] ∧ PoolAt K H l p ∧ 0 < m ∧ m < 1000000 ∧
  ∀ r H', 0 ≤ r → r < m → Off (fun b => b = p) H H' → PoolAt K H' l p → Q (.int r) H'
theorem ok_draw {f : Addr} {fd : FuncData} (F : Fun K "_law_draw" "_law_draw" s__law_draw f fd) (T : Blt mg) : FnG P w K mg base (CXe P w) 1 f fd ["pool", "many"] (spDraw K) := by
  refine F.okG sc__law_draw (fun vs H Q E h => ?_) (fun cdv A outer s H vs Q E hgd hr h => ?_)
  · obtain ⟨l, p, m, rfl, _⟩ := h; rfl
  · obtain ⟨l, p, m, rfl, ⟨xs, i, c, n, z, hp, hlp, hl, hi, hc⟩, hm0, hm1, k⟩ := h
    refine ⟨_, (pss_cons (ps_asg (pe_op op_add (pe_ix ix_list (pv 0) pe_int (fun _ _ => rfl)) pe_int) (pg_sub (pv 0) pe_int set_list))
      (C8.pss_cut (ps_if (PW.pt (pw_and (pt_cmpR op_eq (pe_ix ix_list (pv 0) pe_int (fun _ _ => rfl)) pe_int (nomark _)) (pw_and1 (pt_cmpR op_lt (pe_ix ix_list (pv 0) pe_int (fun _ _ => rfl)) (pe_callB call_len_seq (by rfl) T.n_len (by decide +kernel) (pa_cons (pe_ix ix_list (pv 0) pe_int (fun _ _ => rfl)) pa_nil)) (nomark _))))) (pss_cons (ps_set (i := 2) sc__law_draw.nd rfl (Or.inl rfl) (pe_callTy call_int1 (by rfl) T.n_int (by decide +kernel) (pa_cons (pe_ix ix_list (pe_ix ix_list (pv 0) pe_int (fun _ _ => rfl)) (pe_ix ix_list (pv 0) pe_int (fun _ _ => rfl)) (fun _ _ => rfl)) pa_nil)))
      (pss_cons (ps_asg (pe_op op_add (pe_ix ix_list (pv 0) pe_int (fun _ _ => rfl)) pe_int) (pg_sub (pv 0) pe_int set_list))
      (pss_one (ps_if (pt_cmpR op_ge (pv 2) (pe_op op_pow pe_int pe_int) (nomark _)) (pss_one (ps_asg (pv 2) (pg_sub (pv 0) pe_int set_list))) (pss_one (ps_asg (pe_op op_mod (pe_callTy call_int1 (by rfl) T.n_int (by decide +kernel) (pa_cons (pe_op op_add (pe_op op_add (pe_op op_mul (pe_ix ix_list (pv 0) pe_int (fun _ _ => rfl)) pe_int) (pe_op op_mul (pv 2) pe_int)) pe_int) pa_nil)) pe_int) (pg_sub (pv 0) pe_int set_list))))))) pss_nil)
      (pss_cons (ps_if (pt_cmpR op_gt (pe_ix ix_list (pv 0) pe_int (fun _ _ => rfl)) pe_int (nomark _)) (pss_cons (ps_set (i := 3) sc__law_draw.nd rfl (Or.inl rfl) (pe_op op_mod (pe_callTy call_int1 (by rfl) T.n_int (by decide +kernel) (pa_cons (pe_ix ix_list (pv 0) pe_int (fun _ _ => rfl)) pa_nil)) (pv 1)))
      (pss_cons (ps_asg (pe_op op_fdivN (pe_callTy call_int1 (by rfl) T.n_int (by decide +kernel) (pa_cons (pe_ix ix_list (pv 0) pe_int (fun _ _ => rfl)) pa_nil)) (pv 1)) (pg_sub (pv 0) pe_int set_list))
      (pss_one (ps_ret (pv 3))))) pss_nil)
      (pss_cons (ps_set (i := 4) sc__law_draw.nd rfl (Or.inl rfl) (pe_op op_mod (pe_callTy call_int1 (by rfl) T.n_int (by decide +kernel) (pa_cons (pe_op op_add (pe_op op_add (pe_ix ix_list (pv 0) pe_int (fun _ _ => rfl)) (pe_op op_mul (pe_ix ix_list (pv 0) pe_int (fun _ _ => rfl)) pe_int)) pe_int) pa_nil)) pe_int))
      (pss_cons (ps_set (i := 4) sc__law_draw.nd rfl (Or.inl rfl) (pe_op op_mod (pe_callTy call_int1 (by rfl) T.n_int (by decide +kernel) (pa_cons (pe_op op_mul (pv 4) (pe_op op_add (pe_op op_fdivN (pv 4) pe_int) pe_int)) pa_nil)) pe_int))
      (pss_cons (ps_set (i := 4) sc__law_draw.nd rfl (Or.inl rfl) (pe_op op_mod (pe_callTy call_int1 (by rfl) T.n_int (by decide +kernel) (pa_cons (pe_op op_mul (pv 4) (pe_op op_add (pe_op op_fdivN (pv 4) pe_int) pe_int)) pa_nil)) pe_int))
      (pss_cons (ps_asg (pv 4) (pg_sub (pv 0) pe_int set_list))
      (pss_one (ps_ret (pe_op op_mod (pe_callTy call_int1 (by rfl) T.n_int (by decide +kernel) (pa_cons (pe_op op_fdivN (pv 4) pe_int) pa_nil)) (pv 1))))))))))), ?_⟩
    walk_at "rd"
    refine ⟨fun σ' H' => ∃ (x : Option V) (i' c' n' z' : Int), σ' = [some (.ref p), some (.int m), x, none, none] ∧ H' = upd H p (poolO l i' c' n' z') ∧ 0 ≤ i' ∧ 0 ≤ c', ?_, ?_⟩
    · walk_at "rd"
      refine ite2 (fun h => ?_) (fun h => ?_)
      · walk_at "rd"
        refine ite2 (fun h2 => ?_) (fun h2 => ?_)
        · have hix : i < (xs.map V.int).length := by simpa using h2
          have hg : ∃ v, xs[i.toNat]? = some v := by
            rw [List.length_map] at hix
            exact ⟨_, List.getElem?_eq_getElem (by omega)⟩
          obtain ⟨v, hv⟩ := hg
          walk_at "rd"
          refine ⟨l, xs.map V.int, i, .int v, rfl, rfl, SqL.of (by walk_at "hp"), ?_, ?_⟩
          · have := atI_nat (xs := xs.map V.int) (j := i.toNat) (v := V.int v) (by simp [hv])
            rwa [Int.toNat_of_nonneg hi] at this
          walk_at "rd"
          refine ite2 (fun h3 => ?_) (fun h3 => ?_)
          · walk_at "rd"
            refine ⟨some (.int v), i + 1, v, n + 1, z, rfl, by rw [upd_upd, upd_upd]; rfl, by omega, ?_⟩
            have : (10 : Int) ^ 18 ≤ v := by simpa using h3
            omega
          · walk_at "rd"
            refine ⟨some (.int v), i + 1, c, n + 1, _, rfl, by rw [upd_upd, upd_upd]; rfl, by omega, hc⟩
        · exact ⟨none, i, c, n + 1, z, rfl, rfl, hi, hc⟩
      · exact ⟨none, i, c, n + 1, z, rfl, rfl, hi, hc⟩
    · rintro σ' H' ⟨x, i', c', n', z', rfl, rfl, hi', hc'⟩
      have hl' : ∀ o, upd H p o l = some (.lst (xs.map V.int)) := fun o => by rw [upd_ne hlp]; exact hl
      have fin : ∀ (r i'' c'' n'' z'' : Int), 0 ≤ r → r < m → 0 ≤ i'' → 0 ≤ c'' → Q (.int r) (upd H p (poolO l i'' c'' n'' z'')) := fun r i'' c'' n'' z'' a1 a2 a3 a4 =>
        k r _ a1 a2 (Off.mut rfl) ⟨xs, i'', c'', n'', z'', upd_same, hlp, hl' _, a3, a4⟩
      walk_at "rd"
      refine ite2 (fun h => ?_) (fun h => ?_)
      · walk_at "rd"
        rw [upd_upd]
        refine fin _ i' _ n' z' ?_ ?_ hi' ?_
        · exact Int.emod_nonneg _ (by omega)
        · exact Int.emod_lt_of_pos _ hm0
        · rw [Int.fdiv_eq_ediv_of_nonneg _ (by omega)]
          exact Int.ediv_nonneg hc' (by omega)
      · walk_at "rd"
        rw [upd_upd]
        refine fin _ i' c' n' _ ?_ ?_ hi' hc'
        · exact Int.emod_nonneg _ (by omega)
        · exact Int.emod_lt_of_pos _ hm0
/-! ### a drawn thing of any kind -/
def deepD : Nat → PyData
  | 0 => .tuple [.int 0]
  | n + 1 => .tuple [deepD n]
def oddDs : List (Bool × PyData) := [(true, .none), (true, .bool true), (true, .bool false), (true, .int (-1)), (true, .int 0), (true, .int 3), (true, .int (10 ^ 30)), (true, .str ""), (true, .str "a"), (true, .str "@"),
  (true, .tuple []), (true, .list []), (false, .dict []), (true, .tuple [.int 0]), (true, .tuple [.int 0, .int 0]), (true, .list [.int 0, .int 0]), (true, .tuple [.str "@"]), (true, .list [.str "@"]), (true, deepD 12)]
def Odd (M : Addr → Prop) (H : Hp) (v : V) : Prop := ∃ q ∈ oddDs, Dr q.1 M H v q.2
def OddAll (M : Addr → Prop) (H : Hp) (vs : List V) : Prop := ∀ v ∈ vs, Odd M H v
theorem Odd.keep {M : Addr → Prop} {H H' : Hp} {v : V} (o : Off M H H') (h : Odd M H v) : Odd M H' v := by
  obtain ⟨q, hq, d⟩ := h
  exact ⟨q, hq, d.keep o⟩
theorem OddAll.new {M : Addr → Prop} {H H2 : Hp} {vs : List V} {q : Addr} {o : HO} (hq : New H H2 q o) (O : OddAll M H vs) (h : Odd M H2 (.ref q)) : OddAll M H2 (.ref q :: vs) := by
  intro v hv
  rcases List.mem_cons.mp hv with rfl | hv
  · exact h
  · exact (O v hv).keep hq.off
def spOdd (K : PySem.W.Frag) : Sp := fun vs H Q _ => ∃ (l p : Addr) (M : Addr → Prop), vs = [.ref p] ∧ PoolAt K H l p ∧ M p ∧ (∀ a, M a → H a ≠ none) ∧
  ∀ v H', Off (fun b => b = p) H H' → PoolAt K H' l p → Odd M H' v → Q v H'
theorem sc__law_odd : FnScope ["pool", "deep", "k", "odd"] ["pool"] (defScope s__law_odd) := ⟨rfl, rfl, rfl, by decide +kernel, rfl, by decide +kernel, by decide +kernel⟩
theorem PoolAt.same {H H' : Hp} {l p : Addr} (s : Same H H') (h : PoolAt K H l p) : PoolAt K H' l p := by
  obtain ⟨xs, i, c, n, z, h1, h2, h3, h4, h5⟩ := h
  exact ⟨xs, i, c, n, z, s _ _ h1, h2, s _ _ h3, h4, h5⟩
theorem ok_odd {f : Addr} {fd : FuncData} {k1 : Nat} (F : Fun K "_law_odd" "_law_odd" s__law_odd f fd) (T : Blt mg) (c__law_draw : CalG P w K mg base 1 "_law_draw" (spDraw K)) : FnG P w K mg base (CXe P w) 2 f fd ["pool"] (spOdd K) := by
  refine F.okG sc__law_odd (fun vs H Q E h => ?_) (fun cdv A outer s H vs Q E hgd hr h => ?_)
  · obtain ⟨l, p, M, rfl, _⟩ := h; rfl
  · obtain ⟨l, p, M, rfl, hp, hMp, hM, k⟩ := h
    refine ⟨_, (pss_cons (ps_set (i := 1) sc__law_odd.nd rfl (Or.inl rfl) (pe_tupA (pa_cons pe_int pa_nil)))
      (pss_cons (ps_for (passes_of rfl) rfl (pi_range1 (by rfl) T.n_range (pa_cons pe_int pa_nil)) (pg_name (i := 2) sc__law_odd.nd rfl (Or.inl rfl))
      (pss_one (ps_set (i := 1) sc__law_odd.nd rfl (Or.inl rfl) (pe_tupA (pa_cons (pv 1) pa_nil)))))
      (pss_cons (ps_set (i := 3) sc__law_odd.nd rfl (Or.inl rfl) (pe_lstA (pa_cons pe_non (pa_cons pe_bl (pa_cons pe_bl (pa_cons (pe_un un_neg pe_int) (pa_cons pe_int (pa_cons pe_int (pa_cons (pe_op op_pow pe_int pe_int) (pa_cons pe_str (pa_cons pe_str (pa_cons pe_str (pa_cons (pe_tupA pa_nil) (pa_cons (pe_lstA pa_nil) (pa_cons pe_dnewA (pa_cons (pe_tupA (pa_cons pe_int pa_nil)) (pa_cons (pe_tupA (pa_cons pe_int (pa_cons pe_int pa_nil))) (pa_cons (pe_lstA (pa_cons pe_int (pa_cons pe_int pa_nil))) (pa_cons (pe_tupA (pa_cons pe_str pa_nil)) (pa_cons (pe_lstA (pa_cons pe_str pa_nil)) (pa_cons (pv 1) pa_nil)))))))))))))))))))))
      (pss_one (ps_ret (pe_ix ix_list (pv 3) (pg_c c__law_draw hgd hr (by decide) (pa_cons (pv 0) (pa_cons (pe_callB call_len_seq (by rfl) T.n_len (by decide +kernel) (pa_cons (pv 3) pa_nil)) pa_nil))) (fun _ _ => rfl))))))), ?_⟩
    have notM : ∀ {a : Addr}, H a = none → ¬ M a := fun h z => hM _ z h
    walk_at "rd"
    refine And.intro (Nat.le_of_ble_eq_true rfl) (fun t0 H0 n0 => ?_)
    refine ⟨12, rfl, by decide, by decide, for_range (n := 12) (fun i σ H' => ∃ (t : Addr) (x : Option V), σ = [some (.ref p), some (.ref t), x, none] ∧ Same H H' ∧ Dr true M H' (.ref t) (deepD i)) ⟨t0, none, rfl, n0.same, .tup n0.at_ (notM n0.free) (.cons (.int 0) .nil)⟩ ?_ ?_⟩
    · rintro i σ H' hi ⟨t, x, rfl, s5, d⟩
      walk_at "rd"
      refine And.intro (Nat.le_of_ble_eq_true rfl) (fun t1 H1 n1 => ?_)
      exact ⟨t1, _, rfl, s5.trans n1.same, .tup n1.at_ (notM (s5.free n1.free)) (.cons (d.keep n1.off) .nil)⟩
    · rintro σ H' ⟨t, x, rfl, s5, d⟩
      have O0 : OddAll M H' [.ref t] := by
        intro v hv
        cases List.mem_singleton.mp hv
        exact ⟨(true, deepD 12), by simp [oddDs], d⟩
      walk_at "rd"
      refine And.intro (Nat.le_of_ble_eq_true rfl) (fun q1 H1 n1 => ?_)
      have O1 := O0.new n1 ⟨(true, .tuple []), by simp [oddDs], .tup n1.at_ (notM (s5.free n1.free)) .nil⟩
      have s6 := s5.trans n1.same
      refine And.intro (Nat.le_of_ble_eq_true rfl) (fun q2 H2 n2 => ?_)
      have O2 := O1.new n2 ⟨(true, .list []), by simp [oddDs], .lst n2.at_ (notM (s6.free n2.free)) rfl .nil⟩
      have s7 := s6.trans n2.same
      refine fun q3 H3 n3 => ?_
      have O3 := O2.new n3 ⟨(false, .dict []), by simp [oddDs], .dct n3.at_ (notM (s7.free n3.free)) rfl⟩
      have s8 := s7.trans n3.same
      refine And.intro (Nat.le_of_ble_eq_true rfl) (fun q4 H4 n4 => ?_)
      have O4 := O3.new n4 ⟨(true, .tuple [.int 0]), by simp [oddDs], .tup n4.at_ (notM (s8.free n4.free)) (.cons (.int 0) .nil)⟩
      have s9 := s8.trans n4.same
      refine And.intro (Nat.le_of_ble_eq_true rfl) (fun q5 H5 n5 => ?_)
      have O5 := O4.new n5 ⟨(true, .tuple [.int 0, .int 0]), by simp [oddDs], .tup n5.at_ (notM (s9.free n5.free)) (.cons (.int 0) (.cons (.int 0) .nil))⟩
      have s10 := s9.trans n5.same
      refine And.intro (Nat.le_of_ble_eq_true rfl) (fun q6 H6 n6 => ?_)
      have O6 := O5.new n6 ⟨(true, .list [.int 0, .int 0]), by simp [oddDs], .lst n6.at_ (notM (s10.free n6.free)) rfl (.cons (.int 0) (.cons (.int 0) .nil))⟩
      have s11 := s10.trans n6.same
      refine And.intro (Nat.le_of_ble_eq_true rfl) (fun q7 H7 n7 => ?_)
      have O7 := O6.new n7 ⟨(true, .tuple [.str "@"]), by simp [oddDs], .tup n7.at_ (notM (s11.free n7.free)) (.cons (.str "@") .nil)⟩
      have s12 := s11.trans n7.same
      refine And.intro (Nat.le_of_ble_eq_true rfl) (fun q8 H8 n8 => ?_)
      have O8 := O7.new n8 ⟨(true, .list [.str "@"]), by simp [oddDs], .lst n8.at_ (notM (s12.free n8.free)) rfl (.cons (.str "@") .nil)⟩
      have s13 := s12.trans n8.same
      walk_at "rd"
      refine And.intro (Nat.le_of_ble_eq_true rfl) (fun q9 H9 n9 => ?_)
      have s14 := s13.trans n9.same
      -- the list is made; what stands in it
      have O9 : OddAll M H9 _ := fun v hv => (O8 v hv).keep n9.off
      have e9 := n9.at_
      generalize hxs : ([_, _, _, _, _, _, _, _, _, _, _, _, _, _, _, _, _, _, _] : List V) = items at e9
      have hlen : items.length = 19 := by rw [← hxs]; rfl
      have OL : OddAll M H9 items := by
        rw [← hxs]
        intro v hv
        simp only [List.mem_cons, List.not_mem_nil, or_false] at hv
        rcases hv with rfl | rfl | rfl | rfl | rfl | rfl | rfl | rfl | rfl | rfl | rfl | rfl | rfl | rfl | rfl | rfl | rfl | rfl | rfl
        · exact ⟨(true, .none), by simp [oddDs], .non⟩
        · exact ⟨(true, .bool true), by simp [oddDs], .bl _⟩
        · exact ⟨(true, .bool false), by simp [oddDs], .bl _⟩
        · exact ⟨(true, .int (-1)), by simp [oddDs], .int _⟩
        · exact ⟨(true, .int 0), by simp [oddDs], .int _⟩
        · exact ⟨(true, .int 3), by simp [oddDs], .int _⟩
        · exact ⟨(true, .int (10 ^ 30)), by simp [oddDs], .int _⟩
        · exact ⟨(true, .str ""), by simp [oddDs], .str _⟩
        · exact ⟨(true, .str "a"), by simp [oddDs], .str _⟩
        · exact ⟨(true, .str "@"), by simp [oddDs], .str _⟩
        all_goals exact O9 _ (by simp)
      walk_at "rd"
      rw [hlen]
      refine ⟨l, p, 19, rfl, hp.same s14, by decide, by decide, fun r H10 hr0 hr1 off hp10 => ?_⟩
      obtain ⟨v, ho⟩ : ∃ v, items[r.toNat]? = some v := ⟨_, List.getElem?_eq_getElem (by omega)⟩
      have hne : q9 ≠ p := by
        intro z
        obtain ⟨xs, i, c, n, z1, h1, _⟩ := hp
        have := s13 _ _ h1
        rw [← z, n9.free] at this
        cases this
      refine ⟨q9, items, r, v, rfl, rfl, SqL.of (off _ _ hne e9), ?_, ?_⟩
      · have := atI_nat ho
        rwa [Int.toNat_of_nonneg hr0] at this
      · refine k _ H10 ((Off.same s14).trans off) hp10 ((OL _ (List.mem_of_getElem? ho)).keep ?_)
        intro b o hb e
        exact off b o (fun z => hb (by rw [z]; exact hMp)) e
end
end K03
end
section
set_option Elab.async false
set_option linter.all false
set_option maxRecDepth 100000
set_option maxHeartbeats 2000000
namespace K03
open PySem L2
local macro_rules | `(tactic| walk_at "hp") => `(tactic| first | assumption | exact upd_same | (refine (upd_ne (by first | assumption | (apply Ne.symm; assumption))).trans ?_; walk_at "hp"))
local macro_rules | `(tactic| walk_at "rd1") => `(tactic| first
  | (refine ⟨_, rfl, ?_⟩)
  | (refine ⟨_, _, rfl, rfl, ?_⟩)
  | (refine ⟨(rfl : scal _ _ = true), ?_⟩)
  | (refine And.intro (by show (0 : Int) < _; decide) ?_)
  | (refine And.intro (And.intro (by decide) (by decide)) ?_)
  | (refine And.intro (by assumption) ?_)
  | (refine Or.inl ⟨_, rfl, ?_⟩))
local macro_rules | `(tactic| walk_at "rd") => `(tactic| repeat walk_at "rd1")
theorem sc_is_row : FnScope ["thing"] ["thing"] (defScope s_is_row) := ⟨rfl, rfl, rfl, by decide +kernel, rfl, by decide +kernel, by decide +kernel⟩
theorem sc__is_line : FnScope ["thing", "mark"] ["thing"] (defScope s__is_line) := ⟨rfl, rfl, rfl, by decide +kernel, rfl, by decide +kernel, by decide +kernel⟩
theorem sc__need_lines : FnScope ["rows", "at", "row"] ["rows"] (defScope s__need_lines) := ⟨rfl, rfl, rfl, by decide +kernel, rfl, by decide +kernel, by decide +kernel⟩
theorem sc__many : FnScope ["cells", "marks", "mark"] ["cells", "marks"] (defScope s__many) := ⟨rfl, rfl, rfl, by decide +kernel, rfl, by decide +kernel, by decide +kernel⟩
theorem sc__is_whole_room : FnScope ["cells", "mark"] ["cells"] (defScope s__is_whole_room) := ⟨rfl, rfl, rfl, by decide +kernel, rfl, by decide +kernel, by decide +kernel⟩
theorem sc__places : FnScope ["cells", "mark", "cell"] ["cells", "mark"] (defScope s__places) := ⟨rfl, rfl, rfl, by decide +kernel, rfl, by decide +kernel, by decide +kernel⟩
theorem sc__neighbours : FnScope ["rows", "down", "across", "width", "found", "cell", "line", "place", "is_there"] ["rows", "down", "across"] (defScope s__neighbours) := ⟨rfl, rfl, rfl, by decide +kernel, rfl, by decide +kernel, by decide +kernel⟩
theorem sc_Room_init : FnScope ["self", "rows", "cells"] ["self", "rows"] (defScope s_Room_init) := ⟨rfl, rfl, rfl, by decide +kernel, rfl, by decide +kernel, by decide +kernel⟩
/-- built-ins and constants that stand -/
structure Rb (mg : Str → Option Value) : Prop extends Blt mg where
  n_str : mg "str" = none
  n_tuple : mg "tuple" = none
  n_max : mg "max" = none
  n_sum : mg "sum" = none
  n_enumerate : mg "enumerate" = none
  k_MARKS : ∃ t, mg "MARKS" = some (.str "#.^v<>abABoxpg*@12" t)
  k_MOST_LINES : ∃ t, mg "MOST_LINES" = some (.int 5 t)
  k_MOST_ACROSS : ∃ t, mg "MOST_ACROSS" = some (.int 6 t)
  k_MOST_CELLS : ∃ t, mg "MOST_CELLS" = some (.int 24 t)
  k_MOST_CRATES : ∃ t, mg "MOST_CRATES" = some (.int 3 t)
  k_MOST_KEYS_AND_DOORS : ∃ t, mg "MOST_KEYS_AND_DOORS" = some (.int 4 t)
theorem yes_of {σ : L2.St} {H : Hp} {R : Bool → Hp → Prop} (h : R true H) : tYes σ H R := h
section
variable {P : Program} {w : World} {K : PySem.W.Frag} {mg : Str → Option Value} {base : Heap}
def marksS : Str := "#.^v<>abABoxpg*@12"
/-- a row of a room -/
def lineS (s : Str) : Bool := decide (1 ≤ s.length) && (decide (s.length ≤ 6) && s.cps.toList.all fun c => decide (c ∈ marksS.cps.toList))
def spIsRow (K : PySem.W.Frag) : Sp := fun vs H Q _ => ∃ (v : V) (t : Value) (b : Bool), vs = [v] ∧ TyX K H v t ∧ (∀ H', Same H H' → TyX K H' v t) ∧ PySem.W.kitAny K t [.type "list", .type "tuple"] = some b ∧ ∀ H', Same H H' → Q (.bl b) H'
theorem ok_is_row {f : Addr} {fd : FuncData} (F : Fun K "is_row" "is_row" s_is_row f fd) (T : Rb mg) : FnG P w K mg base (CXe P w) 1 f fd ["thing"] (spIsRow K) := by
  refine F.okG sc_is_row (fun vs H Q E h => ?_) (fun cdv A outer s H vs Q E hgd hr h => ?_)
  · obtain ⟨v, t, b, rfl, _⟩ := h; rfl
  · obtain ⟨v, t, b, rfl, ty, tyk, e, k⟩ := h
    refine ⟨_, (pss_one (ps_ret (pe_callB call_isiT (by rfl) T.n_isinstance (by decide +kernel) (pa_cons (pv 0) (pa_cons (pe_tupA (pa_cons (pe_bltn (v := .ty "list") (u := .type "list") rfl T.n_list (by decide +kernel) rfl) (pa_cons (pe_bltn (v := .ty "tuple") (u := .type "tuple") rfl T.n_tuple (by decide +kernel) rfl) pa_nil))) pa_nil))))), ?_⟩
    walk_at "rd"
    refine And.intro (Nat.le_of_ble_eq_true rfl) (fun p H1 n1 => ?_)
    exact ⟨v, p, _, t, _, b, rfl, n1.at_, .cons (.ty _) (.cons (.ty _) .nil), tyk _ n1.same, e, k _ n1.same⟩
def spIsLine (K : PySem.W.Frag) : Sp := fun vs H Q _ => ∃ (v : V) (t : Value) (b : Bool), vs = [v] ∧ TyX K H v t ∧ PySem.W.kitOne K t (.type "str") = some b ∧ (b = false → Q (.bl false) H) ∧ (b = true → ∃ s, v = .str s ∧ s.length ≤ sizeLine ∧ Q (.bl (lineS s)) H)
theorem ok_is_line {f : Addr} {fd : FuncData} (F : Fun K "_is_line" "_is_line" s__is_line f fd) (T : Rb mg) : FnG P w K mg base (CXe P w) 1 f fd ["thing"] (spIsLine K) := by
  refine F.okG sc__is_line (fun vs H Q E h => ?_) (fun cdv A outer s H vs Q E hgd hr h => ?_)
  · obtain ⟨v, t, b, rfl, _⟩ := h; rfl
  · obtain ⟨v, t, b, rfl, ty, e, k0, k1⟩ := h
    refine ⟨_, (pss_cons (ps_if (PW.pt (pw_or (pt_not (pt_val (pe_callB call_isi (by rfl) T.n_isinstance (by decide +kernel) (pa_cons (pv 0) (pa_cons (pe_bltn (v := .ty "str") (u := .type "str") rfl T.n_str (by decide +kernel) rfl) pa_nil))))) (pw_or1 (pt_not (pt_chain op_le op_le pe_int (pe_callB call_len_str (by rfl) T.n_len (by decide +kernel) (pa_cons (pv 0) pa_nil)) (pe_glob (v := .int 6) rfl (Exists.choose_spec T.k_MOST_ACROSS) ⟨_, rfl⟩)))))) (pss_one (ps_ret pe_bl)) pss_nil)
      (pss_cons (ps_for (passes_of rfl) rfl (pi_str (pv 0)) (pg_name (i := 1) sc__is_line.nd rfl (Or.inl rfl))
      (pss_one (ps_if (pt_cmpR op_notIn_sign (pv 1) (pe_glob (v := .str "#.^v<>abABoxpg*@12") rfl (Exists.choose_spec T.k_MARKS) ⟨_, rfl⟩) (by rfl)) (pss_one (ps_ret pe_bl)) pss_nil)))
      (pss_one (ps_ret pe_bl)))), ?_⟩
    refine ⟨_, rfl, _, _, _, _, _, rfl, .ty _, ty, e, _, rfl, ?_⟩
    cases b with
    | false => exact iteT (k0 rfl)
    | true =>
      obtain ⟨s, rfl, hs, k⟩ := k1 rfl
      refine iteF ?_
      walk_at "rd"
      refine ite2 (fun h1 => ?_) (fun h1 => ?_)
      · refine ⟨_, _, rfl, rfl, ?_⟩
        refine ⟨_, rfl, ?_⟩
        have l1 : 1 ≤ s.length := by have : (1 : Int) ≤ (s.length : Int) := by simpa using h1
                                     omega
        refine ite2 (fun h2 => ?_) (fun h2 => ?_)
        · have e : lineS s = false := by
            have : ¬ s.length ≤ 6 := by
              have : ¬ (s.length : Int) ≤ 6 := by simpa using h2
              omega
            simp [lineS, this]
          rw [← e]; exact k
        · have l2 : s.length ≤ 6 := by
            have : (s.length : Int) ≤ 6 := by simpa using h2
            omega
          refine ⟨_, rfl, s, rfl, for_it walk_str (fun i σ H' => H' = H ∧ (∃ o, σ = [some (.str s), o]) ∧ (s.cps.toList.take i).all (fun c => decide (c ∈ marksS.cps.toList)) = true) ⟨rfl, ⟨none, rfl⟩, by simp⟩ (fun _ _ _ _ _ => trivial) ?_ ?_⟩
          · rintro i x σ H1 H' hi ⟨rfl, ⟨o, rfl⟩, ha⟩ ⟨rfl, c, hc, rfl⟩
            walk_at "rd"
            have ht : s.cps.toList.take (i + 1) = s.cps.toList.take i ++ [c] := by
              have : s.cps.toList[i]? = some c := by simpa using hc
              rw [List.take_add_one, this]; rfl
            refine ite2 (fun h3 => ?_) (fun h3 => ?_)
            · have hm : ¬ c ∈ marksS.cps.toList := by simpa [marksS] using h3
              have e : lineS s = false := by
                have : s.cps.toList.all (fun c => decide (c ∈ marksS.cps.toList)) = false := by
                  rw [List.all_eq_false]
                  refine ⟨c, ?_, by simpa using hm⟩
                  exact List.mem_of_getElem? (by simpa using hc)
                unfold lineS
                rw [this, Bool.and_false, Bool.and_false]
              have := k
              rw [e] at this
              exact this
            · have hm : c ∈ marksS.cps.toList := by simpa [marksS] using h3
              exact ⟨rfl, ⟨_, rfl⟩, by rw [ht, List.all_append, ha]; simpa using hm⟩
          · rintro σ H' ⟨rfl, ⟨o, rfl⟩, ha⟩
            have e : lineS s = true := by
              have z : s.cps.toList.all (fun c => decide (c ∈ marksS.cps.toList)) = true := by
                have : s.cps.toList.take s.cps.size = s.cps.toList := List.take_of_length_le (by simp)
                rwa [this] at ha
              have a1 : decide (1 ≤ s.length) = true := by simpa using l1
              have a2 : decide (s.length ≤ 6) = true := by simpa using l2
              unfold lineS
              rw [a1, a2, z]; rfl
            have := k
            rw [e] at this
            exact this
      · have e : lineS s = false := by
          have : ¬ 1 ≤ s.length := by
            have : ¬ (1 : Int) ≤ (s.length : Int) := by simpa using h1
            omega
          simp [lineS, this]
        have := k
        rw [e] at this
        exact ⟨_, rfl, iteT this⟩
/-- how many of these signs there are -/
def manyZ (z m : Str) : Int := (m.cps.toList.map fun c => Txt.count z ⟨#[c]⟩).sum
def spMany : Sp := fun vs H Q _ => ∃ (z m : Str), vs = [.str z, .str m] ∧ m.length ≤ 1000 ∧ ∀ H', Same H H' → Q (.int (manyZ z m)) H'
theorem ok_many {f : Addr} {fd : FuncData} (F : Fun K "_many" "_many" s__many f fd) (T : Rb mg) : FnG P w K mg base (CXe P w) 1 f fd ["cells", "marks"] spMany := by
  refine F.okG sc__many (fun vs H Q E h => ?_) (fun cdv A outer s H vs Q E hgd hr h => ?_)
  · obtain ⟨z, m, rfl, _⟩ := h; rfl
  · obtain ⟨z, m, rfl, hm, k⟩ := h
    refine ⟨_, (pss_one (ps_ret (pe_callB (cr_sum rfl) (by rfl) T.n_sum (by decide +kernel) (pa_cons (pe_lc (own := [("mark", 2)]) (g := gName 2) (tt := tYes) rfl sc__many.nd (pi_str (pv 1)) (blkOk_by (own := [("mark", 2)]) (N := ["cells", "marks", "mark"]) (sc := defScope s__many) (by decide +kernel)) (fun _ _ _ _ _ => pg_name (i := 2) sc__many.nd rfl (Or.inl rfl)) (fun _ _ _ _ _ => pts_nil) (fun _ _ _ _ _ => (pe_m1 PySem.F.slot_str_count PySem.F.type_str_count mt_count (pv 0) (pv 2)))) pa_nil)))), ?_⟩
    walk_at "rd"
    refine fun D hD => lc_it walk_str (fun i H' => ∃ acc : List Int, H' D = some (.lst (acc.map V.int)) ∧ acc = (m.cps.toList.take i).map (fun c => Txt.count z ⟨#[c]⟩) ∧ Off (fun b => b = D) H H') ⟨[], upd_same, by simp, Off.new hD⟩ (fun _ _ _ _ => trivial) ?_ ?_
    · rintro i x H1 H2 hi ⟨acc, hacc, hv, off⟩ ⟨rfl, c, hc, rfl⟩
      refine And.intro rfl (yes_of ?_)
      refine iteT ?_
      refine ⟨_, rfl, ⟨_, rfl⟩, _, rfl, z, ⟨#[c]⟩, rfl, rfl, acc.map V.int, hacc, ?_, acc ++ [Txt.count z ⟨#[c]⟩], ?_, ?_, off.trans (Off.mut rfl)⟩
      · have : acc.length ≤ m.length := by
          rw [hv, List.length_map, List.length_take]
          exact Nat.le_trans (Nat.min_le_left _ _) (Nat.le_of_lt hi)
        rw [List.length_map]
        exact small1000 (by omega)
      · rw [upd_same, List.map_append]; rfl
      · have ht : m.cps.toList.take (i + 1) = m.cps.toList.take i ++ [c] := by
          have : m.cps.toList[i]? = some c := by simpa using hc
          rw [List.take_add_one, this]; rfl
        rw [ht, List.map_append, ← hv]; rfl
    · rintro H1 ⟨acc, hacc, hv, off⟩
      refine ⟨D, acc, rfl, SqL.of hacc, ?_⟩
      have : m.cps.toList.take m.cps.size = m.cps.toList := List.take_of_length_le (by simp)
      rw [this] at hv
      rw [hv]
      exact k _ fun b o e => off b o (fun y => by rw [y, hD] at e; cases e) e
/-- the signs of all rows, one behind another, are those of a room -/
def wholeZ (z : Str) : Bool := (!(decide ((z.length : Int) > 24) || !decide (Txt.count z "@" = 1))) && ((!(decide (Txt.count z "*" > 1) || (decide (Txt.count z "1" > 1) || decide (Txt.count z "2" > 1)) || (decide (50 ∈ z.cps.toList) && !decide (49 ∈ z.cps.toList)))) &&
  (decide (Txt.count z "o" ≤ 3) && decide (manyZ z "abAB" ≤ 4)))
def spWR : Sp := fun vs H Q _ => ∃ (z : Str), vs = [.str z] ∧ z.length ≤ sizeLine ∧ ∀ H', Same H H' → Q (.bl (wholeZ z)) H'
theorem ok_whole_room {f : Addr} {fd : FuncData} (F : Fun K "_is_whole_room" "_is_whole_room" s__is_whole_room f fd) (T : Rb mg) (c__many : CalG P w K mg base 1 "_many" spMany) : FnG P w K mg base (CXe P w) 2 f fd ["cells"] spWR := by
  refine F.okG sc__is_whole_room (fun vs H Q E h => ?_) (fun cdv A outer s H vs Q E hgd hr h => ?_)
  · obtain ⟨z, rfl, _⟩ := h; rfl
  · obtain ⟨z, rfl, hz, k⟩ := h
    refine ⟨_, (pss_cons (ps_if (PW.pt (pw_or (pt_cmpR op_gt (pe_callB call_len_str (by rfl) T.n_len (by decide +kernel) (pa_cons (pv 0) pa_nil)) (pe_glob (v := .int 24) rfl (Exists.choose_spec T.k_MOST_CELLS) ⟨_, rfl⟩) (nomark _)) (pw_or1 (pt_cmpR op_ne (pe_m1 PySem.F.slot_str_count PySem.F.type_str_count mt_count (pv 0) pe_str) pe_int (nomark _))))) (pss_one (ps_ret pe_bl)) pss_nil)
      (pss_cons (ps_if (PW.pt (pw_or (pt_cmpR op_gt (pe_callB (cr_max rfl) (by rfl) T.n_max (by decide +kernel) (pa_cons (pe_lc (own := [("mark", 1)]) (g := gName 1) (tt := tYes) rfl sc__is_whole_room.nd (pi_str pe_str) (blkOk_by (own := [("mark", 1)]) (N := ["cells", "mark"]) (sc := defScope s__is_whole_room) (by decide +kernel)) (fun _ _ _ _ _ => pg_name (i := 1) sc__is_whole_room.nd rfl (Or.inl rfl)) (fun _ _ _ _ _ => pts_nil) (fun _ _ _ _ _ => (pe_m1 PySem.F.slot_str_count PySem.F.type_str_count mt_count (pv 0) (pv 1)))) pa_nil)) pe_int (nomark _)) (pw_or1 (PW.pt (pw_and (pt_cmpR op_in_sign pe_str (pv 0) (by rfl)) (pw_and1 (pt_cmpR op_notIn_sign pe_str (pv 0) (by rfl)))))))) (pss_one (ps_ret pe_bl)) pss_nil)
      (pss_one (ps_ret (pe_and (pe_cmpR op_le (pe_m1 PySem.F.slot_str_count PySem.F.type_str_count mt_count (pv 0) pe_str) (pe_glob (v := .int 3) rfl (Exists.choose_spec T.k_MOST_CRATES) ⟨_, rfl⟩) (nomark _)) (pe_one (pe_cmpR op_le (pg_c c__many hgd hr (by decide) (pa_cons (pv 0) (pa_cons pe_str pa_nil))) (pe_glob (v := .int 4) rfl (Exists.choose_spec T.k_MOST_KEYS_AND_DOORS) ⟨_, rfl⟩) (nomark _)))))))), ?_⟩
    have kf : wholeZ z = false → ∀ H', Same H H' → Q (.bl false) H' := fun e H' s' => by
      have := k H' s'
      rwa [e] at this
    walk_at "rd"
    refine ite2 (fun h1 => ?_) (fun h1 => ?_)
    · refine iteT (kf ?_ _ (Same.refl _))
      have h1' : decide ((z.length : Int) > 24) = true := by simpa using h1
      unfold wholeZ
      rw [h1']; rfl
    have h1' : decide ((z.length : Int) > 24) = false := by simpa using h1
    refine ⟨_, rfl, ⟨_, rfl⟩, z, "@", rfl, rfl, ?_⟩
    walk_at "rd"
    refine ite2 (fun h2 => ?_) (fun h2 => ?_)
    · refine kf ?_ _ (Same.refl _)
      have h2' : decide (Txt.count z "@" = 1) = false := by simpa using h2
      unfold wholeZ
      rw [h1', h2']; rfl
    have h2' : decide (Txt.count z "@" = 1) = true := by simpa using h2
    walk_at "rd"
    refine fun D hD => lc_it walk_str (fun i H' => ∃ acc : List Int, H' D = some (.lst (acc.map V.int)) ∧ acc = ((("*12" : Str).cps.toList.take i).map fun c => Txt.count z ⟨#[c]⟩) ∧ Off (fun b => b = D) H H') ⟨[], upd_same, by simp, Off.new hD⟩ (fun _ _ _ _ => trivial) ?_ ?_
    · rintro i x H1 H2 hi ⟨acc, hacc, hv, off⟩ ⟨rfl, c, hc, rfl⟩
      refine And.intro rfl (yes_of ?_)
      refine iteT ?_
      refine ⟨_, rfl, ⟨_, rfl⟩, _, rfl, z, ⟨#[c]⟩, rfl, rfl, acc.map V.int, hacc, ?_, acc ++ [Txt.count z ⟨#[c]⟩], ?_, ?_, off.trans (Off.mut rfl)⟩
      · have : acc.length ≤ 3 := by
          rw [hv, List.length_map, List.length_take]
          exact Nat.min_le_right _ _
        rw [List.length_map]
        exact small1000 (by omega)
      · rw [upd_same, List.map_append]; rfl
      · have ht : ("*12" : Str).cps.toList.take (i + 1) = ("*12" : Str).cps.toList.take i ++ [c] := by
          have : ("*12" : Str).cps.toList[i]? = some c := by simpa using hc
          rw [List.take_add_one, this]; rfl
        rw [ht, List.map_append, ← hv]; rfl
    · rintro H1 ⟨acc, hacc, hv, off⟩
      have hv' : acc = [Txt.count z "*", Txt.count z "1", Txt.count z "2"] := by
        rw [hv]
        have : ("*12" : Str).cps.toList.take ("*12" : Str).cps.size = [42, 49, 50] := by decide +kernel
        rw [this]; rfl
      have s1 : Same H H1 := fun b o e => off b o (fun y => by rw [y, hD] at e; cases e) e
      refine ⟨D, acc, rfl, SqL.of hacc, by rw [hv']; exact Nat.zero_lt_succ _, fun mx hm hle => ?_⟩
      rw [hv'] at hm hle
      have hb : decide (1 < mx) = (decide (Txt.count z "*" > 1) || (decide (Txt.count z "1" > 1) || decide (Txt.count z "2" > 1))) := by
        have q1 := hle (Txt.count z "*") (by simp)
        have q2 := hle (Txt.count z "1") (by simp)
        have q3 := hle (Txt.count z "2") (by simp)
        by_cases h3 : 1 < mx
        · have : Txt.count z "*" > 1 ∨ Txt.count z "1" > 1 ∨ Txt.count z "2" > 1 := by
            simp only [List.mem_cons, List.not_mem_nil, or_false] at hm
            rcases hm with rfl | rfl | rfl
            · exact .inl h3
            · exact .inr (.inl h3)
            · exact .inr (.inr h3)
          rw [decide_eq_true h3]
          rcases this with h | h | h <;> simp [h]
        · rw [decide_eq_false h3, decide_eq_false (by omega), decide_eq_false (by omega), decide_eq_false (by omega)]; rfl
      walk_at "rd"
      refine ite2 (fun h3 => ?_) (fun h3 => ?_)
      · refine iteT (kf ?_ _ s1)
        have h3' : decide (1 < mx) = true := h3
        unfold wholeZ
        rw [h1', h2', ← hb, h3']; rfl
      have h3' : decide (1 < mx) = false := by simpa using h3
      refine ⟨_, rfl, 50, z, rfl, rfl, _, rfl, ?_⟩
      refine ite2 (fun h4 => ?_) (fun h4 => ?_)
      · have h4' : decide (50 ∈ z.cps.toList) = true := h4
        refine ⟨_, rfl, 49, z, rfl, rfl, _, rfl, ?_⟩
        refine ite2 (fun h5 => ?_) (fun h5 => ?_)
        · have h5' : decide (49 ∈ z.cps.toList) = false := by simpa using h5
          refine kf ?_ _ s1
          unfold wholeZ
          rw [h1', h2', ← hb, h3', h4', h5']; rfl
        · have hc : (decide (50 ∈ z.cps.toList) && !decide (49 ∈ z.cps.toList)) = false := by
            have h5' : decide (49 ∈ z.cps.toList) = true := by simpa using h5
            rw [h4', h5']; rfl
          refine ⟨_, rfl, ⟨_, rfl⟩, z, "o", rfl, rfl, ?_⟩
          walk_at "rd"
          refine ite2 (fun h6 => ?_) (fun h6 => ?_)
          · have h6' : decide (Txt.count z "o" ≤ 3) = true := h6
            walk_at "rd"
            refine ⟨z, "abAB", rfl, by decide +kernel, fun H2 s2 => ?_⟩
            walk_at "rd"
            have := k H2 (s1.trans s2)
            unfold wholeZ at this
            rw [h1', h2', ← hb, h3', hc, h6'] at this
            exact this
          · have h6' : decide (Txt.count z "o" ≤ 3) = false := by simpa using h6
            refine kf ?_ _ s1
            unfold wholeZ
            rw [h1', h2', ← hb, h3', hc, h6']; rfl
      · have hc : (decide (50 ∈ z.cps.toList) && !decide (49 ∈ z.cps.toList)) = false := by
          have h4' : decide (50 ∈ z.cps.toList) = false := by simpa using h4
          rw [h4']; rfl
        refine ⟨_, rfl, ⟨_, rfl⟩, z, "o", rfl, rfl, ?_⟩
        walk_at "rd"
        refine ite2 (fun h6 => ?_) (fun h6 => ?_)
        · have h6' : decide (Txt.count z "o" ≤ 3) = true := h6
          walk_at "rd"
          refine ⟨z, "abAB", rfl, by decide +kernel, fun H2 s2 => ?_⟩
          walk_at "rd"
          have := k H2 (s1.trans s2)
          unfold wholeZ at this
          rw [h1', h2', ← hb, h3', hc, h6'] at this
          exact this
        · have h6' : decide (Txt.count z "o" ≤ 3) = false := by simpa using h6
          refine kf ?_ _ s1
          unfold wholeZ
          rw [h1', h2', ← hb, h3', hc, h6']; rfl
end
end K03
end
section
set_option Elab.async false
set_option linter.all false
set_option maxRecDepth 100000
set_option maxHeartbeats 2000000
namespace K03
open PySem L2
local macro_rules | `(tactic| walk_at "hp") => `(tactic| first | assumption | exact upd_same | (refine (upd_ne (by first | assumption | (apply Ne.symm; assumption))).trans ?_; walk_at "hp"))
local macro_rules | `(tactic| walk_at "rd1") => `(tactic| first
  | (refine ⟨_, rfl, ?_⟩)
  | (refine ⟨_, _, rfl, rfl, ?_⟩)
  | (refine ⟨(rfl : scal _ _ = true), ?_⟩)
  | (refine And.intro (by show (0 : Int) < _; decide) ?_)
  | (refine And.intro (And.intro (by decide) (by decide)) ?_)
  | (refine And.intro (by assumption) ?_)
  | (refine Or.inl ⟨_, rfl, ?_⟩))
local macro_rules | `(tactic| walk_at "rd") => `(tactic| repeat walk_at "rd1")
section
variable {P : Program} {w : World} {K : PySem.W.Frag} {mg : Str → Option Value} {base : Heap}
/-- where this sign stands, ascending, up to the n-th sign -/
def placesL (z : Str) (c n : Nat) : List Int := ((List.range n).filter fun i => decide (z.cps[i]? = some c)).map Int.ofNat
theorem placesL_le (z : Str) (c n : Nat) : (placesL z c n).length ≤ n := by
  unfold placesL
  rw [List.length_map]
  exact Nat.le_trans (List.length_filter_le _ _) (Nat.le_of_eq List.length_range)
theorem placesL_yes {z : Str} {c n : Nat} (h : z.cps[n]? = some c) : placesL z c (n + 1) = placesL z c n ++ [(n : Int)] := by
  unfold placesL
  rw [List.range_succ, List.filter_append, List.map_append]
  simp [h]
theorem placesL_no {z : Str} {c n : Nat} (h : ¬ z.cps[n]? = some c) : placesL z c (n + 1) = placesL z c n := by
  unfold placesL
  rw [List.range_succ, List.filter_append, List.map_append]
  simp [h]
def spPlaces : Sp := fun vs H Q _ => ∃ (z : Str) (c : Nat), vs = [.str z, .str ⟨#[c]⟩] ∧ z.length ≤ 1000 ∧ ∀ t H', H t = none → Same H H' → H' t = some (.tup ((placesL z c z.length).map V.int)) → Q (.ref t) H'
theorem ok_places {f : Addr} {fd : FuncData} (F : Fun K "_places" "_places" s__places f fd) (T : Rb mg) : FnG P w K mg base (CXe P w) 1 f fd ["cells", "mark"] spPlaces := by
  refine F.okG sc__places (fun vs H Q E h => ?_) (fun cdv A outer s H vs Q E hgd hr h => ?_)
  · obtain ⟨z, c, rfl, _⟩ := h; rfl
  · obtain ⟨z, c, rfl, hz, k⟩ := h
    refine ⟨_, (pss_one (ps_ret (pe_callTy call_tuple_of (by rfl) T.n_tuple (by decide +kernel) (pa_cons (pe_lc (own := [("cell", 2)]) (g := gName 2) rfl sc__places.nd (pi_range1 (by rfl) T.n_range (pa_cons (pe_callB call_len_str (by rfl) T.n_len (by decide +kernel) (pa_cons (pv 0) pa_nil)) pa_nil)) (blkOk_by (own := [("cell", 2)]) (N := ["cells", "mark", "cell"]) (sc := defScope s__places) (by decide +kernel)) (fun _ _ _ _ _ => pg_name (i := 2) sc__places.nd rfl (Or.inl rfl)) (fun _ _ _ _ _ => pts_one (pt_cmpR op_eq (pe_ix ix_str (pv 0) (pv 2) (fun _ _ => rfl)) (pv 1) (nomark _))) (fun _ _ _ _ _ => (pv 2))) pa_nil)))), ?_⟩
    walk_at "rd"
    refine And.intro (Nat.le_trans hz (by decide)) ?_
    refine ⟨_, rfl, by omega, by omega, ?_⟩
    rw [Int.toNat_natCast]
    refine fun D hD => lc_it walk_range (fun i H' => H' D = some (.lst ((placesL z c i).map V.int)) ∧ Off (fun b => b = D) H H') ⟨upd_same, Off.new hD⟩ (fun _ _ _ _ => trivial) ?_ ?_
    · rintro i x H1 H2 hi ⟨hacc, off⟩ ⟨rfl, rfl⟩
      refine And.intro rfl ?_
      obtain ⟨ci, hci⟩ : ∃ ci, z.cps[i]? = some ci := ⟨z.cps[i]'hi, Array.getElem?_eq_getElem hi⟩
      refine ⟨_, rfl, _, rfl, z, 0 + (i : Int), ci, rfl, rfl, Nat.le_trans hz (by decide), ?_, _, rfl, (rfl : scal _ _ = true), ?_⟩
      · have := atI_nat (xs := z.cps.toList) (j := i) (v := ci) (by simpa using hci)
        rwa [show (0 : Int) + (i : Int) = (i : Int) by omega]
      refine ⟨_, rfl, ?_⟩
      refine ite2 (fun h1 => ?_) (fun h1 => ?_)
      · have hc : ci = c := by simpa using h1
        subst hc
        refine ⟨_, rfl, _, hacc, ?_, ?_, off.trans (Off.mut rfl)⟩
        · rw [List.length_map]
          exact small1000 (Nat.le_trans (placesL_le z _ i) (by have := hi; have : i < z.length := hi; omega))
        · rw [upd_same, placesL_yes hci, List.map_append]
          simp
      · have hc : ¬ ci = c := by simpa using h1
        exact ⟨by rw [placesL_no (by rw [hci]; simpa using hc)]; exact hacc, off⟩
    · rintro H1 ⟨hacc, off⟩
      have s1 : Same H H1 := fun b o e => off b o (fun y => by rw [y, hD] at e; cases e) e
      refine ⟨D, _, rfl, .inl ⟨SqL.of hacc, fun t ht => ?_⟩⟩
      exact k t _ (s1.free ht) (fun b o e => by rw [upd_ne (ne_of_none (s1 _ _ e) ht)]; exact s1 _ _ e) upd_same
/-- rows as a room has them: each of this width -/
structure RowsOk (rows : List Str) (wd : Nat) : Prop where
  h1 : 1 ≤ rows.length
  h5 : rows.length ≤ 5
  w1 : 1 ≤ wd
  w6 : wd ≤ 6
  al : ∀ r ∈ rows, r.length = wd
def codeAt (rows : List Str) (l p : Nat) : Option Nat := (rows[l]?).bind fun r => r.cps[p]?
/-- the cell beside the i-th, this much down and across, or -1 -/
def neigh (rows : List Str) (wd : Nat) (d a : Int) (i : Nat) : Int :=
  if (0 ≤ ((i / wd : Nat) : Int) + d ∧ ((i / wd : Nat) : Int) + d < rows.length) ∧ (0 ≤ ((i % wd : Nat) : Int) + a ∧ ((i % wd : Nat) : Int) + a < wd) ∧ codeAt rows (((i / wd : Nat) : Int) + d).toNat (((i % wd : Nat) : Int) + a).toNat ≠ some 35
  then (((i / wd : Nat) : Int) + d) * wd + (((i % wd : Nat) : Int) + a) else -1
def neighL (rows : List Str) (wd : Nat) (d a : Int) (n : Nat) : List Int := (List.range n).map (neigh rows wd d a)
def spNeigh (K : PySem.W.Frag) : Sp := fun vs H Q _ => ∃ (t : Addr) (rows : List Str) (wd : Nat) (d a : Int), vs = [.ref t, .int d, .int a] ∧ RowsOk rows wd ∧ H t = some (.tup (rows.map V.str)) ∧ -1 ≤ d ∧ d ≤ 1 ∧ -1 ≤ a ∧ a ≤ 1 ∧
  ∀ q H', H q = none → Same H H' → H' q = some (.tup ((neighL rows wd d a (rows.length * wd)).map V.int)) → Q (.ref q) H'
theorem ok_neigh {f : Addr} {fd : FuncData} (F : Fun K "_neighbours" "_neighbours" s__neighbours f fd) (T : Rb mg) : FnG P w K mg base (CXe P w) 1 f fd ["rows", "down", "across"] (spNeigh K) := by
  refine F.okG sc__neighbours (fun vs H Q E h => ?_) (fun cdv A outer s H vs Q E hgd hr h => ?_)
  · obtain ⟨t, rows, wd, d, a, rfl, _⟩ := h; rfl
  · obtain ⟨t, rows, wd, d, a, rfl, R, ht, d1, d2, a1, a2, k⟩ := h
    refine ⟨_, (pss_cons (ps_set (i := 3) sc__neighbours.nd rfl (Or.inl rfl) (pe_callB call_len_str (by rfl) T.n_len (by decide +kernel) (pa_cons (pe_ix ix_tup (pv 0) pe_int (fun _ _ => rfl)) pa_nil)))
      (pss_cons (ps_set (i := 4) sc__neighbours.nd rfl (Or.inl rfl) (pe_lstA pa_nil))
      (pss_cons (ps_for (passes_of rfl) rfl (pi_range1 (by rfl) T.n_range (pa_cons (pe_op op_mul (pe_callB call_len_seq (by rfl) T.n_len (by decide +kernel) (pa_cons (pv 0) pa_nil)) (pv 3)) pa_nil)) (pg_name (i := 5) sc__neighbours.nd rfl (Or.inl rfl))
      (pss_cons (ps_par (i := 6) (j := 7) (by rfl) sc__neighbours.nd rfl rfl (by decide) rfl rfl (pa_cons (pe_op op_add (pe_op op_fdivN (pv 5) (pv 3)) (pv 1)) (pa_cons (pe_op op_add (pe_op op_mod (pv 5) (pv 3)) (pv 2)) pa_nil)) (by rfl))
      (C8.pss_cut (ps_set (i := 8) sc__neighbours.nd rfl (Or.inl rfl) (pe_and (pe_chain op_le op_lt pe_int (pv 6) (pe_callB call_len_seq (by rfl) T.n_len (by decide +kernel) (pa_cons (pv 0) pa_nil))) (pe_and (pe_chain op_le op_lt pe_int (pv 7) (pv 3)) (pe_one (pe_cmpR op_ne (pe_ix ix_str (pe_ix ix_tup (pv 0) (pv 6) (fun _ _ => rfl)) (pv 7) (fun _ _ => rfl)) pe_str (nomark _))))))
      (pss_one (ps_expr (pe_bm PySem.F.plainAttrs_list PySem.F.slot_list_append PySem.F.type_list_append mt_append (pv 4) (pa_cons (pe_ifExp (pt_val (pv 8)) (pe_op op_add (pe_op op_mul (pv 6) (pv 3)) (pv 7)) (pe_un un_neg pe_int)) pa_nil)))))))
      (pss_one (ps_ret (pe_callTy call_tuple_of (by rfl) T.n_tuple (by decide +kernel) (pa_cons (pv 4) pa_nil))))))), ?_⟩
    obtain ⟨r0, rest, hrows⟩ : ∃ r0 rest, rows = r0 :: rest := by
      have := R.h1
      cases rows with
      | nil => cases this
      | cons x y => exact ⟨x, y, rfl⟩
    have l0 : r0.length = wd := R.al r0 (by rw [hrows]; simp)
    walk_at "rd"
    refine ⟨t, _, 0, .str r0, rfl, rfl, SqT.of ht, atI_nat (xs := rows.map V.str) (j := 0) (v := .str r0) (by rw [hrows]; rfl), ?_⟩
    walk_at "rd"
    refine And.intro (by rw [l0]; have := R.w6; exact Nat.le_of_lt (small1000 (by omega))) ?_
    rw [l0]
    refine And.intro (Nat.le_of_ble_eq_true rfl) (fun D H1 n1 => ?_)
    have ht1 := n1.same _ _ ht
    walk_at "rd"
    refine ⟨t, _, rfl, .inr (SqT.of ht1), ?_⟩
    rw [List.length_map]
    walk_at "rd"
    have b5 := R.h5
    have b6 := R.w6
    have bw := R.w1
    have bn : rows.length * wd ≤ 5 * 6 := Nat.mul_le_mul b5 b6
    refine And.intro (.inl ⟨by omega, by omega⟩) ?_
    have en : (rows.length : Int) * (wd : Int) = ((rows.length * wd : Nat) : Int) := by simp
    refine ⟨((rows.length * wd : Nat) : Int), by rw [← en], by omega, by omega, ?_⟩
    rw [Int.toNat_natCast]
    refine for_range (n := rows.length * wd) (fun i σ H' => ∃ (cv lv pv iv : Option V), σ = [some (.ref t), some (.int d), some (.int a), some (.int wd), some (.ref D), cv, lv, pv, iv] ∧ H' D = some (.lst ((neighL rows wd d a i).map V.int)) ∧ Off (fun b => b = D) H1 H') ⟨none, none, none, none, rfl, n1.at_, Off.refl _⟩ ?_ ?_
    · rintro i σ H2 hi ⟨cv, lv, pv, iv, rfl, hacc, off⟩
      have hD2 : ∀ b o, H b = some o → H2 b = some o := fun b o e => off b o (fun y => by rw [y, n1.free] at e; cases e) (n1.same _ _ e)
      have ht2 := hD2 _ _ ht
      have eL : (0 + (i : Int)).fdiv (wd : Int) = ((i / wd : Nat) : Int) := by
        rw [Int.fdiv_eq_ediv_of_nonneg _ (by omega), show (0 : Int) + (i : Int) = (i : Int) by omega]
        exact (Int.natCast_ediv i wd).symm
      have eP : (0 + (i : Int)) % (wd : Int) = ((i % wd : Nat) : Int) := by
        rw [show (0 : Int) + (i : Int) = (i : Int) by omega]
        exact (Int.natCast_emod i wd).symm
      walk_at "rd"
      refine And.intro (And.intro (by omega) (by omega)) ?_
      walk_at "rd"
      refine And.intro (by omega) ?_
      walk_at "rd"
      obtain ⟨L, hL⟩ : ∃ L : Int, L = ((i / wd : Nat) : Int) + d := ⟨_, rfl⟩
      obtain ⟨Pp, hP⟩ : ∃ Pp : Int, Pp = ((i % wd : Nat) : Int) + a := ⟨_, rfl⟩
      refine ⟨.int L, .int Pp, (by show [V.int ((0 + (i : Int)).fdiv wd + d), V.int ((0 + (i : Int)) % wd + a)] = _; rw [eL, eP, ← hL, ← hP]), ?_⟩
      obtain ⟨Cp, hC⟩ : ∃ C : Bool, C = decide ((0 ≤ L ∧ L < rows.length) ∧ (0 ≤ Pp ∧ Pp < wd) ∧ codeAt rows L.toNat Pp.toNat ≠ some 35) := ⟨_, rfl⟩
      have hNo : ¬ ((0 ≤ L ∧ L < rows.length) ∧ (0 ≤ Pp ∧ Pp < wd) ∧ codeAt rows L.toNat Pp.toNat ≠ some 35) → Cp = false := fun z => by rw [hC]; exact decide_eq_false z
      refine ⟨fun σ' H' => H' = H2 ∧ σ' = [some (.ref t), some (.int d), some (.int a), some (.int wd), some (.ref D), some (.int (0 + (i : Nat))), some (.int L), some (.int Pp), some (.bl Cp)], ?_, ?_⟩
      · walk_at "rd"
        refine ite2 (fun q1 => ?_) (fun q1 => ?_)
        · have q1' : 0 ≤ L := by simpa using q1
          refine ⟨_, rfl, t, _, rfl, .inr (SqT.of ht2), _, _, rfl, rfl, _, rfl, ?_⟩
          rw [List.length_map]
          refine ite2 (fun q2 => ?_) (fun q2 => ?_)
          · have q2' : L < rows.length := by simpa using q2
            walk_at "rd"
            refine ite2 (fun q3 => ?_) (fun q3 => ?_)
            · have q3' : 0 ≤ Pp := by simpa using q3
              refine ⟨_, rfl, _, _, rfl, rfl, _, rfl, ?_⟩
              refine ite2 (fun q4 => ?_) (fun q4 => ?_)
              · have q4' : Pp < wd := by simpa using q4
                obtain ⟨r, hr⟩ : ∃ r, rows[L.toNat]? = some r := ⟨_, List.getElem?_eq_getElem (by omega)⟩
                have lr : r.length = wd := R.al r (List.mem_of_getElem? hr)
                obtain ⟨ci, hci⟩ : ∃ ci, r.cps[Pp.toNat]? = some ci := ⟨_, Array.getElem?_eq_getElem (by show Pp.toNat < r.length; omega)⟩
                refine ⟨_, rfl, _, rfl, t, _, L, .str r, rfl, rfl, SqT.of ht2, ?_, _, rfl, r, Pp, ci, rfl, rfl, by rw [lr]; exact Nat.le_of_lt (small1000 (by omega)), ?_, ?_⟩
                · have := atI_nat (xs := rows.map V.str) (j := L.toNat) (v := .str r) (by rw [List.getElem?_map, hr]; rfl)
                  rwa [Int.toNat_of_nonneg q1'] at this
                · have := atI_nat (xs := r.cps.toList) (j := Pp.toNat) (v := ci) (by simpa using hci)
                  rwa [Int.toNat_of_nonneg q3'] at this
                refine ⟨(rfl : scal _ _ = true), ?_⟩
                have e : Cp = !decide (V.str ⟨#[ci]⟩ = V.str "#") := by
                  have ec : codeAt rows L.toNat Pp.toNat = some ci := by unfold codeAt; rw [hr]; exact hci
                  have e2 : (V.str ⟨#[ci]⟩ = V.str "#") ↔ ci = 35 := by
                    have : ("#" : Str) = ⟨#[35]⟩ := by decide +kernel
                    rw [this]; simp
                  rw [hC, ec]
                  by_cases h35 : ci = 35
                  · rw [decide_eq_true (e2.mpr h35)]
                    exact decide_eq_false (fun z => z.2.2 (by rw [h35]))
                  · rw [decide_eq_false (fun z => h35 (e2.mp z))]
                    exact decide_eq_true ⟨⟨q1', q2'⟩, ⟨q3', q4'⟩, fun z => h35 (Option.some.inj z)⟩
                exact ⟨rfl, by rw [e]; rfl⟩
              · have q4' : ¬ Pp < wd := by simpa using q4
                exact ⟨rfl, by rw [hNo fun z => q4' z.2.1.2]; rfl⟩
            · have q3' : ¬ 0 ≤ Pp := by simpa using q3
              exact ⟨_, rfl, iteF ⟨rfl, by rw [hNo fun z => q3' z.2.1.1]; rfl⟩⟩
          · have q2' : ¬ L < rows.length := by simpa using q2
            exact ⟨rfl, by rw [hNo fun z => q2' z.1.2]; rfl⟩
        · have q1' : ¬ 0 ≤ L := by simpa using q1
          exact ⟨_, rfl, iteF ⟨rfl, by rw [hNo fun z => q1' z.1.1]; rfl⟩⟩
      · rintro σ' H3 ⟨rfl, rfl⟩
        walk_at "rd"
        have nx : neighL rows wd d a (i + 1) = neighL rows wd d a i ++ [neigh rows wd d a i] := by
          unfold neighL
          rw [List.range_succ, List.map_append]; rfl
        have ll : (neighL rows wd d a i).length = i := by unfold neighL; simp
        have hi30 : i < 30 := by omega
        refine And.intro (.inl ⟨rfl, _, SqL.of hacc⟩) ?_
        refine ⟨_, rfl, Cp, rfl, ?_⟩
        cases hb : Cp with
        | true =>
          have hcond : (0 ≤ L ∧ L < rows.length) ∧ (0 ≤ Pp ∧ Pp < wd) ∧ codeAt rows L.toNat Pp.toNat ≠ some 35 := by
            rw [hb] at hC
            exact of_decide_eq_true hC.symm
          have en2 : neigh rows wd d a i = L * wd + Pp := by
            unfold neigh
            rw [← hL, ← hP, if_pos hcond]
          refine iteT ?_
          walk_at "rd"
          refine And.intro (.inr ⟨by omega, by omega⟩) ?_
          walk_at "rd"
          refine ⟨D, _, _, rfl, rfl, hacc, ?_, ?_⟩
          · rw [List.length_map]
            exact small1000 (by rw [ll]; omega)
          · refine ⟨_, _, _, _, rfl, ?_, off.trans (Off.mut rfl)⟩
            rw [upd_same, nx, List.map_append]
            rw [en2]; rfl
        | false =>
          have en2 : neigh rows wd d a i = -1 := by
            unfold neigh
            rw [← hL, ← hP, if_neg]
            rw [hb] at hC
            exact of_decide_eq_false hC.symm
          refine iteF ?_
          walk_at "rd"
          refine ⟨D, _, _, rfl, rfl, hacc, ?_, ?_⟩
          · rw [List.length_map]
            exact small1000 (by rw [ll]; omega)
          · refine ⟨_, _, _, _, rfl, ?_, off.trans (Off.mut rfl)⟩
            rw [upd_same, nx, List.map_append]
            rw [en2]; rfl
    · rintro σ H2 ⟨cv, lv, pv, iv, rfl, hacc, off⟩
      walk_at "rd"
      have s1 : Same H H2 := fun b o e => off b o (fun y => by rw [y, n1.free] at e; cases e) (n1.same _ _ e)
      refine ⟨D, _, rfl, .inl ⟨SqL.of hacc, fun t ht => ?_⟩⟩
      exact k t _ (s1.free ht) (fun b o e => by rw [upd_ne (ne_of_none (s1 _ _ e) ht)]; exact s1 _ _ e) upd_same
end
end K03
end
section
set_option Elab.async false
set_option linter.all false
set_option maxRecDepth 100000
set_option maxHeartbeats 2000000
namespace K03
open PySem L2
local macro_rules | `(tactic| walk_at "hp") => `(tactic| first | assumption | exact upd_same | (refine (upd_ne (by first | assumption | (apply Ne.symm; assumption))).trans ?_; walk_at "hp"))
local macro_rules | `(tactic| walk_at "rd1") => `(tactic| first
  | (refine ⟨_, rfl, ?_⟩)
  | (refine ⟨_, _, rfl, rfl, ?_⟩)
  | (refine ⟨(rfl : scal _ _ = true), ?_⟩)
  | (refine And.intro (by show (0 : Int) < _; decide) ?_)
  | (refine And.intro (And.intro (by decide) (by decide)) ?_)
  | (refine And.intro (by assumption) ?_)
  | (refine Or.inl ⟨_, rfl, ?_⟩))
local macro_rules | `(tactic| walk_at "rd") => `(tactic| repeat walk_at "rd1")
theorem kitAny_ty {K : PySem.W.Frag} {n : String} {b1 b2 : Bool} (h1 : kitB n "list" = some b1) (h2 : kitB n "tuple" = some b2) : PySem.W.kitAny K (.type n) [.type "list", .type "tuple"] = some (b1 || b2) := by
  have e1 : PySem.W.kitOne K (.type n) (.type "list") = some b1 := kit_ty h1
  have e2 : PySem.W.kitOne K (.type n) (.type "tuple") = some b2 := kit_ty h2
  unfold PySem.W.kitAny
  rw [e1]
  cases b1 with
  | true => rfl
  | false =>
    unfold PySem.W.kitAny
    rw [e2]
    cases b2 <;> rfl
/-- a row of a room, of any kind of thing -/
def lineOk : V → Bool
  | .str s => lineS s
  | _ => false
def vlen : V → Nat
  | .str s => s.length
  | _ => 0
def isStr : V → Bool
  | .str _ => true
  | _ => false
def badAt (xs : List V) (i : Nat) : Bool := match xs[i]?, xs[i - 1]? with
  | some y, some x => !lineOk y || decide (vlen y ≠ vlen x)
  | _, _ => true
/-- the first fault of the rows, told -/
def rowsFault (xs : List V) : Option Int := if 1 ≤ xs.length ∧ xs.length ≤ 5 then ((List.range xs.length).find? (badAt xs)).map Int.ofNat else some (-1)
structure Elem (M : Addr → Prop) (H : Hp) (y : V) : Prop where
  dr : ∃ L d, Dr L M H y d
  sz : ∀ s, y = .str s → s.length ≤ sizeLine
theorem Elem.keep {M : Addr → Prop} {H H' : Hp} {y : V} (e : Elem M H y) (o : Off M H H') : Elem M H' y := ⟨let ⟨L, d, h⟩ := e.dr; ⟨L, d, h.keep o⟩, e.sz⟩
theorem Elem.ty {K : PySem.W.Frag} {M : Addr → Prop} {H : Hp} {y : V} (e : Elem M H y) : ∃ t, TyX K H y t ∧ PySem.W.kitOne K t (.type "str") = some (isStr y) := by
  obtain ⟨L, d, h⟩ := e.dr
  cases h with
  | non => exact ⟨_, .base .non, kit_ty (by decide +kernel)⟩
  | bl b => exact ⟨_, .base (.bl b), kit_ty (show kitB "bool" "str" = some false by decide +kernel)⟩
  | int i => exact ⟨_, .base (.int i), kit_ty (show kitB "int" "str" = some false by decide +kernel)⟩
  | str x => exact ⟨_, .base (.str x), kit_ty (show kitB "str" "str" = some true by decide +kernel)⟩
  | lst q => exact ⟨_, .base (.lst q), kit_ty (show kitB "list" "str" = some false by decide +kernel)⟩
  | tup q => exact ⟨_, .base (.tup q), kit_ty (show kitB "tuple" "str" = some false by decide +kernel)⟩
  | dct q => exact ⟨_, .base (.dK q), kit_ty (show kitB "dict" "str" = some false by decide +kernel)⟩
section
variable {P : Program} {w : World} {K : PySem.W.Frag} {mg : Str → Option Value} {base : Heap} {CB fB : Addr}
def spNeed (K : PySem.W.Frag) (CB : Addr) : Sp := fun vs H Q E => ∃ (v : V) (M : Addr → Prop), vs = [v] ∧
  ((∃ t, (∀ H', Same H H' → TyX K H' v t) ∧ PySem.W.kitAny K t [.type "list", .type "tuple"] = some false ∧ ∀ H' d, Same H H' → H' d = none → E (.ref CB) (some d) (upd H' d (.xd [("value", .int (-1))]))) ∨
   (∃ a xs, v = .ref a ∧ (H a = some (.lst xs) ∨ H a = some (.tup xs)) ∧ (∀ y ∈ xs, Elem M H y) ∧ (∀ i, rowsFault xs = some i → ∀ H' d, Same H H' → H' d = none → E (.ref CB) (some d) (upd H' d (.xd [("value", .int i)]))) ∧
     (rowsFault xs = none → ∀ H', Same H H' → Q .non H')))
structure RoomT (P : Program) (K : PySem.W.Frag) (mg : Str → Option Value) (CB fB : Addr) : Prop extends Rb mg where
  x_BadRoom : RX.ErrT P K mg "BadRoom" "value" CB fB
theorem ok_need {f : Addr} {fd : FuncData} (F : Fun K "_need_lines" "_need_lines" s__need_lines f fd) (T : RoomT P K mg CB fB) (c_is_row : CalG P w K mg base 1 "is_row" (spIsRow K)) (c__is_line : CalG P w K mg base 1 "_is_line" (spIsLine K)) : FnG P w K mg base (CXe P w) 3 f fd ["rows"] (spNeed K CB) := by
  refine F.okG sc__need_lines (fun vs H Q E h => ?_) (fun cdv A outer s H vs Q E hgd hr h => ?_)
  · obtain ⟨v, M, rfl, _⟩ := h; rfl
  · obtain ⟨v, M, rfl, h⟩ := h
    refine ⟨_, (pss_cons (ps_if (PW.pt (pw_or (pt_not (pt_val (pg_c c_is_row hgd hr (by decide) (pa_cons (pv 0) pa_nil)))) (pw_or1 (pt_not (pt_chain op_le op_le pe_int (pe_callB call_len_seq (by rfl) T.n_len (by decide +kernel) (pa_cons (pv 0) pa_nil)) (pe_glob (v := .int 5) rfl (Exists.choose_spec T.k_MOST_LINES) ⟨_, rfl⟩)))))) (pss_one (ps_raiseErr rfl T.x_BadRoom hr (takes_of rfl rfl rfl rfl) (pa_cons (pe_un un_neg pe_int) pa_nil))) pss_nil)
      (pss_one (ps_for (passes_of rfl) rfl (pi_enum2 (by rfl) T.n_enumerate (pa_cons (pv 0) pa_nil)) (pg_tup (by rfl) (pgs_cons (pg_name (i := 1) sc__need_lines.nd rfl (Or.inl rfl)) (pgs_cons (pg_name (i := 2) sc__need_lines.nd rfl (Or.inl rfl)) pgs_nil)))
      (pss_one (ps_if (PW.pt (pw_or (pt_not (pt_val (pg_c c__is_line hgd hr (by decide) (pa_cons (pv 2) pa_nil)))) (pw_or1 (pt_cmpR op_ne (pe_callB call_len_str (by rfl) T.n_len (by decide +kernel) (pa_cons (pv 2) pa_nil)) (pe_callB call_len_str (by rfl) T.n_len (by decide +kernel) (pa_cons (pe_ix ix_seq (pv 0) (pe_callB (call_max2 rfl) (by rfl) T.n_max (by decide +kernel) (pa_cons (pe_op op_sub (pv 1) pe_int) (pa_cons pe_int pa_nil))) (fun _ _ => rfl)) pa_nil)) (nomark _))))) (pss_one (ps_raiseErr rfl T.x_BadRoom hr (takes_of rfl rfl rfl rfl) (pa_cons (pv 1) pa_nil))) pss_nil))))), ?_⟩
    walk_at "rd"
    rcases h with ⟨t, ty, e, kE⟩ | ⟨a, xs, rfl, hx, hel, kE, kQ⟩
    · refine ⟨v, t, false, rfl, ty _ (Same.refl _), ty, e, fun H1 s1 => ?_⟩
      refine ⟨_, rfl, ?_⟩
      exact iteT (iteT ⟨1, rfl, _, rfl, fun d hd => kE H1 d s1 hd⟩)
    · obtain ⟨t, tyx, ek⟩ : ∃ t, (∀ H', Same H H' → TyX K H' (.ref a) t) ∧ PySem.W.kitAny K t [.type "list", .type "tuple"] = some true := by
        rcases hx with q | q
        · exact ⟨_, fun H' s' => .base (.lst (s' _ _ q)), kitAny_ty (show kitB "list" "list" = some true by decide +kernel) (show kitB "list" "tuple" = some false by decide +kernel)⟩
        · exact ⟨_, fun H' s' => .base (.tup (s' _ _ q)), kitAny_ty (show kitB "tuple" "list" = some false by decide +kernel) (show kitB "tuple" "tuple" = some true by decide +kernel)⟩
      refine ⟨.ref a, t, true, rfl, tyx _ (Same.refl _), tyx, ek, fun H1 s1 => ?_⟩
      refine ⟨_, rfl, ?_⟩
      refine iteF ?_
      walk_at "rd"
      have sq : ∀ H', Same H H' → SqL K H' a xs ∨ SqT K H' a xs := fun H' s' => hx.imp (fun q => SqL.of (s' _ _ q)) (fun q => SqT.of (s' _ _ q))
      refine ⟨a, xs, rfl, sq _ s1, ?_⟩
      have out : ¬ (1 ≤ xs.length ∧ xs.length ≤ 5) → rowsFault xs = some (-1) := fun z => by unfold rowsFault; rw [if_neg z]
      refine ⟨_, _, rfl, rfl, _, rfl, ?_⟩
      refine ite2 (fun q1 => ?_) (fun q1 => ?_)
      · refine ⟨_, _, rfl, rfl, _, rfl, ?_⟩
        refine ite2 (fun q2 => ?_) (fun q2 => ?_)
        · have hf := out (fun z => by
            have : ¬ (xs.length : Int) ≤ 5 := by simpa using q2
            omega)
          exact ⟨1, rfl, _, rfl, fun d hd => kE _ hf H1 d s1 hd⟩
        · have l1 : 1 ≤ xs.length := by
            have : (1 : Int) ≤ (xs.length : Int) := by simpa using q1
            omega
          have l5 : xs.length ≤ 5 := by
            have : (xs.length : Int) ≤ 5 := by simpa using q2
            omega
          refine ⟨_, rfl, a, xs, rfl, sq _ s1, fun J G wk hG => for_it wk (fun i σ H' => ∃ (o1 o2 : Option V), σ = [some (.ref a), o1, o2] ∧ Same H1 H' ∧ ∀ j, j < i → badAt xs j = false) ⟨none, none, rfl, Same.refl _, fun j hj => absurd hj (Nat.not_lt_zero _)⟩ (fun i σ H' _ hp => hG H' (let ⟨_, _, _, s', _⟩ := hp; s')) ?_ ?_⟩
          · rintro i x σ H2 H3 hi ⟨o1, o2, rfl, s2, hb⟩ ⟨T, x1, y1, rfl, hT, rfl, e1, e2⟩
            cases e1
            have e2 : xs[i]? = some y1 := e2
            have s3 : Same H2 (upd H2 T (.tup [.int (i : Nat), y1])) := same_new hT
            have s03 := (s1.trans s2).trans s3
            have first : badAt xs i = true → rowsFault xs = some ((i : Nat) : Int) := fun hbi => by
              unfold rowsFault
              rw [if_pos ⟨l1, l5⟩, List.find?_range_eq_some.mpr ⟨hbi, List.mem_range.mpr hi, fun j hj => by rw [hb j hj]; rfl⟩]
              rfl
            have ey : Elem M (upd H2 T (.tup [.int (i : Nat), y1])) y1 := (hel y1 (List.mem_of_getElem? e2)).keep (Off.same s03)
            have rz : badAt xs i = true → ∀ d, (upd H2 T (.tup [.int (i : Nat), y1])) d = none → E (.ref CB) (some d) (upd (upd H2 T (.tup [.int (i : Nat), y1])) d (.xd [("value", .int (i : Nat))])) := fun hbi d hd => kE _ (first hbi) _ d s03 hd
            refine ⟨T, _, rfl, SqT.of upd_same, rfl, _, _, rfl, _, _, rfl, rfl, ?_⟩
            obtain ⟨t1, ty1, ek1⟩ := ey.ty (K := K)
            refine ⟨_, rfl, y1, t1, _, rfl, ty1, ek1, fun hn => ?_, fun hy => ?_⟩
            · have hb0 : badAt xs i = true := by
                have hl : lineOk y1 = false := by cases y1 <;> first | rfl | cases hn
                unfold badAt
                rw [e2]
                cases xs[i - 1]? with
                | none => rfl
                | some y => show (!lineOk y1 || _) = true; rw [hl]; rfl
              exact ⟨_, rfl, iteT (iteT ⟨_, rfl, _, rfl, fun d hd => rz hb0 d hd⟩)⟩
            · obtain ⟨z, rfl⟩ : ∃ z, y1 = .str z := by cases y1 <;> first | exact ⟨_, rfl⟩ | cases hy
              refine ⟨z, rfl, ey.sz z rfl, _, rfl, ?_⟩
              cases hl : lineS z with
              | false =>
                have hb0 : badAt xs i = true := by
                  unfold badAt
                  rw [e2]
                  cases xs[i - 1]? with
                  | none => rfl
                  | some y => show (!lineS z || _) = true; rw [hl]; rfl
                exact iteT (iteT ⟨_, rfl, _, rfl, fun d hd => rz hb0 d hd⟩)
              | true =>
                refine iteF ?_
                obtain ⟨z0, hz0, lz0⟩ : ∃ z0, xs[i - 1]? = some (.str z0) ∧ z0.length ≤ sizeLine := by
                  by_cases hi0 : i = 0
                  · subst hi0
                    exact ⟨z, e2, ey.sz z rfl⟩
                  · have hbp := hb (i - 1) (by omega)
                    obtain ⟨y0, hy0⟩ : ∃ y0, xs[i - 1]? = some y0 := ⟨_, List.getElem?_eq_getElem (by omega)⟩
                    unfold badAt at hbp
                    rw [hy0] at hbp
                    have hlo : lineOk y0 = true := by
                      cases hq : xs[i - 1 - 1]? with
                      | none => rw [hq] at hbp; cases hbp
                      | some y =>
                        rw [hq] at hbp
                        have : (!lineOk y0 || decide (vlen y0 ≠ vlen y)) = false := hbp
                        have := (Bool.or_eq_false_iff.mp this).1
                        simpa using this
                    obtain ⟨z0, rfl⟩ : ∃ z0, y0 = .str z0 := by cases y0 <;> first | exact ⟨_, rfl⟩ | cases hlo
                    exact ⟨z0, hy0, (hel _ (List.mem_of_getElem? hy0)).sz z0 rfl⟩
                have ei : (if (0 : Int) > (i : Int) - 1 then (0 : Int) else (i : Int) - 1) = ((i - 1 : Nat) : Int) := by
                  split <;> omega
                have hat : atI xs ((i - 1 : Nat) : Int) = some (.str z0) := atI_nat hz0
                have ixs : ∀ (kk : Int), kk = ((i - 1 : Nat) : Int) → ∀ R : VK, R (.str z0) (upd H2 T (.tup [.int (i : Nat), .str z])) → rIx K (.ref a) (.int kk) (upd H2 T (.tup [.int (i : Nat), .str z])) R := fun kk ek R hR => by
                  subst ek
                  rcases hx with q | q
                  · exact .inl ⟨a, xs, _, _, rfl, rfl, SqL.of (s03 _ _ q), hat, hR⟩
                  · exact .inr (.inl ⟨a, xs, _, _, rfl, rfl, SqT.of (s03 _ _ q), hat, hR⟩)
                refine ⟨_, rfl, z, rfl, ey.sz z rfl, ?_⟩
                refine ⟨_, rfl, _, rfl, _, _, rfl, rfl, _, _, rfl, ?_⟩
                refine ixs _ ei _ ?_
                refine ⟨z0, rfl, lz0, (rfl : scal _ _ = true), ?_⟩
                refine ⟨_, rfl, ?_⟩
                have bad : badAt xs i = decide (z.length ≠ z0.length) := by
                  unfold badAt
                  rw [e2, hz0]
                  show (!lineS z || decide (z.length ≠ z0.length)) = _
                  rw [hl]; rfl
                refine ite2 (fun q3 => ?_) (fun q3 => ?_)
                · have q3' : ¬ z.length = z0.length := fun w => by
                    rw [w] at q3
                    simp at q3
                  exact ⟨_, rfl, _, rfl, fun d hd => rz (by rw [bad]; exact decide_eq_true q3') d hd⟩
                · have q3' : z.length = z0.length := by
                    have : decide (V.int (z.length : Int) = V.int (z0.length : Int)) = true := by simpa using q3
                    have := of_decide_eq_true this
                    injection this with this
                    exact Int.ofNat.inj this
                  refine ⟨_, _, rfl, s2.trans s3, fun j hj => ?_⟩
                  by_cases hji : j = i
                  · rw [hji, bad]; exact decide_eq_false (fun w => w q3')
                  · exact hb j (by omega)
          · rintro σ H2 ⟨o1, o2, rfl, s2, hb⟩
            refine kQ ?_ H2 (s1.trans s2)
            unfold rowsFault
            rw [if_pos ⟨l1, l5⟩, List.find?_range_eq_none.mpr (fun j hj => by rw [hb j hj]; rfl)]
            rfl
      · have hf := out (fun z => by
          have : ¬ (1 : Int) ≤ (xs.length : Int) := by simpa using q1
          omega)
        exact ⟨_, rfl, iteT ⟨1, rfl, _, rfl, fun d hd => kE _ hf H1 d s1 hd⟩⟩
end
end K03
end
section
set_option Elab.async false
set_option linter.all false
set_option maxRecDepth 100000
set_option maxHeartbeats 2000000
namespace K03
open PySem L2
local macro_rules | `(tactic| walk_at "hp") => `(tactic| first | assumption | exact upd_same | (refine (upd_ne (by first | assumption | (apply Ne.symm; assumption))).trans ?_; walk_at "hp"))
local macro_rules | `(tactic| walk_at "rd1") => `(tactic| first
  | (refine ⟨_, rfl, ?_⟩)
  | (refine ⟨_, _, rfl, rfl, ?_⟩)
  | (refine ⟨(rfl : scal _ _ = true), ?_⟩)
  | (refine And.intro (by show (0 : Int) < _; decide) ?_)
  | (refine And.intro (And.intro (by decide) (by decide)) ?_)
  | (refine And.intro (by assumption) ?_)
  | (refine Or.inl ⟨_, rfl, ?_⟩))
local macro_rules | `(tactic| walk_at "rd") => `(tactic| repeat walk_at "rd1")
section
variable {P : Program} {w : World} {K : PySem.W.Frag} {mg : Str → Option Value} {base : Heap} {C CB fB : Addr}
def roomF (t ct pt nd : Addr) (z : Str) : List (Str × V) := [("rows", .ref t), ("cells", .str z), ("entry", .int (Txt.find z "@")), ("mouths", .int (manyZ z "12")), ("crates", .ref ct), ("plates", .ref pt), ("near", .ref nd)]
/-- the four ways of the cells of these rows -/
structure NearAt (H : Hp) (nd : Addr) (rows : List Str) (wd : Nat) : Prop where
  ex : ∃ u d l r, H nd = some (.dK [(.inr "u", .ref u), (.inr "d", .ref d), (.inr "l", .ref l), (.inr "r", .ref r)]) ∧ H u = some (.tup ((neighL rows wd (-1) 0 (rows.length * wd)).map V.int)) ∧ H d = some (.tup ((neighL rows wd 1 0 (rows.length * wd)).map V.int)) ∧
    H l = some (.tup ((neighL rows wd 0 (-1) (rows.length * wd)).map V.int)) ∧ H r = some (.tup ((neighL rows wd 0 1 (rows.length * wd)).map V.int))
/-- a room stands at x -/
structure RoomAt (C : Addr) (H : Hp) (x : Addr) (rows : List Str) (wd : Nat) : Prop where
  ok : RowsOk rows wd
  lines : ∀ r ∈ rows, lineS r = true
  whole : wholeZ (Txt.join "" rows) = true
  ex : ∃ dx t ct pt nd, H x = some (.ins C dx (roomF t ct pt nd (Txt.join "" rows))) ∧ H t = some (.tup (rows.map V.str)) ∧ H ct = some (.tup ((placesL (Txt.join "" rows) 111 (Txt.join "" rows).length).map V.int)) ∧
    H pt = some (.tup ((placesL (Txt.join "" rows) 112 (Txt.join "" rows).length).map V.int)) ∧ NearAt H nd rows wd
theorem putF_len (f : Str) (v : V) : ∀ fs : List (Str × V), (putF f v fs).length ≤ fs.length + 1
  | [] => Nat.le_refl _
  | (g, u) :: r => by
    show (if g = f then (g, v) :: r else (g, u) :: putF f v r).length ≤ _
    have := putF_len f v r
    split <;> simp only [List.length_cons] <;> omega
theorem fne : (¬ (("rows" : Str) = "cells") ∧ ¬ (("rows" : Str) = "entry") ∧ ¬ (("rows" : Str) = "mouths") ∧ ¬ (("rows" : Str) = "crates") ∧ ¬ (("rows" : Str) = "plates") ∧ ¬ (("rows" : Str) = "near")) ∧
    (¬ (("cells" : Str) = "entry") ∧ ¬ (("cells" : Str) = "mouths") ∧ ¬ (("cells" : Str) = "crates") ∧ ¬ (("cells" : Str) = "plates") ∧ ¬ (("cells" : Str) = "near")) ∧
    (¬ (("entry" : Str) = "mouths") ∧ ¬ (("entry" : Str) = "crates") ∧ ¬ (("entry" : Str) = "plates") ∧ ¬ (("entry" : Str) = "near")) ∧ (¬ (("mouths" : Str) = "crates") ∧ ¬ (("mouths" : Str) = "plates") ∧ ¬ (("mouths" : Str) = "near")) ∧
    (¬ (("crates" : Str) = "plates") ∧ ¬ (("crates" : Str) = "near")) ∧ ¬ (("plates" : Str) = "near") := by decide +kernel
theorem putF6 (a b c d e f : V) : putF "plates" f (putF "crates" e (putF "mouths" d (putF "entry" c (putF "cells" b (putF "rows" a []))))) = ([("rows", a), ("cells", b), ("entry", c), ("mouths", d), ("crates", e), ("plates", f)] : List (Str × V)) := by
  obtain ⟨⟨r1, r2, r3, r4, r5, r6⟩, ⟨c1, c2, c3, c4, c5⟩, ⟨e1, e2, e3, e4⟩, ⟨m1, m2, m3⟩, ⟨t1, t2⟩, p1⟩ := fne
  simp only [putF, r1, r2, r3, r4, r5, r6, c1, c2, c3, c4, c5, e1, e2, e3, e4, m1, m2, m3, t1, t2, p1, if_false]
theorem putF7 (a b c d e f g : V) : putF "near" g ([("rows", a), ("cells", b), ("entry", c), ("mouths", d), ("crates", e), ("plates", f)] : List (Str × V)) = ([("rows", a), ("cells", b), ("entry", c), ("mouths", d), ("crates", e), ("plates", f), ("near", g)] : List (Str × V)) := by
  obtain ⟨⟨r1, r2, r3, r4, r5, r6⟩, ⟨c1, c2, c3, c4, c5⟩, ⟨e1, e2, e3, e4⟩, ⟨m1, m2, m3⟩, ⟨t1, t2⟩, p1⟩ := fne
  simp only [putF, r1, r2, r3, r4, r5, r6, c1, c2, c3, c4, c5, e1, e2, e3, e4, m1, m2, m3, t1, t2, p1, if_false]
theorem merge4 (a b c d : V) : mergeK [] ([(.inr "u", a), (.inr "d", b), (.inr "l", c), (.inr "r", d)] : List (Key × V)) = [(.inr "u", a), (.inr "d", b), (.inr "l", c), (.inr "r", d)] := by
  have h : (¬ (("u" : Str) = "d") ∧ ¬ (("u" : Str) = "l") ∧ ¬ (("u" : Str) = "r")) ∧ (¬ (("d" : Str) = "l") ∧ ¬ (("d" : Str) = "r")) ∧ ¬ (("l" : Str) = "r") := by decide +kernel
  obtain ⟨⟨h1, h2, h3⟩, ⟨h4, h5⟩, h6⟩ := h
  simp [mergeK, putK, h1, h2, h3, h4, h5, h6]
theorem flat_joinL : ∀ ps : List (List Nat), TL.joinL [] ps = ps.flatten
  | [] => rfl
  | [p] => by simp [TL.joinL]
  | p :: q :: r => by
    show p ++ ([] ++ TL.joinL [] (q :: r)) = _
    rw [flat_joinL (q :: r)]
    simp
theorem join_cps (rows : List Str) : (Txt.join "" rows).cps.toList = (rows.map fun r => r.cps.toList).flatten := by
  rw [TL.join_eq]
  exact (TL.tl_join "" rows).trans (flat_joinL _)
theorem join_sum (rows : List Str) : (Txt.join "" rows).length = (rows.map (·.length)).sum := by
  have h := congrArg List.length (join_cps rows)
  rw [List.length_flatten, List.map_map] at h
  exact h
theorem sum_rows {rows : List Str} {wd : Nat} (h : ∀ r ∈ rows, r.length = wd) : (rows.map (·.length)).sum = rows.length * wd := by
  induction rows with
  | nil => simp
  | cons r rs ih =>
    rw [List.map_cons, List.sum_cons, ih fun x hx => h x (List.mem_cons_of_mem _ hx), h r (List.mem_cons_self ..), List.length_cons, Nat.succ_mul, Nat.add_comm]
theorem join_len {rows : List Str} {wd : Nat} (R : RowsOk rows wd) : (Txt.join "" rows).length = rows.length * wd := (join_sum rows).trans (sum_rows R.al)
def strOf : V → Str
  | .str s => s
  | _ => ""
theorem lineOk_str {y : V} (h : lineOk y = true) : y = .str (strOf y) ∧ lineS (strOf y) = true := by
  cases y <;> first | exact ⟨rfl, h⟩ | cases h
theorem rows_of {xs : List V} (h : rowsFault xs = none) : ∃ rows wd, xs = rows.map V.str ∧ RowsOk rows wd ∧ ∀ r ∈ rows, lineS r = true := by
  unfold rowsFault at h
  split at h
  case isFalse => cases h
  rename_i hn
  have hf : (List.range xs.length).find? (badAt xs) = none := by
    cases e : (List.range xs.length).find? (badAt xs) with
    | none => rfl
    | some i => rw [e] at h; cases h
  have good : ∀ i, i < xs.length → badAt xs i = false := fun i hi => by
    have := List.find?_range_eq_none.mp hf i hi
    simpa using this
  have at2 : ∀ i, (hi : i < xs.length) → lineOk xs[i] = true ∧ vlen xs[i] = vlen (xs[i - 1]'(by omega)) := fun i hi => by
    have b := good i hi
    unfold badAt at b
    rw [List.getElem?_eq_getElem hi, List.getElem?_eq_getElem (show i - 1 < xs.length by omega)] at b
    have b' : (!lineOk xs[i] || decide (vlen xs[i] ≠ vlen (xs[i - 1]'(by omega)))) = false := b
    obtain ⟨b1, b2⟩ := Bool.or_eq_false_iff.mp b'
    exact ⟨by simpa using b1, by simpa using b2⟩
  have all : ∀ i, (hi : i < xs.length) → vlen xs[i] = vlen (xs[0]'(by omega)) := by
    intro i
    induction i with
    | zero => intro hi; rfl
    | succ k ih => intro hi; exact (at2 (k + 1) hi).2.trans (ih (by omega))
  have line : ∀ y ∈ xs, lineOk y = true := fun y hy => by
    obtain ⟨i, hi, rfl⟩ := List.getElem_of_mem hy
    exact (at2 i hi).1
  have len : ∀ y ∈ xs, vlen y = vlen (xs[0]'(by omega)) := fun y hy => by
    obtain ⟨i, hi, rfl⟩ := List.getElem_of_mem hy
    exact all i hi
  have e1 : xs = (xs.map strOf).map V.str := by
    rw [List.map_map]
    have : ∀ y ∈ xs, (V.str ∘ strOf) y = id y := fun y hy => (lineOk_str (line y hy)).1.symm
    rw [List.map_congr_left this, List.map_id]
  have l0 : lineS (strOf (xs[0]'(by omega))) = true := (lineOk_str (line _ (List.getElem_mem _))).2
  have v0 : vlen (xs[0]'(by omega)) = (strOf (xs[0]'(by omega))).length := by
    have := (lineOk_str (line _ (List.getElem_mem (show 0 < xs.length by omega)))).1
    rw [this]; rfl
  have b0 : 1 ≤ (strOf (xs[0]'(by omega))).length ∧ (strOf (xs[0]'(by omega))).length ≤ 6 := by
    unfold lineS at l0
    simp only [Bool.and_eq_true, decide_eq_true_eq] at l0
    exact ⟨l0.1, l0.2.1⟩
  refine ⟨xs.map strOf, vlen (xs[0]'(by omega)), e1, ⟨by simpa using hn.1, by simpa using hn.2, by rw [v0]; exact b0.1, by rw [v0]; exact b0.2, ?_⟩, ?_⟩
  · intro r hr
    obtain ⟨y, hy, rfl⟩ := List.mem_map.mp hr
    rw [← len y hy]
    have := (lineOk_str (line y hy)).1
    rw [this]; rfl
  · intro r hr
    obtain ⟨y, hy, rfl⟩ := List.mem_map.mp hr
    exact (lineOk_str (line y hy)).2
def spRoomInit (K : PySem.W.Frag) (C CB : Addr) : Sp := fun vs H Q E => ∃ (x dx : Addr) (v : V) (M : Addr → Prop), vs = [.ref x, v] ∧ H x = some (.ins C dx []) ∧
  ((∃ t, (∀ H', Same H H' → TyX K H' v t) ∧ PySem.W.kitAny K t [.type "list", .type "tuple"] = some false ∧ ∀ H' d, Same H H' → H' d = none → E (.ref CB) (some d) (upd H' d (.xd [("value", .int (-1))]))) ∨
   (∃ a xs, v = .ref a ∧ (H a = some (.lst xs) ∨ H a = some (.tup xs)) ∧ (∀ y ∈ xs, Elem M H y) ∧ (∀ i, rowsFault xs = some i → ∀ H' d, Same H H' → H' d = none → E (.ref CB) (some d) (upd H' d (.xd [("value", .int i)]))) ∧
     (∀ rows wd, xs = rows.map V.str → RowsOk rows wd → (∀ r ∈ rows, lineS r = true) → (wholeZ (Txt.join "" rows) = false → ∀ H' d, Same H H' → H' d = none → E (.ref CB) (some d) (upd H' d (.xd [("value", .int (-1))]))) ∧
       ∀ H', RoomAt C H' x rows wd → (∀ b o, H b = some o → b ≠ x → H' b = some o) → Q .non H')))
theorem ok_room_init {f : Addr} {fd : FuncData} (F : Fun K "__init__" "Room.__init__" s_Room_init f fd) (T : RoomT P K mg CB fB) (cl : Cls K C) (n_rows : NoAttr K C "rows") (n_cells : NoAttr K C "cells") (n_entry : NoAttr K C "entry") (n_mouths : NoAttr K C "mouths") (n_crates : NoAttr K C "crates") (n_plates : NoAttr K C "plates") (n_near : NoAttr K C "near")
    (c__need_lines : CalG P w K mg base 3 "_need_lines" (spNeed K CB)) (c__is_whole_room : CalG P w K mg base 2 "_is_whole_room" spWR) (c__many : CalG P w K mg base 1 "_many" spMany) (c__places : CalG P w K mg base 1 "_places" spPlaces) (c__neighbours : CalG P w K mg base 1 "_neighbours" (spNeigh K)) :
    FnG P w K mg base (CXe P w) 4 f fd ["self", "rows"] (spRoomInit K C CB) := by
  refine F.okG sc_Room_init (fun vs H Q E h => ?_) (fun cdv A outer s H vs Q E hgd hr h => ?_)
  · obtain ⟨x, dx, v, M, rfl, _⟩ := h; rfl
  · obtain ⟨x, dx, v, M, rfl, hx, h⟩ := h
    refine ⟨_, (pss_cons (ps_expr (pg_cS c__need_lines hgd hr (by decide) (fun σ => passAt (takes_of rfl rfl rfl rfl) σ) (pa_cons (pv 1) pa_nil)))
      (pss_cons (ps_set (i := 2) sc_Room_init.nd rfl (Or.inl rfl) (pe_m1 PySem.F.slot_str_join PySem.F.type_str_join mt_join pe_str (pv 1)))
      (pss_cons (ps_if (pt_not (pt_val (pg_c c__is_whole_room hgd hr (by decide) (pa_cons (pv 2) pa_nil)))) (pss_one (ps_raiseErr rfl T.x_BadRoom hr (takes_of rfl rfl rfl rfl) (pa_cons (pe_un un_neg pe_int) pa_nil))) pss_nil)
      (pss_cons (ps_fld (pv 0) (pe_callTy cr_tup2 (by rfl) T.n_tuple (by decide +kernel) (pa_cons (pv 1) pa_nil)) rfl)
      (pss_cons (ps_fld (pv 0) (pv 2) rfl)
      (pss_cons (ps_fld (pv 0) (pe_m1 PySem.F.slot_str_find PySem.F.type_str_find mt_find (pv 2) pe_str) rfl)
      (pss_cons (ps_fld (pv 0) (pg_c c__many hgd hr (by decide) (pa_cons (pv 2) (pa_cons pe_str pa_nil))) rfl)
      (pss_cons (ps_fld (pv 0) (pg_c c__places hgd hr (by decide) (pa_cons (pv 2) (pa_cons pe_str pa_nil))) rfl)
      (pss_cons (ps_fld (pv 0) (pg_c c__places hgd hr (by decide) (pa_cons (pv 2) (pa_cons pe_str pa_nil))) rfl)
      (pss_one (ps_fld (pv 0) (pe_disp (pps_cons pe_str (pg_c c__neighbours hgd hr (by decide) (pa_cons (pe_fld (pv 0) rfl) (pa_cons (pe_un un_neg pe_int) (pa_cons pe_int pa_nil)))) (pps_cons pe_str (pg_c c__neighbours hgd hr (by decide) (pa_cons (pe_fld (pv 0) rfl) (pa_cons pe_int (pa_cons pe_int pa_nil)))) (pps_cons pe_str (pg_c c__neighbours hgd hr (by decide) (pa_cons (pe_fld (pv 0) rfl) (pa_cons pe_int (pa_cons (pe_un un_neg pe_int) pa_nil)))) (pps_cons pe_str (pg_c c__neighbours hgd hr (by decide) (pa_cons (pe_fld (pv 0) rfl) (pa_cons pe_int (pa_cons pe_int pa_nil)))) pps_nil)))) (by rfl) (by rfl) (fun z => by cases z) (by decide)) rfl))))))))))), ?_⟩
    walk_at "rd"
    rcases h with ⟨t, ty, e, kE⟩ | ⟨a, xs, rfl, hxs, hel, kE, kQ⟩
    · exact ⟨v, M, rfl, .inl ⟨t, ty, e, kE⟩⟩
    refine ⟨.ref a, M, rfl, .inr ⟨a, xs, rfl, hxs, hel, kE, fun hf H1 s1 => ?_⟩⟩
    obtain ⟨rows, wd, rfl, R, hl⟩ := rows_of hf
    obtain ⟨kW, kK⟩ := kQ rows wd rfl R hl
    walk_at "rd"
    have sq : SqL K H1 a (rows.map V.str) ∨ SqT K H1 a (rows.map V.str) := hxs.imp (fun q => SqL.of (s1 _ _ q)) (fun q => SqT.of (s1 _ _ q))
    have hz : (Txt.join "" rows).length = rows.length * wd := join_len R
    have hs := sum_rows R.al
    have b5 := R.h5
    have b6 := R.w6
    have bn : rows.length * wd ≤ 5 * 6 := Nat.mul_le_mul b5 b6
    refine ⟨⟨_, rfl⟩, _, rfl, "", a, rows, rfl, rfl, sq, ?_, ?_⟩
    · rw [hs]
      show _ + rows.length * 0 ≤ _
      omega
    obtain ⟨z, ez⟩ : ∃ z, z = Txt.join "" rows := ⟨_, rfl⟩
    rw [← ez] at hz kW
    rw [← ez]
    walk_at "rd"
    refine ⟨by rw [hz]; exact Nat.le_of_lt (small1000 (by omega)), fun H2 s2 => ?_⟩
    refine ⟨_, rfl, ?_⟩
    cases hw : wholeZ z with
    | false => exact iteT ⟨1, rfl, _, rfl, fun d hd => kW hw H2 d (s1.trans s2) hd⟩
    | true =>
      refine iteF ?_
      walk_at "rd"
      have s02 := s1.trans s2
      have hx2 := s02 _ _ hx
      have hxs2 : H2 a = some (.lst (rows.map V.str)) ∨ H2 a = some (.tup (rows.map V.str)) := hxs.imp (fun q => s02 _ _ q) (fun q => s02 _ _ q)
      refine ⟨a, _, rfl, hxs2, fun t H3 s3 ht3 ht => ?_⟩
      have hx3 := s3 _ _ hx2
      have htx : t ≠ x := fun z => by rw [z, hx3] at ht3; cases ht3
      refine ⟨_, rfl, x, C, dx, _, rfl, hx3, cl, n_rows, (by refine Nat.lt_of_le_of_lt (m := 0) ?_ (by decide); exact Nat.le_refl _), ?_⟩
      have pl1 : (putF "rows" (.ref t) []).length ≤ 1 := Nat.le_trans (putF_len _ _ _) (Nat.succ_le_succ (Nat.le_refl _))
      have o4 : Off (fun b => b = x) H3 (upd H3 x (.ins C dx (putF "rows" (.ref t) []))) := Off.mut rfl
      have hx4 : upd H3 x (.ins C dx (putF "rows" (.ref t) [])) x = some (.ins C dx (putF "rows" (.ref t) [])) := upd_same
      generalize upd H3 x (.ins C dx (putF "rows" (.ref t) [])) = H4 at o4 hx4 ⊢
      have ht4 := o4 _ _ htx ht3
      walk_at "rd"
      refine ⟨x, C, dx, _, rfl, hx4, cl, n_cells, (by refine Nat.lt_of_le_of_lt (m := 1) ?_ (by decide); exact pl1), ?_⟩
      have pl2 : (putF "cells" (.str z) (putF "rows" (.ref t) [])).length ≤ 2 := Nat.le_trans (putF_len _ _ _) (Nat.succ_le_succ pl1)
      have o5 : Off (fun b => b = x) H4 (upd H4 x (.ins C dx (putF "cells" (.str z) (putF "rows" (.ref t) [])))) := Off.mut rfl
      have hx5 : upd H4 x (.ins C dx (putF "cells" (.str z) (putF "rows" (.ref t) []))) x = some (.ins C dx (putF "cells" (.str z) (putF "rows" (.ref t) []))) := upd_same
      generalize upd H4 x (.ins C dx (putF "cells" (.str z) (putF "rows" (.ref t) []))) = H5 at o5 hx5 ⊢
      have ht5 := o5 _ _ htx ht4
      refine ⟨_, rfl, ⟨_, rfl⟩, z, "@", rfl, rfl, ?_⟩
      walk_at "rd"
      refine ⟨x, C, dx, _, rfl, hx5, cl, n_entry, (by refine Nat.lt_of_le_of_lt (m := 2) ?_ (by decide); exact pl2), ?_⟩
      have pl3 : (putF "entry" (.int (Txt.find z "@")) (putF "cells" (.str z) (putF "rows" (.ref t) []))).length ≤ 3 := Nat.le_trans (putF_len _ _ _) (Nat.succ_le_succ pl2)
      have o6 : Off (fun b => b = x) H5 (upd H5 x (.ins C dx (putF "entry" (.int (Txt.find z "@")) (putF "cells" (.str z) (putF "rows" (.ref t) []))))) := Off.mut rfl
      have hx6 : upd H5 x (.ins C dx (putF "entry" (.int (Txt.find z "@")) (putF "cells" (.str z) (putF "rows" (.ref t) [])))) x = some (.ins C dx (putF "entry" (.int (Txt.find z "@")) (putF "cells" (.str z) (putF "rows" (.ref t) [])))) := upd_same
      generalize upd H5 x (.ins C dx (putF "entry" (.int (Txt.find z "@")) (putF "cells" (.str z) (putF "rows" (.ref t) [])))) = H6 at o6 hx6 ⊢
      have ht6 := o6 _ _ htx ht5
      walk_at "rd"
      refine ⟨z, "12", rfl, by decide +kernel, fun H7 s7 => ?_⟩
      have hx7 := s7 _ _ hx6
      have ht7 := s7 _ _ ht6
      walk_at "rd"
      refine ⟨x, C, dx, _, rfl, hx7, cl, n_mouths, (by refine Nat.lt_of_le_of_lt (m := 3) ?_ (by decide); exact pl3), ?_⟩
      have pl4 : (putF "mouths" (.int (manyZ z "12")) (putF "entry" (.int (Txt.find z "@")) (putF "cells" (.str z) (putF "rows" (.ref t) [])))).length ≤ 4 := Nat.le_trans (putF_len _ _ _) (Nat.succ_le_succ pl3)
      have o8 : Off (fun b => b = x) H7 (upd H7 x (.ins C dx (putF "mouths" (.int (manyZ z "12")) (putF "entry" (.int (Txt.find z "@")) (putF "cells" (.str z) (putF "rows" (.ref t) [])))))) := Off.mut rfl
      have hx8 : upd H7 x (.ins C dx (putF "mouths" (.int (manyZ z "12")) (putF "entry" (.int (Txt.find z "@")) (putF "cells" (.str z) (putF "rows" (.ref t) []))))) x = some (.ins C dx (putF "mouths" (.int (manyZ z "12")) (putF "entry" (.int (Txt.find z "@")) (putF "cells" (.str z) (putF "rows" (.ref t) []))))) := upd_same
      generalize upd H7 x (.ins C dx (putF "mouths" (.int (manyZ z "12")) (putF "entry" (.int (Txt.find z "@")) (putF "cells" (.str z) (putF "rows" (.ref t) []))))) = H8 at o8 hx8 ⊢
      have ht8 := o8 _ _ htx ht7
      walk_at "rd"
      refine ⟨z, 111, rfl, by rw [hz]; omega, fun ct H9 nct s9 hct9 => ?_⟩
      have hx9 := s9 _ _ hx8
      have ht9 := s9 _ _ ht8
      have hctx : ct ≠ x := fun y => by rw [y, hx8] at nct; cases nct
      walk_at "rd"
      refine ⟨x, C, dx, _, rfl, hx9, cl, n_crates, (by refine Nat.lt_of_le_of_lt (m := 4) ?_ (by decide); exact pl4), ?_⟩
      have pl5 : (putF "crates" (.ref ct) (putF "mouths" (.int (manyZ z "12")) (putF "entry" (.int (Txt.find z "@")) (putF "cells" (.str z) (putF "rows" (.ref t) []))))).length ≤ 5 := Nat.le_trans (putF_len _ _ _) (Nat.succ_le_succ pl4)
      have o10 : Off (fun b => b = x) H9 (upd H9 x (.ins C dx (putF "crates" (.ref ct) (putF "mouths" (.int (manyZ z "12")) (putF "entry" (.int (Txt.find z "@")) (putF "cells" (.str z) (putF "rows" (.ref t) []))))))) := Off.mut rfl
      have hx10 : upd H9 x (.ins C dx (putF "crates" (.ref ct) (putF "mouths" (.int (manyZ z "12")) (putF "entry" (.int (Txt.find z "@")) (putF "cells" (.str z) (putF "rows" (.ref t) [])))))) x = some (.ins C dx (putF "crates" (.ref ct) (putF "mouths" (.int (manyZ z "12")) (putF "entry" (.int (Txt.find z "@")) (putF "cells" (.str z) (putF "rows" (.ref t) [])))))) := upd_same
      generalize upd H9 x (.ins C dx (putF "crates" (.ref ct) (putF "mouths" (.int (manyZ z "12")) (putF "entry" (.int (Txt.find z "@")) (putF "cells" (.str z) (putF "rows" (.ref t) [])))))) = H10 at o10 hx10 ⊢
      have ht10 := o10 _ _ htx ht9
      have hct10 := o10 _ _ hctx hct9
      walk_at "rd"
      refine ⟨z, 112, rfl, by rw [hz]; omega, fun pt H11 npt s11 hpt11 => ?_⟩
      have hx11 := s11 _ _ hx10
      have ht11 := s11 _ _ ht10
      have hct11 := s11 _ _ hct10
      have hptx : pt ≠ x := fun y => by rw [y, hx10] at npt; cases npt
      walk_at "rd"
      refine ⟨x, C, dx, _, rfl, hx11, cl, n_plates, (by refine Nat.lt_of_le_of_lt (m := 5) ?_ (by decide); exact pl5), ?_⟩
      have pl6 : (putF "plates" (.ref pt) (putF "crates" (.ref ct) (putF "mouths" (.int (manyZ z "12")) (putF "entry" (.int (Txt.find z "@")) (putF "cells" (.str z) (putF "rows" (.ref t) [])))))).length ≤ 6 := Nat.le_trans (putF_len _ _ _) (Nat.succ_le_succ pl5)
      have o12 : Off (fun b => b = x) H11 (upd H11 x (.ins C dx (putF "plates" (.ref pt) (putF "crates" (.ref ct) (putF "mouths" (.int (manyZ z "12")) (putF "entry" (.int (Txt.find z "@")) (putF "cells" (.str z) (putF "rows" (.ref t) [])))))))) := Off.mut rfl
      have hx12 : upd H11 x (.ins C dx (putF "plates" (.ref pt) (putF "crates" (.ref ct) (putF "mouths" (.int (manyZ z "12")) (putF "entry" (.int (Txt.find z "@")) (putF "cells" (.str z) (putF "rows" (.ref t) []))))))) x = some (.ins C dx (putF "plates" (.ref pt) (putF "crates" (.ref ct) (putF "mouths" (.int (manyZ z "12")) (putF "entry" (.int (Txt.find z "@")) (putF "cells" (.str z) (putF "rows" (.ref t) []))))))) := upd_same
      generalize upd H11 x (.ins C dx (putF "plates" (.ref pt) (putF "crates" (.ref ct) (putF "mouths" (.int (manyZ z "12")) (putF "entry" (.int (Txt.find z "@")) (putF "cells" (.str z) (putF "rows" (.ref t) []))))))) = H12 at o12 hx12 ⊢
      have ht12 := o12 _ _ htx ht11
      have hct12 := o12 _ _ hctx hct11
      have hpt12 := o12 _ _ hptx hpt11
      have ef : (putF "plates" (.ref pt) (putF "crates" (.ref ct) (putF "mouths" (.int (manyZ z "12")) (putF "entry" (.int (Txt.find z "@")) (putF "cells" (.str z) (putF "rows" (.ref t) [])))))) = ([("rows", .ref t), ("cells", .str z), ("entry", .int (Txt.find z "@")), ("mouths", .int (manyZ z "12")), ("crates", .ref ct), ("plates", .ref pt)] : List (Str × V)) := putF6 _ _ _ _ _ _
      rw [ef] at hx12
      refine fun dn hdn => ?_
      have sA : Same H12 (upd H12 dn (.dK [])) := same_new hdn
      have hdnA : upd H12 dn (.dK []) dn = some (.dK []) := upd_same
      generalize upd H12 dn (.dK []) = HA at sA hdnA ⊢
      have dnx : dn ≠ x := fun y => by rw [y, hx12] at hdn; cases hdn
      have hxA := sA _ _ hx12
      have htA := sA _ _ ht12
      walk_at "rd"
      refine ⟨x, C, dx, _, _, rfl, hxA, cl, n_rows, rfl, ?_⟩
      walk_at "rd"
      refine ⟨t, rows, wd, (-1), (0), rfl, R, htA, by decide, by decide, by decide, by decide, fun nu HB nnu sB hnu => ?_⟩
      have hxB := sB _ _ hxA
      have htB := sB _ _ htA
      walk_at "rd"
      refine ⟨x, C, dx, _, _, rfl, hxB, cl, n_rows, rfl, ?_⟩
      walk_at "rd"
      refine ⟨t, rows, wd, (1), (0), rfl, R, htB, by decide, by decide, by decide, by decide, fun nd HC nnd sC hnd => ?_⟩
      have hxC := sC _ _ hxB
      have htC := sC _ _ htB
      walk_at "rd"
      refine ⟨x, C, dx, _, _, rfl, hxC, cl, n_rows, rfl, ?_⟩
      walk_at "rd"
      refine ⟨t, rows, wd, (0), (-1), rfl, R, htC, by decide, by decide, by decide, by decide, fun nl HD nnl sD hnl => ?_⟩
      have hxD := sD _ _ hxC
      have htD := sD _ _ htC
      walk_at "rd"
      refine ⟨x, C, dx, _, _, rfl, hxD, cl, n_rows, rfl, ?_⟩
      walk_at "rd"
      refine ⟨t, rows, wd, (0), (1), rfl, R, htD, by decide, by decide, by decide, by decide, fun nr HF nnr sF hnr => ?_⟩
      have hxF := sF _ _ hxD
      have htF := sF _ _ htD
      have sAF : Same HA HF := ((sB.trans sC).trans sD).trans sF
      have hdnF := sAF _ _ hdnA
      refine ⟨hdnF, [(.inr "u", .ref nu), (.inr "d", .ref nd), (.inr "l", .ref nl), (.inr "r", .ref nr)], rfl, by simp, ?_⟩
      have em : mergeK [] ([(.inr "u", .ref nu), (.inr "d", .ref nd), (.inr "l", .ref nl), (.inr "r", .ref nr)] : List (Key × V)) = [(.inr "u", .ref nu), (.inr "d", .ref nd), (.inr "l", .ref nl), (.inr "r", .ref nr)] := merge4 _ _ _ _
      rw [em]
      have ne : ∀ {b : Addr} {o : HO}, HF b = some o → (∀ q, o ≠ .dK q) → b ≠ dn := fun e q z => by rw [z, hdnF] at e; cases e; exact q _ rfl
      have hxG : upd HF dn (.dK [(.inr "u", .ref nu), (.inr "d", .ref nd), (.inr "l", .ref nl), (.inr "r", .ref nr)]) x = some (.ins C dx ([("rows", .ref t), ("cells", .str z), ("entry", .int (Txt.find z "@")), ("mouths", .int (manyZ z "12")), ("crates", .ref ct), ("plates", .ref pt)] : List (Str × V))) := by
        rw [upd_ne (Ne.symm dnx)]; exact hxF
      walk_at "rd"
      refine ⟨x, C, dx, _, rfl, hxG, cl, n_near, by simp, ?_⟩
      rw [putF7]
      have off : Off (fun b => b = x) H H12 := ((((((((Off.same (s02.trans s3)).trans o4).trans o5).trans o6).trans (Off.same s7)).trans o8).trans (Off.same s9)).trans o10).trans ((Off.same s11).trans o12)
      have fin : ∀ b ys, HF b = some (.tup ys) → upd (upd HF dn (.dK [(.inr "u", .ref nu), (.inr "d", .ref nd), (.inr "l", .ref nl), (.inr "r", .ref nr)])) x (.ins C dx [("rows", .ref t), ("cells", .str z), ("entry", .int (Txt.find z "@")), ("mouths", .int (manyZ z "12")), ("crates", .ref ct), ("plates", .ref pt), ("near", .ref dn)]) b = some (.tup ys) := fun b ys e => by
        have h1 : b ≠ x := fun y => by rw [y, hxF] at e; cases e
        have h2 : b ≠ dn := fun y => by rw [y, hdnF] at e; cases e
        rw [upd_ne h1, upd_ne h2]
        exact e
      have s1F : Same H12 HF := sA.trans sAF
      subst ez
      refine kK _ ⟨R, hl, hw, dx, t, ct, pt, dn, upd_same, fin _ _ (s1F _ _ ht12), fin _ _ (s1F _ _ hct12), fin _ _ (s1F _ _ hpt12), ⟨nu, nd, nl, nr, by rw [upd_ne dnx, upd_same], fin _ _ (((sC.trans sD).trans sF) _ _ hnu), fin _ _ ((sD.trans sF) _ _ hnd), fin _ _ (sF _ _ hnl), fin _ _ hnr⟩⟩ fun b o e hb => ?_
      have e12 := off b o hb e
      rw [upd_ne hb, upd_ne (ne_of_none e12 hdn)]
      exact s1F _ _ e12
end
end K03
end
section
set_option Elab.async false
set_option linter.all false
set_option maxRecDepth 100000
set_option maxHeartbeats 2000000
namespace K03
open PySem L2
local macro_rules | `(tactic| walk_at "hp") => `(tactic| first | assumption | exact upd_same | (refine (upd_ne (by first | assumption | (apply Ne.symm; assumption))).trans ?_; walk_at "hp"))
local macro_rules | `(tactic| walk_at "rd1") => `(tactic| first
  | (refine ⟨_, rfl, ?_⟩)
  | (refine ⟨_, _, rfl, rfl, ?_⟩)
  | (refine ⟨(rfl : scal _ _ = true), ?_⟩)
  | (refine And.intro (by show (0 : Int) < _; decide) ?_)
  | (refine And.intro (And.intro (by decide) (by decide)) ?_)
  | (refine And.intro (by assumption) ?_)
  | (refine Or.inl ⟨_, rfl, ?_⟩))
local macro_rules | `(tactic| walk_at "rd") => `(tactic| repeat walk_at "rd1")
theorem sc__law_shuffled : FnScope ["pool", "things", "left", "found", "k"] ["pool", "things"] (defScope s__law_shuffled) := ⟨rfl, rfl, rfl, by decide +kernel, rfl, by decide +kernel, by decide +kernel⟩
theorem sc__law_rows : FnScope ["pool", "marks", "mouths", "shapes", "height", "width", "cells", "free", "mark", "counts", "at", "kind", "line", "k"] ["pool", "marks", "mouths"] (defScope s__law_rows) := ⟨rfl, rfl, rfl, by decide +kernel, rfl, by decide +kernel, by decide +kernel⟩
theorem sc__law_cell : FnScope ["room", "index", "e"] ["room", "index"] (defScope s__law_cell) := ⟨rfl, rfl, rfl, by decide +kernel, rfl, by decide +kernel, by decide +kernel⟩
theorem sc__law_mouth : FnScope ["room", "number", "e"] ["room", "number"] (defScope s__law_mouth) := ⟨rfl, rfl, rfl, by decide +kernel, rfl, by decide +kernel, by decide +kernel⟩
theorem sc__law_turned : FnScope ["rows", "found", "row", "line", "mark"] ["rows"] (defScope s__law_turned) := ⟨rfl, rfl, rfl, by decide +kernel, rfl, by decide +kernel, by decide +kernel⟩
theorem sc__law_right : FnScope ["room", "rows", "cells", "mouths", "at", "number"] ["room", "rows"] (defScope s__law_right) := ⟨rfl, rfl, rfl, by decide +kernel, rfl, by decide +kernel, by decide +kernel⟩
theorem sc_law : FnScope ["script", "pool", "marks", "rows", "given", "room", "turned", "other", "many", "thing"] ["script"] (defScope s_law) := ⟨rfl, rfl, rfl, by decide +kernel, rfl, by decide +kernel, by decide +kernel⟩
theorem sc_Room_cell : FnScope ["self", "index"] ["self", "index"] (defScope s_Room_cell) := ⟨rfl, rfl, rfl, by decide +kernel, rfl, by decide +kernel, by decide +kernel⟩
theorem sc_Room_mouth : FnScope ["self", "number"] ["self", "number"] (defScope s_Room_mouth) := ⟨rfl, rfl, rfl, by decide +kernel, rfl, by decide +kernel, by decide +kernel⟩
theorem sc_Room_mirrored : FnScope ["self", "row"] ["self"] (defScope s_Room_mirrored) := ⟨rfl, rfl, rfl, by decide +kernel, rfl, by decide +kernel, by decide +kernel⟩
theorem sc_Room_eq : FnScope ["self", "other"] ["self", "other"] (defScope s_Room_eq) := ⟨rfl, rfl, rfl, by decide +kernel, rfl, by decide +kernel, by decide +kernel⟩
section
variable {P : Program} {w : World} {K : PySem.W.Frag} {mg : Str → Option Value} {base : Heap} {C CB fB : Addr}
theorem rowsFault_none {rows : List Str} {wd : Nat} (R : RowsOk rows wd) (hl : ∀ r ∈ rows, lineS r = true) : rowsFault (rows.map V.str) = none := by
  unfold rowsFault
  rw [if_pos ⟨by simpa using R.h1, by simpa using R.h5⟩, List.find?_range_eq_none.mpr fun i hi => ?_]
  · rfl
  · rw [List.length_map] at hi
    have h1 : (rows.map V.str)[i]? = some (.str rows[i]) := by rw [List.getElem?_map, List.getElem?_eq_getElem hi]; rfl
    have h2 : (rows.map V.str)[i - 1]? = some (.str (rows[i - 1]'(by omega))) := by rw [List.getElem?_map, List.getElem?_eq_getElem (show i - 1 < rows.length by omega)]; rfl
    unfold badAt
    rw [h1, h2]
    show (!(!lineS rows[i] || decide (rows[i].length ≠ (rows[i - 1]'(by omega)).length))) = true
    rw [hl _ (List.getElem_mem _), R.al _ (List.getElem_mem _), R.al _ (List.getElem_mem _)]
    simp
theorem strOf_map (rows : List Str) : (rows.map V.str).map strOf = rows := by
  rw [List.map_map]
  have : strOf ∘ V.str = id := rfl
  rw [this, List.map_id]
theorem PoolAt.ne {H : Hp} {l p b : Addr} (h : PoolAt K H l p) (e : H b = none) : b ≠ p := by
  obtain ⟨xs, i, c, n, z, h1, _⟩ := h
  intro z
  rw [← z, e] at h1
  cases h1
theorem PoolAt.nel {H : Hp} {l p b : Addr} (h : PoolAt K H l p) (e : H b = none) : b ≠ l := by
  obtain ⟨xs, i, c, n, z, h1, h2, h3, _⟩ := h
  intro z
  rw [← z, e] at h3
  cases h3
theorem PoolAt.mut {H : Hp} {l p q : Addr} {o : HO} (h : PoolAt K H l p) (h1 : q ≠ p) (h2 : q ≠ l) : PoolAt K (upd H q o) l p := by
  obtain ⟨xs, i, c, n, z, e1, e2, e3, e4⟩ := h
  exact ⟨xs, i, c, n, z, by rw [upd_ne h1.symm]; exact e1, e2, by rw [upd_ne h2.symm]; exact e3, e4⟩
theorem Off.wider {M M' : Addr → Prop} {H H' : Hp} (z : ∀ a, M a → M' a) (h : Off M H H') : Off M' H H' := fun b o n e => h b o (fun m => n (z _ m)) e
theorem eraseIdx_mapV (ns : List Int) (k : Nat) : (ns.map V.int).eraseIdx k = (ns.eraseIdx k).map V.int := by
  induction ns generalizing k with
  | nil => rfl
  | cons x r ih => cases k with
    | zero => rfl
    | succ k => simp [List.eraseIdx, ih]
theorem getElem_eraseIdx : ∀ {ns : List Int} {k : Nat} (h : k < ns.length), (ns[k] :: ns.eraseIdx k).Perm ns
  | x :: r, 0, _ => .refl _
  | x :: r, k + 1, h => by
    show (r[k]'(by simpa using h) :: x :: r.eraseIdx k).Perm (x :: r)
    exact (List.Perm.swap x _ _).trans (List.Perm.cons x (getElem_eraseIdx (by simpa using h)))
def spShuf (K : PySem.W.Frag) : Sp := fun vs H Q _ => ∃ (l p a : Addr) (ns : List Int), vs = [.ref p, .ref a] ∧ PoolAt K H l p ∧ a ≠ p ∧ H a = some (.lst (ns.map V.int)) ∧ ns.length ≤ 1000 ∧
  ∀ (D : Addr) (ms : List Int) (H' : Hp), H D = none → ms.Perm ns → H' D = some (.lst (ms.map V.int)) → Off (fun b => b = p) H H' → PoolAt K H' l p → Q (.ref D) H'
theorem ok_shuf {f : Addr} {fd : FuncData} (F : Fun K "_law_shuffled" "_law_shuffled" s__law_shuffled f fd) (T : Rb mg) (c__law_draw : CalG P w K mg base 1 "_law_draw" (spDraw K)) : FnG P w K mg base (CXe P w) 2 f fd ["pool", "things"] (spShuf K) := by
  refine F.okG sc__law_shuffled (fun vs H Q E h => ?_) (fun cdv A outer s H vs Q E hgd hr h => ?_)
  · obtain ⟨l, p, a, ns, rfl, _⟩ := h; rfl
  · obtain ⟨l, p, a, ns, rfl, hp, hap, ha, hn, k⟩ := h
    refine ⟨_, (pss_cons (ps_set (i := 2) sc__law_shuffled.nd rfl (Or.inl rfl) (pe_callTy call_list_of (by rfl) T.n_list (by decide +kernel) (pa_cons (pv 1) pa_nil)))
      (pss_cons (ps_set (i := 3) sc__law_shuffled.nd rfl (Or.inl rfl) (pe_lstA pa_nil))
      (pss_cons (ps_for (passes_of rfl) rfl (pi_range1 (by rfl) T.n_range (pa_cons (pe_callB call_len_seq (by rfl) T.n_len (by decide +kernel) (pa_cons (pv 1) pa_nil)) pa_nil)) (pg_name (i := 4) sc__law_shuffled.nd rfl (Or.inl rfl))
      (pss_one (ps_expr (pe_bm PySem.F.plainAttrs_list PySem.F.slot_list_append PySem.F.type_list_append mt_append (pv 3) (pa_cons (pe_bm PySem.F.plainAttrs_list PySem.F.slot_list_pop PySem.F.type_list_pop mt_popAt (pv 2) (pa_cons (pg_c c__law_draw hgd hr (by decide) (pa_cons (pv 0) (pa_cons (pe_callB call_len_seq (by rfl) T.n_len (by decide +kernel) (pa_cons (pv 2) pa_nil)) pa_nil))) pa_nil)) pa_nil)))))
      (pss_one (ps_ret (pv 3)))))), ?_⟩
    refine ⟨_, rfl, a, _, rfl, .inl (SqL.of ha), fun L hL => ?_⟩
    have nL : Same H (upd H L (.lst (ns.map V.int))) := same_new hL
    have hL1 : upd H L (.lst (ns.map V.int)) L = some (.lst (ns.map V.int)) := upd_same
    generalize upd H L (.lst (ns.map V.int)) = H1 at nL hL1 ⊢
    refine And.intro (Nat.le_of_ble_eq_true rfl) (fun D H2 n2 => ?_)
    have hDL : L ≠ D := ne_of_none hL1 n2.free
    have s2 := nL.trans n2.same
    have hp2 := hp.same s2
    have hLp : L ≠ p := hp.ne hL
    have hLl : L ≠ l := hp.nel hL
    have hDp : D ≠ p := (hp.same nL).ne n2.free
    have hDl : D ≠ l := (hp.same nL).nel n2.free
    walk_at "rd"
    refine ⟨a, _, rfl, .inl (SqL.of (s2 _ _ ha)), ?_⟩
    rw [List.length_map]
    refine ⟨_, rfl, by omega, by omega, ?_⟩
    rw [Int.toNat_natCast]
    refine for_range (n := ns.length) (fun i σ H' => ∃ (kv : Option V) (left found : List Int), σ = [some (.ref p), some (.ref a), some (.ref L), some (.ref D), kv] ∧ PoolAt K H' l p ∧ H' L = some (.lst (left.map V.int)) ∧ H' D = some (.lst (found.map V.int)) ∧ (found ++ left).Perm ns ∧ found.length = i ∧
      Off (fun b => b = p ∨ b = L ∨ b = D) H2 H') ⟨none, ns, [], rfl, hp2, n2.same _ _ hL1, n2.at_, by simp, rfl, Off.refl _⟩ ?_ ?_
    · rintro i σ H3 hi ⟨kv, left, found, rfl, hp3, hl3, hd3, pm, hlen, off⟩
      have hll : left.length = ns.length - i := by
        have := pm.length_eq
        rw [List.length_append] at this
        omega
      walk_at "rd"
      refine And.intro (.inl ⟨rfl, _, SqL.of hd3⟩) ?_
      refine ⟨_, rfl, .inl ⟨rfl, _, SqL.of hl3⟩, _, rfl, _, rfl, L, _, rfl, .inl (SqL.of hl3), ?_⟩
      rw [List.length_map]
      refine ⟨l, p, (left.length : Int), rfl, hp3, by omega, by omega, fun r H4 ra rb o4 hp4 => ?_⟩
      have hl4 := o4 _ _ hLp hl3
      have hd4 := o4 _ _ hDp hd3
      have hrk : r.toNat < left.length := by omega
      refine ⟨L, _, r, r.toNat, .int left[r.toNat], rfl, rfl, hl4, by omega, by omega, ?_, by rw [List.getElem?_map, List.getElem?_eq_getElem hrk]; rfl, ?_⟩
      · rw [List.length_map]
        exact seqIndex_of ra (by omega)
      have hd5 : upd H4 L (.lst ((left.map V.int).eraseIdx r.toNat)) D = some (.lst (found.map V.int)) := by rw [upd_ne (Ne.symm hDL)]; exact hd4
      refine ⟨D, _, _, rfl, rfl, hd5, ?_, ?_⟩
      · rw [List.length_map]; exact small1000 (by omega)
      refine ⟨_, left.eraseIdx r.toNat, found ++ [left[r.toNat]], rfl, (hp4.mut hLp hLl).mut hDp hDl, ?_, ?_, ?_, by simp [hlen], ?_⟩
      · rw [upd_ne hDL, upd_same, eraseIdx_mapV]
      · rw [upd_same, List.map_append]; rfl
      · rw [List.append_assoc]
        exact (List.Perm.append_left found (getElem_eraseIdx hrk)).trans pm
      · exact ((off.trans (Off.wider (fun _ z => .inl z) o4)).trans (Off.mut (.inr (.inl rfl)))).trans (Off.mut (.inr (.inr rfl)))
    · rintro σ H3 ⟨kv, left, found, rfl, hp3, hl3, hd3, pm, hlen, off⟩
      have hl0 : left = [] := by
        have := pm.length_eq
        rw [List.length_append] at this
        exact List.eq_nil_of_length_eq_zero (by omega)
      subst hl0
      rw [List.append_nil] at pm
      refine ⟨_, rfl, k D found H3 (nL.free n2.free) pm hd3 ?_ hp3⟩
      intro b o hb e
      have h1 : b ≠ L := fun z => by rw [z, hL] at e; cases e
      have h2 : b ≠ D := fun z => by rw [z, nL.free n2.free] at e; cases e
      exact off b o (fun z => z.elim hb (fun z => z.elim h1 h2)) (s2 _ _ e)
end
end K03
end
section
set_option Elab.async false
set_option linter.all false
set_option maxRecDepth 100000
set_option maxHeartbeats 2000000
namespace K03
open PySem L2
local macro_rules | `(tactic| walk_at "hp") => `(tactic| first | assumption | exact upd_same | (refine (upd_ne (by first | assumption | (apply Ne.symm; assumption))).trans ?_; walk_at "hp"))
local macro_rules | `(tactic| walk_at "rd1") => `(tactic| first
  | (refine ⟨_, rfl, ?_⟩)
  | (refine ⟨_, _, rfl, rfl, ?_⟩)
  | (refine ⟨(rfl : scal _ _ = true), ?_⟩)
  | (refine And.intro (by show (0 : Int) < _; decide) ?_)
  | (refine And.intro (And.intro (by decide) (by decide)) ?_)
  | (refine And.intro (by assumption) ?_)
  | (refine Or.inl ⟨_, rfl, ?_⟩))
local macro_rules | `(tactic| walk_at "rd") => `(tactic| repeat walk_at "rd1")
section
variable {P : Program} {w : World} {K : PySem.W.Frag} {mg : Str → Option Value} {base : Heap} {C CB fB : Addr}
/-- a sign in the place of '.' -/
theorem count_put {cs : List Nat} {j c x : Nat} (h : cs[j]? = some 46) (hx : x ≠ 46) : (cs.set j c).count x = cs.count x + if c = x then 1 else 0 := by
  induction cs generalizing j with
  | nil => cases h
  | cons a r ih =>
    cases j with
    | zero =>
      have : a = 46 := by simpa using h
      subst this
      simp [List.count_cons, Ne.symm hx]
    | succ j =>
      have h' : r[j]? = some 46 := by simpa using h
      rw [List.set_cons_succ, List.count_cons, List.count_cons, ih h']
      omega
/-- cells with free places ms, each a '.' -/
structure Cells (n : Nat) (cs : List Nat) (ms : List Int) : Prop where
  len : cs.length = n
  free : ∀ m ∈ ms, ∃ j : Nat, m = (j : Int) ∧ cs[j]? = some 46
  nd : ms.Nodup
  inM : ∀ c ∈ cs, c ∈ marksS.cps.toList
theorem Cells.lt {n : Nat} {cs : List Nat} {ms : List Int} (h : Cells n cs ms) {j : Nat} (e : cs[j]? = some 46) : j < n := by
  have := (List.getElem?_eq_some_iff.mp e).1
  rw [h.len] at this
  exact this
/-- one place is filled, and is free no more -/
theorem Cells.put {n : Nat} {cs : List Nat} {ms ms' : List Int} {m : Int} {j c : Nat} (h : Cells n cs ms) (pm : ms.Perm (m :: ms')) (ej : m = (j : Int)) (e : cs[j]? = some 46) (hc : c ∈ marksS.cps.toList) : Cells n (cs.set j c) ms' where
  len := by rw [List.length_set]; exact h.len
  nd := ((pm.nodup_iff).mp h.nd).tail
  free := fun x hx => by
    obtain ⟨i, ei, hi⟩ := h.free x (pm.mem_iff.mpr (List.mem_cons_of_mem _ hx))
    refine ⟨i, ei, ?_⟩
    have hne : j ≠ i := fun z => by
      have hn := (pm.nodup_iff).mp h.nd
      have : m = x := by rw [ej, ei, z]
      rw [List.nodup_cons] at hn
      exact hn.1 (this ▸ hx)
    rw [List.getElem?_set_ne hne]
    exact hi
  inM := fun x hx => by
    rcases List.mem_or_eq_of_mem_set hx with z | z
    · exact h.inM x z
    · rw [z]; exact hc
theorem Cells.drop {n : Nat} {cs : List Nat} {ms ms' : List Int} {m : Int} (h : Cells n cs ms) (pm : ms.Perm (m :: ms')) : Cells n cs ms' where
  len := h.len
  nd := ((pm.nodup_iff).mp h.nd).tail
  free := fun x hx => h.free x (pm.mem_iff.mpr (List.mem_cons_of_mem _ hx))
  inM := h.inM
theorem Cells.begin (n : Nat) {ms : List Int} (pm : ms.Perm ((List.range n).map Int.ofNat)) : Cells n (List.replicate n 46) ms where
  len := List.length_replicate
  nd := (pm.nodup_iff).mpr (by rw [List.Nodup, List.pairwise_map]; exact List.Pairwise.imp (fun {a b} h z => h (Int.ofNat.inj z)) List.nodup_range)
  free := fun m hm => by
    obtain ⟨j, hj, rfl⟩ := List.mem_map.mp (pm.mem_iff.mp hm)
    exact ⟨j, rfl, by rw [List.getElem?_replicate, if_pos (List.mem_range.mp hj)]⟩
  inM := fun c hc => by rw [List.eq_of_mem_replicate hc]; decide +kernel
/-- the last of a list, and the others -/
theorem perm_last {ms : List Int} {m : Int} (h : ms[ms.length - 1]? = some m) : ms.Perm (m :: ms.dropLast) := by
  have hne : ms ≠ [] := fun z => by rw [z] at h; cases h
  have e : ms = ms.dropLast ++ [m] := by
    have := List.dropLast_concat_getLast hne
    have l : ms.getLast hne = m := by
      rw [List.getLast_eq_getElem]
      exact (List.getElem?_eq_some_iff.mp h).2
    rw [l] at this
    exact this.symm
  conv => lhs; rw [e]
  exact List.perm_append_comm
theorem rep_flat {α : Type} (n : Nat) (x : α) : (List.replicate n [x]).flatten = List.replicate n x := by
  induction n with
  | zero => rfl
  | succ n ih => rw [List.replicate_succ, List.flatten_cons, ih]; rfl
def cellV (c : Nat) : V := .str ⟨#[c]⟩
theorem join_cells (cs : List Nat) : (Txt.join "" (cs.map fun c => (⟨#[c]⟩ : Str))).cps.toList = cs := by
  rw [join_cps, List.map_map]
  induction cs with
  | nil => rfl
  | cons a r ih => rw [List.map_cons, List.flatten_cons, ih]; rfl
theorem same_str (x y : Str) : Spec.same (.str x) (.str y) = decide (x = y) := by
  unfold Spec.same
  rfl
theorem count_nat (x : Str) (c : Nat) : Txt.count x ⟨#[c]⟩ = ((x.cps.toList.count c : Nat) : Int) := by
  rw [PyProof.Rows.count_is]
  generalize x.cps.toList = l
  induction l with
  | nil => rfl
  | cons a r ih =>
    rw [List.map_cons, List.count_cons]
    unfold Spec.countIn
    rw [ih, same_str]
    by_cases h : a = c
    · subst h; simp; omega
    · have : ¬ ((⟨#[a]⟩ : Str) = ⟨#[c]⟩) := fun z => h (by injection z with z; simpa using z)
      simp [h, this]

theorem dropLast_mapV (ns : List Int) : (ns.map V.int).dropLast = ns.dropLast.map V.int := by simp
theorem set_mapC (cs : List Nat) (j c : Nat) : (cs.map cellV).set j (cellV c) = (cs.set j c).map cellV := by
  rw [List.map_set]
def kindOf (c : Nat) : Int := if c = 111 then 0 else if c ∈ [97, 98, 65, 66] then 1 else 2
theorem kind_eq (c : Nat) : ((2 : Int) - (if decide (c ∈ ("abAB" : Str).cps.toList) = true then 1 else 0)) - 2 * (if decide (V.str ⟨#[c]⟩ = V.str "o") = true then 1 else 0) = kindOf c := by
  have e1 : ("abAB" : Str).cps.toList = [97, 98, 65, 66] := by decide +kernel
  have e2 : (V.str ⟨#[c]⟩ = V.str "o") ↔ c = 111 := by
    have : ("o" : Str) = ⟨#[111]⟩ := by decide +kernel
    rw [this]; simp
  rw [e1]
  unfold kindOf
  by_cases h : c = 111
  · subst h
    rw [decide_eq_true (e2.mpr rfl)]
    simp
  · rw [decide_eq_false (fun z => h (e2.mp z)), if_neg h]
    by_cases h2 : c ∈ [97, 98, 65, 66]
    · rw [decide_eq_true h2, if_pos h2]; simp
    · rw [decide_eq_false h2, if_neg h2]; simp
theorem star_eq (c : Nat) : (!decide (cellV c = V.str "*")) = !decide (c = 42) := by
  have : V.str "*" = cellV 42 := by
    have : ("*" : Str) = ⟨#[42]⟩ := by decide +kernel
    rw [this]; rfl
  rw [this]
  congr 1
  unfold cellV
  simp
theorem flat_cells (cs : List Nat) : (cs.map cellV).all flatV = true := by
  rw [List.all_map, List.all_eq_true]
  intro c _
  rfl
theorem in_cells (cs : List Nat) : (!inV (V.str "*") (cs.map cellV)) = !decide (42 ∈ cs) := by
  have : V.str "*" = cellV 42 := by
    have : ("*" : Str) = ⟨#[42]⟩ := by decide +kernel
    rw [this]; rfl
  rw [this]
  congr 1
  unfold inV
  rw [List.any_map]
  induction cs with
  | nil => rfl
  | cons a r ih =>
    rw [List.any_cons, ih]
    show ((⟨#[a]⟩ : Str) == ⟨#[42]⟩ || decide (42 ∈ r)) = decide (42 ∈ a :: r)
    by_cases h : a = 42
    · subst h; simp
    · have : ((⟨#[a]⟩ : Str) == ⟨#[42]⟩) = false := by
        simp [h]
      rw [this]
      simp [Ne.symm h]
/-- cells[free.pop()] = c -/
theorem pop_set {B : Hp} {Fr Cc : Addr} {ms : List Int} {cs : List Nat} {n j c : Nat} {m0 : Int} {R : Hp → Prop} (hms : B Fr = some (.lst (ms.map V.int))) (hC : B Cc = some (.lst (cs.map cellV))) (hFC : Fr ≠ Cc) (K0 : Cells n cs ms) (hm : ms[ms.length - 1]? = some m0) (ej : m0 = (j : Int)) (e46 : cs[j]? = some 46)
    (k : ∀ B', B' Fr = some (.lst (ms.dropLast.map V.int)) → B' Cc = some (.lst ((cs.set j c).map cellV)) → Off (fun b => b = Fr ∨ b = Cc) B B' → R B') : rPop (.ref Fr) [] B (fun i H2 => rSetL (.ref Cc) i (cellV c) H2 R) := by
  refine ⟨Fr, _, .int m0, rfl, rfl, hms, by rw [List.length_map, List.getElem?_map, hm]; rfl, ?_⟩
  have hj : j < (cs.map cellV).length := by rw [List.length_map]; exact (List.getElem?_eq_some_iff.mp e46).1
  refine ⟨Cc, cs.map cellV, m0, j, rfl, rfl, by rw [upd_ne (Ne.symm hFC)]; exact hC, by rw [ej]; unfold ixN; rw [if_pos (by omega), if_pos (by omega)]; rfl, ?_⟩
  refine k _ (by rw [upd_ne hFC, upd_same, dropLast_mapV]) (by rw [upd_same, set_mapC]) (fun b o hb e => ?_)
  rw [upd_ne (fun z => hb (.inr z)), upd_ne (fun z => hb (.inl z))]
  exact e
/-- cells as they are strewn at last -/
structure Strewn (n : Nat) (cs : List Nat) : Prop where
  len : cs.length = n
  inM : ∀ c ∈ cs, c ∈ marksS.cps.toList
  c64 : cs.count 64 = 1
  c49 : cs.count 49 ≤ 1
  c50 : cs.count 50 ≤ cs.count 49
  c42 : cs.count 42 ≤ 1
  c111 : cs.count 111 ≤ 3
  cab : cs.count 97 + cs.count 98 + cs.count 65 + cs.count 66 ≤ 4
theorem chunks (w : Nat) : ∀ (h : Nat) (cs : List Nat), cs.length = h * w → ((List.range h).map fun k => (cs.drop (w * k)).take w).flatten = cs
  | 0, cs, e => by
    have : cs = [] := List.eq_nil_of_length_eq_zero (by simpa using e)
    rw [this]; rfl
  | h + 1, cs, e => by
    have ih := chunks w h (cs.drop w) (by rw [List.length_drop, e, Nat.succ_mul]; omega)
    rw [List.range_succ_eq_map, List.map_cons, List.flatten_cons, List.map_map]
    have e2 : ((fun k => (cs.drop (w * k)).take w) ∘ Nat.succ) = fun k => ((cs.drop w).drop (w * k)).take w := by
      funext k
      simp [List.drop_drop, Nat.mul_succ, Nat.add_comm]
    rw [e2, ih, Nat.mul_zero, List.drop_zero, List.take_append_drop]
theorem manyZ_keys (z : Str) : manyZ z "abAB" = Txt.count z "a" + Txt.count z "b" + Txt.count z "A" + Txt.count z "B" := by
  have e : ("abAB" : Str).cps.toList = [97, 98, 65, 66] := by decide +kernel
  have ea : ("a" : Str) = ⟨#[97]⟩ := by decide +kernel
  have eb : ("b" : Str) = ⟨#[98]⟩ := by decide +kernel
  have eA : ("A" : Str) = ⟨#[65]⟩ := by decide +kernel
  have eB : ("B" : Str) = ⟨#[66]⟩ := by decide +kernel
  unfold manyZ
  rw [e, ea, eb, eA, eB]
  simp
  omega
theorem cnts (z : Str) : Txt.count z "@" = (z.cps.toList.count 64 : Nat) ∧ Txt.count z "*" = (z.cps.toList.count 42 : Nat) ∧ Txt.count z "1" = (z.cps.toList.count 49 : Nat) ∧ Txt.count z "2" = (z.cps.toList.count 50 : Nat) ∧ Txt.count z "o" = (z.cps.toList.count 111 : Nat) ∧
    Txt.count z "a" = (z.cps.toList.count 97 : Nat) ∧ Txt.count z "b" = (z.cps.toList.count 98 : Nat) ∧ Txt.count z "A" = (z.cps.toList.count 65 : Nat) ∧ Txt.count z "B" = (z.cps.toList.count 66 : Nat) := by
  refine ⟨?_, ?_, ?_, ?_, ?_, ?_, ?_, ?_, ?_⟩
  · rw [← count_nat]; congr 1
  · rw [← count_nat]; congr 1
  · rw [← count_nat]; congr 1
  · rw [← count_nat]; congr 1
  · rw [← count_nat]; congr 1
  · rw [← count_nat]; congr 1
  · rw [← count_nat]; congr 1
  · rw [← count_nat]; congr 1
  · rw [← count_nat]; congr 1
/-- the same, told by numbers -/
theorem wholeZ_iff (z : Str) : wholeZ z = true ↔ (z.length ≤ 24 ∧ z.cps.toList.count 64 = 1) ∧ (z.cps.toList.count 42 ≤ 1 ∧ z.cps.toList.count 49 ≤ 1 ∧ z.cps.toList.count 50 ≤ z.cps.toList.count 49) ∧ z.cps.toList.count 111 ≤ 3 ∧
    z.cps.toList.count 97 + z.cps.toList.count 98 + z.cps.toList.count 65 + z.cps.toList.count 66 ≤ 4 := by
  obtain ⟨a1, a2, a3, a4, a5, a6, a7, a8, a9⟩ := cnts z
  unfold wholeZ
  rw [manyZ_keys, a1, a2, a3, a4, a5, a6, a7, a8, a9]
  have m50 : 50 ∈ z.cps.toList ↔ 0 < z.cps.toList.count 50 := List.count_pos_iff.symm
  have m49 : 49 ∈ z.cps.toList ↔ 0 < z.cps.toList.count 49 := List.count_pos_iff.symm
  simp only [Bool.and_eq_true, Bool.not_eq_true', Bool.or_eq_false_iff, decide_eq_true_eq, decide_eq_false_iff_not, Bool.not_eq_false', Bool.and_eq_false_iff, m50, m49]
  omega
theorem cut_at (z : Str) {a b : Nat} (h : a ≤ b) (hb : b ≤ z.length) : (cutS z (some (a : Int)) (some (b : Int))).cps.toList = (z.cps.toList.drop a).take (b - a) := by
  have e : ∀ (c d : Nat), c ≤ z.length → HT.sIx z.length d (some (c : Int)) = c := fun c d hc => by
    show (if (c : Int) < 0 then ((c : Int) + (z.length : Int)).toNat else min (c : Int).toNat z.length) = c
    rw [if_neg (by omega), Int.toNat_natCast]
    omega
  unfold cutS
  rw [e b _ hb, e a _ (by omega)]
theorem str_cps {x y : Str} (h : x.cps.toList = y.cps.toList) : x = y := by
  cases x; cases y
  simp only [Str.mk.injEq]
  exact Array.toList_inj.mp h
/-- the rows of a line of cells -/
def rowsOf (z : Str) (h w : Nat) : List Str := (List.range h).map fun k => cutS z (some ((w * k : Nat) : Int)) (some ((w * k + w : Nat) : Int))
theorem rowsOf_join {z : Str} {h w : Nat} (e : z.length = h * w) : Txt.join "" (rowsOf z h w) = z := by
  refine str_cps ?_
  rw [join_cps, rowsOf, List.map_map]
  have e2 : z.cps.toList.length = h * w := by rw [Array.length_toList]; exact e
  rw [← chunks w h z.cps.toList e2]
  congr 1
  refine List.map_congr_left fun k hk => ?_
  have hk' := List.mem_range.mp hk
  have : w * k + w ≤ z.length := by
    rw [e, ← Nat.mul_succ, Nat.mul_comm]
    exact Nat.mul_le_mul_right _ hk'
  show (cutS z _ _).cps.toList = _
  rw [cut_at z (by omega) this, Nat.add_sub_cancel_left]
theorem rowsOf_mem {z : Str} {h w : Nat} (e : z.length = h * w) {r : Str} (hr : r ∈ rowsOf z h w) : r.length = w ∧ ∀ c ∈ r.cps.toList, c ∈ z.cps.toList := by
  obtain ⟨k, hk, rfl⟩ := List.mem_map.mp hr
  have hk' := List.mem_range.mp hk
  have : w * k + w ≤ z.length := by
    rw [e, ← Nat.mul_succ, Nat.mul_comm]
    exact Nat.mul_le_mul_right _ hk'
  have ec := cut_at z (show w * k ≤ w * k + w by omega) this
  rw [Nat.add_sub_cancel_left] at ec
  refine ⟨?_, fun c hc => ?_⟩
  · have : (cutS z (some ((w * k : Nat) : Int)) (some ((w * k + w : Nat) : Int))).cps.toList.length = w := by
      rw [ec, List.length_take, List.length_drop, Array.length_toList]
      have : z.cps.size = z.length := rfl
      omega
    rw [Array.length_toList] at this
    exact this
  · rw [ec] at hc
    exact List.mem_of_mem_drop (List.mem_of_mem_take hc)
theorem lineS_of {r : Str} (h1 : 1 ≤ r.length) (h6 : r.length ≤ 6) (h : ∀ c ∈ r.cps.toList, c ∈ marksS.cps.toList) : lineS r = true := by
  have a1 : decide (1 ≤ r.length) = true := by simpa using h1
  have a2 : decide (r.length ≤ 6) = true := by simpa using h6
  have a3 : (r.cps.toList.all fun c => decide (c ∈ marksS.cps.toList)) = true := by
    rw [List.all_eq_true]
    exact fun c hc => by simpa using h c hc
  unfold lineS
  rw [a1, a2, a3]; rfl
theorem Strewn.whole {n : Nat} {z : Str} (h : Strewn n z.cps.toList) (hn : n ≤ 24) : wholeZ z = true := by
  rw [wholeZ_iff]
  have : z.length = n := by rw [← h.len, Array.length_toList]; rfl
  exact ⟨⟨by omega, h.c64⟩, ⟨h.c42, h.c49, h.c50⟩, h.c111, h.cab⟩
/-- marks that may be strewn -/
structure MarksOk (mk : Str) : Prop where
  l1 : 1 ≤ mk.length
  l2 : mk.length ≤ 100
  al : ∀ c ∈ mk.cps.toList, c ∈ marksS.cps.toList ∧ c ≠ 64 ∧ c ≠ 49 ∧ c ≠ 50
def spRows (K : PySem.W.Frag) : Sp := fun vs H Q _ => ∃ (l p : Addr) (mk : Str) (mo : Nat), vs = [.ref p, .str mk, .int mo] ∧ PoolAt K H l p ∧ MarksOk mk ∧ mo ≤ 2 ∧
  ∀ (D : Addr) (rows : List Str) (wd : Nat) (H' : Hp), H D = none → RowsOk rows wd → (∀ r ∈ rows, lineS r = true) → wholeZ (Txt.join "" rows) = true → H' D = some (.lst (rows.map V.str)) → Off (fun b => b = p) H H' → PoolAt K H' l p → Q (.ref D) H'
def ShapeAt (H : Hp) (v : V) : Prop := ∃ (t : Addr) (h w : Nat), v = .ref t ∧ H t = some (.tup [.int h, .int w]) ∧ 1 ≤ h ∧ h ≤ 5 ∧ 1 ≤ w ∧ w ≤ 6 ∧ 3 ≤ h * w ∧ h * w ≤ 10
theorem ShapeAt.same {H H' : Hp} {v : V} (s : Same H H') (h : ShapeAt H v) : ShapeAt H' v := by
  obtain ⟨t, a, b, rfl, e, r⟩ := h
  exact ⟨t, a, b, rfl, s _ _ e, r⟩
theorem ok_rows {f : Addr} {fd : FuncData} (F : Fun K "_law_rows" "_law_rows" s__law_rows f fd) (T : Rb mg) (c__law_draw : CalG P w K mg base 1 "_law_draw" (spDraw K)) (c__law_shuffled : CalG P w K mg base 2 "_law_shuffled" (spShuf K)) : FnG P w K mg base (CXe P w) 3 f fd ["pool", "marks", "mouths"] (spRows K) := by
  refine F.okG sc__law_rows (fun vs H Q E h => ?_) (fun cdv A outer s H vs Q E hgd hr h => ?_)
  · obtain ⟨l, p, mk, mo, rfl, _⟩ := h; rfl
  · obtain ⟨l, p, mk, mo, rfl, hp, hmk, hmo, k⟩ := h
    refine ⟨_, (pss_cons (ps_set (i := 3) sc__law_rows.nd rfl (Or.inl rfl) (pe_lstA (pa_cons (pe_tupA (pa_cons pe_int (pa_cons pe_int pa_nil))) (pa_cons (pe_tupA (pa_cons pe_int (pa_cons pe_int pa_nil))) (pa_cons (pe_tupA (pa_cons pe_int (pa_cons pe_int pa_nil))) (pa_cons (pe_tupA (pa_cons pe_int (pa_cons pe_int pa_nil))) (pa_cons (pe_tupA (pa_cons pe_int (pa_cons pe_int pa_nil))) (pa_cons (pe_tupA (pa_cons pe_int (pa_cons pe_int pa_nil))) (pa_cons (pe_tupA (pa_cons pe_int (pa_cons pe_int pa_nil))) (pa_cons (pe_tupA (pa_cons pe_int (pa_cons pe_int pa_nil))) (pa_cons (pe_tupA (pa_cons pe_int (pa_cons pe_int pa_nil))) (pa_cons (pe_tupA (pa_cons pe_int (pa_cons pe_int pa_nil))) pa_nil))))))))))))
      (pss_cons (ps_asg (pe_ix ix_list (pv 3) (pg_c c__law_draw hgd hr (by decide) (pa_cons (pv 0) (pa_cons pe_int pa_nil))) (fun _ _ => rfl)) (pg_tup (by rfl) (pgs_cons (pg_name (i := 4) sc__law_rows.nd rfl (Or.inl rfl)) (pgs_cons (pg_name (i := 5) sc__law_rows.nd rfl (Or.inr rfl)) pgs_nil))))
      (pss_cons (ps_set (i := 6) sc__law_rows.nd rfl (Or.inl rfl) (pe_op op_rep (pe_lstA (pa_cons pe_str pa_nil)) (pe_op op_mul (pv 4) (pv 5))))
      (pss_cons (ps_set (i := 7) sc__law_rows.nd rfl (Or.inl rfl) (pg_c c__law_shuffled hgd hr (by decide) (pa_cons (pv 0) (pa_cons (pe_listRg rfl (by rfl) T.n_list (prg_1 (by rfl) T.n_range (pe_op op_mul (pv 4) (pv 5)))) pa_nil))))
      (pss_cons (ps_asg pe_str (pg_sub (pv 6) (pe_bm0 PySem.F.plainAttrs_list PySem.F.slot_list_pop PySem.F.type_list_pop mt_pop (pv 7)) set_list))
      (pss_cons (ps_for (passes_of rfl) rfl (pi_str (pe_slice sl_str pe_str po_none (po_some (pv 2)))) (pg_name (i := 8) sc__law_rows.nd rfl (Or.inl rfl))
      (pss_one (ps_asg (pv 8) (pg_sub (pv 6) (pe_bm0 PySem.F.plainAttrs_list PySem.F.slot_list_pop PySem.F.type_list_pop mt_pop (pv 7)) set_list))))
      (pss_cons (ps_set (i := 9) sc__law_rows.nd rfl (Or.inl rfl) (pe_lstA (pa_cons pe_int (pa_cons pe_int pa_nil))))
      (C8.pss_cut (ps_for (passes_of rfl) rfl (pi_list (pv 7)) (pg_name (i := 10) sc__law_rows.nd rfl (Or.inl rfl))
      (pss_cons (ps_set (i := 8) sc__law_rows.nd rfl (Or.inl rfl) (pe_ix ix_str (pv 1) (pg_c c__law_draw hgd hr (by decide) (pa_cons (pv 0) (pa_cons (pe_callB call_len_str (by rfl) T.n_len (by decide +kernel) (pa_cons (pv 1) pa_nil)) pa_nil))) (fun _ _ => rfl)))
      (C8.pss_cut (ps_set (i := 11) sc__law_rows.nd rfl (Or.inl rfl) (pe_op op_sub (pe_op op_sub pe_int (pe_callTy call_int1 (by rfl) T.n_int (by decide +kernel) (pa_cons (pe_cmpR op_in_sign (pv 8) pe_str (by rfl)) pa_nil))) (pe_op op_mul pe_int (pe_callTy call_int1 (by rfl) T.n_int (by decide +kernel) (pa_cons (pe_cmpR op_eq (pv 8) pe_str (nomark _)) pa_nil)))))
      (C8.pss_cut (ps_if (PW.pt (pw_and (pt_cmpR op_eq (pv 11) pe_int (nomark _)) (pw_and1 (PW.pt (pw_or (pt_cmpR op_ne (pv 8) pe_str (nomark _)) (pw_or1 (pt_cmpR op_notIn_seq pe_str (pv 6) (by rfl)))))))) (pss_one (ps_asg (pv 8) (pg_sub (pv 6) (pv 10) set_list))) pss_nil)
      (pss_one (ps_if (PW.pt (pw_and (pt_cmpR op_lt (pv 11) pe_int (nomark _)) (pw_and1 (pt_cmpR op_lt (pe_ix ix_list (pv 9) (pv 11) (fun _ _ => rfl)) (pe_op op_add pe_int (pv 11)) (nomark _))))) (pss_cons (ps_asg (pe_op op_add (pe_ix ix_list (pv 9) (pv 11) (fun _ _ => rfl)) pe_int) (pg_sub (pv 9) (pv 11) set_list))
      (pss_one (ps_asg (pv 8) (pg_sub (pv 6) (pv 10) set_list)))) pss_nil))))))
      (pss_cons (ps_set (i := 12) sc__law_rows.nd rfl (Or.inr rfl) (pe_m1 PySem.F.slot_str_join PySem.F.type_str_join mt_join pe_str (pv 6)))
      (pss_one (ps_ret (pe_lc (own := [("k", 13)]) (g := gName 13) (tt := tYes) rfl sc__law_rows.nd (pi_range1 (by rfl) T.n_range (pa_cons (pv 4) pa_nil)) (blkOk_by (own := [("k", 13)]) (N := ["pool", "marks", "mouths", "shapes", "height", "width", "cells", "free", "mark", "counts", "at", "kind", "line", "k"]) (sc := defScope s__law_rows) (by decide +kernel)) (fun _ _ _ _ _ => pg_name (i := 13) sc__law_rows.nd rfl (Or.inl rfl)) (fun _ _ _ _ _ => pts_nil) (fun _ _ _ _ _ => (pe_slice sl_str (pv 12) (po_some (pe_op op_mul (pv 5) (pv 13))) (po_some (pe_op op_add (pe_op op_mul (pv 5) (pv 13)) (pv 5))))))))))))))))), ?_⟩
    refine And.intro (Nat.le_of_ble_eq_true rfl) (fun t0 A0 n0 => ?_)
    have p0 : ShapeAt A0 (.ref t0) := ⟨_, 1, 4, rfl, n0.at_, by decide, by decide, by decide, by decide, by decide, by decide⟩
    have s0 : Same H A0 := n0.same
    refine And.intro (Nat.le_of_ble_eq_true rfl) (fun t1 A1 n1 => ?_)
    have p1 : ShapeAt A1 (.ref t1) := ⟨_, 2, 2, rfl, n1.at_, by decide, by decide, by decide, by decide, by decide, by decide⟩
    have p0 := p0.same n1.same
    have s1 : Same H A1 := s0.trans n1.same
    refine And.intro (Nat.le_of_ble_eq_true rfl) (fun t2 A2 n2 => ?_)
    have p2 : ShapeAt A2 (.ref t2) := ⟨_, 1, 6, rfl, n2.at_, by decide, by decide, by decide, by decide, by decide, by decide⟩
    have p0 := p0.same n2.same
    have p1 := p1.same n2.same
    have s2 : Same H A2 := s1.trans n2.same
    refine And.intro (Nat.le_of_ble_eq_true rfl) (fun t3 A3 n3 => ?_)
    have p3 : ShapeAt A3 (.ref t3) := ⟨_, 2, 3, rfl, n3.at_, by decide, by decide, by decide, by decide, by decide, by decide⟩
    have p0 := p0.same n3.same
    have p1 := p1.same n3.same
    have p2 := p2.same n3.same
    have s3 : Same H A3 := s2.trans n3.same
    refine And.intro (Nat.le_of_ble_eq_true rfl) (fun t4 A4 n4 => ?_)
    have p4 : ShapeAt A4 (.ref t4) := ⟨_, 3, 2, rfl, n4.at_, by decide, by decide, by decide, by decide, by decide, by decide⟩
    have p0 := p0.same n4.same
    have p1 := p1.same n4.same
    have p2 := p2.same n4.same
    have p3 := p3.same n4.same
    have s4 : Same H A4 := s3.trans n4.same
    refine And.intro (Nat.le_of_ble_eq_true rfl) (fun t5 A5 n5 => ?_)
    have p5 : ShapeAt A5 (.ref t5) := ⟨_, 2, 4, rfl, n5.at_, by decide, by decide, by decide, by decide, by decide, by decide⟩
    have p0 := p0.same n5.same
    have p1 := p1.same n5.same
    have p2 := p2.same n5.same
    have p3 := p3.same n5.same
    have p4 := p4.same n5.same
    have s5 : Same H A5 := s4.trans n5.same
    refine And.intro (Nat.le_of_ble_eq_true rfl) (fun t6 A6 n6 => ?_)
    have p6 : ShapeAt A6 (.ref t6) := ⟨_, 3, 3, rfl, n6.at_, by decide, by decide, by decide, by decide, by decide, by decide⟩
    have p0 := p0.same n6.same
    have p1 := p1.same n6.same
    have p2 := p2.same n6.same
    have p3 := p3.same n6.same
    have p4 := p4.same n6.same
    have p5 := p5.same n6.same
    have s6 : Same H A6 := s5.trans n6.same
    refine And.intro (Nat.le_of_ble_eq_true rfl) (fun t7 A7 n7 => ?_)
    have p7 : ShapeAt A7 (.ref t7) := ⟨_, 1, 3, rfl, n7.at_, by decide, by decide, by decide, by decide, by decide, by decide⟩
    have p0 := p0.same n7.same
    have p1 := p1.same n7.same
    have p2 := p2.same n7.same
    have p3 := p3.same n7.same
    have p4 := p4.same n7.same
    have p5 := p5.same n7.same
    have p6 := p6.same n7.same
    have s7 : Same H A7 := s6.trans n7.same
    refine And.intro (Nat.le_of_ble_eq_true rfl) (fun t8 A8 n8 => ?_)
    have p8 : ShapeAt A8 (.ref t8) := ⟨_, 4, 2, rfl, n8.at_, by decide, by decide, by decide, by decide, by decide, by decide⟩
    have p0 := p0.same n8.same
    have p1 := p1.same n8.same
    have p2 := p2.same n8.same
    have p3 := p3.same n8.same
    have p4 := p4.same n8.same
    have p5 := p5.same n8.same
    have p6 := p6.same n8.same
    have p7 := p7.same n8.same
    have s8 : Same H A8 := s7.trans n8.same
    refine And.intro (Nat.le_of_ble_eq_true rfl) (fun t9 A9 n9 => ?_)
    have p9 : ShapeAt A9 (.ref t9) := ⟨_, 2, 5, rfl, n9.at_, by decide, by decide, by decide, by decide, by decide, by decide⟩
    have p0 := p0.same n9.same
    have p1 := p1.same n9.same
    have p2 := p2.same n9.same
    have p3 := p3.same n9.same
    have p4 := p4.same n9.same
    have p5 := p5.same n9.same
    have p6 := p6.same n9.same
    have p7 := p7.same n9.same
    have p8 := p8.same n9.same
    have s9 : Same H A9 := s8.trans n9.same
    refine And.intro (Nat.le_of_ble_eq_true rfl) (fun S B0 nS => ?_)
    have sS := s9.trans nS.same
    have shp : ∀ v ∈ [V.ref t0, .ref t1, .ref t2, .ref t3, .ref t4, .ref t5, .ref t6, .ref t7, .ref t8, .ref t9], ShapeAt B0 v := by
      intro v hv
      simp only [List.mem_cons, List.not_mem_nil, or_false] at hv
      rcases hv with rfl | rfl | rfl | rfl | rfl | rfl | rfl | rfl | rfl | rfl <;> first | exact p0.same nS.same | exact p1.same nS.same | exact p2.same nS.same | exact p3.same nS.same | exact p4.same nS.same | exact p5.same nS.same | exact p6.same nS.same | exact p7.same nS.same | exact p8.same nS.same | exact p9.same nS.same
    walk_at "rd"
    refine ⟨l, p, 10, rfl, hp.same sS, by decide, by decide, fun r B1 ra rb o1 hp1 => ?_⟩
    have hSp : S ≠ p := (hp.same s9).ne nS.free
    have hS1 := o1 _ _ hSp nS.at_
    obtain ⟨v, hv⟩ : ∃ v, ([V.ref t0, .ref t1, .ref t2, .ref t3, .ref t4, .ref t5, .ref t6, .ref t7, .ref t8, .ref t9] : List V)[r.toNat]? = some v := ⟨_, List.getElem?_eq_getElem (by simp; omega)⟩
    refine ⟨S, _, r, v, rfl, rfl, SqL.of hS1, ?_, ?_⟩
    · have := atI_nat hv
      rwa [Int.toNat_of_nonneg ra] at this
    obtain ⟨t, hh, ww, rfl, ht, h1, h5, w1, w6, m3, m10⟩ := shp v (List.mem_of_getElem? hv)
    have htp : t ≠ p := fun z => by
      obtain ⟨xs, i, c, n, zz, e1, _⟩ := hp.same sS
      rw [z, e1] at ht
      cases ht
    have ht1 := o1 _ _ htp ht
    refine ⟨t, _, rfl, SqT.of ht1, rfl, _, _, rfl, _, _, rfl, rfl, ?_⟩
    have s1 : Off (fun b => b = p) H B1 := (Off.same sS).trans o1
    refine And.intro (Nat.le_of_ble_eq_true rfl) (fun C0 B2 nC => ?_)
    have en : (hh : Int) * (ww : Int) = ((hh * ww : Nat) : Int) := by simp
    obtain ⟨n, hn⟩ : ∃ n, n = hh * ww := ⟨_, rfl⟩
    rw [← hn] at en m3 m10
    refine ⟨_, rfl, _, rfl, _, _, rfl, rfl, .inl ⟨by omega, by omega⟩, ?_⟩
    refine ⟨C0, ((n : Nat) : Int), _, rfl, congrArg V.int en, nC.at_, by omega, by omega, ?_, fun Cc hCc => ?_⟩
    · rw [Int.toNat_natCast]
      show 1 * n ≤ _
      exact Nat.le_of_lt (small1000 (by omega))
    have eC : (List.replicate ((n : Nat) : Int).toNat [V.str "."]).flatten = (List.replicate n 46).map cellV := by
      rw [Int.toNat_natCast, rep_flat, List.map_replicate]
      have : V.str "." = cellV 46 := by
        have : ("." : Str) = ⟨#[46]⟩ := by decide +kernel
        rw [this]; rfl
      rw [this]
    rw [eC]
    have sC : Same B2 (upd B2 Cc (.lst ((List.replicate n 46).map cellV))) := same_new hCc
    have hC3 : upd B2 Cc (.lst ((List.replicate n 46).map cellV)) Cc = some (.lst ((List.replicate n 46).map cellV)) := upd_same
    have hp2 : PoolAt K B2 l p := hp1.same nC.same
    have hCp : Cc ≠ p := hp2.ne hCc
    have hCl : Cc ≠ l := hp2.nel hCc
    generalize upd B2 Cc (.lst ((List.replicate n 46).map cellV)) = B3 at sC hC3 ⊢
    have hp3 := hp2.same sC
    walk_at "rd"
    refine And.intro (.inl ⟨by omega, by omega⟩) ?_
    refine ⟨((n : Nat) : Int), congrArg V.int en, RgOk.of_le (by omega) (by omega) (by omega) (by omega), fun q hq => ?_⟩
    have eR : rgV 0 ((n : Nat) : Int) = ((List.range n).map Int.ofNat).map V.int := by
      unfold rgV
      rw [List.map_map]
      simp
    rw [eR]
    have sR : Same B3 (upd B3 q (.lst (((List.range n).map Int.ofNat).map V.int))) := same_new hq
    have hR4 : upd B3 q (.lst (((List.range n).map Int.ofNat).map V.int)) q = some (.lst (((List.range n).map Int.ofNat).map V.int)) := upd_same
    have hqp : q ≠ p := hp3.ne hq
    generalize upd B3 q (.lst (((List.range n).map Int.ofNat).map V.int)) = B4 at sR hR4 ⊢
    have hp4 := hp3.same sR
    have hC4 := sR _ _ hC3
    walk_at "rd"
    refine ⟨l, p, q, _, rfl, hp4, hqp, hR4, by simp; omega, fun Fr ms B5 hFr pm hms o5 hp5 => ?_⟩
    have hC5 := o5 _ _ hCp hC4
    have hFp : Fr ≠ p := hp4.ne hFr
    have hFl : Fr ≠ l := hp4.nel hFr
    have hFC : Fr ≠ Cc := fun z => by rw [z, hC4] at hFr; cases hFr
    have K0 := Cells.begin n pm
    have lms : ms.length = n := by rw [pm.length_eq]; simp
    walk_at "rd"
    obtain ⟨m0, hm0⟩ : ∃ m, ms[ms.length - 1]? = some m := ⟨_, List.getElem?_eq_getElem (by omega)⟩
    obtain ⟨j0, ej0, e46⟩ := K0.free m0 (List.mem_of_getElem? hm0)
    have pm0 := perm_last hm0
    have e64 : V.str "@" = cellV 64 := by
      have : ("@" : Str) = ⟨#[64]⟩ := by decide +kernel
      rw [this]; rfl
    rw [e64]
    refine And.intro (.inl ⟨rfl, _, SqL.of hms⟩) ?_
    refine pop_set hms hC5 hFC K0 hm0 ej0 e46 fun B6 hF6 hC6 o6 => ?_
    have K1 := K0.put pm0 ej0 e46 (c := 64) (by decide +kernel)
    have hp6 : PoolAt K B6 l p := by
      obtain ⟨xs, i, c, n', zz, e1, e2, e3, e4⟩ := hp5
      exact ⟨xs, i, c, n', zz, o6 _ _ (fun z => z.elim (fun y => hFp y.symm) (fun y => hCp y.symm)) e1, e2, o6 _ _ (fun z => z.elim (fun y => hFl y.symm) (fun y => hCl y.symm)) e3, e4⟩
    have c1 : ∀ x, x ≠ 46 → ((List.replicate n 46).set j0 64).count x = if 64 = x then 1 else 0 := fun x hx => by
      rw [count_put e46 hx, List.count_replicate]
      simp [Ne.symm hx]
    walk_at "rd"
    refine And.intro (by decide +kernel) ?_
    obtain ⟨u, hu⟩ : ∃ u, u = cutS "12" none (some (mo : Int)) := ⟨_, rfl⟩
    have eu : u.cps.toList = [49, 50].take mo := by
      have : mo = 0 ∨ mo = 1 ∨ mo = 2 := by omega
      rcases this with rfl | rfl | rfl <;> (rw [hu]; decide +kernel)
    have zu : u.cps.size = mo := by
      have := congrArg List.length eu
      rw [List.length_take] at this
      have h2 : u.cps.toList.length = u.cps.size := Array.length_toList
      rw [← h2, this]
      show min mo 2 = mo
      omega
    rw [← hu]
    refine ⟨_, rfl, for_it walk_str (fun i σ B => ∃ (o8 : Option V) (cs : List Nat) (ms : List Int), σ = [some (.ref p), some (.str mk), some (.int mo), some (.ref S), some (.int hh), some (.int ww), some (.ref Cc), some (.ref Fr), o8, none, none, none, none, none] ∧
      B Fr = some (.lst (ms.map V.int)) ∧ B Cc = some (.lst (cs.map cellV)) ∧ Cells n cs ms ∧ ms.length + i + 1 = n ∧ PoolAt K B l p ∧ (∀ x, x ≠ 46 → cs.count x = (if 64 = x then 1 else 0) + ([49, 50].take i).count x) ∧ Off (fun b => b = Fr ∨ b = Cc) B5 B)
      ⟨none, _, _, rfl, hF6, hC6, K1, by rw [List.length_dropLast, lms]; omega, hp6, fun x hx => by rw [c1 x hx]; simp, o6⟩ (fun _ _ _ _ _ => trivial) ?_ ?_⟩
    · rintro i x σ B7 B7' hi ⟨o8, cs, ms, rfl, hF7, hC7, K7, l7, hp7, c7, o7⟩ ⟨rfl, c, hc, rfl⟩
      rw [zu] at hi
      walk_at "rd"
      refine And.intro (.inl ⟨rfl, _, SqL.of hF7⟩) ?_
      obtain ⟨m, hm⟩ : ∃ m, ms[ms.length - 1]? = some m := ⟨_, List.getElem?_eq_getElem (by omega)⟩
      obtain ⟨j, ej, ej46⟩ := K7.free m (List.mem_of_getElem? hm)
      have hcu : [49, 50][i]? = some c := by
        have h1 : u.cps.toList[i]? = some c := by simpa using hc
        rw [eu, List.getElem?_take_of_lt hi] at h1
        exact h1
      have c46 : c = 49 ∨ c = 50 := by
        have := List.mem_of_getElem? hcu
        simpa using this
      refine pop_set hF7 hC7 hFC K7 hm ej ej46 (c := c) fun B8 hF8 hC8 o8' => ?_
      refine ⟨_, _, _, rfl, hF8, hC8, K7.put (c := c) (perm_last hm) ej ej46 (by rcases c46 with rfl | rfl <;> decide +kernel), by rw [List.length_dropLast]; omega, ?_, fun x hx => ?_, o7.trans o8'⟩
      · obtain ⟨xs, i, c, n', zz, e1, e2, e3, e4⟩ := hp7
        exact ⟨xs, i, c, n', zz, o8' _ _ (fun z => z.elim (fun y => hFp y.symm) (fun y => hCp y.symm)) e1, e2, o8' _ _ (fun z => z.elim (fun y => hFl y.symm) (fun y => hCl y.symm)) e3, e4⟩
      · rw [count_put ej46 hx, c7 x hx, List.take_add_one, hcu, List.count_append]
        simp [List.count_cons]
        omega
    · rintro σ B7 ⟨o8, cs, ms, rfl, hF7, hC7, K7, l7, hp7, c7, o7⟩
      rw [zu] at l7 c7
      refine And.intro (Nat.le_of_ble_eq_true rfl) (fun N B8 nN => ?_)
      have hF8 := nN.same _ _ hF7
      have hC8 := nN.same _ _ hC7
      have hp8 := hp7.same nN.same
      have hNp : N ≠ p := hp7.ne nN.free
      have hNl : N ≠ l := hp7.nel nN.free
      have hNF : N ≠ Fr := fun z => by rw [← z, nN.free] at hF7; cases hF7
      have hNC : N ≠ Cc := fun z => by rw [← z, nN.free] at hC7; cases hC7
      refine ⟨fun σ' H' => ∃ (o8 o10 o11 : Option V) (cs' : List Nat), σ' = [some (.ref p), some (.str mk), some (.int mo), some (.ref S), some (.int hh), some (.int ww), some (.ref Cc), some (.ref Fr), o8, some (.ref N), o10, o11, none, none] ∧
        H' Cc = some (.lst (cs'.map cellV)) ∧ Strewn n cs' ∧ PoolAt K H' l p ∧ Off (fun b => b = p) H H', ?_, ?_⟩
      rotate_left
      · rintro σ' H' ⟨o8', o10, o11, cs', rfl, hC', fw, hp', oF⟩
        walk_at "rd"
        have eM : cs'.map cellV = (cs'.map fun c => (⟨#[c]⟩ : Str)).map V.str := by rw [List.map_map]; rfl
        have lenM : ((cs'.map fun c => (⟨#[c]⟩ : Str)).map fun x => x.length).sum = n := by
          rw [← fw.len]
          clear fw hC' eM
          induction cs' with
          | nil => rfl
          | cons a r ih => rw [List.map_cons, List.map_cons, List.sum_cons, ih, List.length_cons]; show 1 + _ = _; omega
        refine ⟨⟨_, rfl⟩, _, rfl, "", Cc, cs'.map fun c => (⟨#[c]⟩ : Str), rfl, rfl, .inl (SqL.of (by rw [← eM]; exact hC')), by rw [lenM, List.length_map, fw.len]; show n + n * 0 ≤ _; omega, ?_⟩
        obtain ⟨z, hz⟩ : ∃ z, z = Txt.join "" (cs'.map fun c => (⟨#[c]⟩ : Str)) := ⟨_, rfl⟩
        rw [← hz]
        have zc : z.cps.toList = cs' := by rw [hz]; exact join_cells cs'
        have zl : z.length = hh * ww := by
          have : z.cps.toList.length = n := by rw [zc]; exact fw.len
          rw [Array.length_toList] at this
          rw [← hn]; exact this
        walk_at "rd"
        refine ⟨by omega, by omega, ?_⟩
        rw [Int.toNat_natCast]
        refine fun D hD => lc_it walk_range (fun i H2 => H2 D = some (.lst ((rowsOf z i ww).map V.str)) ∧ Off (fun b => b = D) H' H2) ⟨upd_same, Off.new hD⟩ (fun _ _ _ _ => trivial) ?_ ?_
        · rintro i x H1 H2 hi ⟨hacc, off⟩ ⟨rfl, rfl⟩
          refine And.intro rfl ?_
          refine yes_of ?_
          refine iteT ?_
          have zs : z.length ≤ sizeLine := Nat.le_of_lt (small1000 (by omega))
          have hx : (ww : Int) * (0 + (i : Int)) = ((ww * i : Nat) : Int) := by simp
          walk_at "rd"
          have cm : CMul (ww : Int) (0 + (i : Int)) := .inl ⟨by omega, by omega⟩
          refine And.intro cm ⟨_, congrArg V.int hx, ?_⟩
          walk_at "rd"
          refine ⟨_, hacc, ?_, ?_, off.trans (Off.mut rfl)⟩
          · rw [List.length_map]
            have : (rowsOf z i ww).length = i := by unfold rowsOf; rw [List.length_map, List.length_range]
            rw [this]
            exact small1000 (by omega)
          · rw [upd_same]
            have e1 : (ww : Int) * (0 + (i : Int)) + (ww : Int) = ((ww * i + ww : Nat) : Int) := by rw [hx]; simp
            have e2 : rowsOf z (i + 1) ww = rowsOf z i ww ++ [cutS z (some ((ww * i : Nat) : Int)) (some ((ww * i + ww : Nat) : Int))] := by
              unfold rowsOf
              rw [List.range_succ, List.map_append]
              rfl
            rw [e2, List.map_append, ← e1]
            rfl
        · rintro H1 ⟨hacc, off⟩
          have s1 : Same H' H1 := fun b o e => off b o (fun y => by rw [y, hD] at e; cases e) e
          have zm : ∀ r ∈ rowsOf z hh ww, r.length = ww ∧ ∀ c ∈ r.cps.toList, c ∈ marksS.cps.toList := fun r hr =>
            ⟨(rowsOf_mem zl hr).1, fun c hc => fw.inM c (by rw [← zc]; exact (rowsOf_mem zl hr).2 c hc)⟩
          have hDH : H D = none := by
            cases e : H D with
            | none => rfl
            | some o =>
              have := oF D o (fun z => (hp'.ne hD) z) e
              rw [hD] at this; cases this
          have rl : (rowsOf z hh ww).length = hh := by unfold rowsOf; rw [List.length_map, List.length_range]
          exact k D (rowsOf z hh ww) ww H1 hDH ⟨by rw [rl]; exact h1, by rw [rl]; exact h5, w1, w6, fun r hr => (zm r hr).1⟩ (fun r hr => lineS_of (by rw [(zm r hr).1]; exact w1) (by rw [(zm r hr).1]; exact w6) (zm r hr).2)
            (by rw [rowsOf_join zl]; exact Strewn.whole (n := n) (by rw [zc]; exact fw) (by omega)) hacc (oF.trans (Off.same s1)) (hp'.same s1)
      refine ⟨_, rfl, Fr, rfl, ⟨_, SqL.of hF8⟩, for_list (K := K) (a := Fr) (xs := ms.map V.int) (fun i σ B => ∃ (o8 o10 o11 : Option V) (cs' : List Nat) (a0 b0 : Nat), σ = [some (.ref p), some (.str mk), some (.int mo), some (.ref S), some (.int hh), some (.int ww), some (.ref Cc), some (.ref Fr), o8, some (.ref N), o10, o11, none, none] ∧
        B Fr = some (.lst (ms.map V.int)) ∧ B Cc = some (.lst (cs'.map cellV)) ∧ B N = some (.lst [.int a0, .int b0]) ∧ Cells n cs' (ms.drop i) ∧ PoolAt K B l p ∧ cs'.count 64 = 1 ∧ cs'.count 49 = cs.count 49 ∧ cs'.count 50 = cs.count 50 ∧ cs'.count 42 ≤ 1 ∧ (cs'.count 111 = a0 ∧ a0 ≤ 2) ∧
        (cs'.count 97 + cs'.count 98 + cs'.count 65 + cs'.count 66 = b0 ∧ b0 ≤ 3) ∧ Off (fun b => b = p ∨ b = Cc ∨ b = N) B8 B)
        ⟨o8, none, none, cs, 0, 0, rfl, hF8, hC8, nN.at_, K7, hp8, ?_, rfl, rfl, ?_, ?_, ?_, Off.refl _⟩ ?_ ?_ ?_⟩
      · rw [c7 64 (by decide)]; have : mo = 0 ∨ mo = 1 ∨ mo = 2 := by omega
        rcases this with rfl | rfl | rfl <;> decide
      · rw [c7 42 (by decide)]; have : mo = 0 ∨ mo = 1 ∨ mo = 2 := by omega
        rcases this with rfl | rfl | rfl <;> decide
      · rw [c7 111 (by decide)]; have : mo = 0 ∨ mo = 1 ∨ mo = 2 := by omega
        rcases this with rfl | rfl | rfl <;> decide
      · rw [c7 97 (by decide), c7 98 (by decide), c7 65 (by decide), c7 66 (by decide)]; have : mo = 0 ∨ mo = 1 ∨ mo = 2 := by omega
        rcases this with rfl | rfl | rfl <;> decide
      · rintro i σ B hi ⟨_, _, _, _, _, _, _, hF, _⟩
        exact SqL.of hF
      · rintro i y σ B hy ⟨o8', o10, o11, cs', a0, b0, rfl, hF, hC, hN, Kc, hpc, q64, q49, q50, q42, q111, qab, oB⟩
        obtain ⟨m, hm, rfl⟩ : ∃ m, ms[i]? = some m ∧ y = .int m := by
          rw [List.getElem?_map] at hy
          cases e : ms[i]? with
          | none => rw [e] at hy; cases hy
          | some m => rw [e] at hy; exact ⟨m, rfl, (Option.some.inj hy).symm⟩
        have b1 := hmk.l1
        have b2 := hmk.l2
        walk_at "rd"
        refine And.intro (Nat.le_of_lt (small1000 (by omega))) ?_
        refine ⟨l, p, (mk.length : Int), rfl, hpc, by omega, by omega, fun r B2 ra rb o2 hp2 => ?_⟩
        obtain ⟨c, hc⟩ : ∃ c, mk.cps[r.toNat]? = some c := ⟨_, Array.getElem?_eq_getElem (by show r.toNat < mk.length; omega)⟩
        refine ⟨mk, r, c, rfl, rfl, Nat.le_of_lt (small1000 (by omega)), ?_, ?_⟩
        · have := atI_nat (xs := mk.cps.toList) (j := r.toNat) (v := c) (by simpa using hc)
          rwa [Int.toNat_of_nonneg ra] at this
        obtain ⟨cM, c64, c49, c50⟩ := hmk.al c (List.mem_of_getElem? (by simpa using hc))
        have hF2 := o2 _ _ hFp hF
        have hC2 := o2 _ _ hCp hC
        have hN2 := o2 _ _ hNp hN
        walk_at "rd"
        refine ⟨fun σ' H' => H' = B2 ∧ σ' = [some (.ref p), some (.str mk), some (.int mo), some (.ref S), some (.int hh), some (.int ww), some (.ref Cc), some (.ref Fr), some (cellV c), some (.ref N), some (.int m), some (.int (kindOf c)), none, none], ?_, ?_⟩
        · walk_at "rd"
          refine .inr ⟨_, rfl, _, _, rfl, rfl, ?_⟩
          walk_at "rd"
          have ek := kind_eq c
          refine .inr ⟨_, rfl, _, _, rfl, rfl, .inl ⟨by decide, by decide⟩, _, _, rfl, rfl, ?_⟩
          exact ⟨rfl, congrArg (fun z : Int => [some (V.ref p), some (.str mk), some (.int mo), some (.ref S), some (.int hh), some (.int ww), some (.ref Cc), some (.ref Fr), some (cellV c), some (.ref N), some (.int m), some (.int z), none, none]) ek⟩
        rintro σ' H' ⟨rfl, rfl⟩
        obtain ⟨j, ej, ej46⟩ := Kc.free m (by rw [List.mem_iff_getElem?]; exact ⟨0, by rw [List.getElem?_drop]; simpa using hm⟩)
        have pmi : (ms.drop i).Perm (m :: ms.drop (i + 1)) := by
          have hlt : i < ms.length := (List.getElem?_eq_some_iff.mp hm).1
          have : ms[i] = m := (List.getElem?_eq_some_iff.mp hm).2
          rw [List.drop_eq_getElem_cons hlt, this]
        have c46 : True := trivial
        refine ⟨fun σ' H'' => ∃ cs2, σ' = [some (.ref p), some (.str mk), some (.int mo), some (.ref S), some (.int hh), some (.int ww), some (.ref Cc), some (.ref Fr), some (cellV c), some (.ref N), some (.int m), some (.int (kindOf c)), none, none] ∧
          ((kindOf c = 2 ∧ H'' Fr = some (.lst (ms.map V.int)) ∧ H'' Cc = some (.lst (cs2.map cellV)) ∧ H'' N = some (.lst [.int a0, .int b0]) ∧ Cells n cs2 (ms.drop (i + 1)) ∧ PoolAt K H'' l p ∧ cs2.count 64 = 1 ∧ cs2.count 49 = cs.count 49 ∧ cs2.count 50 = cs.count 50 ∧ cs2.count 42 ≤ 1 ∧ cs2.count 111 = a0 ∧
            cs2.count 97 + cs2.count 98 + cs2.count 65 + cs2.count 66 = b0 ∧ Off (fun b => b = p ∨ b = Cc ∨ b = N) B8 H'') ∨ (kindOf c < 2 ∧ H'' = H')), ?_, ?_⟩
        · walk_at "rd"
          have ek2 : decide (V.int (kindOf c) = V.int 2) = decide (kindOf c = 2) := by simp
          rw [ek2]
          refine ite2 (fun q1 => ?_) (fun q1 => ?_)
          · have hk2 : kindOf c = 2 := of_decide_eq_true q1
            have hc111 : c ≠ 111 := fun z => by rw [z] at hk2; revert hk2; decide
            have hcab : c ∉ [97, 98, 65, 66] := fun z => by
              unfold kindOf at hk2
              rw [if_neg hc111, if_pos z] at hk2
              cases hk2
            walk_at "rd"
            refine ite2 (fun q2 => ?_) (fun q2 => ?_)
            · have h42 : c ≠ 42 := fun z => by
                rw [star_eq c] at q2
                simp [z] at q2
              refine iteT ?_
              walk_at "rd"
              refine ⟨Cc, _, m, j, rfl, rfl, hC2, by rw [ej]; unfold ixN; rw [if_pos (by omega), if_pos (by rw [List.length_map]; have := (List.getElem?_eq_some_iff.mp ej46).1; omega)]; rfl, ?_⟩
              rw [set_mapC]
              refine ⟨cs'.set j c, rfl, .inl ⟨hk2, by rw [upd_ne hFC]; exact hF2, upd_same, by rw [upd_ne hNC]; exact hN2, Kc.put pmi ej ej46 cM, hp2.mut hCp hCl, ?_, ?_, ?_, ?_, ?_, ?_, ?_⟩⟩
              · rw [count_put ej46 (by decide), if_neg c64]; exact q64
              · rw [count_put ej46 (by decide), if_neg c49]; exact q49
              · rw [count_put ej46 (by decide), if_neg c50]; exact q50
              · rw [count_put ej46 (by decide)]; rw [if_neg h42]; exact q42
              · rw [count_put ej46 (by decide), if_neg hc111]; exact q111.1
              · rw [count_put ej46 (by decide), count_put ej46 (by decide), count_put ej46 (by decide), count_put ej46 (by decide), if_neg (fun z => hcab (by rw [z]; decide)), if_neg (fun z => hcab (by rw [z]; decide)), if_neg (fun z => hcab (by rw [z]; decide)), if_neg (fun z => hcab (by rw [z]; decide))]; exact qab.1
              · exact ((oB.trans (Off.wider (fun _ z => .inl z) o2))).trans (Off.mut (.inr (.inl rfl)))
            · have h42 : c = 42 := by
                rw [star_eq c] at q2
                simpa using q2
              refine ⟨_, rfl, Cc, _, rfl, .inl (SqL.of hC2), rfl, flat_cells cs', ?_⟩
              refine ⟨_, rfl, ?_⟩
              rw [show (if true = true then !inV (V.str "*") (cs'.map cellV) else inV (V.str "*") (cs'.map cellV)) = !decide (42 ∈ cs') from by rw [if_pos rfl, in_cells]]
              by_cases hin : 42 ∈ cs'
              · rw [decide_eq_true hin]
                refine iteF ?_
                exact ⟨cs', rfl, .inl ⟨hk2, hF2, hC2, hN2, Kc.drop pmi, hp2, q64, q49, q50, q42, q111.1, qab.1, oB.trans (Off.wider (fun _ z => .inl z) o2)⟩⟩
              · rw [decide_eq_false hin]
                refine iteT ?_
                walk_at "rd"
                refine ⟨Cc, _, m, j, rfl, rfl, hC2, by rw [ej]; unfold ixN; rw [if_pos (by omega), if_pos (by rw [List.length_map]; have := (List.getElem?_eq_some_iff.mp ej46).1; omega)]; rfl, ?_⟩
                rw [set_mapC]
                refine ⟨cs'.set j c, rfl, .inl ⟨hk2, by rw [upd_ne hFC]; exact hF2, upd_same, by rw [upd_ne hNC]; exact hN2, Kc.put pmi ej ej46 cM, hp2.mut hCp hCl, ?_, ?_, ?_, ?_, ?_, ?_, ?_⟩⟩
                · rw [count_put ej46 (by decide), if_neg c64]; exact q64
                · rw [count_put ej46 (by decide), if_neg c49]; exact q49
                · rw [count_put ej46 (by decide), if_neg c50]; exact q50
                · rw [count_put ej46 (by decide)]; have := List.count_eq_zero_of_not_mem hin; rw [this]; split <;> omega
                · rw [count_put ej46 (by decide), if_neg hc111]; exact q111.1
                · rw [count_put ej46 (by decide), count_put ej46 (by decide), count_put ej46 (by decide), count_put ej46 (by decide), if_neg (fun z => hcab (by rw [z]; decide)), if_neg (fun z => hcab (by rw [z]; decide)), if_neg (fun z => hcab (by rw [z]; decide)), if_neg (fun z => hcab (by rw [z]; decide))]; exact qab.1
                · exact ((oB.trans (Off.wider (fun _ z => .inl z) o2))).trans (Off.mut (.inr (.inl rfl)))
          · have hk2 : ¬ kindOf c = 2 := by simpa using q1
            refine ⟨cs', rfl, .inr ⟨?_, rfl⟩⟩
            unfold kindOf at hk2 ⊢
            split
            · decide
            · rename_i h1
              rw [if_neg h1] at hk2
              split
              · decide
              · rename_i h2
                rw [if_neg h2] at hk2
                exact absurd rfl hk2
        rintro σ' H'' ⟨cs2, rfl, hcase⟩
        walk_at "rd"
        rcases hcase with ⟨hk2, hF3, hC3', hN3, K3, hp3', r64, r49, r50, r42, r111, rab, oB3⟩ | ⟨hk2, rfl⟩
        · rw [show decide (kindOf c < 2) = false by rw [hk2]; decide]
          refine iteF ?_
          exact ⟨_, _, _, cs2, a0, b0, rfl, hF3, hC3', hN3, K3, hp3', r64, r49, r50, r42, ⟨r111, q111.2⟩, ⟨rab, qab.2⟩, oB3⟩
        · rw [decide_eq_true hk2]
          refine iteT ?_
          have two : (kindOf c = 0 ∧ c = 111) ∨ (kindOf c = 1 ∧ c ≠ 111 ∧ (c = 97 ∨ c = 98 ∨ c = 65 ∨ c = 66)) := by
            unfold kindOf at hk2 ⊢
            split
            · rename_i h; exact .inl ⟨rfl, h⟩
            · rename_i h
              rw [if_neg h] at hk2
              split
              · rename_i h2; exact .inr ⟨rfl, h, by simpa using h2⟩
              · rename_i h2; rw [if_neg h2] at hk2; omega
          have h42 : c ≠ 42 := by rcases two with ⟨_, h⟩ | ⟨_, _, h | h | h | h⟩ <;> (rw [h]; decide)
          rcases two with ⟨hk, hc⟩ | ⟨hk, h111, hc⟩
          · rw [hk] at hk2 ⊢
            have at0 : atI [V.int (a0 : Int), .int (b0 : Int)] 0 = some (.int (a0 : Int)) := atI_nat (xs := [V.int (a0 : Int), .int (b0 : Int)]) (j := 0) rfl
            refine ⟨_, rfl, _, rfl, N, _, 0, .int a0, rfl, rfl, SqL.of hN2, at0, ?_⟩
            walk_at "rd"
            refine ite2 (fun q3 => ?_) (fun q3 => ?_)
            · have q3' : a0 < 2 := by
                have : ((a0 : Nat) : Int) < 2 + 0 := by simpa using q3
                omega
              refine ⟨_, rfl, _, rfl, N, _, 0, .int a0, rfl, rfl, SqL.of hN2, at0, ?_⟩
              walk_at "rd"
              refine ⟨N, _, 0, 0, rfl, rfl, hN2, rfl, ?_⟩
              walk_at "rd"
              refine ⟨Cc, cs'.map cellV, m, j, rfl, rfl, by rw [upd_ne (Ne.symm hNC)]; exact hC2, by rw [ej]; unfold ixN; rw [if_pos (by omega), if_pos (by rw [List.length_map]; have := (List.getElem?_eq_some_iff.mp ej46).1; omega)]; rfl, ?_⟩
              rw [set_mapC]
              refine ⟨_, _, _, cs'.set j c, a0 + 1, b0, rfl, by rw [upd_ne hFC, upd_ne (Ne.symm hNF)]; exact hF2, upd_same, by rw [upd_ne hNC, upd_same]; rfl, Kc.put pmi ej ej46 cM, (hp2.mut hNp hNl).mut hCp hCl, ?_, ?_, ?_, ?_, ⟨?_, by omega⟩, ⟨?_, by omega⟩, ?_⟩
              · rw [count_put ej46 (by decide), if_neg c64]; exact q64
              · rw [count_put ej46 (by decide), if_neg c49]; exact q49
              · rw [count_put ej46 (by decide), if_neg c50]; exact q50
              · rw [count_put ej46 (by decide), if_neg h42]; exact q42
              · rw [count_put ej46 (by decide), hc, if_pos rfl, q111.1]
              · rw [count_put ej46 (by decide), count_put ej46 (by decide), count_put ej46 (by decide), count_put ej46 (by decide), hc]; exact qab.1
              · exact ((oB.trans (Off.wider (fun _ z => .inl z) o2)).trans (Off.mut (.inr (.inr rfl)))).trans (Off.mut (.inr (.inl rfl)))
            · exact ⟨_, _, _, cs', a0, b0, rfl, hF2, hC2, hN2, Kc.drop pmi, hp2, q64, q49, q50, q42, q111, qab, oB.trans (Off.wider (fun _ z => .inl z) o2)⟩
          · rw [hk] at hk2 ⊢
            have at0 : atI [V.int (a0 : Int), .int (b0 : Int)] 1 = some (.int (b0 : Int)) := atI_nat (xs := [V.int (a0 : Int), .int (b0 : Int)]) (j := 1) rfl
            refine ⟨_, rfl, _, rfl, N, _, 1, .int b0, rfl, rfl, SqL.of hN2, at0, ?_⟩
            walk_at "rd"
            refine ite2 (fun q3 => ?_) (fun q3 => ?_)
            · have q3' : b0 < 3 := by
                have : ((b0 : Nat) : Int) < 2 + 1 := by simpa using q3
                omega
              refine ⟨_, rfl, _, rfl, N, _, 1, .int b0, rfl, rfl, SqL.of hN2, at0, ?_⟩
              walk_at "rd"
              refine ⟨N, _, 1, 1, rfl, rfl, hN2, rfl, ?_⟩
              walk_at "rd"
              refine ⟨Cc, cs'.map cellV, m, j, rfl, rfl, by rw [upd_ne (Ne.symm hNC)]; exact hC2, by rw [ej]; unfold ixN; rw [if_pos (by omega), if_pos (by rw [List.length_map]; have := (List.getElem?_eq_some_iff.mp ej46).1; omega)]; rfl, ?_⟩
              rw [set_mapC]
              refine ⟨_, _, _, cs'.set j c, a0, b0 + 1, rfl, by rw [upd_ne hFC, upd_ne (Ne.symm hNF)]; exact hF2, upd_same, by rw [upd_ne hNC, upd_same]; rfl, Kc.put pmi ej ej46 cM, (hp2.mut hNp hNl).mut hCp hCl, ?_, ?_, ?_, ?_, ⟨?_, by omega⟩, ⟨?_, by omega⟩, ?_⟩
              · rw [count_put ej46 (by decide), if_neg c64]; exact q64
              · rw [count_put ej46 (by decide), if_neg c49]; exact q49
              · rw [count_put ej46 (by decide), if_neg c50]; exact q50
              · rw [count_put ej46 (by decide), if_neg h42]; exact q42
              · rw [count_put ej46 (by decide), if_neg h111]; exact q111.1
              · rw [count_put ej46 (by decide), count_put ej46 (by decide), count_put ej46 (by decide), count_put ej46 (by decide), ← qab.1]; rcases hc with rfl | rfl | rfl | rfl <;> simp <;> omega
              · exact ((oB.trans (Off.wider (fun _ z => .inl z) o2)).trans (Off.mut (.inr (.inr rfl)))).trans (Off.mut (.inr (.inl rfl)))
            · exact ⟨_, _, _, cs', a0, b0, rfl, hF2, hC2, hN2, Kc.drop pmi, hp2, q64, q49, q50, q42, q111, qab, oB.trans (Off.wider (fun _ z => .inl z) o2)⟩
      · rintro σ B ⟨o8', o10, o11, cs', a0, b0, rfl, hF, hC, hN, Kc, hpc, q64, q49, q50, q42, q111, qab, oB⟩
        refine ⟨o8', o10, o11, cs', rfl, hC, ?_, hpc, ?_⟩
        · have e49 := c7 49 (by decide)
          have e50 := c7 50 (by decide)
          rw [← q49] at e49
          rw [← q50] at e50
          have h2 : (cs'.count 49 ≤ 1 ∧ cs'.count 50 ≤ cs'.count 49) := by
            have : mo = 0 ∨ mo = 1 ∨ mo = 2 := by omega
            rcases this with rfl | rfl | rfl <;> (revert e49 e50; simp; omega)
          exact ⟨Kc.len, Kc.inM, q64, h2.1, h2.2, q42, by omega, by omega⟩
        · intro b o hb e
          have x2 := nC.same _ _ (o1 _ _ hb (sS _ _ e))
          have hbC : b ≠ Cc := fun z => by rw [z, hCc] at x2; cases x2
          have x4 := sR _ _ (sC _ _ x2)
          have hbF : b ≠ Fr := fun z => by rw [z, hFr] at x4; cases x4
          have x5 := o5 _ _ hb x4
          have x7 := o7 _ _ (fun z => z.elim hbF hbC) x5
          have hbN : b ≠ N := fun z => by rw [z, nN.free] at x7; cases x7
          exact oB _ _ (fun z => z.elim hb (fun y => y.elim hbC hbN)) (nN.same _ _ x7)
end
end K03
end
section
set_option Elab.async false
set_option linter.all false
set_option maxRecDepth 100000
set_option maxHeartbeats 2000000
namespace K03
open PySem L2
local macro_rules | `(tactic| walk_at "hp") => `(tactic| first | assumption | exact upd_same | (refine (upd_ne (by first | assumption | (apply Ne.symm; assumption))).trans ?_; walk_at "hp"))
local macro_rules | `(tactic| walk_at "rd1") => `(tactic| first
  | (refine ⟨_, rfl, ?_⟩)
  | (refine ⟨_, _, rfl, rfl, ?_⟩)
  | (refine ⟨(rfl : scal _ _ = true), ?_⟩)
  | (refine And.intro (by show (0 : Int) < _; decide) ?_)
  | (refine And.intro (And.intro (by decide) (by decide)) ?_)
  | (refine And.intro (by assumption) ?_)
  | (refine Or.inl ⟨_, rfl, ?_⟩))
local macro_rules | `(tactic| walk_at "rd") => `(tactic| repeat walk_at "rd1")
section
variable {P : Program} {w : World} {K : PySem.W.Frag} {mg : Str → Option Value} {base : Heap} {C CB fB CC fC CM fM : Addr}
def isInt : V → Bool
  | .int _ => true
  | _ => false
def isBl : V → Bool
  | .bl _ => true
  | _ => false
/-- what kind of thing a value is, as far as whole numbers and flags go -/
def Knd (K : PySem.W.Frag) (H : Hp) (v : V) : Prop := ∃ t b1 b2, TyX K H v t ∧ PySem.W.kitOne K t (.type "int") = some b1 ∧ PySem.W.kitOne K t (.type "bool") = some b2 ∧ (b1 && !b2) = isInt v ∧ b2 = isBl v
theorem knd_of {K : PySem.W.Frag} {H : Hp} {v : V} {n : String} (h : tyN H v = some n) : Knd K H v := by
  have ty : TyX K H v (.type n) := .base (tyN_of h)
  have go : ∀ (b1 b2 : Bool), kitB n "int" = some b1 → kitB n "bool" = some b2 → (b1 && !b2) = isInt v → b2 = isBl v → Knd K H v := fun b1 b2 h1 h2 h3 h4 => ⟨_, b1, b2, ty, kit_ty h1, kit_ty h2, h3, h4⟩
  cases v with
  | non => cases h; exact go false false (by decide +kernel) (by decide +kernel) rfl rfl
  | bl b => cases h; exact go true true (by decide +kernel) (by decide +kernel) rfl rfl
  | int i => cases h; exact go true false (by decide +kernel) (by decide +kernel) rfl rfl
  | str x => cases h; exact go false false (by decide +kernel) (by decide +kernel) rfl rfl
  | byt b => cases h
  | flt b => cases h
  | ty t => cases h
  | ref a =>
    simp only [tyN] at h
    split at h <;> first | (cases h; exact go false false (by decide +kernel) (by decide +kernel) rfl rfl) | cases h
/-- what the methods of a room look up -/
structure RoomM (P : Program) (K : PySem.W.Frag) (mg : Str → Option Value) (C CB fB CC fC CM fM : Addr) : Prop extends RoomT P K mg CB fB where
  cl : Cls K C
  a_rows : NoAttr K C "rows"
  a_cells : NoAttr K C "cells"
  a_entry : NoAttr K C "entry"
  a_mouths : NoAttr K C "mouths"
  g_Room : mg "Room" = some (.ref C)
  n_ord : mg "ord" = none
  x_BadCell : RX.ErrT P K mg "BadCell" "index" CC fC
  x_BadMouth : RX.ErrT P K mg "BadMouth" "number" CM fM
theorem room_len {rows : List Str} {wd : Nat} (R : RowsOk rows wd) : (Txt.join "" rows).length ≤ 30 := by
  rw [join_len R]
  exact Nat.mul_le_mul R.h5 R.w6
theorem room_fit {rows : List Str} {wd : Nat} (R : RowsOk rows wd) : (Txt.join "" rows).length ≤ sizeLine := Nat.le_trans (room_len R) (by decide +kernel)
def cellOk (n : Nat) : V → Bool
  | .int i => decide (0 ≤ i ∧ i < n)
  | _ => false
def signAt (z : Str) (i : Int) : Str := ⟨#[z.cps.getD i.toNat 0]⟩
theorem atI_sign {z : Str} {i : Int} (h0 : 0 ≤ i) (h1 : i < z.length) : atI z.cps.toList i = some (z.cps.getD i.toNat 0) := by
  obtain ⟨n, rfl⟩ := Int.eq_ofNat_of_zero_le h0
  have h2 : n < z.cps.size := by
    have : z.length = z.cps.size := rfl
    omega
  refine atI_nat ?_
  show z.cps.toList[n]? = some (z.cps.getD n 0)
  simp [Array.getD, h2]
def spCell (K : PySem.W.Frag) (C CC : Addr) : Sp := fun vs H Q E => ∃ (x : Addr) (rows : List Str) (wd : Nat) (v : V), vs = [.ref x, v] ∧ RoomAt C H x rows wd ∧ Knd K H v ∧
  (cellOk (Txt.join "" rows).length v = false → ∀ d, H d = none → E (.ref CC) (some d) (upd H d (.xd [("index", v)]))) ∧
  (∀ i : Int, v = .int i → 0 ≤ i → i < (Txt.join "" rows).length → Q (.str (signAt (Txt.join "" rows) i)) H)
theorem ok_cell {f : Addr} {fd : FuncData} (F : Fun K "cell" "Room.cell" s_Room_cell f fd) (T : RoomM P K mg C CB fB CC fC CM fM) (c_is_whole : CalG P w K mg base 1 "is_whole" (spWhole K)) :
    FnG P w K mg base (CXe P w) 4 f fd ["self", "index"] (spCell K C CC) := by
  refine F.okG sc_Room_cell (fun vs H Q E h => ?_) (fun cdv A outer s H vs Q E hgd hr h => ?_)
  · obtain ⟨x, rows, wd, v, rfl, _⟩ := h; rfl
  · obtain ⟨x, rows, wd, v, rfl, hR, ⟨t, b1, b2, k1, k2, k3, k4, k5⟩, kE, kQ⟩ := h
    refine ⟨_, (pss_cons (ps_if (PW.pt (pw_or (pt_not (pt_val (pg_c c_is_whole hgd hr (by decide) (pa_cons (pv 1) pa_nil)))) (pw_or1 (pt_not (pt_chain op_le op_lt pe_int (pv 1) (pe_callB call_len_str (by rfl) T.n_len (by decide +kernel) (pa_cons (pe_fld (pv 0) rfl) pa_nil))))))) (pss_one (ps_raiseErr rfl T.x_BadCell hr (takes_of rfl rfl rfl rfl) (pa_cons (pv 1) pa_nil))) pss_nil)
      (pss_one (ps_ret (pe_ix ix_str (pe_fld (pv 0) rfl) (pv 1) (fun _ _ => rfl))))), ?_⟩
    obtain ⟨dx, tt, ct, pt, nd, hx, _⟩ := hR.ex
    refine ⟨_, rfl, v, t, b1, b2, rfl, k1, k2, k3, _, rfl, ?_⟩
    rw [k4]
    cases hi : isInt v with
    | false =>
      have hn : ∀ n, cellOk n v = false := fun n => by cases v <;> first | rfl | cases hi
      exact iteT (iteT ⟨_, rfl, v, rfl, fun d hd => kE (hn _) d hd⟩)
    | true =>
      cases v <;> first | (cases hi; done) | skip
      rename_i i
      refine iteF ?_
      walk_at "rd"
      have out : ¬ (0 ≤ i ∧ i < (Txt.join "" rows).length) → cellOk (Txt.join "" rows).length (.int i) = false := fun z => by simpa [cellOk] using z
      refine ite2 (fun q1 => ?_) (fun q1 => ?_)
      · walk_at "rd"
        refine ⟨x, C, dx, _, _, rfl, hx, T.cl, T.a_cells, rfl, ?_⟩
        walk_at "rd"
        refine ⟨room_fit hR.ok, ?_⟩
        walk_at "rd"
        refine ite2 (fun q2 => ?_) (fun q2 => ?_)
        · exact ⟨_, rfl, _, rfl, fun d hd => kE (out (fun z => by simp [z.2] at q2)) d hd⟩
        · walk_at "rd"
          refine ⟨x, C, dx, _, _, rfl, hx, T.cl, T.a_cells, rfl, ?_⟩
          walk_at "rd"
          have q3 : 0 ≤ i := by simpa using q1
          have q4 : i < (Txt.join "" rows).length := by simpa using q2
          exact ⟨_, i, _, rfl, rfl, room_fit hR.ok, atI_sign q3 q4, kQ i rfl q3 q4⟩
      · refine ⟨_, rfl, ?_⟩
        exact iteT ⟨_, rfl, _, rfl, fun d hd => kE (out (fun z => q1 (by simpa using z.1))) d hd⟩
def mouthOk (m : Int) : V → Bool
  | .int i => decide (1 ≤ i ∧ i ≤ m)
  | _ => false
theorem many_mouths {z : Str} (h : wholeZ z = true) : 0 ≤ manyZ z "12" ∧ manyZ z "12" ≤ 2 := by
  have e : manyZ z "12" = Txt.count z "1" + Txt.count z "2" := by
    have : ("12" : Str).cps.toList = [49, 50] := by decide +kernel
    unfold manyZ
    rw [this]
    show Txt.count z ⟨#[49]⟩ + (Txt.count z ⟨#[50]⟩ + 0) = _
    rw [Int.add_zero]
    rfl
  obtain ⟨_, _, c1, c2, _⟩ := cnts z
  obtain ⟨_, ⟨_, h1, h2⟩, _⟩ := (wholeZ_iff z).mp h
  rw [e, c1, c2]
  omega
def spMouth (K : PySem.W.Frag) (C CM : Addr) : Sp := fun vs H Q E => ∃ (x : Addr) (rows : List Str) (wd : Nat) (v : V), vs = [.ref x, v] ∧ RoomAt C H x rows wd ∧ Knd K H v ∧
  (mouthOk (manyZ (Txt.join "" rows) "12") v = false → ∀ d, H d = none → E (.ref CM) (some d) (upd H d (.xd [("number", v)]))) ∧
  (∀ i : Int, v = .int i → 1 ≤ i → i ≤ manyZ (Txt.join "" rows) "12" → Q (.int (Txt.find (Txt.join "" rows) (toString i))) H)
theorem ok_mouth {f : Addr} {fd : FuncData} (F : Fun K "mouth" "Room.mouth" s_Room_mouth f fd) (T : RoomM P K mg C CB fB CC fC CM fM) (c_is_whole : CalG P w K mg base 1 "is_whole" (spWhole K)) :
    FnG P w K mg base (CXe P w) 4 f fd ["self", "number"] (spMouth K C CM) := by
  refine F.okG sc_Room_mouth (fun vs H Q E h => ?_) (fun cdv A outer s H vs Q E hgd hr h => ?_)
  · obtain ⟨x, rows, wd, v, rfl, _⟩ := h; rfl
  · obtain ⟨x, rows, wd, v, rfl, hR, ⟨t, b1, b2, k1, k2, k3, k4, k5⟩, kE, kQ⟩ := h
    refine ⟨_, (pss_cons (ps_if (PW.pt (pw_or (pt_not (pt_val (pg_c c_is_whole hgd hr (by decide) (pa_cons (pv 1) pa_nil)))) (pw_or1 (pt_not (pt_chain op_le op_le pe_int (pv 1) (pe_fld (pv 0) rfl)))))) (pss_one (ps_raiseErr rfl T.x_BadMouth hr (takes_of rfl rfl rfl rfl) (pa_cons (pv 1) pa_nil))) pss_nil)
      (pss_one (ps_ret (pe_m1 PySem.F.slot_str_find PySem.F.type_str_find mt_find (pe_fld (pv 0) rfl) (pe_callTy call_str_int (by rfl) T.n_str (by decide +kernel) (pa_cons (pv 1) pa_nil)))))), ?_⟩
    obtain ⟨dx, tt, ct, pt, nd, hx, _⟩ := hR.ex
    refine ⟨_, rfl, v, t, b1, b2, rfl, k1, k2, k3, _, rfl, ?_⟩
    rw [k4]
    cases hi : isInt v with
    | false =>
      have hn : ∀ n, mouthOk n v = false := fun n => by cases v <;> first | rfl | cases hi
      exact iteT (iteT ⟨_, rfl, v, rfl, fun d hd => kE (hn _) d hd⟩)
    | true =>
      cases v <;> first | (cases hi; done) | skip
      rename_i i
      refine iteF ?_
      walk_at "rd"
      have out : ¬ (1 ≤ i ∧ i ≤ manyZ (Txt.join "" rows) "12") → mouthOk (manyZ (Txt.join "" rows) "12") (.int i) = false := fun z => by simpa [mouthOk] using z
      refine ite2 (fun q1 => ?_) (fun q1 => ?_)
      · walk_at "rd"
        refine ⟨x, C, dx, _, _, rfl, hx, T.cl, T.a_mouths, rfl, ?_⟩
        walk_at "rd"
        refine ite2 (fun q2 => ?_) (fun q2 => ?_)
        · exact ⟨_, rfl, _, rfl, fun d hd => kE (out (fun z => by simp [z.2] at q2)) d hd⟩
        · walk_at "rd"
          refine ⟨x, C, dx, _, _, rfl, hx, T.cl, T.a_cells, rfl, ?_⟩
          walk_at "rd"
          have q3 : 1 ≤ i := by simpa using q1
          have q4 : i ≤ manyZ (Txt.join "" rows) "12" := by simpa using q2
          have q5 := (many_mouths hR.whole).2
          have q6 : i.natAbs.log2 < 1920 := by
            rcases (show i = 1 ∨ i = 2 by omega) with rfl | rfl <;> decide +kernel
          exact ⟨⟨_, rfl⟩, _, rfl, i, rfl, q6, _, _, rfl, rfl, kQ i rfl q3 q4⟩
      · refine ⟨_, rfl, ?_⟩
        exact iteT ⟨_, rfl, _, rfl, fun d hd => kE (out (fun z => q1 (by simpa using z.1))) d hd⟩
theorem eqvAll_strs : ∀ (a b : List Str), PyData.eqvAll (a.map PyData.str) (b.map PyData.str) = decide (a = b)
  | [], [] => rfl
  | [], _ :: _ => rfl
  | _ :: _, [] => rfl
  | x :: a, y :: b => by
    show (PyData.eqv (.str x) (.str y) && PyData.eqvAll (a.map PyData.str) (b.map PyData.str)) = _
    rw [eqvAll_strs a b]
    have : PyData.eqv (.str x) (.str y) = decide (x = y) := rfl
    rw [this]
    by_cases h1 : x = y <;> by_cases h2 : a = b <;> simp [h1, h2]
theorem DpAll_strs {K : PySem.W.Frag} {H : Hp} (rows : List Str) : DpAll K H (rows.map V.str) (rows.map PyData.str) := by
  induction rows with
  | nil => exact .nil
  | cons a r ih => exact .cons (.str a) ih
theorem strOk_line {r : Str} (h : lineS r = true) : PyData.strOk r = true := by
  show (r.cps.all fun x => decide (x < 1114112)) = true
  rw [← Array.all_toList, List.all_eq_true]
  intro c hc
  unfold lineS at h
  have h2 : (r.cps.toList.all fun c => decide (c ∈ marksS.cps.toList)) = true := by
    cases hh : r.cps.toList.all fun c => decide (c ∈ marksS.cps.toList) with
    | true => rfl
    | false => rw [hh] at h; simp at h
  have hm : c ∈ marksS.cps.toList := by simpa using (List.all_eq_true.mp h2) c hc
  exact (show ∀ c ∈ marksS.cps.toList, decide (c < 1114112) = true by decide +kernel) c hm
theorem depth_strs (rows : List Str) : PyData.depthAll (rows.map PyData.str) ≤ 1 := by
  induction rows with
  | nil => decide
  | cons a r ih =>
    simp [PyData.depth, PyData.depthAll] at ih ⊢
    omega
theorem lays_strs (rows : List Str) (h : ∀ r ∈ rows, lineS r = true) : PyData.canLayAll0 (rows.map PyData.str) = true := by
  induction rows with
  | nil => decide
  | cons a r ih =>
    have h1 := ih (fun x hx => h x (List.mem_cons_of_mem _ hx))
    simp [PyData.canLay0, PyData.canLayAll0] at h1 ⊢
    exact ⟨strOk_line (h a (List.mem_cons_self ..)), h1⟩
theorem shapedT {rows : List Str} (h : ∀ r ∈ rows, lineS r = true) : SeqAt.shaped (.tuple (rows.map PyData.str)) = true := by
  unfold SeqAt.shaped
  have h1 := lays_strs rows h
  have h2 := depth_strs rows
  simp [PyData.canLay0, PyData.depth, h1]
  omega
theorem shapedL {rows : List Str} (h : ∀ r ∈ rows, lineS r = true) : SeqAt.shaped (.list (rows.map PyData.str)) = true := by
  unfold SeqAt.shaped
  have h1 := lays_strs rows h
  have h2 := depth_strs rows
  simp [PyData.canLay0, PyData.depth, h1]
  omega
def spREq (K : PySem.W.Frag) (C : Addr) : Sp := fun vs H Q _ => ∃ (a : Addr) (rows : List Str) (wd : Nat) (y : V) (t : Value) (b : Bool), vs = [.ref a, y] ∧ RoomAt C H a rows wd ∧ TyX K H y t ∧ PySem.W.kitOne K t (.ref C) = some b ∧
  (b = false → Q (.bl false) H) ∧ (b = true → ∃ (a' : Addr) (rows' : List Str) (wd' : Nat), y = .ref a' ∧ RoomAt C H a' rows' wd' ∧ Q (.bl (decide (rows = rows'))) H)
theorem ok_req {f : Addr} {fd : FuncData} (F : Fun K "__eq__" "Room.__eq__" s_Room_eq f fd) (T : RoomM P K mg C CB fB CC fC CM fM) : FnG P w K mg base (CXe P w) 1 f fd ["self", "other"] (spREq K C) := by
  refine F.okG sc_Room_eq (fun vs H Q E h => ?_) (fun cdv A outer s H vs Q E hgd hr h => ?_)
  · obtain ⟨a, rows, wd, y, t, b, rfl, _⟩ := h; rfl
  · obtain ⟨a, rows, wd, y, t, b, rfl, hR, ty, e, k0, k1⟩ := h
    refine ⟨_, (pss_one (ps_ret (pe_and (pe_callB call_isi (by rfl) T.n_isinstance (by decide +kernel) (pa_cons (pv 1) (pa_cons (pe_glob (v := .ref _) rfl T.g_Room rfl) pa_nil))) (pe_one (pe_cmpR (op_eqD hr.units) (pe_fld (pv 0) rfl) (pe_fld (pv 1) rfl) (nomark _)))))), ?_⟩
    refine ⟨_, rfl, _, _, _, _, _, rfl, .own C, ty, e, _, rfl, ?_⟩
    cases b with
    | false => exact iteF (k0 rfl)
    | true =>
      obtain ⟨a', rows', wd', rfl, hR', k2⟩ := k1 rfl
      obtain ⟨dx, tt, ct, pt, nd, hx, ht, _⟩ := hR.ex
      obtain ⟨dx', tt', ct', pt', nd', hx', ht', _⟩ := hR'.ex
      refine iteT ?_
      walk_at "rd"
      refine ⟨a, C, dx, _, _, rfl, hx, T.cl, T.a_rows, rfl, ?_⟩
      walk_at "rd"
      refine ⟨a', C, dx', _, _, rfl, hx', T.cl, T.a_rows, rfl, ?_⟩
      refine ⟨_, _, .tup (SqT.of ht) (DpAll_strs rows), .tup (SqT.of ht') (DpAll_strs rows'), shapedT hR.lines, shapedT hR'.lines, ?_⟩
      have e2 : PyData.eqv (.tuple (rows.map PyData.str)) (.tuple (rows'.map PyData.str)) = decide (rows = rows') := eqvAll_strs rows rows'
      rw [e2]
      exact k2
end
end K03
end
section
set_option Elab.async false
set_option linter.all false
set_option maxRecDepth 100000
set_option maxHeartbeats 2000000
namespace K03
open PySem L2
local macro_rules | `(tactic| walk_at "hp") => `(tactic| first | assumption | exact upd_same | (refine (upd_ne (by first | assumption | (apply Ne.symm; assumption))).trans ?_; walk_at "hp"))
local macro_rules | `(tactic| walk_at "rd1") => `(tactic| first
  | (refine ⟨_, rfl, ?_⟩)
  | (refine ⟨_, _, rfl, rfl, ?_⟩)
  | (refine ⟨(rfl : scal _ _ = true), ?_⟩)
  | (refine And.intro (by show (0 : Int) < _; decide) ?_)
  | (refine And.intro (And.intro (by decide) (by decide)) ?_)
  | (refine And.intro (by assumption) ?_)
  | (refine Or.inl ⟨_, rfl, ?_⟩))
local macro_rules | `(tactic| walk_at "rd") => `(tactic| repeat walk_at "rd1")
section
variable {P : Program} {w : World} {K : PySem.W.Frag} {mg : Str → Option Value} {base : Heap} {C CB fB CC fC CM fM : Addr}
def sw (c : Nat) : Nat := if c = 60 then 62 else if c = 62 then 60 else c
theorem sw_sw (c : Nat) : sw (sw c) = c := by
  unfold sw
  by_cases h1 : c = 60
  · subst h1; rfl
  · by_cases h2 : c = 62
    · subst h2; rfl
    · simp [h1, h2]
/-- a row seen from the other side -/
def mirS (r : Str) : Str := ⟨((revS r).cps.toList.map sw).toArray⟩
theorem mirS_cps (r : Str) : (mirS r).cps.toList = r.cps.toList.reverse.map sw := by simp [mirS, revS]
theorem mirS_len (r : Str) : (mirS r).length = r.length := by
  have h := congrArg List.length (mirS_cps r)
  simpa [Str.length] using h
theorem mirS_mirS (r : Str) : mirS (mirS r) = r := by
  refine str_cps ?_
  rw [mirS_cps, mirS_cps, ← List.map_reverse, List.reverse_reverse, List.map_map]
  have : sw ∘ sw = id := funext sw_sw
  rw [this, List.map_id]
def mir (rows : List Str) : List Str := rows.map mirS
theorem mir_mir (rows : List Str) : mir (mir rows) = rows := by
  unfold mir
  rw [List.map_map]
  have : mirS ∘ mirS = id := funext mirS_mirS
  rw [this, List.map_id]
theorem mir_ok {rows : List Str} {wd : Nat} (R : RowsOk rows wd) : RowsOk (mir rows) wd where
  h1 := by simpa [mir] using R.h1
  h5 := by simpa [mir] using R.h5
  w1 := R.w1
  w6 := R.w6
  al := fun r hr => by
    obtain ⟨q, hq, rfl⟩ := List.mem_map.mp hr
    rw [mirS_len]
    exact R.al q hq
theorem sw_mark : ∀ c ∈ marksS.cps.toList, sw c ∈ marksS.cps.toList := by decide +kernel
theorem lineS_all {r : Str} (h : lineS r = true) : 1 ≤ r.length ∧ r.length ≤ 6 ∧ ∀ c ∈ r.cps.toList, c ∈ marksS.cps.toList := by
  unfold lineS at h
  simp only [Bool.and_eq_true, decide_eq_true_eq, List.all_eq_true] at h
  exact ⟨h.1, h.2.1, h.2.2⟩
theorem mir_line {r : Str} (h : lineS r = true) : lineS (mirS r) = true := by
  obtain ⟨h1, h6, ha⟩ := lineS_all h
  refine lineS_of (by rw [mirS_len]; exact h1) (by rw [mirS_len]; exact h6) fun c hc => ?_
  rw [mirS_cps] at hc
  obtain ⟨d, hd, rfl⟩ := List.mem_map.mp hc
  exact sw_mark d (ha d (List.mem_reverse.mp hd))
theorem mir_lines {rows : List Str} (h : ∀ r ∈ rows, lineS r = true) : ∀ r ∈ mir rows, lineS r = true := fun r hr => by
  obtain ⟨q, hq, rfl⟩ := List.mem_map.mp hr
  exact mir_line (h q hq)
theorem sw_eq {c x : Nat} (h1 : c ≠ 60) (h2 : c ≠ 62) : (sw x == c) = (x == c) := by
  have a : ((62 : Nat) == c) = false := beq_eq_false_iff_ne.mpr fun z => h2 z.symm
  have b : ((60 : Nat) == c) = false := beq_eq_false_iff_ne.mpr fun z => h1 z.symm
  by_cases e1 : x = 60
  · subst e1
    exact a.trans b.symm
  · by_cases e2 : x = 62
    · subst e2
      exact b.trans a.symm
    · have : sw x = x := by simp [sw, e1, e2]
      rw [this]
theorem mir_count {c : Nat} (h1 : c ≠ 60) (h2 : c ≠ 62) (rows : List Str) : (Txt.join "" (mir rows)).cps.toList.count c = (Txt.join "" rows).cps.toList.count c := by
  rw [join_cps, join_cps]
  unfold mir
  rw [List.map_map, List.count_flatten, List.count_flatten, List.map_map, List.map_map]
  congr 1
  refine List.map_congr_left fun r _ => ?_
  show (mirS r).cps.toList.count c = r.cps.toList.count c
  rw [mirS_cps]
  unfold List.count
  rw [List.countP_map]
  have : ((fun x => x == c) ∘ sw) = fun x => x == c := funext fun x => sw_eq h1 h2
  rw [this]
  exact List.countP_reverse
theorem mir_whole {rows : List Str} {wd : Nat} (R : RowsOk rows wd) (h : wholeZ (Txt.join "" rows) = true) : wholeZ (Txt.join "" (mir rows)) = true := by
  rw [wholeZ_iff] at h ⊢
  have e : (Txt.join "" (mir rows)).length = (Txt.join "" rows).length := by
    rw [join_len R, join_len (mir_ok R)]
    simp [mir]
  rw [e, mir_count (by decide) (by decide), mir_count (by decide) (by decide), mir_count (by decide) (by decide), mir_count (by decide) (by decide), mir_count (by decide) (by decide), mir_count (by decide) (by decide), mir_count (by decide) (by decide), mir_count (by decide) (by decide), mir_count (by decide) (by decide)]
  exact h
/-- a room is made of right rows -/
theorem make_room {H : Hp} {Q : VK} {E : XK} {x dx a : Addr} {rows : List Str} {wd : Nat} (nx : H x = none) (ndx : H dx = none) (ha : H a = some (.lst (rows.map V.str)) ∨ H a = some (.tup (rows.map V.str))) (R : RowsOk rows wd)
    (hl : ∀ r ∈ rows, lineS r = true) (hw : wholeZ (Txt.join "" rows) = true) (k : ∀ H1, Same H H1 → RoomAt C H1 x rows wd → Q .non H1) :
    spRoomInit K C CB [.ref x, .ref a] (upd (upd H dx (.own x)) x (.ins C dx [])) Q E := by
  have s1 : Same H (upd (upd H dx (.own x)) x (.ins C dx [])) := fun b o e => by
    rw [upd_ne (ne_of_none e nx), upd_ne (ne_of_none e ndx)]
    exact e
  refine ⟨x, dx, .ref a, fun _ => False, rfl, upd_same, .inr ⟨a, rows.map V.str, rfl, ha.imp (s1 _ _) (s1 _ _), fun y hy => ?_, fun i hi => ?_, fun rows' wd' e' R' hl' => ⟨fun hw' => ?_, fun H1 q keep => ?_⟩⟩⟩
  · obtain ⟨r, hr, rfl⟩ := List.mem_map.mp hy
    exact ⟨⟨true, _, .str r⟩, fun z ez => by
      cases ez
      rw [R.al r hr]
      exact Nat.le_trans R.w6 (by decide +kernel)⟩
  · rw [rowsFault_none R hl] at hi
    cases hi
  · have er : rows = rows' := by
      have := congrArg (List.map strOf) e'
      rwa [strOf_map, strOf_map] at this
    subst er
    rw [hw] at hw'
    cases hw'
  · have er : rows = rows' := by
      have := congrArg (List.map strOf) e'
      rwa [strOf_map, strOf_map] at this
    subst er
    have ew : wd' = wd := by
      have h1 := R.h1
      cases rows with
      | nil => simp at h1
      | cons r t => exact (R'.al r (List.mem_cons_self ..)).symm.trans (R.al r (List.mem_cons_self ..))
    subst ew
    exact k H1 (fun b o e => keep b o (s1 _ _ e) (ne_of_none e nx)) q
theorem merge_mir : mergeK [] ([(.inl ((("<" : Str).cps.getD 0 0 : Nat) : Int), .str ">"), (.inl (((">" : Str).cps.getD 0 0 : Nat) : Int), .str "<")] : List (Key × V)) = [(.inl 60, .str ">"), (.inl 62, .str "<")] := by
  have e1 : ((("<" : Str).cps.getD 0 0 : Nat) : Int) = 60 := by decide +kernel
  have e2 : (((">" : Str).cps.getD 0 0 : Nat) : Int) = 62 := by decide +kernel
  rw [e1, e2]
  simp [mergeK, putK]
theorem swaps_mir : SwapsK ([(.inl 60, .str ">"), (.inl 62, .str "<")] : List (Key × V)) sw := fun c => by
  by_cases h1 : c = 60
  · subst h1
    exact .inl ⟨62, by simp [valV]; decide +kernel, by decide, rfl⟩
  · by_cases h2 : c = 62
    · subst h2
      exact .inl ⟨60, by simp [valV]; decide +kernel, by decide, rfl⟩
    · refine .inr ⟨?_, by simp [sw, h1, h2]⟩
      have a : ¬ ((60 : Int) = (c : Int)) := by omega
      have b : ¬ ((62 : Int) = (c : Int)) := by omega
      have a' : ¬ ((c : Int) = 60) := by omega
      have b' : ¬ ((c : Int) = 62) := by omega
      simp [valV, a, b, a', b']
def spMir (C : Addr) : Sp := fun vs H Q _ => ∃ (x : Addr) (rows : List Str) (wd : Nat), vs = [.ref x] ∧ RoomAt C H x rows wd ∧ ∀ y H', H y = none → Same H H' → RoomAt C H' y (mir rows) wd → Q (.ref y) H'
theorem ok_mirrored {f : Addr} {fd : FuncData} (F : Fun K "mirrored" "Room.mirrored" s_Room_mirrored f fd) (T : RoomM P K mg C CB fB CC fC CM fM) (m_Room : MakG P w K mg base 4 "Room" C (spRoomInit K C CB) []) :
    FnG P w K mg base (CXe P w) 6 f fd ["self"] (spMir C) := by
  refine F.okG sc_Room_mirrored (fun vs H Q E h => ?_) (fun cdv A outer s H vs Q E hgd hr h => ?_)
  · obtain ⟨x, rows, wd, rfl, _⟩ := h; rfl
  · obtain ⟨x, rows, wd, rfl, hR, k⟩ := h
    refine ⟨_, (pss_one (ps_ret (pg_mk m_Room hgd hr (by decide) (pa_cons (pe_lc (own := [("row", 1)]) (g := gName 1) (tt := tYes) rfl sc_Room_mirrored.nd (pi_tup (pe_fld (pv 0) rfl)) (blkOk_by (own := [("row", 1)]) (N := ["self", "row"]) (sc := defScope s_Room_mirrored) (by decide +kernel)) (fun _ _ _ _ _ => pg_name (i := 1) sc_Room_mirrored.nd rfl (Or.inl rfl)) (fun _ _ _ _ _ => pts_nil) (fun _ _ _ _ _ => (pe_m1 PySem.F.slot_str_translate PySem.F.type_str_translate (mt_swaps sw rfl) (pe_revS (pv 1)) (pe_disp (pps_cons (pe_callB call_ord (by rfl) T.n_ord (by decide +kernel) (pa_cons pe_str pa_nil)) pe_str (pps_cons (pe_callB call_ord (by rfl) T.n_ord (by decide +kernel) (pa_cons pe_str pa_nil)) pe_str pps_nil)) (by rfl) (by rfl) (fun z => by cases z) (by decide))))) pa_nil)))), ?_⟩
    obtain ⟨dx, tt, ct, pt, nd, hx, ht, _⟩ := hR.ex
    refine ⟨_, rfl, x, C, dx, _, _, rfl, hx, T.cl, T.a_rows, rfl, ?_⟩
    walk_at "rd"
    have b5 := hR.ok.h5
    refine ⟨⟨_, SqT.of ht⟩, fun D hD => lc_it (walk_tup (xs := rows.map V.str)) (fun i H' => ∃ acc : List Str, H' D = some (.lst (acc.map V.str)) ∧ acc = (rows.take i).map mirS ∧ Off (fun b => b = D) H H') ⟨[], upd_same, by simp, Off.new hD⟩ (fun i H' _ z => ?_) ?_ ?_⟩
    · obtain ⟨acc, _, _, off⟩ := z
      exact SqT.of (off _ _ (ne_of_none ht hD) ht)
    · rintro i y H1 H2 hi ⟨acc, hacc, hv, off⟩ ⟨rfl, hy⟩
      rw [List.length_map] at hi
      have hr2 : rows[i]? = some rows[i] := List.getElem?_eq_getElem hi
      have ey : y = .str rows[i] := by
        rw [List.getElem?_map, hr2] at hy
        exact (Option.some.inj hy).symm
      subst ey
      have hrl : rows[i].length ≤ 6 := by
        rw [hR.ok.al _ (List.getElem_mem _)]
        exact hR.ok.w6
      generalize rows[i] = r at hr2 hrl ⊢
      refine And.intro rfl (yes_of ?_)
      refine iteT ?_
      walk_at "rd"
      refine ⟨Nat.le_trans hrl (by decide +kernel), ⟨_, rfl⟩, fun dn hdn => ?_⟩
      have sA : Same H2 (upd H2 dn (.dK [])) := same_new hdn
      have hdA : upd H2 dn (.dK []) dn = some (.dK []) := upd_same
      generalize upd H2 dn (.dK []) = HA at sA hdA ⊢
      refine ⟨_, rfl, by decide +kernel, _, rfl, by decide +kernel, ?_⟩
      refine ⟨hdA, [(.inl ((("<" : Str).cps.getD 0 0 : Nat) : Int), .str ">"), (.inl (((">" : Str).cps.getD 0 0 : Nat) : Int), .str "<")], rfl, by simp, ?_⟩
      rw [merge_mir]
      have oD : Off (fun b => b = D) H2 (upd HA dn (.dK [(.inl 60, .str ">"), (.inl 62, .str "<")])) := fun b o _ e => by
        rw [upd_ne (ne_of_none e hdn)]
        exact sA _ _ e
      refine ⟨revS r, dn, _, rfl, rfl, upd_same, swaps_mir, Nat.le_trans (m := 6) (by simpa [revS, Str.length] using hrl) (by decide), acc.map V.str, ?_, ?_, acc ++ [mirS r], ?_, ?_, ?_⟩
      · rw [upd_ne (ne_of_none hacc hdn)]
        exact sA _ _ hacc
      · have : acc.length ≤ 5 := by
          rw [hv, List.length_map, List.length_take]
          omega
        rw [List.length_map]
        exact small1000 (by omega)
      · rw [upd_same, List.map_append]; rfl
      · rw [List.take_add_one, hr2, List.map_append, ← hv]; rfl
      · exact (off.trans oD).trans (Off.mut rfl)
    · rintro H1 ⟨acc, hacc, hv, off⟩
      have ha : acc = mir rows := by
        rw [hv, List.length_map, List.take_of_length_le (Nat.le_refl _)]
        rfl
      subst ha
      have s1 : Same H H1 := fun b o e => off b o (ne_of_none e hD) e
      refine fun y dy ny ndy ney => make_room ny ndy (.inl hacc) (mir_ok hR.ok) (mir_lines hR.lines) (mir_whole hR.ok hR.whole) fun H2 s2 hY => ?_
      exact ⟨rfl, k y H2 (s1.free ny) (s1.trans s2) hY⟩
end
end K03
end
section
set_option Elab.async false
set_option linter.all false
set_option maxRecDepth 100000
set_option maxHeartbeats 2000000
namespace K03
open PySem L2
local macro_rules | `(tactic| walk_at "hp") => `(tactic| first | assumption | exact upd_same | (refine (upd_ne (by first | assumption | (apply Ne.symm; assumption))).trans ?_; walk_at "hp"))
local macro_rules | `(tactic| walk_at "rd1") => `(tactic| first
  | (refine ⟨_, rfl, ?_⟩)
  | (refine ⟨_, _, rfl, rfl, ?_⟩)
  | (refine ⟨(rfl : scal _ _ = true), ?_⟩)
  | (refine And.intro (by show (0 : Int) < _; decide) ?_)
  | (refine And.intro (And.intro (by decide) (by decide)) ?_)
  | (refine And.intro (by assumption) ?_)
  | (refine Or.inl ⟨_, rfl, ?_⟩))
local macro_rules | `(tactic| walk_at "rd") => `(tactic| repeat walk_at "rd1")
section
variable {P : Program} {w : World} {K : PySem.W.Frag} {mg : Str → Option Value} {base : Heap} {C CB fB CC fC CM fM : Addr}
def toldC (z : Str) (v : V) : List V := match v with
  | .int i => if cellOk z.length (.int i) = true then [.str "told", .str (signAt z i)] else [.str "cell", v]
  | _ => [.str "cell", v]
theorem toldC_no {z : Str} {v : V} (h : cellOk z.length v = false) : toldC z v = [.str "cell", v] := by
  cases v <;> first | rfl | skip
  rename_i i
  show (if cellOk z.length (.int i) = true then _ else _) = _
  rw [h]
  rfl
theorem toldC_yes {z : Str} {i : Int} (h0 : 0 ≤ i) (h1 : i < z.length) : toldC z (.int i) = [.str "told", .str (signAt z i)] := by
  unfold toldC
  exact if_pos (by simp [cellOk, h0, h1])
def spLCell (K : PySem.W.Frag) (C : Addr) : Sp := fun vs H Q _ => ∃ (x : Addr) (rows : List Str) (wd : Nat) (v : V), vs = [.ref x, v] ∧ RoomAt C H x rows wd ∧ Knd K H v ∧
  ∀ t H', H t = none → Same H H' → H' t = some (.tup (toldC (Txt.join "" rows) v)) → Q (.ref t) H'
theorem ok_lcell {f : Addr} {fd : FuncData} (F : Fun K "_law_cell" "_law_cell" s__law_cell f fd) (T : RoomM P K mg C CB fB CC fC CM fM) (t_Room_cell : MetG P w K mg base 4 C "cell" (spCell K C CC)) :
    FnG P w K mg base (CXe P w) 6 f fd ["room", "index"] (spLCell K C) := by
  refine F.okG sc__law_cell (fun vs H Q E h => ?_) (fun cdv A outer s H vs Q E hgd hr h => ?_)
  · obtain ⟨x, rows, wd, v, rfl, _⟩ := h; rfl
  · obtain ⟨x, rows, wd, v, rfl, hR, kv, k⟩ := h
    refine ⟨_, pss_one (ps_try_as (i := 2) rfl rfl sc__law_cell.nd rfl rfl ⟨rfl, by decide, .inl T.x_BadCell.gC⟩ takes0
        (fun W pn xe tk _ => pss_one (ps_ret (pe_tupA (pa_cons pe_str (pa_cons (pg_mtS t_Room_cell hgd hr (by decide) (fun σ => passAt tk σ) (pv 0) (pa_cons (pv 1) pa_nil)) pa_nil)))))
        (fun a oe cls d pn hz hf => pss_one (ps_ret (pe_tupA (pa_cons pe_str (pa_cons (pe_xf T.x_BadCell.xf T.x_BadCell.noN hz hf (pv 2)) pa_nil)))))), ?_⟩
    obtain ⟨dx, tt, ct, pt, nd, hx, _⟩ := hR.ex
    walk_at "rd"
    refine ⟨x, dx, _, rfl, hx, rfl, ?_⟩
    walk_at "rd"
    refine ⟨x, rows, wd, v, rfl, hR, kv, fun hn d hd => ?_, fun i ei h0 h1 => ?_⟩
    · refine ⟨true, T.x_BadCell.te, fun _ a ha => ?_, fun z => nomatch z⟩
      refine ⟨_, rfl, rfl, rfl, d, _, v, rfl, upd_same, rfl, ?_⟩
      refine And.intro (Nat.le_of_ble_eq_true rfl) (fun t H' n => ?_)
      have s1 : Same H (upd H d (.xd [("index", v)])) := same_new hd
      exact k t H' (s1.free n.free) (s1.trans n.same) (by rw [toldC_no hn]; exact n.at_)
    · subst ei
      refine And.intro (Nat.le_of_ble_eq_true rfl) (fun t H' n => ?_)
      exact k t H' n.free n.same (by rw [toldC_yes h0 h1]; exact n.at_)
def mouthV (z : Str) (v : V) : List V := match v with
  | .int i => if mouthOk (manyZ z "12") (.int i) = true then [.str "told", .int (Txt.find z (toString i))] else [.str "mouth", v]
  | _ => [.str "mouth", v]
theorem mouthV_no {z : Str} {v : V} (h : mouthOk (manyZ z "12") v = false) : mouthV z v = [.str "mouth", v] := by
  cases v <;> first | rfl | skip
  rename_i i
  show (if mouthOk (manyZ z "12") (.int i) = true then _ else _) = _
  rw [h]
  rfl
theorem mouthV_yes {z : Str} {i : Int} (h0 : 1 ≤ i) (h1 : i ≤ manyZ z "12") : mouthV z (.int i) = [.str "told", .int (Txt.find z (toString i))] := by
  unfold mouthV
  exact if_pos (by simp [mouthOk, h0, h1])
def spLMouth (K : PySem.W.Frag) (C : Addr) : Sp := fun vs H Q _ => ∃ (x : Addr) (rows : List Str) (wd : Nat) (v : V), vs = [.ref x, v] ∧ RoomAt C H x rows wd ∧ Knd K H v ∧
  ∀ t H', H t = none → Same H H' → H' t = some (.tup (mouthV (Txt.join "" rows) v)) → Q (.ref t) H'
theorem ok_lmouth {f : Addr} {fd : FuncData} (F : Fun K "_law_mouth" "_law_mouth" s__law_mouth f fd) (T : RoomM P K mg C CB fB CC fC CM fM) (t_Room_mouth : MetG P w K mg base 4 C "mouth" (spMouth K C CM)) :
    FnG P w K mg base (CXe P w) 6 f fd ["room", "number"] (spLMouth K C) := by
  refine F.okG sc__law_mouth (fun vs H Q E h => ?_) (fun cdv A outer s H vs Q E hgd hr h => ?_)
  · obtain ⟨x, rows, wd, v, rfl, _⟩ := h; rfl
  · obtain ⟨x, rows, wd, v, rfl, hR, kv, k⟩ := h
    refine ⟨_, pss_one (ps_try_as (i := 2) rfl rfl sc__law_mouth.nd rfl rfl ⟨rfl, by decide, .inl T.x_BadMouth.gC⟩ takes0
        (fun W pn xe tk _ => pss_one (ps_ret (pe_tupA (pa_cons pe_str (pa_cons (pg_mtS t_Room_mouth hgd hr (by decide) (fun σ => passAt tk σ) (pv 0) (pa_cons (pv 1) pa_nil)) pa_nil)))))
        (fun a oe cls d pn hz hf => pss_one (ps_ret (pe_tupA (pa_cons pe_str (pa_cons (pe_xf T.x_BadMouth.xf T.x_BadMouth.noN hz hf (pv 2)) pa_nil)))))), ?_⟩
    obtain ⟨dx, tt, ct, pt, nd, hx, _⟩ := hR.ex
    walk_at "rd"
    refine ⟨x, dx, _, rfl, hx, rfl, ?_⟩
    walk_at "rd"
    refine ⟨x, rows, wd, v, rfl, hR, kv, fun hn d hd => ?_, fun i ei h0 h1 => ?_⟩
    · refine ⟨true, T.x_BadMouth.te, fun _ a ha => ?_, fun z => nomatch z⟩
      refine ⟨_, rfl, rfl, rfl, d, _, v, rfl, upd_same, rfl, ?_⟩
      refine And.intro (Nat.le_of_ble_eq_true rfl) (fun t H' n => ?_)
      have s1 : Same H (upd H d (.xd [("number", v)])) := same_new hd
      exact k t H' (s1.free n.free) (s1.trans n.same) (by rw [mouthV_no hn]; exact n.at_)
    · subst ei
      refine And.intro (Nat.le_of_ble_eq_true rfl) (fun t H' n => ?_)
      exact k t H' n.free n.same (by rw [mouthV_yes h0 h1]; exact n.at_)
end
end K03
end
section
set_option Elab.async false
set_option linter.all false
set_option maxRecDepth 100000
set_option maxHeartbeats 2000000
namespace K03
open PySem L2
local macro_rules | `(tactic| walk_at "hp") => `(tactic| first | assumption | exact upd_same | (refine (upd_ne (by first | assumption | (apply Ne.symm; assumption))).trans ?_; walk_at "hp"))
local macro_rules | `(tactic| walk_at "rd1") => `(tactic| first
  | (refine ⟨_, rfl, ?_⟩)
  | (refine ⟨_, _, rfl, rfl, ?_⟩)
  | (refine ⟨(rfl : scal _ _ = true), ?_⟩)
  | (refine And.intro (by show (0 : Int) < _; decide) ?_)
  | (refine And.intro (And.intro (by decide) (by decide)) ?_)
  | (refine And.intro (by assumption) ?_)
  | (refine Or.inl ⟨_, rfl, ?_⟩))
local macro_rules | `(tactic| walk_at "rd") => `(tactic| repeat walk_at "rd1")
section
variable {P : Program} {w : World} {K : PySem.W.Frag} {mg : Str → Option Value} {base : Heap} {C CB fB CC fC CM fM : Addr}
theorem merge_sgn : mergeK [] ([(.inr "<", .str ">"), (.inr ">", .str "<")] : List (Key × V)) = [(.inr "<", .str ">"), (.inr ">", .str "<")] := by
  have e : ¬ (("<" : Str) = ">") := by decide +kernel
  simp [mergeK, putK, e]
theorem sgn_ne {c d : Nat} (h : c ≠ d) : ¬ ((⟨#[d]⟩ : Str) = ⟨#[c]⟩) := fun z => by
  injection z with z
  exact h (by simpa using z.symm)
theorem get_sw (c : Nat) : (valV ([(.inr "<", .str ">"), (.inr ">", .str "<")] : List (Key × V)) (.inr ⟨#[c]⟩)).getD (.str ⟨#[c]⟩) = .str ⟨#[sw c]⟩ := by
  have e1 : ("<" : Str) = ⟨#[60]⟩ := by decide +kernel
  have e2 : (">" : Str) = ⟨#[62]⟩ := by decide +kernel
  rw [e1, e2]
  by_cases h1 : c = 60
  · subst h1
    rw [valV_pos rfl]; rfl
  · rw [valV_neg (fun z => sgn_ne h1 (Sum.inr.inj z))]
    by_cases h2 : c = 62
    · subst h2
      rw [valV_pos rfl]; rfl
    · rw [valV_neg (fun z => sgn_ne h2 (Sum.inr.inj z)), valV_nil]
      simp [sw, h1, h2]
def part (r : Str) (j : Nat) : Str := ⟨((r.cps.toList.take j).reverse.map sw).toArray⟩
theorem part_zero (r : Str) : part r 0 = "" := by
  have : ("" : Str) = ⟨#[]⟩ := by decide +kernel
  rw [this]
  simp [part]
theorem part_succ {r : Str} {j c : Nat} (h : r.cps[j]? = some c) : (⟨#[sw c]⟩ : Str) ++ part r j = part r (j + 1) := by
  have h2 : r.cps.toList[j]? = some c := by simpa using h
  refine str_cps ?_
  show (#[sw c] ++ (part r j).cps).toList = _
  simp [part, List.take_add_one, h2]
theorem part_all (r : Str) : part r r.cps.size = mirS r := by
  refine str_cps ?_
  rw [mirS_cps]
  have : r.cps.toList.take r.cps.size = r.cps.toList := List.take_of_length_le (by simp)
  simp [part, this]
theorem part_len (r : Str) (j : Nat) : (part r j).length ≤ r.length := by
  show (((r.cps.toList.take j).reverse.map sw).toArray).size ≤ r.cps.size
  simp
  omega
def spTurned (K : PySem.W.Frag) : Sp := fun vs H Q _ => ∃ (a : Addr) (rows : List Str), vs = [.ref a] ∧ H a = some (.lst (rows.map V.str)) ∧ rows.length ≤ 5 ∧ (∀ r ∈ rows, r.length ≤ 6) ∧
  ∀ D H', H D = none → Same H H' → H' D = some (.lst ((mir rows).map V.str)) → Q (.ref D) H'
theorem ok_turned {f : Addr} {fd : FuncData} (F : Fun K "_law_turned" "_law_turned" s__law_turned f fd) (T : Rb mg) : FnG P w K mg base (CXe P w) 1 f fd ["rows"] (spTurned K) := by
  refine F.okG sc__law_turned (fun vs H Q E h => ?_) (fun cdv A outer s H vs Q E hgd hr h => ?_)
  · obtain ⟨a, rows, rfl, _⟩ := h; rfl
  · obtain ⟨a, rows, rfl, ha, h5, h6, k⟩ := h
    refine ⟨_, (pss_cons (ps_set (i := 1) sc__law_turned.nd rfl (Or.inl rfl) (pe_lstA pa_nil))
      (pss_cons (ps_for (passes_of rfl) rfl (pi_list (pv 0)) (pg_name (i := 2) sc__law_turned.nd rfl (Or.inl rfl))
      (pss_cons (ps_set (i := 3) sc__law_turned.nd rfl (Or.inl rfl) pe_str)
      (pss_cons (ps_for (passes_of rfl) rfl (pi_str (pv 2)) (pg_name (i := 4) sc__law_turned.nd rfl (Or.inl rfl))
      (pss_one (ps_set (i := 3) sc__law_turned.nd rfl (Or.inl rfl) (pe_op op_add_str (pe_dget2 (hu_of hr) (pe_disp (pps_cons pe_str pe_str (pps_cons pe_str pe_str pps_nil)) (by rfl) (by rfl) (fun z => by cases z) (by decide)) (pv 4) (pv 4) ⟨rfl, rfl, rfl, rfl⟩) (pv 3)))))
      (pss_one (ps_expr (pe_bm PySem.F.plainAttrs_list PySem.F.slot_list_append PySem.F.type_list_append mt_append (pv 1) (pa_cons (pv 3) pa_nil)))))))
      (pss_one (ps_ret (pv 1))))), ?_⟩
    refine And.intro (Nat.le_of_ble_eq_true rfl) (fun D H1 n1 => ?_)
    have ha1 := n1.same _ _ ha
    have hDa : D ≠ a := fun z => by
      have := n1.free
      rw [z, ha] at this
      cases this
    walk_at "rd"
    refine ⟨⟨_, SqL.of ha1⟩, for_it (walk_list (xs := rows.map V.str)) (fun i σ H' => (∃ o2 o3 o4, σ = [some (.ref a), some (.ref D), o2, o3, o4]) ∧ ∃ acc : List Str, H' D = some (.lst (acc.map V.str)) ∧ acc = (rows.take i).map mirS ∧ Off (fun b => b = D) H1 H') ⟨⟨none, none, none, rfl⟩, [], n1.at_, by simp, Off.refl _⟩ (fun i σ H' _ z => ?_) ?_ ?_⟩
    · obtain ⟨_, acc, _, _, off⟩ := z
      exact SqL.of (off _ _ (fun z => hDa z.symm) ha1)
    · rintro i y σ H0 H2 hi ⟨⟨o2, o3, o4, rfl⟩, acc, hacc, hv, off⟩ ⟨rfl, hy⟩
      rw [List.length_map] at hi
      have hr2 : rows[i]? = some rows[i] := List.getElem?_eq_getElem hi
      have ey : y = .str rows[i] := by
        rw [List.getElem?_map, hr2] at hy
        exact (Option.some.inj hy).symm
      subst ey
      have hrl : rows[i].length ≤ 6 := h6 _ (List.getElem_mem _)
      generalize rows[i] = r at hr2 hrl ⊢
      walk_at "rd"
      refine for_it walk_str (fun j σ H' => (∃ o4, σ = [some (.ref a), some (.ref D), some (.str r), some (.str (part r j)), o4]) ∧ Same H2 H') ⟨⟨o4, by rw [part_zero]; rfl⟩, Same.refl _⟩ (fun _ _ _ _ _ => trivial) ?_ ?_
      · rintro j y σ H4 H3 hj ⟨⟨o5, rfl⟩, s3⟩ ⟨rfl, c, hc, rfl⟩
        walk_at "rd"
        refine fun dn hdn => ?_
        have sA : Same H3 (upd H3 dn (.dK [])) := same_new hdn
        have hdA : upd H3 dn (.dK []) dn = some (.dK []) := upd_same
        generalize upd H3 dn (.dK []) = HA at sA hdA ⊢
        refine ⟨hdA, [(.inr "<", .str ">"), (.inr ">", .str "<")], rfl, by simp, ?_⟩
        rw [merge_sgn]
        have sB : Same H3 (upd HA dn (.dK [(.inr "<", .str ">"), (.inr ">", .str "<")])) := fun b o e => by
          rw [upd_ne (ne_of_none e hdn)]
          exact sA _ _ e
        have hdB : upd HA dn (.dK [(.inr "<", .str ">"), (.inr ">", .str "<")]) dn = some (.dK [(.inr "<", .str ">"), (.inr ">", .str "<")]) := upd_same
        generalize upd HA dn (.dK [(.inr "<", .str ">"), (.inr ">", .str "<")]) = HB at sB hdB ⊢
        refine ⟨dn, rfl, .inl ⟨_, .inl hdB⟩, ?_⟩
        walk_at "rd"
        refine ⟨_, DGet.k (k := .inr ⟨#[c]⟩) hdB, ?_⟩
        rw [get_sw]
        walk_at "rd"
        have hpl := part_len r j
        refine ⟨Nat.le_trans (m := 7) (by show 1 + _ ≤ 7; omega) (by decide +kernel), ?_⟩
        have ep : (V.str ((⟨#[sw c]⟩ : Str) ++ part r j)) = V.str (part r (j + 1)) := by rw [part_succ hc]
        rw [ep]
        exact ⟨⟨_, rfl⟩, s3.trans sB⟩
      · rintro σ H3 ⟨⟨o5, rfl⟩, s3⟩
        rw [part_all]
        walk_at "rd"
        have hacc3 := s3 _ _ hacc
        refine ⟨.inl ⟨rfl, _, SqL.of hacc3⟩, _, rfl, D, acc.map V.str, _, rfl, rfl, hacc3, ?_, ?_⟩
        · have : acc.length ≤ 5 := by
            rw [hv, List.length_map, List.length_take]
            omega
          rw [List.length_map]
          exact small1000 (by omega)
        · refine ⟨⟨_, _, _, rfl⟩, acc ++ [mirS r], ?_, ?_, (off.trans (Off.same s3)).trans (Off.mut rfl)⟩
          · rw [upd_same, List.map_append]; rfl
          · rw [List.take_add_one, hr2, List.map_append, ← hv]; rfl
    · rintro σ H2 ⟨⟨o2, o3, o4, rfl⟩, acc, hacc, hv, off⟩
      have hm : acc = mir rows := by
        rw [hv, List.length_map, List.take_of_length_le (Nat.le_refl _)]
        rfl
      subst hm
      walk_at "rd"
      exact k D H2 n1.free (fun b o e => off b o (ne_of_none e n1.free) (n1.same _ _ e)) hacc
end
end K03
end
section
set_option Elab.async false
set_option linter.all false
set_option maxRecDepth 100000
set_option maxHeartbeats 2000000
namespace K03
open PySem L2
local macro_rules | `(tactic| walk_at "hp") => `(tactic| first | assumption | exact upd_same | (refine (upd_ne (by first | assumption | (apply Ne.symm; assumption))).trans ?_; walk_at "hp"))
local macro_rules | `(tactic| walk_at "rd1") => `(tactic| first
  | (refine ⟨_, rfl, ?_⟩)
  | (refine ⟨_, _, rfl, rfl, ?_⟩)
  | (refine ⟨(rfl : scal _ _ = true), ?_⟩)
  | (refine And.intro (by show (0 : Int) < _; decide) ?_)
  | (refine And.intro (And.intro (by decide) (by decide)) ?_)
  | (refine And.intro (by assumption) ?_)
  | (refine Or.inl ⟨_, rfl, ?_⟩))
local macro_rules | `(tactic| walk_at "rd") => `(tactic| repeat walk_at "rd1")
section
variable {P : Program} {w : World} {K : PySem.W.Frag} {mg : Str → Option Value} {base : Heap} {C CB fB CC fC CM fM : Addr}
theorem tuple_shown_len (ds : List PyData) : (PyData.tuple ds).shown.length ≤ (ds.map fun d => d.shown.length + 2).sum + 3 := by
  rw [PyData.shown_tuple, strLen_append, strLen_append]
  have x : ("(" : Str).length = 1 := rfl
  have y : ((if (ds.length == 1) = true then ",)" else ")" : String) : Str).length ≤ 2 := by
    split <;> decide +kernel
  rw [x]
  cases ds with
  | nil =>
    have : (Str.join ", " (PyData.shownAll [])).length = 0 := rfl
    rw [this]
    simp only [List.map_nil, List.sum_nil]
    omega
  | cons d r =>
    have j := join_length_add (PyData.shownAll (d :: r)) (by simp [PyData.shownAll])
    have p : piled (PyData.shownAll (d :: r)) = ((d :: r).map fun d => d.shown.length + 2).sum := by
      unfold piled
      rw [PyProof.Rows.shownAll_eq_map, List.map_map]
      rfl
    rw [p] at j
    omega
theorem line_shown {r : Str} (h : lineS r = true) : (PyData.str r).shown.length ≤ 62 := by
  rw [PyData.shown_str]
  obtain ⟨_, h6, ha⟩ := lineS_all h
  have b := PySem.StrLaws.reprText_len r (fun c hc => Nat.lt_trans ((show ∀ c ∈ marksS.cps.toList, c < 200 by decide +kernel) c (ha c hc)) (by decide))
  omega
theorem lines_shown {rows : List Str} (hl : ∀ r ∈ rows, lineS r = true) : ((rows.map PyData.str).map fun d => d.shown.length + 2).sum ≤ 64 * rows.length := by
  induction rows with
  | nil => simp
  | cons a r ih =>
    have h1 := ih fun x hx => hl x (List.mem_cons_of_mem _ hx)
    have h2 := line_shown (hl a (List.mem_cons_self ..))
    simp only [List.map_cons, List.sum_cons, List.length_cons]
    simp only [List.map_map] at h1 ⊢
    omega
theorem lines_showable {rows : List Str} (hl : ∀ r ∈ rows, lineS r = true) : PyData.showableAll (rows.map PyData.str) = true := by
  induction rows with
  | nil => rfl
  | cons a r ih =>
    have h1 := ih fun x hx => hl x (List.mem_cons_of_mem _ hx)
    have h2 := strOk_line (hl a (List.mem_cons_self ..))
    simp [PyData.showableAll, PyData.showable, h1, h2]
theorem small_shown : ∀ n : Fin 40, (PyData.int (n.val : Int)).shown.length ≤ 2 ∧ (PyData.int (n.val : Int)).showable = true := by decide +kernel
/-- what is shown of a room -/
def sumD (rows : List Str) (m e : Int) : PyData := .tuple [.tuple (rows.map .str), .int m, .int e]
theorem sum_ok {rows : List Str} {wd m e : Nat} (R : RowsOk rows wd) (hl : ∀ r ∈ rows, lineS r = true) (hm : m < 40) (he : e < 40) : (sumD rows m e).showable = true ∧ (sumD rows m e).depth ≤ 60 ∧ (sumD rows m e).shown.length ≤ sizeLine := by
  obtain ⟨m1, m2⟩ := small_shown ⟨m, hm⟩
  obtain ⟨e1, e2⟩ := small_shown ⟨e, he⟩
  have b5 := R.h5
  have d := depth_strs rows
  refine ⟨?_, ?_, ?_⟩
  · simp [sumD, PyData.showable, PyData.showableAll, lines_showable hl] at m2 e2 ⊢
    try exact ⟨m2, e2⟩
  · simp only [sumD, PyData.depth, PyData.depthAll]
    omega
  · have a := tuple_shown_len [.tuple (rows.map .str), .int m, .int e]
    have b := tuple_shown_len (rows.map .str)
    have c := lines_shown hl
    simp only [List.map_cons, List.map_nil, List.sum_cons, List.sum_nil] at a
    unfold sumD
    have z : (1000000 : Nat) ≤ sizeLine := by decide +kernel
    have m3 : (PyData.int (m : Int)).shown.length ≤ 2 := m1
    have e3 : (PyData.int (e : Int)).shown.length ≤ 2 := e1
    omega
theorem told_ok {n : Nat} (h : n < 40) : (PyData.tuple [.str "told", .int n]).showable = true ∧ (PyData.tuple [.str "told", .int n]).depth ≤ 60 ∧ (PyData.tuple [.str "told", .int n]).shown.length ≤ sizeLine := by
  obtain ⟨m1, m2⟩ := small_shown ⟨n, h⟩
  refine ⟨?_, ?_, ?_⟩
  · simp [PyData.showable, PyData.showableAll] at m2 ⊢
    try exact m2
  · simp only [PyData.depth, PyData.depthAll]
    omega
  · have a := tuple_shown_len [.str "told", .int n]
    have b : (PyData.str "told").shown.length = 6 := by decide +kernel
    simp only [List.map_cons, List.map_nil, List.sum_cons, List.sum_nil, b] at a
    have z : (1000000 : Nat) ≤ sizeLine := by decide +kernel
    have m3 : (PyData.int (n : Int)).shown.length ≤ 2 := m1
    omega
theorem find_there {z : Str} {c : Nat} (h : c ∈ z.cps.toList) : ∃ n : Nat, Txt.find z ⟨#[c]⟩ = (n : Int) ∧ n < z.length := by
  have f := PySem.StrLaws.found_one z c
  rw [decide_eq_true h] at f
  cases ho : Builtin.Str.occurrences z ⟨#[c]⟩ 0 z.length 1 with
  | nil => rw [ho] at f; cases f
  | cons i rest =>
    have sp := PySem.StrLaws.occ_spec z ⟨#[c]⟩ 0 z.length 1 i (by rw [ho]; exact List.mem_cons_self ..)
    refine ⟨i, ?_, ?_⟩
    · unfold Txt.find
      rw [ho]
    · have : (⟨#[c]⟩ : Str).length = 1 := rfl
      omega
theorem there_at {z : Str} (h : wholeZ z = true) : 64 ∈ z.cps.toList := by
  obtain ⟨⟨_, h1⟩, _⟩ := (wholeZ_iff z).mp h
  exact List.count_pos_iff.mp (by omega)
theorem at_sign : ("@" : Str) = ⟨#[64]⟩ := by decide +kernel
theorem many_sum (z : Str) : manyZ z "12" = Txt.count z "1" + Txt.count z "2" := by
  have : ("12" : Str).cps.toList = [49, 50] := by decide +kernel
  unfold manyZ
  rw [this]
  show Txt.count z ⟨#[49]⟩ + (Txt.count z ⟨#[50]⟩ + 0) = _
  rw [Int.add_zero]
  rfl
theorem there_mouth {z : Str} (h : wholeZ z = true) {i : Int} (h0 : 1 ≤ i) (h1 : i ≤ manyZ z "12") : ∃ c, (toString i : Str) = ⟨#[c]⟩ ∧ c ∈ z.cps.toList := by
  have e : manyZ z "12" = Txt.count z "1" + Txt.count z "2" := by
    have : ("12" : Str).cps.toList = [49, 50] := by decide +kernel
    unfold manyZ
    rw [this]
    show Txt.count z ⟨#[49]⟩ + (Txt.count z ⟨#[50]⟩ + 0) = _
    rw [Int.add_zero]
    rfl
  obtain ⟨_, _, c1, c2, _⟩ := cnts z
  obtain ⟨_, ⟨_, q1, q2⟩, _⟩ := (wholeZ_iff z).mp h
  rw [e, c1, c2] at h1
  rcases (show i = 1 ∨ i = 2 by omega) with rfl | rfl
  · exact ⟨49, by decide +kernel, List.count_pos_iff.mp (by omega)⟩
  · exact ⟨50, by decide +kernel, List.count_pos_iff.mp (by omega)⟩
theorem RoomAt.keep {M : Addr → Prop} {H H' : Hp} {x : Addr} {rows : List Str} {wd : Nat} (h : RoomAt C H x rows wd) (o : Off M H H') (hM : ∀ b, M b → ∃ xs, H b = some (.lst xs)) : RoomAt C H' x rows wd := by
  obtain ⟨dx, t, ct, pt, nd, h1, h2, h3, h4, ⟨u, d, l, r, n1, n2, n3, n4, n5⟩⟩ := h.ex
  have go : ∀ {b : Addr} {q : HO}, H b = some q → (∀ xs, q ≠ .lst xs) → H' b = some q := fun e nq => o _ _ (fun m => by
    obtain ⟨xs, hx⟩ := hM _ m
    rw [hx] at e
    cases e
    exact nq _ rfl) e
  exact ⟨h.ok, h.lines, h.whole, dx, t, ct, pt, nd, go h1 (fun _ z => nomatch z), go h2 (fun _ z => nomatch z), go h3 (fun _ z => nomatch z), go h4 (fun _ z => nomatch z),
    ⟨u, d, l, r, go n1 (fun _ z => nomatch z), go n2 (fun _ z => nomatch z), go n3 (fun _ z => nomatch z), go n4 (fun _ z => nomatch z), go n5 (fun _ z => nomatch z)⟩⟩
theorem RoomAt.same {H H' : Hp} {x : Addr} {rows : List Str} {wd : Nat} (h : RoomAt C H x rows wd) (s : Same H H') : RoomAt C H' x rows wd := h.keep (M := fun _ => False) (Off.same s) (fun _ z => z.elim)
theorem z_marks {rows : List Str} (hl : ∀ r ∈ rows, lineS r = true) : ∀ c ∈ (Txt.join "" rows).cps.toList, c < 200 := fun c hc => by
  rw [join_cps] at hc
  obtain ⟨l, hm, hcl⟩ := List.mem_flatten.mp hc
  obtain ⟨r, hr, rfl⟩ := List.mem_map.mp hm
  exact (show ∀ c ∈ marksS.cps.toList, c < 200 by decide +kernel) c ((lineS_all (hl r hr)).2.2 c hcl)
theorem pair_shaped {a : Str} {c : Nat} (ha : PyData.strOk a = true) (hc : c < 200) : SeqAt.shaped (.tuple [.str a, .str ⟨#[c]⟩]) = true := by
  unfold SeqAt.shaped
  have : PyData.strOk ⟨#[c]⟩ = true := by
    show (#[c].all fun x => decide (x < 0x110000)) = true
    simp
    omega
  simp [PyData.canLay0, PyData.canLayAll0, PyData.depth, PyData.depthAll, ha, this]
theorem pair_eqv (a b : Str) : PyData.eqv (.tuple [.str a, .str b]) (.tuple [.str a, .str b]) = true := by
  simp [PyData.eqv, PyData.eqvAll]
def spLRight (K : PySem.W.Frag) (C : Addr) : Sp := fun vs H Q _ => ∃ (x a : Addr) (rows : List Str) (wd : Nat), vs = [.ref x, .ref a] ∧ RoomAt C H x rows wd ∧ H a = some (.lst (rows.map V.str)) ∧ ∀ H', Same H H' → Q (.bl true) H'
theorem ok_lright {f : Addr} {fd : FuncData} (F : Fun K "_law_right" "_law_right" s__law_right f fd) (T : RoomM P K mg C CB fB CC fC CM fM) (c__law_cell : CalG P w K mg base 6 "_law_cell" (spLCell K C)) (c__law_mouth : CalG P w K mg base 6 "_law_mouth" (spLMouth K C)) :
    FnG P w K mg base (CXe P w) 7 f fd ["room", "rows"] (spLRight K C) := by
  refine F.okG sc__law_right (fun vs H Q E h => ?_) (fun cdv A outer s H vs Q E hgd hr h => ?_)
  · obtain ⟨x, a, rows, wd, rfl, _⟩ := h; rfl
  · obtain ⟨x, a, rows, wd, rfl, hR, ha, k⟩ := h
    refine ⟨_, (pss_cons (ps_set (i := 2) sc__law_right.nd rfl (Or.inl rfl) (pe_m1 PySem.F.slot_str_join PySem.F.type_str_join mt_join pe_str (pv 1)))
      (pss_cons (ps_set (i := 3) sc__law_right.nd rfl (Or.inl rfl) (pe_op op_add (pe_m1 PySem.F.slot_str_count PySem.F.type_str_count mt_count (pv 2) pe_str) (pe_m1 PySem.F.slot_str_count PySem.F.type_str_count mt_count (pv 2) pe_str)))
      (pss_cons (ps_if (pt_cmpR op_ne (pe_callB (call_reprD hgd hr) (by rfl) T.n_repr (by decide +kernel) (pa_cons (pe_tupA (pa_cons (pe_fld (pv 0) rfl) (pa_cons (pe_fld (pv 0) rfl) (pa_cons (pe_fld (pv 0) rfl) pa_nil)))) pa_nil)) (pe_callB (call_reprD hgd hr) (by rfl) T.n_repr (by decide +kernel) (pa_cons (pe_tupA (pa_cons (pe_callTy call_tuple_of (by rfl) T.n_tuple (by decide +kernel) (pa_cons (pv 1) pa_nil)) (pa_cons (pv 3) (pa_cons (pe_m1 PySem.F.slot_str_index PySem.F.type_str_index mt_signAt (pv 2) pe_str) pa_nil)))) pa_nil)) (nomark _)) (pss_one (ps_ret pe_bl)) pss_nil)
      (pss_cons (ps_for (passes_of rfl) rfl (pi_range1 (by rfl) T.n_range (pa_cons (pe_callB call_len_str (by rfl) T.n_len (by decide +kernel) (pa_cons (pv 2) pa_nil)) pa_nil)) (pg_name (i := 4) sc__law_right.nd rfl (Or.inl rfl))
      (pss_one (ps_if (pt_cmpR (op_neD hr.units) (pg_c c__law_cell hgd hr (by decide) (pa_cons (pv 0) (pa_cons (pv 4) pa_nil))) (pe_tupA (pa_cons pe_str (pa_cons (pe_ix ix_str (pv 2) (pv 4) (fun _ _ => rfl)) pa_nil))) (nomark _)) (pss_one (ps_ret pe_bl)) pss_nil)))
      (pss_cons (ps_for (passes_of rfl) rfl (pi_range2 (by rfl) T.n_range (pa_cons pe_int (pa_cons (pe_op op_add (pv 3) pe_int) pa_nil))) (pg_name (i := 5) sc__law_right.nd rfl (Or.inl rfl))
      (pss_one (ps_if (pt_cmpR op_ne (pe_callB (call_reprD hgd hr) (by rfl) T.n_repr (by decide +kernel) (pa_cons (pg_c c__law_mouth hgd hr (by decide) (pa_cons (pv 0) (pa_cons (pv 5) pa_nil))) pa_nil)) (pe_callB (call_reprD hgd hr) (by rfl) T.n_repr (by decide +kernel) (pa_cons (pe_tupA (pa_cons pe_str (pa_cons (pe_m1 PySem.F.slot_str_index PySem.F.type_str_index mt_signAt (pv 2) (pe_callTy call_str_int (by rfl) T.n_str (by decide +kernel) (pa_cons (pv 5) pa_nil))) pa_nil))) pa_nil)) (nomark _)) (pss_one (ps_ret pe_bl)) pss_nil)))
      (pss_one (ps_ret pe_bl))))))), ?_⟩
    obtain ⟨dx, tt, ct, pt, nd, hx, ht, _⟩ := hR.ex
    have hs := sum_rows hR.ok.al
    have hj := join_len hR.ok
    have hzl := room_len hR.ok
    refine ⟨⟨_, rfl⟩, _, rfl, "", a, rows, rfl, rfl, .inl (SqL.of ha), (by rw [hs, ← hj]; show _ + rows.length * 0 ≤ _; omega), ?_⟩
    obtain ⟨z, ez⟩ : ∃ z, z = Txt.join "" rows := ⟨_, rfl⟩
    have hw : wholeZ z = true := by rw [ez]; exact hR.whole
    rw [← ez] at hx hzl hj ⊢
    walk_at "rd"
    refine ⟨⟨_, rfl⟩, z, "1", rfl, rfl, ?_⟩
    walk_at "rd"
    refine ⟨⟨_, rfl⟩, z, "2", rfl, rfl, ?_⟩
    walk_at "rd"
    obtain ⟨mo, hmo, hmo2⟩ : ∃ mo : Nat, Txt.count z "1" + Txt.count z "2" = (mo : Int) ∧ mo ≤ 2 := by
      have := many_mouths hw
      rw [many_sum] at this
      exact ⟨(Txt.count z "1" + Txt.count z "2").toNat, by omega, by omega⟩
    obtain ⟨en, hen, hen2⟩ := find_there (there_at hw)
    rw [← at_sign] at hen
    have hmz : manyZ z "12" = (mo : Int) := (many_sum z).trans hmo
    have e2 : ((fun i j : Int => V.int (i + j)) (Txt.count z "1") (Txt.count z "2")) = V.int mo := congrArg V.int hmo
    rw [e2]
    refine ⟨x, C, dx, _, _, rfl, hx, T.cl, T.a_rows, rfl, ?_⟩
    walk_at "rd"
    refine ⟨x, C, dx, _, _, rfl, hx, T.cl, T.a_mouths, rfl, ?_⟩
    walk_at "rd"
    refine ⟨x, C, dx, _, _, rfl, hx, T.cl, T.a_entry, rfl, ?_⟩
    rw [hmz, hen]
    refine And.intro (Nat.le_of_ble_eq_true rfl) (fun t1 H1 n1 => ?_)
    obtain ⟨ok1, ok2, ok3⟩ := sum_ok hR.ok hR.lines (show mo < 40 by omega) (show en < 40 by omega)
    have drs : ∀ {M : Addr → Prop} {H' : Hp} (l : List Str), DrAll true M H' (l.map V.str) (l.map PyData.str) := fun {M H'} l => by
      induction l with
      | nil => exact .nil
      | cons b r ih => exact .cons (.str b) ih
    refine ⟨_, sumD rows mo en, true, fun _ => False, rfl, .tup n1.at_ (fun z => z) (.cons (.tup (n1.same _ _ ht) (fun z => z) (drs rows)) (.cons (.int _) (.cons (.int _) .nil))), ok1, ok2, ok3, ?_⟩
    walk_at "rd"
    have ha1 := n1.same _ _ ha
    refine ⟨a, _, rfl, .inl ⟨SqL.of ha1, fun t2 ht2 => ?_⟩⟩
    have s2 : Same H1 (upd H1 t2 (.tup (rows.map V.str))) := same_new ht2
    have ht2' : upd H1 t2 (.tup (rows.map V.str)) t2 = some (.tup (rows.map V.str)) := upd_same
    generalize upd H1 t2 (.tup (rows.map V.str)) = H2 at s2 ht2' ⊢
    walk_at "rd"
    refine ⟨⟨_, rfl⟩, z, 64, rfl, congrArg (fun q => [V.str q]) at_sign, there_at hw, ?_⟩
    rw [← at_sign, hen]
    refine And.intro (Nat.le_of_ble_eq_true rfl) (fun t3 H3 n3 => ?_)
    refine ⟨_, sumD rows mo en, true, fun _ => False, rfl, .tup n3.at_ (fun z => z) (.cons (.tup (n3.same _ _ ht2') (fun z => z) (drs rows)) (.cons (.int _) (.cons (.int _) .nil))), ok1, ok2, ok3, ?_⟩
    have nn : ∀ v : V, (!decide (v = v)) = false := fun v => by simp
    clear ok1 ok2 ok3
    refine ⟨rfl, _, rfl, ?_⟩
    rw [nn]
    refine iteF ?_
    have s3 : Same H H3 := (n1.same.trans s2).trans n3.same
    have hzs : z.length ≤ sizeLine := Nat.le_trans hzl (by decide +kernel)
    walk_at "rd"
    refine ⟨by omega, by omega, for_range (n := z.length) (fun i σ H' => (∃ o4, σ = [some (.ref x), some (.ref a), some (.str z), some (.int mo), o4, none]) ∧ Same H H') ⟨⟨none, rfl⟩, s3⟩ ?_ ?_⟩
    · rintro i σ H4 hi ⟨⟨o4, rfl⟩, s4⟩
      walk_at "rd"
      have hlt : i < z.cps.size := hi
      refine ⟨x, rows, wd, .int (0 + (i : Int)), rfl, hR.same s4, knd_of rfl, fun t5 H5 nt s5 ht5 => ?_⟩
      rw [← ez, toldC_yes (by omega) (by omega)] at ht5
      walk_at "rd"
      refine ⟨z, 0 + (i : Int), _, rfl, rfl, hzs, atI_sign (by omega) (by omega), ?_⟩
      refine And.intro (Nat.le_of_ble_eq_true rfl) (fun t6 H6 n6 => ?_)
      have hc : z.cps.getD (0 + (i : Int)).toNat 0 < 200 := by
        have e3 : (0 + (i : Int)).toNat = i := by omega
        rw [e3]
        have e4 : z.cps.getD i 0 ∈ z.cps.toList := by simp [Array.getD, hlt]
        rw [ez] at e4 ⊢
        exact z_marks hR.lines _ e4
      refine ⟨_, _, .tup (SqT.of (n6.same _ _ ht5)) (.cons (.str _) (.cons (.str _) .nil)), .tup (SqT.of n6.at_) (.cons (.str _) (.cons (.str _) .nil)), pair_shaped (by decide +kernel) hc, pair_shaped (by decide +kernel) hc, ?_⟩
      refine ⟨_, rfl, ?_⟩
      have e5 : PyData.eqv (.tuple [.str "told", .str (signAt z (0 + (i : Int)))]) (.tuple [.str "told", .str ⟨#[z.cps.getD (0 + (i : Int)).toNat 0]⟩]) = true := pair_eqv _ _
      rw [e5]
      refine iteF ?_
      exact ⟨⟨_, rfl⟩, (s4.trans s5).trans n6.same⟩
    · rintro σ H4 ⟨⟨o4, rfl⟩, s4⟩
      walk_at "rd"
      refine ⟨_, _, rfl, ⟨by omega, by omega, by omega, by omega⟩, ?_⟩
      rw [show ((mo : Int) + 1 - 1).toNat = mo by omega]
      refine for_range (n := mo) (fun i σ H' => (∃ o5, σ = [some (.ref x), some (.ref a), some (.str z), some (.int mo), o4, o5]) ∧ Same H H') ⟨⟨none, rfl⟩, s4⟩ ?_ ?_
      · rintro i σ H5 hi ⟨⟨o5, rfl⟩, s5⟩
        walk_at "rd"
        refine ⟨x, rows, wd, .int (1 + (i : Int)), rfl, hR.same s5, knd_of rfl, fun t7 H7 nt s7 ht7 => ?_⟩
        rw [← ez, mouthV_yes (by omega) (by omega)] at ht7
        obtain ⟨c, hc1, hc2⟩ := there_mouth hw (show (1 : Int) ≤ 1 + (i : Int) by omega) (by omega)
        obtain ⟨n, hn1, hn2⟩ := find_there hc2
        rw [hc1, hn1] at ht7
        obtain ⟨p1, p2, p3⟩ := told_ok (show n < 40 by omega)
        refine ⟨_, .tuple [.str "told", .int n], true, fun _ => False, rfl, .tup ht7 (fun z => z) (.cons (.str _) (.cons (.int _) .nil)), p1, p2, p3, ?_⟩
        clear p3
        walk_at "rd"
        have hlog : (1 + (i : Int)).natAbs.log2 < 1920 := by
          rcases (show i = 0 ∨ i = 1 by omega) with rfl | rfl <;> decide +kernel
        refine ⟨⟨_, rfl⟩, _, rfl, 1 + (i : Int), rfl, hlog, z, c, rfl, congrArg (fun q => [V.str q]) hc1, hc2, ?_⟩
        rw [hn1]
        refine And.intro (Nat.le_of_ble_eq_true rfl) (fun t8 H8 n8 => ?_)
        obtain ⟨p1, p2, p3⟩ := told_ok (show n < 40 by omega)
        refine ⟨_, .tuple [.str "told", .int n], true, fun _ => False, rfl, .tup n8.at_ (fun z => z) (.cons (.str _) (.cons (.int _) .nil)), p1, p2, p3, ?_⟩
        clear p1 p2 p3
        refine ⟨rfl, _, rfl, ?_⟩
        rw [nn]
        refine iteF ?_
        exact ⟨⟨_, rfl⟩, (s5.trans s7).trans n8.same⟩
      · rintro σ H5 ⟨⟨o5, rfl⟩, s5⟩
        walk_at "rd"
        exact k _ s5
end
end K03
end
section
set_option Elab.async false
set_option linter.all false
set_option maxRecDepth 100000
set_option maxHeartbeats 2000000
namespace K03
open PySem L2
local macro_rules | `(tactic| walk_at "hp") => `(tactic| first | assumption | exact upd_same | (refine (upd_ne (by first | assumption | (apply Ne.symm; assumption))).trans ?_; walk_at "hp"))
local macro_rules | `(tactic| walk_at "rd1") => `(tactic| first
  | (refine ⟨_, rfl, ?_⟩)
  | (refine ⟨_, _, rfl, rfl, ?_⟩)
  | (refine ⟨(rfl : scal _ _ = true), ?_⟩)
  | (refine And.intro (by show (0 : Int) < _; decide) ?_)
  | (refine And.intro (And.intro (by decide) (by decide)) ?_)
  | (refine And.intro (by assumption) ?_)
  | (refine Or.inl ⟨_, rfl, ?_⟩))
local macro_rules | `(tactic| walk_at "rd") => `(tactic| repeat walk_at "rd1")
section
variable {P : Program} {w : World} {K : PySem.W.Frag} {mg : Str → Option Value} {base : Heap} {C CB fB CC fC CM fM : Addr}
def spLaw (K : PySem.W.Frag) : Sp := fun vs H Q _ => ∃ (a : Addr) (ns : List Int), vs = [.ref a] ∧ SqL K H a (ns.map V.int) ∧ ns.length ≤ 63 ∧ ∀ H', Q (.bl true) H'
theorem marks_ok : MarksOk ".#^v<>abABoxpg*<>......" := ⟨by decide +kernel, by decide +kernel, by decide +kernel⟩
/-- what the top says of Room as a class that is compared -/
structure RoomQ (K : PySem.W.Frag) (C fE : Addr) : Prop where
  e : EqC K C fE
  ic : C8.InsC K C
  nfT : PySem.W.notFirst K C (.type "tuple") = true
  nfL : PySem.W.notFirst K C (.type "list") = true
  kT : PySem.W.kitOne K (.type "tuple") (.ref C) = some false
  kL : PySem.W.kitOne K (.type "list") (.ref C) = some false
theorem RoomQ.nfS {fE : Addr} (q : RoomQ K C fE) : PySem.W.notFirst K C (.ref C) = true := by simp [PySem.W.notFirst]
theorem RoomQ.ty {fE : Addr} (q : RoomQ K C fE) {H : Hp} {a dx : Addr} {fs : List (Str × V)} (h : H a = some (.ins C dx fs)) : TyOf K H (.ref a) (.ref C) := .ins h q.ic.cl q.ic.ha q.ic.hn q.ic.htk q.ic.hm
theorem eq_rooms {fE : Addr} {H : Hp} {x y : Addr} {rows rows' : List Str} {wd wd' : Nat} {Q : VK} {E : XK} (TQ : RoomQ K C fE) (hX : RoomAt C H x rows wd) (hY : RoomAt C H y rows' wd') (q : Q (.bl (decide (rows = rows'))) H) :
    rEqO K C (spREq K C) E (.ref x) (.ref y) H Q := by
  obtain ⟨dx, _, _, _, _, hx, _⟩ := hX.ex
  obtain ⟨dy, _, _, _, _, hy, _⟩ := hY.ex
  exact ⟨x, dx, _, .ref C, rfl, hx, TQ.ty hy, TQ.nfS, x, rows, wd, .ref y, .ref C, true, rfl, hX, .base (TQ.ty hy), TQ.ic.me, And.intro (fun z => nomatch z) (fun _ => ⟨y, rows', wd', rfl, hY, _, rfl, q⟩)⟩
theorem ne_rooms {fE : Addr} {H : Hp} {x y : Addr} {rows rows' : List Str} {wd wd' : Nat} {Q : VK} {E : XK} (TQ : RoomQ K C fE) (hX : RoomAt C H x rows wd) (hY : RoomAt C H y rows' wd') (q : Q (.bl (!decide (rows = rows'))) H) :
    rNeO K C (spREq K C) E (.ref x) (.ref y) H Q := by
  obtain ⟨dx, _, _, _, _, hx, _⟩ := hX.ex
  obtain ⟨dy, _, _, _, _, hy, _⟩ := hY.ex
  exact ⟨x, dx, _, .ref C, rfl, hx, TQ.ty hy, TQ.nfS, x, rows, wd, .ref y, .ref C, true, rfl, hX, .base (TQ.ty hy), TQ.ic.me, And.intro (fun z => nomatch z) (fun _ => ⟨y, rows', wd', rfl, hY, _, rfl, q⟩)⟩
theorem eq_list {fE : Addr} {H : Hp} {x y : Addr} {ys : List V} {rows : List Str} {wd : Nat} {Q : VK} {E : XK} (TQ : RoomQ K C fE) (hX : RoomAt C H x rows wd) (hy : H y = some (.lst ys)) (q : Q (.bl false) H) :
    rEqO K C (spREq K C) E (.ref x) (.ref y) H Q := by
  obtain ⟨dx, _, _, _, _, hx, _⟩ := hX.ex
  exact ⟨x, dx, _, _, rfl, hx, .lst hy, TQ.nfL, x, rows, wd, .ref y, _, false, rfl, hX, .base (.lst hy), TQ.kL, And.intro (fun _ => ⟨_, rfl, q⟩) (fun z => nomatch z)⟩
theorem eq_tup {fE : Addr} {H : Hp} {x y : Addr} {ys : List V} {rows : List Str} {wd : Nat} {Q : VK} {E : XK} (TQ : RoomQ K C fE) (hX : RoomAt C H x rows wd) (hy : H y = some (.tup ys)) (q : Q (.bl false) H) :
    rEqO K C (spREq K C) E (.ref x) (.ref y) H Q := by
  obtain ⟨dx, _, _, _, _, hx, _⟩ := hX.ex
  exact ⟨x, dx, _, _, rfl, hx, .tup hy, TQ.nfT, x, rows, wd, .ref y, _, false, rfl, hX, .base (.tup hy), TQ.kT, And.intro (fun _ => ⟨_, rfl, q⟩) (fun z => nomatch z)⟩
theorem RoomAt.ins {H : Hp} {x : Addr} {rows : List Str} {wd : Nat} (h : RoomAt C H x rows wd) : ∃ dx t ct pt nd, H x = some (.ins C dx (roomF t ct pt nd (Txt.join "" rows))) := by
  obtain ⟨dx, t, ct, pt, nd, hx, _⟩ := h.ex
  exact ⟨dx, t, ct, pt, nd, hx⟩
theorem RoomAt.pool {H H' : Hp} {x l p : Addr} {rows : List Str} {wd : Nat} (h : RoomAt C H x rows wd) (hp : PoolAt K H l p) (o : Off (fun b => b = p) H H') : RoomAt C H' x rows wd :=
  h.keep o fun b hb => by
    obtain ⟨ys, i, c, n, z, q1, _⟩ := hp
    rw [hb]
    exact ⟨_, q1⟩
theorem PoolAt.ne_lst {H : Hp} {l p b : Addr} {ys : List V} (h : PoolAt K H l p) (e : H b = some (.lst ys)) (hl : ∀ y ∈ ys, ∃ s, y = .str s) : b ≠ p := by
  obtain ⟨xs, i, c, n, z, h1, _⟩ := h
  intro q
  rw [q, h1] at e
  injection e with e
  injection e with e
  obtain ⟨s, hs⟩ := hl (.ref l) (by rw [← e]; exact List.mem_cons_self ..)
  cases hs
theorem PoolAt.ne_strs {H : Hp} {l p b : Addr} {rows : List Str} (h : PoolAt K H l p) (e : H b = some (.lst (rows.map V.str))) : b ≠ p :=
  h.ne_lst e fun y hy => by
    obtain ⟨r, _, rfl⟩ := List.mem_map.mp hy
    exact ⟨r, rfl⟩
/-- a datum that can be shown, and shortly -/
def Good (M : Addr → Prop) (H : Hp) (v : V) : Prop := ∃ L d, Dr L M H v d ∧ d.showable = true ∧ d.depth ≤ 20 ∧ d.shown.length ≤ 200
theorem tyN_of_dr {L : Bool} {M : Addr → Prop} {H : Hp} {v : V} {d : PyData} (h : Dr L M H v d) : ∃ n, tyN H v = some n := by
  cases h with
  | non => exact ⟨_, rfl⟩
  | bl b => exact ⟨_, rfl⟩
  | int i => exact ⟨_, rfl⟩
  | str x => exact ⟨_, rfl⟩
  | lst e => exact ⟨"list", by simp only [tyN, e]⟩
  | tup e => exact ⟨"tuple", by simp only [tyN, e]⟩
  | dct e => exact ⟨"dict", by simp only [tyN, e]⟩
theorem Good.knd {M : Addr → Prop} {H : Hp} {v : V} (h : Good M H v) : Knd K H v := by
  obtain ⟨L, d, hd, _⟩ := h
  obtain ⟨n, hn⟩ := tyN_of_dr hd
  exact knd_of hn
theorem Good.keep {M : Addr → Prop} {H H' : Hp} {v : V} (o : Off M H H') (h : Good M H v) : Good M H' v := by
  obtain ⟨L, d, hd, r⟩ := h
  exact ⟨L, d, hd.keep o, r⟩
theorem odd_good : ∀ q ∈ oddDs, q.2.showable = true ∧ q.2.depth ≤ 20 ∧ q.2.shown.length ≤ 200 := by decide +kernel
theorem Odd.good {M : Addr → Prop} {H : Hp} {v : V} (h : Odd M H v) : Good M H v := by
  obtain ⟨q, hq, hd⟩ := h
  exact ⟨_, _, hd, odd_good q hq⟩
theorem Good.small {M : Addr → Prop} {H : Hp} {n : Nat} (h : n < 40) : Good M H (.int n) := by
  obtain ⟨m1, m2⟩ := small_shown ⟨n, h⟩
  exact ⟨true, .int n, .int _, m2, Nat.zero_le _, Nat.le_trans m1 (by decide)⟩
theorem word_ok {x : Str} {d : PyData} (hx : x.length ≤ 10) (hs : PyData.strOk x = true) (hr : (reprText x).length ≤ 100) (h1 : d.showable = true) (h2 : d.depth ≤ 20) (h3 : d.shown.length ≤ 200) :
    (PyData.tuple [.str x, d]).showable = true ∧ (PyData.tuple [.str x, d]).depth ≤ 60 ∧ (PyData.tuple [.str x, d]).shown.length ≤ sizeLine := by
  refine ⟨by simp [PyData.showable, PyData.showableAll, h1], ?_, ?_⟩
  · simp only [PyData.depth, PyData.depthAll]; omega
  · have a := tuple_shown_len [.str x, d]
    simp only [List.map_cons, List.map_nil, List.sum_cons, List.sum_nil, PyData.shown_str] at a
    have z : (1000000 : Nat) ≤ sizeLine := by decide +kernel
    omega
theorem PT_le {X : Cx} {e : Expr} {t t' : TT} (h : PT X e t) (z : ∀ σ H R, t' σ H R → t σ H R) : PT X e t' := ⟨fun pins s σ H R I q => h.run pins s σ H R I (z σ H R q)⟩
def tNoCell (K : PySem.W.Frag) : TT := fun σ H R => ∃ (y : V) (n : Nat), σ[9]? = some (some y) ∧ σ[8]? = some (some (.int n)) ∧ Knd K H y ∧ (cellOk n y = false → R true H) ∧ (cellOk n y = true → R false H)
def tNoMouth (K : PySem.W.Frag) (C : Addr) : TT := fun σ H R => ∃ (y : V) (x : Addr) (rows : List Str) (wd : Nat), σ[9]? = some (some y) ∧ σ[5]? = some (some (.ref x)) ∧ RoomAt C H x rows wd ∧ Knd K H y ∧ (mouthOk (manyZ (Txt.join "" rows) "12") y = false → R true H) ∧ (mouthOk (manyZ (Txt.join "" rows) "12") y = true → R false H)
theorem iteT' {c : Prop} [Decidable c] {A B : Prop} (h : c) (a : A) : if c then A else B := by rw [if_pos h]; exact a
theorem iteF' {c : Prop} [Decidable c] {A B : Prop} (h : ¬ c) (b : B) : if c then A else B := by rw [if_neg h]; exact b
theorem ok_law {f fE : Addr} {fd fdE : FuncData} (F : Fun K "law" "law" s_law f fd) (T : RoomM P K mg C CB fB CC fC CM fM) (TQ : RoomQ K C fE) (m_Room : MakG P w K mg base 4 "Room" C (spRoomInit K C CB) [])
    (t_Room_mirrored : MetG P w K mg base 6 C "mirrored" (spMir C)) (q_Room : FnG P w K mg base (CXe P w) 1 fE fdE ["self", "other"] (spREq K C)) (b_Room_eq : Binds K fdE ["self", "other"] [])
    (c__law_pool : CalG P w K mg base 1 "_law_pool" (spPool K)) (c__law_draw : CalG P w K mg base 1 "_law_draw" (spDraw K)) (c__law_odd : CalG P w K mg base 2 "_law_odd" (spOdd K)) (c__law_rows : CalG P w K mg base 3 "_law_rows" (spRows K))
    (c__law_cell : CalG P w K mg base 6 "_law_cell" (spLCell K C)) (c__law_mouth : CalG P w K mg base 6 "_law_mouth" (spLMouth K C)) (c__law_turned : CalG P w K mg base 1 "_law_turned" (spTurned K)) (c__law_right : CalG P w K mg base 7 "_law_right" (spLRight K C)) :
    FnG P w K mg base (CXe P w) 8 f fd ["script"] (spLaw K) := by
  have e_Room := TQ.e
  refine F.okG sc_law (fun vs H Q E h => ?_) (fun cdv A outer s H vs Q E hgd hr h => ?_)
  · obtain ⟨a, ns, rfl, _⟩ := h; rfl
  · obtain ⟨a, ns, rfl, hs, hl, k⟩ := h
    refine ⟨_, (pss_cons (ps_set (i := 1) sc_law.nd rfl (Or.inl rfl) (pg_c c__law_pool hgd hr (by decide) (pa_cons (pv 0) pa_nil)))
      (pss_cons (ps_set (i := 2) sc_law.nd rfl (Or.inl rfl) pe_str)
      (pss_cons (ps_set (i := 3) sc_law.nd rfl (Or.inl rfl) (pg_c c__law_rows hgd hr (by decide) (pa_cons (pv 1) (pa_cons (pv 2) (pa_cons (pg_c c__law_draw hgd hr (by decide) (pa_cons (pv 1) (pa_cons pe_int pa_nil))) pa_nil)))))
      (pss_cons (ps_set (i := 4) sc_law.nd rfl (Or.inl rfl) (pe_callTy call_list_of (by rfl) T.n_list (by decide +kernel) (pa_cons (pv 3) pa_nil)))
      (pss_cons (ps_set (i := 5) sc_law.nd rfl (Or.inl rfl) (pg_mk m_Room hgd hr (by decide) (pa_cons (pv 4) pa_nil)))
      (pss_cons (ps_asg pe_str (pg_sub (pv 4) pe_int set_list))
      (pss_cons (ps_if (pt_not (pt_val (pg_c c__law_right hgd hr (by decide) (pa_cons (pv 5) (pa_cons (pv 3) pa_nil))))) (pss_one (ps_ret pe_bl)) pss_nil)
      (C8.pss_cut (ps_set (i := 6) sc_law.nd rfl (Or.inl rfl) (pg_mt0 t_Room_mirrored hgd hr (by decide) (pv 5)))
      (pss_cons (ps_if (PW.pt (pw_or (pt_not (pt_val (pg_c c__law_right hgd hr (by decide) (pa_cons (pv 6) (pa_cons (pg_c c__law_turned hgd hr (by decide) (pa_cons (pv 3) pa_nil)) pa_nil))))) (pw_or (pt_cmpR (op_neO e_Room q_Room hgd (hr.mono (by decide)) b_Room_eq passL) (pg_mt0 t_Room_mirrored hgd hr (by decide) (pv 6)) (pv 5) (nomark _)) (pw_or1 (pt_not (pt_val (pg_c c__law_right hgd hr (by decide) (pa_cons (pv 5) (pa_cons (pv 3) pa_nil))))))))) (pss_one (ps_ret pe_bl)) pss_nil)
      (pss_cons (ps_if (pt_cmpR op_ne (pe_cmpR (op_eqO e_Room q_Room hgd (hr.mono (by decide)) b_Room_eq passL) (pv 6) (pv 5) (nomark _)) (pe_cmpR (op_eqD hr.units) (pg_c c__law_turned hgd hr (by decide) (pa_cons (pv 3) pa_nil)) (pv 3) (nomark _)) (nomark _)) (pss_one (ps_ret pe_bl)) pss_nil)
      (C8.pss_cut (ps_set (i := 7) sc_law.nd rfl (Or.inl rfl) (pg_c c__law_rows hgd hr (by decide) (pa_cons (pv 1) (pa_cons (pv 2) (pa_cons (pg_c c__law_draw hgd hr (by decide) (pa_cons (pv 1) (pa_cons pe_int pa_nil))) pa_nil)))))
      (pss_cons (ps_if (PW.pt (pw_or (pt_cmpR op_ne (pe_cmpR (op_eqO e_Room q_Room hgd (hr.mono (by decide)) b_Room_eq passL) (pv 5) (pg_mk m_Room hgd hr (by decide) (pa_cons (pv 7) pa_nil)) (nomark _)) (pe_cmpR (op_eqD hr.units) (pv 3) (pv 7) (nomark _)) (nomark _)) (pw_or (pt_cmpR (op_eqO e_Room q_Room hgd (hr.mono (by decide)) b_Room_eq passL) (pv 5) (pv 3) (nomark _)) (pw_or (pt_cmpR (op_eqO e_Room q_Room hgd (hr.mono (by decide)) b_Room_eq passL) (pv 5) (pe_callTy call_tuple_of (by rfl) T.n_tuple (by decide +kernel) (pa_cons (pv 3) pa_nil)) (nomark _)) (pw_or1 (pt_not (pt_cmpR (op_eqO e_Room q_Room hgd (hr.mono (by decide)) b_Room_eq passL) (pv 5) (pg_mk m_Room hgd hr (by decide) (pa_cons (pe_callTy call_tuple_of (by rfl) T.n_tuple (by decide +kernel) (pa_cons (pv 3) pa_nil)) pa_nil)) (nomark _)))))))) (pss_one (ps_ret pe_bl)) pss_nil)
      (C8.pss_cut (ps_set (i := 8) sc_law.nd rfl (Or.inl rfl) (pe_callB call_len_str (by rfl) T.n_len (by decide +kernel) (pa_cons (pe_m1 PySem.F.slot_str_join PySem.F.type_str_join mt_join pe_str (pv 3)) pa_nil)))
      (pss_cons (ps_for (passes_of rfl) rfl (pi_list (pe_lstA (pa_cons (pe_un un_neg pe_int) (pa_cons (pv 8) (pa_cons (pe_op op_pow pe_int pe_int) (pa_cons (pg_c c__law_odd hgd hr (by decide) (pa_cons (pv 1) pa_nil)) pa_nil)))))) (pg_name (i := 9) sc_law.nd rfl (Or.inl rfl))
      (C8.pss_cut (ps_if (PT_le (t' := tNoCell K) (PW.pt (pw_or (pt_not (pt_val (pe_callB call_isi (by rfl) T.n_isinstance (by decide +kernel) (pa_cons (pv 9) (pa_cons (pe_bltn (v := .ty "int") (u := .type "int") rfl T.n_int (by decide +kernel) rfl) pa_nil))))) (pw_or (pt_val (pe_callB call_isi (by rfl) T.n_isinstance (by decide +kernel) (pa_cons (pv 9) (pa_cons (pe_bltn (v := .ty "bool") (u := .type "bool") rfl T.n_bool (by decide +kernel) rfl) pa_nil)))) (pw_or (pt_cmpR op_lt (pv 9) pe_int (nomark _)) (pw_or1 (pt_cmpR op_ge (pv 9) (pv 8) (nomark _))))))) (fun σ H R h => by
      obtain ⟨y, n, q1, q2, ⟨t, b1, b2, k1, k2, k3, k4, k5⟩, kN, kY⟩ := h
      have outs : isInt y = false → cellOk n y = false := fun hi => by cases y <;> first | rfl | cases hi
      refine ⟨y, q1, _, _, _, _, _, rfl, .ty _, k1, k2, _, rfl, ?_⟩
      cases b1 with
      | false => exact iteT (kN (outs k4.symm))
      | true =>
        refine iteF ⟨y, q1, _, _, _, _, _, rfl, .ty _, k1, k3, _, rfl, ?_⟩
        cases b2 with
        | true => exact iteT (kN (outs k4.symm))
        | false =>
          refine iteF ?_
          cases y <;> first | (cases k4; done) | skip
          rename_i i
          refine ⟨_, q1, _, _, rfl, rfl, _, rfl, ?_⟩
          by_cases h1 : i < 0
          · exact iteT' (by simpa using h1) (kN (by simp [cellOk]; omega))
          · refine iteF' (by simpa using h1) ⟨_, q1, _, q2, _, _, rfl, rfl, _, rfl, ?_⟩
            by_cases h2 : i < n
            · have e : decide (i ≥ (n : Int)) = false := by simp; omega
              rw [e]
              exact kY (by simp [cellOk]; omega)
            · have e : decide (i ≥ (n : Int)) = true := by simp; omega
              rw [e]
              exact kN (by simp [cellOk]; omega))) (pss_one (ps_if (pt_cmpR op_ne (pe_callB (call_reprD hgd hr) (by rfl) T.n_repr (by decide +kernel) (pa_cons (pg_c c__law_cell hgd hr (by decide) (pa_cons (pv 5) (pa_cons (pv 9) pa_nil))) pa_nil)) (pe_callB (call_reprD hgd hr) (by rfl) T.n_repr (by decide +kernel) (pa_cons (pe_tupA (pa_cons pe_str (pa_cons (pv 9) pa_nil))) pa_nil)) (nomark _)) (pss_one (ps_ret pe_bl)) pss_nil)) pss_nil)
      (pss_one (ps_if (PT_le (t' := tNoMouth K C) (PW.pt (pw_or (pt_not (pt_val (pe_callB call_isi (by rfl) T.n_isinstance (by decide +kernel) (pa_cons (pv 9) (pa_cons (pe_bltn (v := .ty "int") (u := .type "int") rfl T.n_int (by decide +kernel) rfl) pa_nil))))) (pw_or (pt_val (pe_callB call_isi (by rfl) T.n_isinstance (by decide +kernel) (pa_cons (pv 9) (pa_cons (pe_bltn (v := .ty "bool") (u := .type "bool") rfl T.n_bool (by decide +kernel) rfl) pa_nil)))) (pw_or (pt_cmpR op_lt (pv 9) pe_int (nomark _)) (pw_or1 (pt_cmpR op_gt (pv 9) (pe_fld (pv 5) rfl) (nomark _))))))) (fun σ H R h => by
      obtain ⟨y, x, rows, wd, q1, q2, hX, ⟨t, b1, b2, k1, k2, k3, k4, k5⟩, kN, kY⟩ := h
      obtain ⟨dx, _, _, _, _, hx⟩ := hX.ins
      have outs : isInt y = false → mouthOk (manyZ (Txt.join "" rows) "12") y = false := fun hi => by cases y <;> first | rfl | cases hi
      generalize hn : manyZ (Txt.join "" rows) "12" = n at *
      refine ⟨y, q1, _, _, _, _, _, rfl, .ty _, k1, k2, _, rfl, ?_⟩
      cases b1 with
      | false => exact iteT (kN (outs k4.symm))
      | true =>
        refine iteF ⟨y, q1, _, _, _, _, _, rfl, .ty _, k1, k3, _, rfl, ?_⟩
        cases b2 with
        | true => exact iteT (kN (outs k4.symm))
        | false =>
          refine iteF ?_
          cases y <;> first | (cases k4; done) | skip
          rename_i i
          refine ⟨_, q1, _, _, rfl, rfl, _, rfl, ?_⟩
          by_cases h1 : i < 1
          · exact iteT' (by simpa using h1) (kN (by simp [mouthOk]; omega))
          · refine iteF' (by simpa using h1) ⟨_, q1, _, q2, x, C, dx, _, _, rfl, hx, T.cl, T.a_mouths, rfl, _, _, rfl, rfl, _, rfl, ?_⟩
            rw [hn]
            by_cases h2 : i ≤ n
            · have e : decide (i > n) = false := by simp; omega
              rw [e]
              exact kY (by simp [mouthOk]; omega)
            · have e : decide (i > n) = true := by simp; omega
              rw [e]
              exact kN (by simp [mouthOk]; omega))) (pss_one (ps_if (pt_cmpR op_ne (pe_callB (call_reprD hgd hr) (by rfl) T.n_repr (by decide +kernel) (pa_cons (pg_c c__law_mouth hgd hr (by decide) (pa_cons (pv 5) (pa_cons (pv 9) pa_nil))) pa_nil)) (pe_callB (call_reprD hgd hr) (by rfl) T.n_repr (by decide +kernel) (pa_cons (pe_tupA (pa_cons pe_str (pa_cons (pv 9) pa_nil))) pa_nil)) (nomark _)) (pss_one (ps_ret pe_bl)) pss_nil)) pss_nil))))
      (pss_one (ps_ret (pe_and (pe_cmpR (op_eqD hr.units) (pg_c c__law_mouth hgd hr (by decide) (pa_cons (pv 5) (pa_cons pe_int pa_nil))) (pe_tupA (pa_cons pe_str (pa_cons pe_int pa_nil))) (nomark _)) (pe_one (pe_cmpR op_eq (pe_callB (call_reprD hgd hr) (by rfl) T.n_repr (by decide +kernel) (pa_cons (pg_c c__law_mouth hgd hr (by decide) (pa_cons (pv 5) (pa_cons pe_bl pa_nil))) pa_nil)) (pe_callB (call_reprD hgd hr) (by rfl) T.n_repr (by decide +kernel) (pa_cons (pe_tupA (pa_cons pe_str (pa_cons pe_bl pa_nil))) pa_nil)) (nomark _)))))))))))))))))))), ?_⟩
    refine ⟨_, rfl, ?_⟩
    refine ⟨a, ns, rfl, hs, hl, fun l p H1 np s1 hp1 => ?_⟩
    walk_at "rd"
    refine ⟨l, p, 3, rfl, hp1, by decide, by decide, fun r1 H2 ra1 rb1 o2 hp2 => ?_⟩
    refine ⟨l, p, ".#^v<>abABoxpg*<>......", r1.toNat, congrArg (fun z : Int => [V.ref p, .str ".#^v<>abABoxpg*<>......", .int z]) (by omega), hp2, marks_ok, by omega, fun R rows wd H3 nR RO hli hwh hR o3 hp3 => ?_⟩
    walk_at "rd"
    refine ⟨R, _, rfl, .inl (SqL.of hR), fun G hG => ?_⟩
    have nG : Same H3 (upd H3 G (.lst (rows.map V.str))) := same_new hG
    have hG4 : upd H3 G (.lst (rows.map V.str)) G = some (.lst (rows.map V.str)) := upd_same
    generalize upd H3 G (.lst (rows.map V.str)) = H4 at nG hG4 ⊢
    have hR4 := nG _ _ hR
    have hp4 := hp3.same nG
    have hGR : G ≠ R := fun z => by rw [z, hR] at hG; cases hG
    have hGp : G ≠ p := hp3.ne hG
    have hGl : G ≠ l := hp3.nel hG
    walk_at "rd"
    refine fun x dx nx ndx nex => make_room nx ndx (.inl hG4) RO hli hwh fun H5 s5 hX5 => ⟨rfl, ?_⟩
    have hG5 := s5 _ _ hG4
    walk_at "rd"
    have r1 := RO.h1
    have ix0 : ixN (rows.map V.str).length 0 = some 0 := by
      rw [List.length_map]
      show (if (0 : Int) ≤ 0 then (if (0 : Int) < (rows.length : Int) then some (0 : Int).toNat else none) else _) = _
      rw [if_pos (Int.le_refl 0), if_pos (by omega)]
      rfl
    refine ⟨G, rows.map V.str, 0, 0, rfl, rfl, hG5, ix0, ?_⟩
    have oG : Off (fun b => b = G) H5 (upd H5 G (.lst ((rows.map V.str).set 0 (.str "#")))) := Off.mut rfl
    generalize upd H5 G (.lst ((rows.map V.str).set 0 (.str "#"))) = H6 at oG ⊢
    have hX6 : RoomAt C H6 x rows wd := hX5.keep oG (fun b hb => ⟨rows.map V.str, by rw [hb]; exact hG5⟩)
    have hR6 := oG _ _ (fun z => hGR z.symm) (s5 _ _ hR4)
    have hp6 : PoolAt K H6 l p := by
      obtain ⟨ys, i, c, n, z, q1, q2, q3, q4⟩ := hp4.same s5
      exact ⟨ys, i, c, n, z, oG _ _ (fun z => hGp z.symm) q1, q2, oG _ _ (fun z => hGl z.symm) q3, q4⟩
    walk_at "rd"
    refine ⟨x, R, rows, wd, rfl, hX6, hR6, fun H7 s7 => ?_⟩
    refine ⟨_, rfl, iteF ?_⟩
    refine ⟨fun σ' H' => ∃ y, σ' = [some (.ref a), some (.ref p), some (.str ".#^v<>abABoxpg*<>......"), some (.ref R), some (.ref G), some (.ref x), some (.ref y), none, none, none] ∧ RoomAt C H' x rows wd ∧ RoomAt C H' y (mir rows) wd ∧ H' R = some (.lst (rows.map V.str)) ∧ PoolAt K H' l p, ?_, ?_⟩
    · walk_at "rd"
      have hX7 := hX6.same s7
      obtain ⟨dx7, t7, c7, p7, n7, hx7, _⟩ := hX7.ex
      refine ⟨x, dx7, _, rfl, hx7, rfl, ?_⟩
      refine ⟨x, rows, wd, rfl, hX7, fun y H8 ny s8 hY => ?_⟩
      exact ⟨y, rfl, hX7.same s8, hY, s8 _ _ (s7 _ _ hR6), (hp6.same s7).same s8⟩
    rintro σ' H8 ⟨y, rfl, hX8, hY8, hR8, hp8⟩
    refine ⟨_, rfl, ?_⟩
    have hr6 : ∀ r ∈ rows, r.length ≤ 6 := fun r hr => by rw [RO.al r hr]; exact RO.w6
    refine ⟨_, rfl, R, rows, rfl, hR8, RO.h5, hr6, fun D H9 nD s9 hD => ?_⟩
    refine ⟨y, D, mir rows, wd, rfl, hY8.same s9, hD, fun H10 s10 => ⟨_, rfl, iteF ?_⟩⟩
    walk_at "rd"
    have hY10 := (hY8.same s9).same s10
    have hX10 := (hX8.same s9).same s10
    have hR10 := s10 _ _ (s9 _ _ hR8)
    have hp10 := (hp8.same s9).same s10
    obtain ⟨dy, _, _, _, _, hy10⟩ := hY10.ins
    refine ⟨y, dy, _, rfl, hy10, rfl, ?_⟩
    refine ⟨y, mir rows, wd, rfl, hY10, fun y2 H11 ny2 s11 hY2 => ?_⟩
    rw [mir_mir] at hY2
    refine ⟨_, rfl, ne_rooms TQ hY2 (hX10.same s11) ?_⟩
    rw [show (!decide (rows = rows)) = false by simp]
    refine ⟨_, rfl, iteF ?_⟩
    have hX11 := hX10.same s11
    have hY11 := hY10.same s11
    have hR11 := s11 _ _ hR10
    refine ⟨_, rfl, _, rfl, x, R, rows, wd, rfl, hX11, hR11, fun H12 s12 => ⟨_, rfl, ?_⟩⟩
    refine iteF ?_
    have hX12 := hX11.same s12
    have hY12 := hY11.same s12
    have hR12 := s12 _ _ hR11
    have hp12 := (hp10.same s11).same s12
    walk_at "rd"
    refine eq_rooms TQ hY12 hX12 ?_
    refine ⟨_, rfl, R, rows, rfl, hR12, RO.h5, hr6, fun D2 H13 nD2 s13 hD2 => ?_⟩
    walk_at "rd"
    have hR13 := s13 _ _ hR12
    refine ⟨_, _, .lst (SqL.of hD2) (DpAll_strs (mir rows)), .lst (SqL.of hR13) (DpAll_strs rows), shapedL (mir_lines hli), shapedL hli, ?_⟩
    have e13 : PyData.eqv (.list ((mir rows).map PyData.str)) (.list (rows.map PyData.str)) = decide (mir rows = rows) := eqvAll_strs (mir rows) rows
    rw [e13]
    refine ⟨rfl, _, rfl, ?_⟩
    rw [show (!decide (V.bl (decide (mir rows = rows)) = V.bl (decide (mir rows = rows)))) = false by simp]
    refine iteF ?_
    have hX13 := hX12.same s13
    have hp13 := hp12.same s13
    refine ⟨fun σ' H' => ∃ (R2 : Addr) (rows2 : List Str) (wd2 : Nat), σ' = [some (.ref a), some (.ref p), some (.str ".#^v<>abABoxpg*<>......"), some (.ref R), some (.ref G), some (.ref x), some (.ref y), some (.ref R2), none, none] ∧
      RoomAt C H' x rows wd ∧ H' R = some (.lst (rows.map V.str)) ∧ H' R2 = some (.lst (rows2.map V.str)) ∧ RowsOk rows2 wd2 ∧ (∀ r ∈ rows2, lineS r = true) ∧ wholeZ (Txt.join "" rows2) = true ∧ PoolAt K H' l p, ?_, ?_⟩
    · walk_at "rd"
      refine ⟨l, p, 3, rfl, hp13, by decide, by decide, fun r2 B1 ra2 rb2 o14 hp14 => ?_⟩
      refine ⟨l, p, ".#^v<>abABoxpg*<>......", r2.toNat, congrArg (fun z : Int => [V.ref p, .str ".#^v<>abABoxpg*<>......", .int z]) (by omega), hp14, marks_ok, by omega, fun R2 rows2 wd2 B2 nR2 RO2 hli2 hwh2 hR2 o15 hp15 => ?_⟩
      have hRp := hp13.ne_strs hR13
      exact ⟨R2, rows2, wd2, rfl, (hX13.pool hp13 o14).pool hp14 o15, o15 _ _ hRp (o14 _ _ hRp hR13), hR2, RO2, hli2, hwh2, hp15⟩
    clear hX10 hX11 hX12 hX13 hX8 hX6 hX5
    rintro σ' H14 ⟨R2, rows2, wd2, rfl, hX14, hR14, hS14, RO2, hli2, hwh2, hp14⟩
    walk_at "rd"
    refine fun x2 d2 nx2 nd2 nex2 => make_room nx2 nd2 (.inl hS14) RO2 hli2 hwh2 fun H15 s15 hZ15 => ⟨rfl, eq_rooms TQ (hX14.same s15) hZ15 ?_⟩
    walk_at "rd"
    have hR15 := s15 _ _ hR14
    refine ⟨_, _, .lst (SqL.of hR15) (DpAll_strs rows), .lst (SqL.of (s15 _ _ hS14)) (DpAll_strs rows2), shapedL hli, shapedL hli2, ?_⟩
    have e15 : PyData.eqv (.list (rows.map PyData.str)) (.list (rows2.map PyData.str)) = decide (rows = rows2) := eqvAll_strs rows rows2
    rw [e15]
    refine ⟨rfl, _, rfl, ?_⟩
    rw [show (!decide (V.bl (decide (rows = rows2)) = V.bl (decide (rows = rows2)))) = false by simp]
    refine iteF ?_
    walk_at "rd"
    have hX15 := hX14.same s15
    refine eq_list TQ hX15 hR15 ?_
    refine ⟨_, rfl, iteF ?_⟩
    walk_at "rd"
    refine ⟨R, _, rfl, .inl ⟨SqL.of hR15, fun t16 ht16 => ?_⟩⟩
    have s16 : Same H15 (upd H15 t16 (.tup (rows.map V.str))) := same_new ht16
    have ht17 : upd H15 t16 (.tup (rows.map V.str)) t16 = some (.tup (rows.map V.str)) := upd_same
    generalize upd H15 t16 (.tup (rows.map V.str)) = H16 at s16 ht17 ⊢
    have hX16 := hX15.same s16
    have hR16 := s16 _ _ hR15
    refine eq_tup TQ hX16 ht17 ?_
    refine ⟨_, rfl, iteF ?_⟩
    refine ⟨_, rfl, ?_⟩
    walk_at "rd"
    refine ⟨R, _, rfl, .inl ⟨SqL.of hR16, fun t18 ht18 => ?_⟩⟩
    have s18 : Same H16 (upd H16 t18 (.tup (rows.map V.str))) := same_new ht18
    have ht19 : upd H16 t18 (.tup (rows.map V.str)) t18 = some (.tup (rows.map V.str)) := upd_same
    generalize upd H16 t18 (.tup (rows.map V.str)) = H18 at s18 ht19 ⊢
    refine fun x3 d3 nx3 nd3 nex3 => make_room nx3 nd3 (.inr ht19) RO hli hwh fun H19 s19 hZ19 => ⟨rfl, eq_rooms TQ ((hX16.same s18).same s19) hZ19 ?_⟩
    rw [show decide (rows = rows) = true by simp]
    refine ⟨_, rfl, iteF ?_⟩
    have hX19 := (hX16.same s18).same s19
    have hp19 := (((hp14.same s15).same s16).same s18).same s19
    have hR19 := s19 _ _ (s18 _ _ hR16)
    refine ⟨fun σ' H' => σ' = [some (.ref a), some (.ref p), some (.str ".#^v<>abABoxpg*<>......"), some (.ref R), some (.ref G), some (.ref x), some (.ref y), some (.ref R2), some (.int (Txt.join "" rows).length), none] ∧ RoomAt C H' x rows wd ∧ PoolAt K H' l p, ?_, ?_⟩
    · have hs := sum_rows RO.al
      have hj := join_len RO
      have hzl := room_len RO
      refine ⟨⟨_, rfl⟩, _, rfl, "", R, rows, rfl, rfl, .inl (SqL.of hR19), (by rw [hs, ← hj]; show _ + rows.length * 0 ≤ _; omega), ?_⟩
      exact ⟨_, rfl, room_fit RO, rfl, hX19, hp19⟩
    clear hX14 hX15 hX16 hX19
    rintro σ' H20 ⟨rfl, hX20, hp20⟩
    have hzl := room_len RO
    obtain ⟨z, ez⟩ : ∃ z, z = Txt.join "" rows := ⟨_, rfl⟩
    rw [← ez] at hzl ⊢
    have nn : ∀ v : V, (!decide (v = v)) = false := fun v => by simp
    walk_at "rd"
    refine ⟨l, p, (fun b => b = p), rfl, hp20, rfl, fun b hb q => hp20.ne q hb, fun v H21 o21 hp21 od => ?_⟩
    have hX21 := hX20.pool hp20 o21
    refine And.intro (Nat.le_of_ble_eq_true rfl) (fun Lx H22 n22 => ?_)
    have hX22 := hX21.same n22.same
    have hp22 := hp21.same n22.same
    have gv : Good (fun b => b = p) H22 v := od.good.keep n22.off
    refine ⟨_, rfl, ⟨_, SqL.of n22.at_⟩, for_it (walk_list (xs := [.int (-1), .int z.length, .int (10 ^ (20 : Int).toNat), v])) (fun i σ H' => (∃ o9, σ = [some (.ref a), some (.ref p), some (.str ".#^v<>abABoxpg*<>......"), some (.ref R), some (.ref G), some (.ref x), some (.ref y), some (.ref R2), some (.int z.length), o9]) ∧ Same H22 H') ⟨⟨none, rfl⟩, Same.refl _⟩ (fun i σ H' _ q => SqL.of (q.2 _ _ n22.at_)) ?_ ?_⟩
    · rintro i th σ H23 H24 hi ⟨⟨o9, rfl⟩, s23⟩ ⟨rfl, hth⟩
      have gth : Good (fun b => b = p) H22 th := by
        match i, hi, hth with
        | 0, _, e => cases e; exact ⟨true, .int (-1), .int _, by decide +kernel, by decide +kernel, by decide +kernel⟩
        | 1, _, e => cases e; exact Good.small (by omega)
        | 2, _, e => cases e; exact ⟨true, .int (10 ^ (20 : Int).toNat), .int _, by decide +kernel, Nat.zero_le _, by decide +kernel⟩
        | 3, _, e => cases e; exact gv
      refine ⟨fun σ' H' => σ' = [some (.ref a), some (.ref p), some (.str ".#^v<>abABoxpg*<>......"), some (.ref R), some (.ref G), some (.ref x), some (.ref y), some (.ref R2), some (.int z.length), some th] ∧ Same H22 H', ?_, ?_⟩
      · refine ⟨th, z.length, rfl, rfl, (gth.keep (Off.same s23)).knd, fun hn => ?_, fun _ => ⟨rfl, s23⟩⟩
        walk_at "rd"
        refine ⟨x, rows, wd, th, rfl, hX22.same s23, (gth.keep (Off.same s23)).knd, fun t25 H25 nt25 s25 ht25 => ?_⟩
        rw [← ez, toldC_no hn] at ht25
        obtain ⟨L, d, hd, d1, d2, d3⟩ := gth.keep (Off.same (s23.trans s25))
        obtain ⟨w1, w2, w3⟩ := word_ok (x := "cell") (by decide +kernel) (by decide +kernel) (by decide +kernel) d1 d2 d3
        have tp : t25 ≠ p := (hp22.same s23).ne nt25
        refine ⟨_, .tuple [.str "cell", d], L, fun b => b = p, rfl, .tup ht25 tp (.cons (.str _) (.cons hd .nil)), w1, w2, w3, ?_⟩
        clear w3
        walk_at "rd"
        refine And.intro (Nat.le_of_ble_eq_true rfl) (fun t26 H26 n26 => ?_)
        have tq : t26 ≠ p := ((hp22.same s23).same s25).ne n26.free
        obtain ⟨w1, w2, w3⟩ := word_ok (x := "cell") (by decide +kernel) (by decide +kernel) (by decide +kernel) d1 d2 d3
        refine ⟨_, .tuple [.str "cell", d], L, fun b => b = p, rfl, .tup n26.at_ tq (.cons (.str _) (.cons (hd.keep n26.off) .nil)), w1, w2, w3, ?_⟩
        clear w1 w2 w3
        refine ⟨rfl, _, rfl, ?_⟩
        rw [nn]
        refine iteF ?_
        exact ⟨rfl, (s23.trans s25).trans n26.same⟩
      · rintro σ' H27 ⟨rfl, s27⟩
        refine ⟨th, x, rows, wd, rfl, rfl, hX22.same s27, (gth.keep (Off.same s27)).knd, fun hn => ?_, fun _ => ⟨⟨_, rfl⟩, s27⟩⟩
        walk_at "rd"
        refine ⟨x, rows, wd, th, rfl, hX22.same s27, (gth.keep (Off.same s27)).knd, fun t25 H25 nt25 s25 ht25 => ?_⟩
        rw [mouthV_no hn] at ht25
        obtain ⟨L, d, hd, d1, d2, d3⟩ := gth.keep (Off.same (s27.trans s25))
        obtain ⟨w1, w2, w3⟩ := word_ok (x := "mouth") (by decide +kernel) (by decide +kernel) (by decide +kernel) d1 d2 d3
        have tp : t25 ≠ p := (hp22.same s27).ne nt25
        refine ⟨_, .tuple [.str "mouth", d], L, fun b => b = p, rfl, .tup ht25 tp (.cons (.str _) (.cons hd .nil)), w1, w2, w3, ?_⟩
        clear w3
        walk_at "rd"
        refine And.intro (Nat.le_of_ble_eq_true rfl) (fun t26 H26 n26 => ?_)
        have tq : t26 ≠ p := ((hp22.same s27).same s25).ne n26.free
        obtain ⟨w1, w2, w3⟩ := word_ok (x := "mouth") (by decide +kernel) (by decide +kernel) (by decide +kernel) d1 d2 d3
        refine ⟨_, .tuple [.str "mouth", d], L, fun b => b = p, rfl, .tup n26.at_ tq (.cons (.str _) (.cons (hd.keep n26.off) .nil)), w1, w2, w3, ?_⟩
        clear w1 w2 w3
        refine ⟨rfl, _, rfl, ?_⟩
        rw [nn]
        refine iteF ?_
        exact ⟨⟨_, rfl⟩, (s27.trans s25).trans n26.same⟩
    · rintro σ H23 ⟨⟨o9, rfl⟩, s23⟩
      have hX23 := hX22.same s23
      have hp23 := hp22.same s23
      walk_at "rd"
      have m0 : mouthOk (manyZ (Txt.join "" rows) "12") (.int 0) = false := by simp [mouthOk]
      refine ⟨x, rows, wd, .int 0, rfl, hX23, knd_of rfl, fun t24 H24 nt24 s24 ht24 => ?_⟩
      rw [mouthV_no m0] at ht24
      refine And.intro (Nat.le_of_ble_eq_true rfl) (fun t25 H25 n25 => ?_)
      refine ⟨_, _, .tup (SqT.of (n25.same _ _ ht24)) (.cons (.str _) (.cons (.int _) .nil)), .tup (SqT.of n25.at_) (.cons (.str _) (.cons (.int _) .nil)), by decide +kernel, by decide +kernel, ?_⟩
      have e24 : PyData.eqv (.tuple [.str "mouth", .int 0]) (.tuple [.str "mouth", .int 0]) = true := by decide +kernel
      rw [e24]
      refine ⟨_, rfl, iteT ?_⟩
      refine ⟨_, rfl, ?_⟩
      have s25 : Same H23 H25 := s24.trans n25.same
      have mT : mouthOk (manyZ (Txt.join "" rows) "12") (.bl true) = false := rfl
      refine ⟨x, rows, wd, .bl true, rfl, hX23.same s25, knd_of rfl, fun t26 H26 nt26 s26 ht26 => ?_⟩
      rw [mouthV_no mT] at ht26
      refine ⟨_, .tuple [.str "mouth", .bool true], true, fun _ => False, rfl, .tup ht26 (fun z => z) (.cons (.str _) (.cons (.bl _) .nil)), by decide +kernel, by decide +kernel, by decide +kernel, ?_⟩
      walk_at "rd"
      refine And.intro (Nat.le_of_ble_eq_true rfl) (fun t27 H27 n27 => ?_)
      refine ⟨_, .tuple [.str "mouth", .bool true], true, fun _ => False, rfl, .tup n27.at_ (fun z => z) (.cons (.str _) (.cons (.bl _) .nil)), by decide +kernel, by decide +kernel, by decide +kernel, ?_⟩
      refine ⟨rfl, ?_⟩
      have yy : ∀ v : V, decide (v = v) = true := fun v => by simp
      rw [yy]
      exact k _
end
end K03
end
section
set_option Elab.async false
set_option linter.all false
set_option maxRecDepth 100000
set_option maxHeartbeats 2000000
namespace K03
open PySem L2 PyProof.Rows
/-- what the top has left, and the law's promise over it -/
theorem all_mk {P : Program} {w : World} {K : PySem.W.Frag} {h : Heap} {mg : Str → Option Value} {fa C f_is_whole f_is_row f__is_line f__need_lines f__many f__is_whole_room f__places f__neighbours f_Room_init f_Room_eq f_Room_cell f_Room_mouth f_Room_mirrored f__law_pool f__law_draw f__law_odd f__law_shuffled f__law_rows f__law_cell f__law_mouth f__law_turned f__law_right f_law CB fB CC fC CM fM : Addr} {d_is_whole d_is_row d__is_line d__need_lines d__many d__is_whole_room d__places d__neighbours d_Room_init d_Room_eq d_Room_cell d_Room_mouth d_Room_mirrored d__law_pool d__law_draw d__law_odd d__law_shuffled d__law_rows d__law_cell d__law_mouth d__law_turned d__law_right d_law : FuncData} {t_MARKS t_MOST_LINES t_MOST_ACROSS t_MOST_CELLS t_MOST_CRATES t_MOST_KEYS_AND_DOORS : Tok}
    (X : K.In h) (G : h.Ns mainGlobals mg) (hfa : mg "law" = some (.ref fa))
    (aC_Room : PySem.W.nsIn K mainGlobals "Room" = some (some (.ref C))) (cC_Room : Cls K C)
    (n_Room_rows : NoAttr K C "rows")
    (n_Room_cells : NoAttr K C "cells")
    (n_Room_entry : NoAttr K C "entry")
    (n_Room_mouths : NoAttr K C "mouths")
    (n_Room_crates : NoAttr K C "crates")
    (n_Room_plates : NoAttr K C "plates")
    (n_Room_near : NoAttr K C "near")
    (a_is_whole : PySem.W.nsIn K mainGlobals "is_whole" = some (some (.ref f_is_whole))) (F_is_whole : Fun K "is_whole" "is_whole" s_is_whole f_is_whole d_is_whole)
    (a_is_row : PySem.W.nsIn K mainGlobals "is_row" = some (some (.ref f_is_row))) (F_is_row : Fun K "is_row" "is_row" s_is_row f_is_row d_is_row)
    (a__is_line : PySem.W.nsIn K mainGlobals "_is_line" = some (some (.ref f__is_line))) (F__is_line : Fun K "_is_line" "_is_line" s__is_line f__is_line d__is_line)
    (a__need_lines : PySem.W.nsIn K mainGlobals "_need_lines" = some (some (.ref f__need_lines))) (F__need_lines : Fun K "_need_lines" "_need_lines" s__need_lines f__need_lines d__need_lines)
    (a__many : PySem.W.nsIn K mainGlobals "_many" = some (some (.ref f__many))) (F__many : Fun K "_many" "_many" s__many f__many d__many)
    (a__is_whole_room : PySem.W.nsIn K mainGlobals "_is_whole_room" = some (some (.ref f__is_whole_room))) (F__is_whole_room : Fun K "_is_whole_room" "_is_whole_room" s__is_whole_room f__is_whole_room d__is_whole_room)
    (a__places : PySem.W.nsIn K mainGlobals "_places" = some (some (.ref f__places))) (F__places : Fun K "_places" "_places" s__places f__places d__places)
    (a__neighbours : PySem.W.nsIn K mainGlobals "_neighbours" = some (some (.ref f__neighbours))) (F__neighbours : Fun K "_neighbours" "_neighbours" s__neighbours f__neighbours d__neighbours)
    (mC_Room : Mk K C f_Room_init)
    (F_Room_init : Fun K "__init__" "Room.__init__" s_Room_init f_Room_init d_Room_init)
    (qC_Room : RoomQ K C f_Room_eq)
    (F_Room_eq : Fun K "__eq__" "Room.__eq__" s_Room_eq f_Room_eq d_Room_eq)
    (a_Room_cell : PySem.W.findIn K (.ref C) "cell" = some (some (.ref f_Room_cell))) (i_Room_cell : PySem.W.isFn K (.ref f_Room_cell) = true)
    (F_Room_cell : Fun K "cell" "Room.cell" s_Room_cell f_Room_cell d_Room_cell)
    (a_Room_mouth : PySem.W.findIn K (.ref C) "mouth" = some (some (.ref f_Room_mouth))) (i_Room_mouth : PySem.W.isFn K (.ref f_Room_mouth) = true)
    (F_Room_mouth : Fun K "mouth" "Room.mouth" s_Room_mouth f_Room_mouth d_Room_mouth)
    (a_Room_mirrored : PySem.W.findIn K (.ref C) "mirrored" = some (some (.ref f_Room_mirrored))) (i_Room_mirrored : PySem.W.isFn K (.ref f_Room_mirrored) = true)
    (F_Room_mirrored : Fun K "mirrored" "Room.mirrored" s_Room_mirrored f_Room_mirrored d_Room_mirrored)
    (a__law_pool : PySem.W.nsIn K mainGlobals "_law_pool" = some (some (.ref f__law_pool))) (F__law_pool : Fun K "_law_pool" "_law_pool" s__law_pool f__law_pool d__law_pool)
    (a__law_draw : PySem.W.nsIn K mainGlobals "_law_draw" = some (some (.ref f__law_draw))) (F__law_draw : Fun K "_law_draw" "_law_draw" s__law_draw f__law_draw d__law_draw)
    (a__law_odd : PySem.W.nsIn K mainGlobals "_law_odd" = some (some (.ref f__law_odd))) (F__law_odd : Fun K "_law_odd" "_law_odd" s__law_odd f__law_odd d__law_odd)
    (a__law_shuffled : PySem.W.nsIn K mainGlobals "_law_shuffled" = some (some (.ref f__law_shuffled))) (F__law_shuffled : Fun K "_law_shuffled" "_law_shuffled" s__law_shuffled f__law_shuffled d__law_shuffled)
    (a__law_rows : PySem.W.nsIn K mainGlobals "_law_rows" = some (some (.ref f__law_rows))) (F__law_rows : Fun K "_law_rows" "_law_rows" s__law_rows f__law_rows d__law_rows)
    (a__law_cell : PySem.W.nsIn K mainGlobals "_law_cell" = some (some (.ref f__law_cell))) (F__law_cell : Fun K "_law_cell" "_law_cell" s__law_cell f__law_cell d__law_cell)
    (a__law_mouth : PySem.W.nsIn K mainGlobals "_law_mouth" = some (some (.ref f__law_mouth))) (F__law_mouth : Fun K "_law_mouth" "_law_mouth" s__law_mouth f__law_mouth d__law_mouth)
    (a__law_turned : PySem.W.nsIn K mainGlobals "_law_turned" = some (some (.ref f__law_turned))) (F__law_turned : Fun K "_law_turned" "_law_turned" s__law_turned f__law_turned d__law_turned)
    (a__law_right : PySem.W.nsIn K mainGlobals "_law_right" = some (some (.ref f__law_right))) (F__law_right : Fun K "_law_right" "_law_right" s__law_right f__law_right d__law_right)
    (a_law : PySem.W.nsIn K mainGlobals "law" = some (some (.ref f_law))) (F_law : Fun K "law" "law" s_law f_law d_law)
    (x_BadRoom : RX.ErrT P K mg "BadRoom" "value" CB fB)
    (x_BadCell : RX.ErrT P K mg "BadCell" "index" CC fC)
    (x_BadMouth : RX.ErrT P K mg "BadMouth" "number" CM fM)
    (z_isinstance : PySem.W.nsIn K mainGlobals "isinstance" = some none)
    (z_int : PySem.W.nsIn K mainGlobals "int" = some none)
    (z_bool : PySem.W.nsIn K mainGlobals "bool" = some none)
    (z_list : PySem.W.nsIn K mainGlobals "list" = some none)
    (z_len : PySem.W.nsIn K mainGlobals "len" = some none)
    (z_range : PySem.W.nsIn K mainGlobals "range" = some none)
    (z_repr : PySem.W.nsIn K mainGlobals "repr" = some none)
    (z_str : PySem.W.nsIn K mainGlobals "str" = some none)
    (z_tuple : PySem.W.nsIn K mainGlobals "tuple" = some none)
    (z_max : PySem.W.nsIn K mainGlobals "max" = some none)
    (z_sum : PySem.W.nsIn K mainGlobals "sum" = some none)
    (z_enumerate : PySem.W.nsIn K mainGlobals "enumerate" = some none)
    (z_ord : PySem.W.nsIn K mainGlobals "ord" = some none)
    (k_MARKS : PySem.W.nsIn K mainGlobals "MARKS" = some (some (.str "#.^v<>abABoxpg*@12" t_MARKS)))
    (k_MOST_LINES : PySem.W.nsIn K mainGlobals "MOST_LINES" = some (some (.int 5 t_MOST_LINES)))
    (k_MOST_ACROSS : PySem.W.nsIn K mainGlobals "MOST_ACROSS" = some (some (.int 6 t_MOST_ACROSS)))
    (k_MOST_CELLS : PySem.W.nsIn K mainGlobals "MOST_CELLS" = some (some (.int 24 t_MOST_CELLS)))
    (k_MOST_CRATES : PySem.W.nsIn K mainGlobals "MOST_CRATES" = some (some (.int 3 t_MOST_CRATES)))
    (k_MOST_KEYS_AND_DOORS : PySem.W.nsIn K mainGlobals "MOST_KEYS_AND_DOORS" = some (some (.int 4 t_MOST_KEYS_AND_DOORS))) :
    ∃ fd : FuncData, (∀ (s : Shared) (u : Value), BindsTo s fd ⟨[u], []⟩ [("script", u)]) ∧ ∀ base : Heap, K.In base → base.Ns mainGlobals mg → FnG P w K mg base (CXe P w) 8 fa fd ["script"] (spLaw K) := by
  have e := hfa.symm.trans (PySem.W.mg_of X G a_law)
  cases e
  have none_ := @PySem.W.mg_none_of
  have B0 : Blt mg := ⟨PySem.W.mg_none_of X G z_isinstance, PySem.W.mg_none_of X G z_int, PySem.W.mg_none_of X G z_bool, PySem.W.mg_none_of X G z_list, PySem.W.mg_none_of X G z_len, PySem.W.mg_none_of X G z_range, PySem.W.mg_none_of X G z_repr⟩
  have B : Rb mg := { toBlt := B0, n_str := PySem.W.mg_none_of X G z_str, n_tuple := PySem.W.mg_none_of X G z_tuple, n_max := PySem.W.mg_none_of X G z_max, n_sum := PySem.W.mg_none_of X G z_sum, n_enumerate := PySem.W.mg_none_of X G z_enumerate, k_MARKS := ⟨_, PySem.W.mg_of X G k_MARKS⟩, k_MOST_LINES := ⟨_, PySem.W.mg_of X G k_MOST_LINES⟩, k_MOST_ACROSS := ⟨_, PySem.W.mg_of X G k_MOST_ACROSS⟩, k_MOST_CELLS := ⟨_, PySem.W.mg_of X G k_MOST_CELLS⟩, k_MOST_CRATES := ⟨_, PySem.W.mg_of X G k_MOST_CRATES⟩, k_MOST_KEYS_AND_DOORS := ⟨_, PySem.W.mg_of X G k_MOST_KEYS_AND_DOORS⟩ }
  have RT : RoomT P K mg CB fB := { toRb := B, x_BadRoom := x_BadRoom }
  have T : RoomM P K mg C CB fB CC fC CM fM := { toRoomT := RT, cl := cC_Room, a_rows := n_Room_rows, a_cells := n_Room_cells, a_entry := n_Room_entry, a_mouths := n_Room_mouths, g_Room := PySem.W.mg_of X G aC_Room, n_ord := PySem.W.mg_none_of X G z_ord, x_BadCell := x_BadCell, x_BadMouth := x_BadMouth }
  refine ⟨d_law, ?_, fun base _ _ => ?_⟩
  · obtain ⟨oc, od, kV, doc, pm, an, cdv, ct, osl, rfl, lk, hcd⟩ := F_law.ex
    exact fun s v => .of_eq rfl
  have b_is_whole := F_is_whole.binds (ps := ["thing"]) fun _ _ _ _ _ _ us hl => match us, hl with | [_], _ => rfl
  have b_is_row := F_is_row.binds (ps := ["thing"]) fun _ _ _ _ _ _ us hl => match us, hl with | [_], _ => rfl
  have b__is_line := F__is_line.binds (ps := ["thing"]) fun _ _ _ _ _ _ us hl => match us, hl with | [_], _ => rfl
  have b__need_lines := F__need_lines.binds (ps := ["rows"]) fun _ _ _ _ _ _ us hl => match us, hl with | [_], _ => rfl
  have b__many := F__many.binds (ps := ["cells", "marks"]) fun _ _ _ _ _ _ us hl => match us, hl with | [_, _], _ => rfl
  have b__is_whole_room := F__is_whole_room.binds (ps := ["cells"]) fun _ _ _ _ _ _ us hl => match us, hl with | [_], _ => rfl
  have b__places := F__places.binds (ps := ["cells", "mark"]) fun _ _ _ _ _ _ us hl => match us, hl with | [_, _], _ => rfl
  have b__neighbours := F__neighbours.binds (ps := ["rows", "down", "across"]) fun _ _ _ _ _ _ us hl => match us, hl with | [_, _, _], _ => rfl
  have b_Room_init := F_Room_init.binds (ps := ["self", "rows"]) fun _ _ _ _ _ _ us hl => match us, hl with | [_, _], _ => rfl
  have b_Room_eq := F_Room_eq.binds (ps := ["self", "other"]) fun _ _ _ _ _ _ us hl => match us, hl with | [_, _], _ => rfl
  have b_Room_cell := F_Room_cell.binds (ps := ["self", "index"]) fun _ _ _ _ _ _ us hl => match us, hl with | [_, _], _ => rfl
  have b_Room_mouth := F_Room_mouth.binds (ps := ["self", "number"]) fun _ _ _ _ _ _ us hl => match us, hl with | [_, _], _ => rfl
  have b_Room_mirrored := F_Room_mirrored.binds (ps := ["self"]) fun _ _ _ _ _ _ us hl => match us, hl with | [_], _ => rfl
  have b__law_pool := F__law_pool.binds (ps := ["script"]) fun _ _ _ _ _ _ us hl => match us, hl with | [_], _ => rfl
  have b__law_draw := F__law_draw.binds (ps := ["pool", "many"]) fun _ _ _ _ _ _ us hl => match us, hl with | [_, _], _ => rfl
  have b__law_odd := F__law_odd.binds (ps := ["pool"]) fun _ _ _ _ _ _ us hl => match us, hl with | [_], _ => rfl
  have b__law_shuffled := F__law_shuffled.binds (ps := ["pool", "things"]) fun _ _ _ _ _ _ us hl => match us, hl with | [_, _], _ => rfl
  have b__law_rows := F__law_rows.binds (ps := ["pool", "marks", "mouths"]) fun _ _ _ _ _ _ us hl => match us, hl with | [_, _, _], _ => rfl
  have b__law_cell := F__law_cell.binds (ps := ["room", "index"]) fun _ _ _ _ _ _ us hl => match us, hl with | [_, _], _ => rfl
  have b__law_mouth := F__law_mouth.binds (ps := ["room", "number"]) fun _ _ _ _ _ _ us hl => match us, hl with | [_, _], _ => rfl
  have b__law_turned := F__law_turned.binds (ps := ["rows"]) fun _ _ _ _ _ _ us hl => match us, hl with | [_], _ => rfl
  have b__law_right := F__law_right.binds (ps := ["room", "rows"]) fun _ _ _ _ _ _ us hl => match us, hl with | [_, _], _ => rfl
  have c_is_whole : CalG P w K mg base 1 "is_whole" (spWhole K) := ⟨f_is_whole, d_is_whole, _, ok_whole F_is_whole B0, PySem.W.mg_of X G a_is_whole, F_is_whole.kp, b_is_whole⟩
  have c_is_row : CalG P w K mg base 1 "is_row" (spIsRow K) := ⟨f_is_row, d_is_row, _, ok_is_row F_is_row B, PySem.W.mg_of X G a_is_row, F_is_row.kp, b_is_row⟩
  have c__is_line : CalG P w K mg base 1 "_is_line" (spIsLine K) := ⟨f__is_line, d__is_line, _, ok_is_line F__is_line B, PySem.W.mg_of X G a__is_line, F__is_line.kp, b__is_line⟩
  have c__need_lines : CalG P w K mg base 3 "_need_lines" (spNeed K CB) := ⟨f__need_lines, d__need_lines, _, ok_need F__need_lines RT c_is_row c__is_line, PySem.W.mg_of X G a__need_lines, F__need_lines.kp, b__need_lines⟩
  have c__many : CalG P w K mg base 1 "_many" (spMany) := ⟨f__many, d__many, _, ok_many F__many B, PySem.W.mg_of X G a__many, F__many.kp, b__many⟩
  have c__is_whole_room : CalG P w K mg base 2 "_is_whole_room" (spWR) := ⟨f__is_whole_room, d__is_whole_room, _, ok_whole_room F__is_whole_room B c__many, PySem.W.mg_of X G a__is_whole_room, F__is_whole_room.kp, b__is_whole_room⟩
  have c__places : CalG P w K mg base 1 "_places" (spPlaces) := ⟨f__places, d__places, _, ok_places F__places B, PySem.W.mg_of X G a__places, F__places.kp, b__places⟩
  have c__neighbours : CalG P w K mg base 1 "_neighbours" (spNeigh K) := ⟨f__neighbours, d__neighbours, _, ok_neigh F__neighbours B, PySem.W.mg_of X G a__neighbours, F__neighbours.kp, b__neighbours⟩
  have hI_Room := ok_room_init (w := w) (base := base) F_Room_init RT cC_Room n_Room_rows n_Room_cells n_Room_entry n_Room_mouths n_Room_crates n_Room_plates n_Room_near c__need_lines c__is_whole_room c__many c__places c__neighbours
  have m_Room : MakG P w K mg base 4 "Room" C (spRoomInit K C CB) [] := ⟨f_Room_init, d_Room_init, _, [], hI_Room, mC_Room, PySem.W.mg_of X G aC_Room, b_Room_init, .nil⟩
  have q_Room : FnG P w K mg base (CXe P w) 1 f_Room_eq d_Room_eq ["self", "other"] (spREq K C) := ok_req F_Room_eq T
  have t_Room_cell : MetG P w K mg base 4 C "cell" (spCell K C CC) := ⟨f_Room_cell, d_Room_cell, _, ok_cell F_Room_cell T c_is_whole, cC_Room, ⟨a_Room_cell, i_Room_cell, F_Room_cell.kp⟩, b_Room_cell⟩
  have t_Room_mouth : MetG P w K mg base 4 C "mouth" (spMouth K C CM) := ⟨f_Room_mouth, d_Room_mouth, _, ok_mouth F_Room_mouth T c_is_whole, cC_Room, ⟨a_Room_mouth, i_Room_mouth, F_Room_mouth.kp⟩, b_Room_mouth⟩
  have t_Room_mirrored : MetG P w K mg base 6 C "mirrored" (spMir C) := ⟨f_Room_mirrored, d_Room_mirrored, _, ok_mirrored F_Room_mirrored T m_Room, cC_Room, ⟨a_Room_mirrored, i_Room_mirrored, F_Room_mirrored.kp⟩, b_Room_mirrored⟩
  have c__law_pool : CalG P w K mg base 1 "_law_pool" (spPool K) := ⟨f__law_pool, d__law_pool, _, ok_pool F__law_pool B0, PySem.W.mg_of X G a__law_pool, F__law_pool.kp, b__law_pool⟩
  have c__law_draw : CalG P w K mg base 1 "_law_draw" (spDraw K) := ⟨f__law_draw, d__law_draw, _, ok_draw F__law_draw B0, PySem.W.mg_of X G a__law_draw, F__law_draw.kp, b__law_draw⟩
  have c__law_odd : CalG P w K mg base 2 "_law_odd" (spOdd K) := ⟨f__law_odd, d__law_odd, _, ok_odd (k1 := 0) F__law_odd B0 c__law_draw, PySem.W.mg_of X G a__law_odd, F__law_odd.kp, b__law_odd⟩
  have c__law_shuffled : CalG P w K mg base 2 "_law_shuffled" (spShuf K) := ⟨f__law_shuffled, d__law_shuffled, _, ok_shuf F__law_shuffled B c__law_draw, PySem.W.mg_of X G a__law_shuffled, F__law_shuffled.kp, b__law_shuffled⟩
  have c__law_rows : CalG P w K mg base 3 "_law_rows" (spRows K) := ⟨f__law_rows, d__law_rows, _, ok_rows F__law_rows B c__law_draw c__law_shuffled, PySem.W.mg_of X G a__law_rows, F__law_rows.kp, b__law_rows⟩
  have c__law_cell : CalG P w K mg base 6 "_law_cell" (spLCell K C) := ⟨f__law_cell, d__law_cell, _, ok_lcell F__law_cell T t_Room_cell, PySem.W.mg_of X G a__law_cell, F__law_cell.kp, b__law_cell⟩
  have c__law_mouth : CalG P w K mg base 6 "_law_mouth" (spLMouth K C) := ⟨f__law_mouth, d__law_mouth, _, ok_lmouth F__law_mouth T t_Room_mouth, PySem.W.mg_of X G a__law_mouth, F__law_mouth.kp, b__law_mouth⟩
  have c__law_turned : CalG P w K mg base 1 "_law_turned" (spTurned K) := ⟨f__law_turned, d__law_turned, _, ok_turned F__law_turned B, PySem.W.mg_of X G a__law_turned, F__law_turned.kp, b__law_turned⟩
  have c__law_right : CalG P w K mg base 7 "_law_right" (spLRight K C) := ⟨f__law_right, d__law_right, _, ok_lright F__law_right T c__law_cell c__law_mouth, PySem.W.mg_of X G a__law_right, F__law_right.kp, b__law_right⟩
  exact ok_law F_law T qC_Room m_Room t_Room_mirrored q_Room b_Room_eq c__law_pool c__law_draw c__law_odd c__law_rows c__law_cell c__law_mouth c__law_turned c__law_right
theorem walk {l : PySem.W.OpenLaw} {q : Program} {loose : List Str} {XP : (Str → Option Value) → Heap → Prop} {YP : World → Heap → Prop} {d : DefRec} {K : Params → PySem.W.Frag} (hn : l.most = some 63) (hdf : d.params.defaults = [])
    (hY : ∀ (w : World) (h : Heap), YP w h → (K w.params).In h)
    (F : ∀ (w : World) (mg : Str → Option Value) (fa : Addr) (h : Heap), (K w.params).In h → h.Ns mainGlobals mg → mg d.name = some (.ref fa) →
      ∃ fd : FuncData, (∀ (s : Shared) (u : Value), BindsTo s fd ⟨[u], []⟩ [("script", u)]) ∧ ∀ base : Heap, (K w.params).In base → base.Ns mainGlobals mg → FnG l.prog w (K w.params) mg base (CXe l.prog w) 8 fa fd ["script"] (spLaw (K w.params))) :
    PySem.W.WalkO q loose XP YP l.row.toRowW d [] (fun f vs => PySem.call f vs) :=
  L2.walk_ofG (n := 63) (k := 8) (x := "script") (CX := fun w => CXe l.prog w) (sp := fun w => spLaw (K w.params)) hn (by decide) hdf ⟨rfl, by decide, by decide⟩ hY F (fun _ _ a ns hl _ hS => ⟨a, ns, rfl, hS, hl, fun _ => rfl⟩) fun w H s e s' z => by
    obtain ⟨_, _, _, _, _, _, _, _, _, _, _, _, hE⟩ := z
    exact hE
end K03
end
section
set_option Elab.async false
set_option maxRecDepth 100000
open PySem PySem.W PyProof.Rows
set_option maxRecDepth 100000 in
set_option maxHeartbeats 0 in
theorem PySem.Challenge.cw_roomsthrough_k03_rooms_told_holds : PySem.Challenge.rw_roomsthrough_k03_rooms_told.Holds := by
  w_on; o_law; k_head; (case hw => w_witness2)
  k_fill
  refine K03.walk (l := PySem.Challenge.rw_roomsthrough_k03_rooms_told) rfl rfl (fun w h Y => PySem.W.kIn_of Y) ?F
  case F =>
    intro w mg fa h KX G hmg
    refine' K03.all_mk KX G hmg ?aC_Room ?cC_Room ?n_Room_rows ?n_Room_cells ?n_Room_entry ?n_Room_mouths ?n_Room_crates ?n_Room_plates ?n_Room_near ?a_is_whole ?F_is_whole ?a_is_row ?F_is_row ?a__is_line ?F__is_line ?a__need_lines ?F__need_lines ?a__many ?F__many ?a__is_whole_room ?F__is_whole_room ?a__places ?F__places ?a__neighbours ?F__neighbours ?mC_Room ?F_Room_init ?qC_Room ?F_Room_eq ?a_Room_cell ?i_Room_cell ?F_Room_cell ?a_Room_mouth ?i_Room_mouth ?F_Room_mouth ?a_Room_mirrored ?i_Room_mirrored ?F_Room_mirrored ?a__law_pool ?F__law_pool ?a__law_draw ?F__law_draw ?a__law_odd ?F__law_odd ?a__law_shuffled ?F__law_shuffled ?a__law_rows ?F__law_rows ?a__law_cell ?F__law_cell ?a__law_mouth ?F__law_mouth ?a__law_turned ?F__law_turned ?a__law_right ?F__law_right ?a_law ?F_law ?x_BadRoom ?x_BadCell ?x_BadMouth ?z_isinstance ?z_int ?z_bool ?z_list ?z_len ?z_range ?z_repr ?z_str ?z_tuple ?z_max ?z_sum ?z_enumerate ?z_ord ?k_MARKS ?k_MOST_LINES ?k_MOST_ACROSS ?k_MOST_CELLS ?k_MOST_CRATES ?k_MOST_KEYS_AND_DOORS
    (case aC_Room => k_is)
    (case cC_Room => exact ⟨by k_is, by k_is, by k_is, by k_is⟩)
    (case n_Room_rows => unfold L2.NoAttr; k_is)
    (case n_Room_cells => unfold L2.NoAttr; k_is)
    (case n_Room_entry => unfold L2.NoAttr; k_is)
    (case n_Room_mouths => unfold L2.NoAttr; k_is)
    (case n_Room_crates => unfold L2.NoAttr; k_is)
    (case n_Room_plates => unfold L2.NoAttr; k_is)
    (case n_Room_near => unfold L2.NoAttr; k_is)
    (case a_is_whole => k_is)
    (case F_is_whole => (refine' L2.fun_mk ?l_is_whole ?c_is_whole ?q_is_whole; (case l_is_whole => k_is); (case c_is_whole => k_is); (case q_is_whole => k_is)))
    (case a_is_row => k_is)
    (case F_is_row => (refine' L2.fun_mk ?l_is_row ?c_is_row ?q_is_row; (case l_is_row => k_is); (case c_is_row => k_is); (case q_is_row => k_is)))
    (case a__is_line => k_is)
    (case F__is_line => (refine' L2.fun_mk ?l__is_line ?c__is_line ?q__is_line; (case l__is_line => k_is); (case c__is_line => k_is); (case q__is_line => k_is)))
    (case a__need_lines => k_is)
    (case F__need_lines => (refine' L2.fun_mk ?l__need_lines ?c__need_lines ?q__need_lines; (case l__need_lines => k_is); (case c__need_lines => k_is); (case q__need_lines => k_is)))
    (case a__many => k_is)
    (case F__many => (refine' L2.fun_mk ?l__many ?c__many ?q__many; (case l__many => k_is); (case c__many => k_is); (case q__many => k_is)))
    (case a__is_whole_room => k_is)
    (case F__is_whole_room => (refine' L2.fun_mk ?l__is_whole_room ?c__is_whole_room ?q__is_whole_room; (case l__is_whole_room => k_is); (case c__is_whole_room => k_is); (case q__is_whole_room => k_is)))
    (case a__places => k_is)
    (case F__places => (refine' L2.fun_mk ?l__places ?c__places ?q__places; (case l__places => k_is); (case c__places => k_is); (case q__places => k_is)))
    (case a__neighbours => k_is)
    (case F__neighbours => (refine' L2.fun_mk ?l__neighbours ?c__neighbours ?q__neighbours; (case l__neighbours => k_is); (case c__neighbours => k_is); (case q__neighbours => k_is)))
    (case mC_Room => refine' ⟨?a_Room, ?b_Room, ?c2_Room, ?d_Room⟩; (case a_Room => k_is); (case b_Room => k_is); (case c2_Room => k_is); (case d_Room => k_is))
    (case F_Room_init => (refine' L2.fun_mk ?l_Room_init ?c_Room_init ?q_Room_init; (case l_Room_init => k_is); (case c_Room_init => k_is); (case q_Room_init => k_is)))
    (case qC_Room =>
      refine' ⟨⟨?qa, ?qb, ?qc, ?qd⟩, ⟨⟨?qa1, ?qa2, ?qa3, ?qa4⟩, ?qe, ?qf, ?qg, ?qh, ?qi⟩, ?qj, ?qk, ?ql, ?qm⟩
      (case qa => k_is); (case qb => k_is); (case qc => k_is); (case qd => k_is); (case qa1 => k_is); (case qa2 => k_is); (case qa3 => k_is); (case qa4 => k_is); (case qe => k_is); (case qf => k_is); (case qg => k_is); (case qh => k_is); (case qi => first | k_is | kit_is | (unfold PySem.W.kitOne; simp))
      (case qj => k_is); (case qk => k_is); (case ql => kit_is); (case qm => kit_is))
    (case F_Room_eq => (refine' L2.fun_mk ?l_Room_eq ?c_Room_eq ?q_Room_eq; (case l_Room_eq => k_is); (case c_Room_eq => k_is); (case q_Room_eq => k_is)))
    (case a_Room_cell => k_is)
    (case i_Room_cell => k_is)
    (case F_Room_cell => (refine' L2.fun_mk ?l_Room_cell ?c_Room_cell ?q_Room_cell; (case l_Room_cell => k_is); (case c_Room_cell => k_is); (case q_Room_cell => k_is)))
    (case a_Room_mouth => k_is)
    (case i_Room_mouth => k_is)
    (case F_Room_mouth => (refine' L2.fun_mk ?l_Room_mouth ?c_Room_mouth ?q_Room_mouth; (case l_Room_mouth => k_is); (case c_Room_mouth => k_is); (case q_Room_mouth => k_is)))
    (case a_Room_mirrored => k_is)
    (case i_Room_mirrored => k_is)
    (case F_Room_mirrored => (refine' L2.fun_mk ?l_Room_mirrored ?c_Room_mirrored ?q_Room_mirrored; (case l_Room_mirrored => k_is); (case c_Room_mirrored => k_is); (case q_Room_mirrored => k_is)))
    (case a__law_pool => k_is)
    (case F__law_pool => (refine' L2.fun_mk ?l__law_pool ?c__law_pool ?q__law_pool; (case l__law_pool => k_is); (case c__law_pool => k_is); (case q__law_pool => k_is)))
    (case a__law_draw => k_is)
    (case F__law_draw => (refine' L2.fun_mk ?l__law_draw ?c__law_draw ?q__law_draw; (case l__law_draw => k_is); (case c__law_draw => k_is); (case q__law_draw => k_is)))
    (case a__law_odd => k_is)
    (case F__law_odd => (refine' L2.fun_mk ?l__law_odd ?c__law_odd ?q__law_odd; (case l__law_odd => k_is); (case c__law_odd => k_is); (case q__law_odd => k_is)))
    (case a__law_shuffled => k_is)
    (case F__law_shuffled => (refine' L2.fun_mk ?l__law_shuffled ?c__law_shuffled ?q__law_shuffled; (case l__law_shuffled => k_is); (case c__law_shuffled => k_is); (case q__law_shuffled => k_is)))
    (case a__law_rows => k_is)
    (case F__law_rows => (refine' L2.fun_mk ?l__law_rows ?c__law_rows ?q__law_rows; (case l__law_rows => k_is); (case c__law_rows => k_is); (case q__law_rows => k_is)))
    (case a__law_cell => k_is)
    (case F__law_cell => (refine' L2.fun_mk ?l__law_cell ?c__law_cell ?q__law_cell; (case l__law_cell => k_is); (case c__law_cell => k_is); (case q__law_cell => k_is)))
    (case a__law_mouth => k_is)
    (case F__law_mouth => (refine' L2.fun_mk ?l__law_mouth ?c__law_mouth ?q__law_mouth; (case l__law_mouth => k_is); (case c__law_mouth => k_is); (case q__law_mouth => k_is)))
    (case a__law_turned => k_is)
    (case F__law_turned => (refine' L2.fun_mk ?l__law_turned ?c__law_turned ?q__law_turned; (case l__law_turned => k_is); (case c__law_turned => k_is); (case q__law_turned => k_is)))
    (case a__law_right => k_is)
    (case F__law_right => (refine' L2.fun_mk ?l__law_right ?c__law_right ?q__law_right; (case l__law_right => k_is); (case c__law_right => k_is); (case q__law_right => k_is)))
    (case a_law => k_is)
    (case F_law => (refine' L2.fun_mk ?l_law ?c_law ?q_law; (case l_law => k_is); (case c_law => k_is); (case q_law => k_is)))
    (case x_BadRoom =>
      refine' RX.errT_mk KX G ?y_BadRoom_gC ?y_BadRoom_cls ?y_BadRoom_rv ?y_BadRoom_sa ?y_BadRoom_ga ?y_BadRoom_gg ?y_BadRoom_noN ?y_BadRoom_iC ?y_BadRoom_tC ?y_BadRoom_kC ?y_BadRoom_exC ?y_BadRoom_tyC ?y_BadRoom_hdC ?y_BadRoom_icC ?y_BadRoom_sC ?y_BadRoom_veC ?y_BadRoom_selfM ?y_BadRoom_up ?y_BadRoom_third ?y_BadRoom_noS ?y_BadRoom_top ?y_BadRoom_fl ?y_BadRoom_bd ?y_BadRoom_l ?y_BadRoom_cd ?y_BadRoom_lc ?y_BadRoom_v2 ?y_BadRoom_vf ?y_BadRoom_lcc ?y_BadRoom_ln
      (case y_BadRoom_gC => k_is); (case y_BadRoom_cls => k_is); (case y_BadRoom_rv => decide +kernel); (case y_BadRoom_sa => k_is); (case y_BadRoom_ga => k_is); (case y_BadRoom_gg => k_is); (case y_BadRoom_noN => k_is); (case y_BadRoom_iC => k_is); (case y_BadRoom_tC => k_is); (case y_BadRoom_kC => k_is); (case y_BadRoom_exC => k_is); (case y_BadRoom_tyC => k_is); (case y_BadRoom_hdC => k_is); (case y_BadRoom_icC => k_is); (case y_BadRoom_sC => first | rfl | k_is); (case y_BadRoom_veC => k_is); (case y_BadRoom_selfM => k_is); (case y_BadRoom_up => ks_is); (case y_BadRoom_third => k_is); (case y_BadRoom_noS => k_is); (case y_BadRoom_top => decide +kernel); (case y_BadRoom_fl => decide +kernel); (case y_BadRoom_bd => intros; rfl); (case y_BadRoom_l => k_is); (case y_BadRoom_cd => k_is); (case y_BadRoom_lc => k_is); (case y_BadRoom_v2 => rfl); (case y_BadRoom_vf => decide +kernel); (case y_BadRoom_lcc => k_is); (case y_BadRoom_ln => rfl))
    (case x_BadCell =>
      refine' RX.errT_mk KX G ?y_BadCell_gC ?y_BadCell_cls ?y_BadCell_rv ?y_BadCell_sa ?y_BadCell_ga ?y_BadCell_gg ?y_BadCell_noN ?y_BadCell_iC ?y_BadCell_tC ?y_BadCell_kC ?y_BadCell_exC ?y_BadCell_tyC ?y_BadCell_hdC ?y_BadCell_icC ?y_BadCell_sC ?y_BadCell_veC ?y_BadCell_selfM ?y_BadCell_up ?y_BadCell_third ?y_BadCell_noS ?y_BadCell_top ?y_BadCell_fl ?y_BadCell_bd ?y_BadCell_l ?y_BadCell_cd ?y_BadCell_lc ?y_BadCell_v2 ?y_BadCell_vf ?y_BadCell_lcc ?y_BadCell_ln
      (case y_BadCell_gC => k_is); (case y_BadCell_cls => k_is); (case y_BadCell_rv => decide +kernel); (case y_BadCell_sa => k_is); (case y_BadCell_ga => k_is); (case y_BadCell_gg => k_is); (case y_BadCell_noN => k_is); (case y_BadCell_iC => k_is); (case y_BadCell_tC => k_is); (case y_BadCell_kC => k_is); (case y_BadCell_exC => k_is); (case y_BadCell_tyC => k_is); (case y_BadCell_hdC => k_is); (case y_BadCell_icC => k_is); (case y_BadCell_sC => first | rfl | k_is); (case y_BadCell_veC => k_is); (case y_BadCell_selfM => k_is); (case y_BadCell_up => ks_is); (case y_BadCell_third => k_is); (case y_BadCell_noS => k_is); (case y_BadCell_top => decide +kernel); (case y_BadCell_fl => decide +kernel); (case y_BadCell_bd => intros; rfl); (case y_BadCell_l => k_is); (case y_BadCell_cd => k_is); (case y_BadCell_lc => k_is); (case y_BadCell_v2 => rfl); (case y_BadCell_vf => decide +kernel); (case y_BadCell_lcc => k_is); (case y_BadCell_ln => rfl))
    (case x_BadMouth =>
      refine' RX.errT_mk KX G ?y_BadMouth_gC ?y_BadMouth_cls ?y_BadMouth_rv ?y_BadMouth_sa ?y_BadMouth_ga ?y_BadMouth_gg ?y_BadMouth_noN ?y_BadMouth_iC ?y_BadMouth_tC ?y_BadMouth_kC ?y_BadMouth_exC ?y_BadMouth_tyC ?y_BadMouth_hdC ?y_BadMouth_icC ?y_BadMouth_sC ?y_BadMouth_veC ?y_BadMouth_selfM ?y_BadMouth_up ?y_BadMouth_third ?y_BadMouth_noS ?y_BadMouth_top ?y_BadMouth_fl ?y_BadMouth_bd ?y_BadMouth_l ?y_BadMouth_cd ?y_BadMouth_lc ?y_BadMouth_v2 ?y_BadMouth_vf ?y_BadMouth_lcc ?y_BadMouth_ln
      (case y_BadMouth_gC => k_is); (case y_BadMouth_cls => k_is); (case y_BadMouth_rv => decide +kernel); (case y_BadMouth_sa => k_is); (case y_BadMouth_ga => k_is); (case y_BadMouth_gg => k_is); (case y_BadMouth_noN => k_is); (case y_BadMouth_iC => k_is); (case y_BadMouth_tC => k_is); (case y_BadMouth_kC => k_is); (case y_BadMouth_exC => k_is); (case y_BadMouth_tyC => k_is); (case y_BadMouth_hdC => k_is); (case y_BadMouth_icC => k_is); (case y_BadMouth_sC => first | rfl | k_is); (case y_BadMouth_veC => k_is); (case y_BadMouth_selfM => k_is); (case y_BadMouth_up => ks_is); (case y_BadMouth_third => k_is); (case y_BadMouth_noS => k_is); (case y_BadMouth_top => decide +kernel); (case y_BadMouth_fl => decide +kernel); (case y_BadMouth_bd => intros; rfl); (case y_BadMouth_l => k_is); (case y_BadMouth_cd => k_is); (case y_BadMouth_lc => k_is); (case y_BadMouth_v2 => rfl); (case y_BadMouth_vf => decide +kernel); (case y_BadMouth_lcc => k_is); (case y_BadMouth_ln => rfl))
    (case z_isinstance => k_is)
    (case z_int => k_is)
    (case z_bool => k_is)
    (case z_list => k_is)
    (case z_len => k_is)
    (case z_range => k_is)
    (case z_repr => k_is)
    (case z_str => k_is)
    (case z_tuple => k_is)
    (case z_max => k_is)
    (case z_sum => k_is)
    (case z_enumerate => k_is)
    (case z_ord => k_is)
    (case k_MARKS => k_is)
    (case k_MOST_LINES => k_is)
    (case k_MOST_ACROSS => k_is)
    (case k_MOST_CELLS => k_is)
    (case k_MOST_CRATES => k_is)
    (case k_MOST_KEYS_AND_DOORS => k_is)
end
