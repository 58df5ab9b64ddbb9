import PyProof.Rows.All
import Wide.All
import OpenK.AllK
import Wide.FinOn
import PyProof.EqAt
import PyProof.EqKinds
import PyProof.TupleCall
import HandS.ForMost
import HandS.ForExc
import HandS.ExcField
import HandS.ExcInit
import HandS.IsInst
import HandS.Defaults
import HandS.Small
import KE.KExcSuper
import KE.KExcMake
import HandS.Codes
import HandS.Evl
import HandS.Walk
import KE.GoesEnum
import HandS.Zip0
import HandS.Translate
import HandS.Replace
import PyProof.Rows.StrRev
import KE.KEqDict
import HandS.More
import HandS.TupAny
import HandS.Style
import HandS.Star
import HandS.SortInts
import HandS.Conv
import PyProof.ListStr
import HandS.Exc
import KE.KEqSeq
import HandS.DeepEq
import KE.KRevSl
import KE.KDictKeyed
import PyProof.Rows.TupDisplay
import HandS.SetFor
import HandS.SortKw
import HandS.RaiseMore
import PyProof.ExcBaseAll.ValueError
import HandS.TryOnly
import HandS.OwnEq
import PyProof.NeKinds
import HandS.TupMul
import PyProof.StrBlock2
import HandS.Zip
import KE.KDictZip
import HandS.ListItems
import PyProof.ListNew
import KE.SortData
import HandS.ExcIs
import HandS.ExcValue
import KE.KExcIs
import PySem.Challenge.RW_roomsthrough_k01_errors_of_the_package
section
set_option Elab.async false
set_option linter.all false
set_option maxRecDepth 100000
set_option maxHeartbeats 2000000
/-! # The errors of the package: each with an __init__ that says super().__init__(text) and keeps one value. -/
namespace RX
open PySem PySem.W PySem.Calls PyProof.Rows PySem.HandSPX
/-! ### the text of such an __init__, its field a letter -/
def eA (fld : Str) (p1 p2 : Pos) : Arguments := { posonlyargs := [], args := [{ arg := "self", annotation := none, pos := p1 }, { arg := fld, annotation := none, pos := p2 }], vararg := none, kwonlyargs := [], kw_defaults := [], kwarg := none, defaults := [] }
def eB (fld msg : Str) (q1 q2 q3 q4 q5 q6 q7 q8 q9 q10 : Pos) : List Stmt :=
  [.Expr (.Call (.Attribute (.Call (.Name "super" q1) [] [] q2) "__init__" q3) [.Constant (.str msg) 0 q4] [] q5) q6,
   .Assign [.Attribute (.Name "self" q7) fld q8] (.Name fld q9) q10]
def eS (fld : Str) : Scope := { kind := .function, names := [("self", .local), (fld, .local), ("__class__", .free), ("super", .globalImplicit)], isGenerator := false, isCoroutine := false, more := [] }
/-- what the top says of the class at C, whose __init__ stands at fI and sees the class by the cell at cc -/
structure ErrT (prog : Program) (K : Frag) (mg : Str → Option Value) (cn fld : Str) (C fI : Addr) : Prop where
  gC : mg cn = some (.ref C)
  cls : ∃ nm q N bs bm sn sub ab col dd k0 k1 k2 k3 k5, K.lookup C = some (excClassObj nm q C N bs bm true sn sub ab col dd k0 k1 k2 k3 k5 "ValueError.__new__") ∧ refsVE bm = true
  sa : findIn K (.ref C) "__setattr__" = some (some (.builtin "object.__setattr__"))
  xf : L2.XfC K C
  noN : findIn K (.ref C) fld = some none
  iC : findIn K (.ref C) "__init__" = some (some (.ref fI))
  tC : typeIn K (.ref fI) = some (.type "function")
  kC : keepIn K (.ref C) = true
  exC : subIn K (.ref C) (.type "BaseException") = some true
  tyC : typeIn K (.ref C) = some (.type "type")
  hdC : hasDictIn K C = true
  te : exmOne K (.ref C) (.ref C) = some true
  veC : subIn K (.ref C) (.type "ValueError") = some true
  selfM : mroIn K C (.ref C) = some true
  up : ks_superIn K C C "__init__" = some (some (.builtin "ValueError.__init__"))
  third : nsIn K cStatics "thirdparty.any" = some none
  noS : nsIn K mainGlobals "super" = some none
  top : (prog.main.scope.names.lookup ("super" : Str)).isSome = false
  fl : (eS fld).names.lookup fld = some .local ∧ (fld == ("self" : Str)) = false ∧ (eS fld).names.lookup ("super" : Str) = some .globalImplicit ∧ (eS fld).names.lookup ("__class__" : Str) = some .free ∧ (fld == ("__debug__" : Str)) = false
  bd : ∀ (qual : Str) (body : List Stmt) (doc pm : Value) (an : Option Addr) (cd ct : Value) (cc : Addr) (p1 p2 : Pos) (a b : Value), bindArgs (ksFn "__init__" qual (eA fld p1 p2) body (eS fld) .none .none doc pm an cd ct cc) ⟨[a, b], []⟩ = pure [(("self" : Str), a), (fld, b)]
  fn : ∃ (oc : Value) (od : Option Addr) (doc pm : Value) (an : Option Addr) (cda cc : Addr) (ct : Value) (osl : Array (Option Value)) (msg : Str) (qual : Str) (p1 p2 q1 q2 q3 q4 q5 q6 q7 q8 q9 q10 : Pos)
    (ccl cl : Value) (cdd cld : Option Addr) (ccs csl : Array (Option Value)) (vs : Array Value) (file : Str) (tf : Tok),
    K.lookup fI = some ⟨oc, od, .func (ksFn "__init__" qual (eA fld p1 p2) (eB fld msg q1 q2 q3 q4 q5 q6 q7 q8 q9 q10) (eS fld) .none .none doc pm an (.ref cda) ct cc), osl⟩ ∧ codeIn K (.ref cda) qual = true ∧
    K.lookup cda = some ⟨ccl, cdd, .fields vs, ccs⟩ ∧ vs[2]? = some (.str file tf) ∧ ((prog.main.file : Str) == file) = true ∧ K.lookup cc = some ⟨cl, cld, .cell (some (.ref C)), csl⟩ ∧ (q3.endLine == q5.line) = true
/-- what such an __init__ leaves of a fresh exception at x -/
structure ErrEnd (h h' : Heap) (fld : Str) (x C dx : Addr) (v : Value) : Prop where
  keep : ∀ b o, b ≠ x → h.get? b = some o → h'.get? b = some o
  obj : ∃ t1, h'.get? x = some { cls := .ref C, dict := some dx, data := .fields #[.ref t1, .none, .none, .none, .bool false, .none] }
  dbig : h.objs.size ≤ dx
  dne : dx ≠ x
  ns : h'.Ns1 dx (fun y => if y = fld then some v else none)
theorem size1 (v : Value) : [v].length ≤ sizeLine := by
  rw [sizeLine_eq]; exact (by decide : 1 ≤ 16777216)
section
variable {prog : Program} {w : World} {A : Around} {E : Value → Shared → Prop} {R : Result → Shared → Prop} {s : Shared} {K : Frag} {mg : Str → Option Value} {g : Heap} {cn fld : Str} {C fI : Addr}
theorem err_init (T : ErrT prog K mg cn fld C fI) {x t0 : Addr} {v : Value} (M : L2.Mod K mg g) (hg : ∀ b o, g.get? b = some o → s.heap.get? b = some o) (hx : s.heap.get? x = some (excO C t0)) (hnx : K.lookup x = none) (hroom : A.depth < recursionLimit)
    (hq : ∀ h' tk dx, ErrEnd s.heap h' fld x C dx v → R (.ok (.ret .none)) { s with heap := h', toks := tk }) :
    codeAny (model prog w) A (.call (.ref fI) ⟨[.ref x, v], []⟩) R s := by
  obtain ⟨oc, od, doc, pm, an, cda, cc, ct, osl, msg, qual, p1, p2, q1, q2, q3, q4, q5, q6, q7, q8, q9, q10, ccl, cl, cdd, cld, ccs, csl, vs, file, tf, ho, hcd, hcode, hvs, hfile, hcell, hpos⟩ := T.fn
  obtain ⟨nm, q, N, bs, bm, sn, sub, ab, col, dd, k0, k1, k2, k3, k5, hC, hbm⟩ := T.cls
  obtain ⟨hfl, hfs, hsu, hcs, hfd⟩ := T.fl
  have X : K.In s.heap := M.kin.keeps hg
  have hcl : clsIn K C = some { name := nm, bases := bs, mro := .ref C :: bm, ns := N, qualname := q, hasDict := true, slotNames := sn, subclasses := sub, abstract := ab, collection := col, hasDel := false } := by unfold clsIn; rw [hC] <;> rfl
  have hfs' : ("self" == fld) = false := by
    have : ¬ fld = ("self" : Str) := by simpa using hfs
    simpa using fun z => this z.symm
  refine ks_codeAny_call_defAt (fd := ksFn "__init__" qual (eA fld p1 p2) (eB fld msg q1 q2 q3 q4 q5 q6 q7 q8 q9 q10) (eS fld) .none .none doc pm an (.ref cda) ct cc) (binds := [("self", .ref x), (fld, v)])
    hroom (X _ _ ho) rfl (M.nolimit.keeps hg) (codeRec_of X hcd) rfl ?hb ?hc ?hl (fun h1 hns k => ?_) rfl rfl rfl
  case hb => exact BindsTo.of_eq (T.bd _ _ _ _ _ _ _ _ _ _ _ _)
  case hc => 
    intro y hy
    simp only [ksFn, eS, List.mem_cons, List.not_mem_nil, or_false] at hy
    rcases hy with rfl | rfl | rfl | rfl <;> (intro z; cases z)
  case hl =>
    intro y hy
    simp only [List.mem_cons, List.not_mem_nil, or_false] at hy
    rcases hy with rfl | rfl
    · rfl
    · exact hfl
  have k : ∀ b o, s.heap.get? b = some o → h1.get? b = some o := k
  have X1 : K.In h1 := X.keeps k
  have hx1 := k _ _ hx
  have M1 : ∀ b o, g.get? b = some o → h1.get? b = some o := fun b o e => k b o (hg b o e)
  have mself : (fun y => List.lookup y ([("self", .ref x), (fld, v)] : List (Str × Value)).reverse) "self" = some (.ref x) := by
    simp only [List.reverse_cons, List.reverse_nil, List.nil_append, List.cons_append, List.lookup]
    rw [hfs']
    rfl
  have mfld : (fun y => List.lookup y ([("self", .ref x), (fld, v)] : List (Str × Value)).reverse) fld = some v := by
    simp [List.reverse_cons, List.lookup]
  refine ks_wpAt_execs_cons (ks_wpAt_Expr_any (ks_wpAt_MethodCall (pl := (do return (← importBound (.Call (.Name "super" q1) [] [] q2) (callEnv (ksFn "__init__" qual (eA fld p1 p2) (eB fld msg q1 q2 q3 q4 q5 q6 q7 q8 q9 q10) (eS fld) .none .none doc pm an (.ref cda) ct cc) s.heap.objs.size fI)).getD true)) ?_ ?he))
  case he =>
    show (do let ov ← _; standAt q3.atName; methodCall _ _ _ _ _ ov _ _ _) = _
    unfold methodCall methodCallPos
    rw [hpos]
    rfl
  have hD : ∃ oD, h1.get? C = some oD ∧ oD.data = .cls { name := nm, bases := bs, mro := .ref C :: bm, ns := N, qualname := q, hasDict := true, slotNames := sn, subclasses := sub, abstract := ab, collection := col, hasDel := false } := ⟨_, X1 _ _ hC, rfl⟩
  obtain ⟨oD, hD1, hD2⟩ := hD
  refine ks_wpAt_super_base hsu hcs rfl rfl (X1 _ _ ho) rfl rfl rfl (X1 _ _ hcode) rfl hvs hfile T.top ?_
  obtain ⟨mb, hmb, hmb2⟩ := M.blt
  refine ks_loadName_global rfl hsu (loadGlobal_builtin (mg := mg) (mb := mb) (M.glob.keeps M1) (mg_none_of M.kin M.glob T.noS) (hmb.keeps M1) ((hmb2 _ (by decide)).trans (by decide +kernel)) ⟨rfl, ?_⟩)
  refine wpAny_loadName_free rfl hcs rfl ⟨_, X1 _ _ hcell, rfl⟩ ?_
  refine wpAny_loadName_local rfl rfl hns mself ?_
  refine ks_wpAny_isType_cls hD1 hD2 ⟨rfl, ?_⟩
  refine ks_wpAny_call_super hD1 hD2 hx1 rfl (fun c z => by cases z) (looks_mroIn X1 T.selfM) (fun h2 e2 k2 => ?_)
  have X2 : K.In h2 := X1.keeps k2
  have hx2 := k2 _ _ hx1
  have I2 : InstAt h2 x (excO C t0) C none := ⟨hx2, rfl, rfl, trivial⟩
  have hf2 : alongIn K "__init__" (((.ref C :: bm : List Value).dropWhile (· != .ref C)).drop 1) = some (some (.builtin "ValueError.__init__")) := by
    have := T.up
    unfold ks_superIn at this
    rw [hcl] at this
    exact this
  refine kxs_getMethod kxs_ValueError e2 (looks_opaque X2 T.third) (l₀ := .ref C :: bm) (fun A Q E s k q => wpAny_bind ((looks_clsIn X2 hcl) A _ E s k (wpAny_pure q))) rfl X2 hf2 (I2.type.andThen (looks_subIn X2 T.veC)) (ks_ne X2 I2 hcl) rfl ?_
  -- the wrapper is called with the text
  have hu3 : (h2.push (kxs_mw "ValueError.__init__" x)).get? h2.objs.size = some (kxs_mw "ValueError.__init__" x) := Heap.get?_push_at rfl rfl
  have k3 : ∀ b o, h2.get? b = some o → (h2.push (kxs_mw "ValueError.__init__" x)).get? b = some o := fun b o e => Heap.get?_push_of_some _ e
  refine kxs_callWith (i := "ValueError.__init__") (x := x) rfl (evalArgs_plain ?_)
  refine spliced_more (Calls.Constant_str ?_)
  refine spliced_none ?_
  refine ⟨hu3, ?_⟩
  have hx3 := k3 _ _ hx2
  have hC3 := k3 _ _ (X2 _ _ hC)
  show wpAny (model prog w) (A.deeper _) (call (.ref h2.objs.size) [.str msg _]) _ _ _
  refine wpAny_call (codeAny_of_tree ?_)
  show wpAny _ (A.deeper _).in1 (callAny (.ref h2.objs.size) ⟨[.str msg _], []⟩) _ _ _
  simp only [callAny]
  refine wpAny_bind (wpAny_load hu3 ?_)
  simp only [kxs_mw, show (Value.type "method-wrapper" == Value.type "method" || Value.type "method-wrapper" == Value.type "builtin_function_or_method" || Value.type "method-wrapper" == Value.type "method-wrapper") = true by decide, if_true]
  refine KFB.if_so (by decide) ?_
  refine wpAny_bind (check_bound_init F.excBase_ValueError.toExcCallFacts hC3 hx3 rfl ?_)
  refine wpAny_bind (wpAny_pure (wpAny_pure ?_))
  refine ⟨plainId_quiet F.excBase_ValueError.init.plain _, codeAny_builtin F.excBase_ValueError.initEntry ?_⟩
  refine exc_init_tree (cls := .ref C) (t0 := t0) (dv := none) (c2 := .none) (c3 := .none) (b4 := .bool false) hx3 (size1 _) (fun h4 k4 hx4 ht4 => ?_)
  -- self.field = value
  have k14 : ∀ b o, b ≠ x → h1.get? b = some o → h4.get? b = some o := fun b o hb e => k4 b o hb (k3 _ _ (k2 _ _ e))
  have X4 : K.In h4 := fun a o e => k14 a o (fun z => by rw [z, hnx] at e; cases e) (X1 a o e)
  have hL : s.heap.objs.size ≠ x := Nat.ne_of_gt (Heap.lt_size hx)
  have hn4 : h4.Ns s.heap.objs.size (fun y => List.lookup y ([("self", .ref x), (fld, v)] : List (Str × Value)).reverse) := hns.at (fun o e => k14 _ _ hL e)
  show PySem.wpAt _ _ _ (execs _ _) _ _ _
  refine ks_wpAt_execs_cons (ks_wpAt_Assign_Attr ?_)
  have hfl' : (callEnv (ksFn "__init__" qual (eA fld p1 p2) (eB fld msg q1 q2 q3 q4 q5 q6 q7 q8 q9 q10) (eS fld) .none .none doc pm an (.ref cda) ct cc) s.heap.objs.size fI).kindOf fld = some .local := hfl
  refine wpAt_of_wpAny (wpAny_Name ?_ hfd)
  refine wpAny_loadName_local (m := fun y => List.lookup y ([("self", .ref x), (fld, v)] : List (Str × Value)).reverse) (v := v) rfl hfl' hn4 mfld ?_
  refine wpAny_Name ?_
  refine wpAny_loadName_local (m := fun y => List.lookup y ([("self", .ref x), (fld, v)] : List (Str × Value)).reverse) (v := .ref x) rfl rfl hn4 mself ?_
  have hx5 : h4.get? x = some (excO C _) := hx4
  refine set_plain X4 (ox := excO C _) (od := none) ⟨hx5, rfl, rfl, trivial⟩ T.sa ?_
  refine exc_osa X4 hx5 hcl (show refsVE (.ref C :: bm) = true from hbm) rfl T.noN (fun h5 tk5 dx k5' dn dne hx6 hn5 => ?_)
  show PySem.wpAt _ _ _ (execs _ _) _ _ _
  have big : s.heap.objs.size ≤ dx := Nat.le_trans (Nat.le_of_lt hn4.lt) dn
  refine wpAt_of_wpAny (wpAny_execs_nil (hq h5 tk5 dx ⟨fun b o hb e => k5' b o hb (k14 b o hb (k b o e)), ⟨_, hx6⟩, big, dne, hn5⟩))
/-- a made error -/
structure ErrMade (h h' : Heap) (fld : Str) (e C d : Addr) (v : Value) : Prop where
  keep : ∀ b o, h.get? b = some o → h'.get? b = some o
  new : h.objs.size ≤ e
  obj : ∃ oe vs, h'.get? e = some oe ∧ oe.cls = .ref C ∧ oe.dict = some d ∧ oe.data = .fields vs ∧ vs[1]? = some .none
  dbig : h.objs.size ≤ d
  dne : d ≠ e
  ns : h'.Ns1 d (fun y => if y = fld then some v else none)
theorem err_made (T : ErrT prog K mg cn fld C fI) {v : Value} (M : L2.Mod K mg g) (hg : ∀ b o, g.get? b = some o → s.heap.get? b = some o) (hroom : A.depth + 1 < recursionLimit)
    (hq : ∀ h' tk e d, ErrMade s.heap h' fld e C d v → R (.ok (.ret (.ref e))) { s with heap := h', toks := tk }) :
    codeAny (model prog w) A (.call (.ref C) ⟨[v], []⟩) R s := by
  obtain ⟨nm, q, N, bs, bm, sn, sub, ab, col, dd, k0, k1, k2, k3, k5, hC, hbm⟩ := T.cls
  have X : K.In s.heap := M.kin.keeps hg
  obtain ⟨hp, gs, dr, tk, os⟩ := s
  have k : ∀ b o, hp.get? b = some o → ((hp.push (kdv_tup [v])).push (excO C hp.objs.size)).get? b = some o := fun b o e => Heap.get?_push_of_some _ (Heap.get?_push_of_some _ e)
  have hget : ((hp.push (kdv_tup [v])).push (excO C hp.objs.size)).get? (hp.objs.size + 1) = some (excO C hp.objs.size) := by heap_get
  have hnx : K.lookup (hp.objs.size + 1) = none := by
    cases e : K.lookup (hp.objs.size + 1) with
    | none => rfl
    | some o =>
      have z : hp.get? (hp.objs.size + 1) = some o := X _ _ e
      exact absurd (Nat.lt_of_succ_lt (Heap.lt_size z)) (Nat.lt_irrefl _)
  refine call_own F.excBase_ValueError (fun X => refsVE_contains X bm hbm) (X _ _ hC) (looks_findIn X T.iC) (fun self => bind_fn X self T.tC) (size1 v) ?_
  refine err_init (s := ⟨(hp.push (kdv_tup [v])).push (excO C hp.objs.size), gs, dr, tk, os⟩) (g := g) T M (fun b o e => k b o (hg b o e)) hget hnx ?_ fun h' tk' dx ⟨k', hx, dn, dne, hns⟩ => ?_
  · show A.depth + 1 < recursionLimit
    exact hroom
  · obtain ⟨t1, hx⟩ := hx
    have old : ∀ b o, hp.get? b = some o → h'.get? b = some o := fun b o e => k' b o (Nat.ne_of_lt (Nat.lt_succ_of_lt (Heap.lt_size e))) (k b o e)
    have z : hp.objs.size + 1 + 1 ≤ dx := by
      first
        | (simpa only [Heap.size_push] using dn)
        | exact dn
        | (have q := dn; rw [Heap.size_push, Heap.size_push] at q; exact q)
    exact ⟨rfl, hq h' tk' (hp.objs.size + 1) dx ⟨old, Nat.le_succ _, ⟨_, _, hx, rfl, rfl, rfl, rfl⟩, Nat.le_trans (Nat.le_trans (Nat.le_succ _) (Nat.le_succ _)) z, dne, hns⟩⟩
end
end RX
namespace L2
open PySem PySem.Spec PyProof.Rows
theorem relO_one {fld : Str} {v : V} {v' : Value} (r : RelV v v') (f : Str) : RelO (List.lookup f [(fld, v)]) (if f = fld then some v' else none) := by
  by_cases hw : f = fld
  · subst hw
    rw [if_pos rfl]
    have q : List.lookup f [(f, v)] = some v := by simp [List.lookup]
    rw [q]; exact r
  · rw [if_neg hw]
    have qw : (f == fld) = false := by simpa using hw
    have q2 : List.lookup f [(fld, v)] = none := by simp [List.lookup, qw]
    rw [q2]; trivial
section
variable {X : Cx} {C fI : Addr} {cn fld : Str}
/-- Err(e): its own dict d is new and holds the field -/
def tMkErr (fld : Str) (C : Addr) (ta : TA) : St → Hp → XK → Prop := fun σ H Q => ta σ H fun vs H1 => ∃ v, vs = [v] ∧ ∀ d, H1 d = none → Q (.ref C) (some d) (upd H1 d (.xd [(fld, v)]))
theorem pmk_err {a : Expr} {ta : TA} {p pos : Pos} {k : Nat} (T : RX.ErrT X.prog X.K X.mg cn fld C fI) (hr : Room k X.A) (ha : PA X [a] ta) (hg : Gl X cn := by rfl) (hdb : (cn == ("__debug__" : Str)) = false := by decide)
    (he : starEach (a :: []) X.env = (false, eval a X.env) :: starEach [] X.env := by rfl) (hpl : (backTo pos (starEach [] X.env)).any (·.1) = false := by rfl) :
    PMk X (.Call (.Name cn p) [a] [] pos) (tMkErr fld C ta) := by
  intro pins s σ H Q I h
  refine wpAny_Call_Name_kw (ld_glob I hg T.gC ?_ hdb)
  refine PySem.W.callWith_K (h₀ := X.base) I.ok.mod.kin T.kC (thn (ha.run pos pins s σ H _ I h) fun us s1 hh => ?_) he hpl
  obtain ⟨vs, H1, I1, r1, v, ev, q1⟩ := hh
  subst ev
  refine ⟨I1.kIn, ?_⟩
  cases r1 with
  | cons rv rn =>
    rename_i v' us'
    cases rn
    show wpAny _ _ (call (.ref C) [v']) _ _ _
    have hbk := I1.bk
    obtain ⟨hp, g, dr, tk, os⟩ := s1
    refine wpAny_call (RX.err_made T I1.mod hbk (by have := hr.dp; omega) fun h' tk' e d M => ?_)
    show MkP X pins σ Q (.ref e) ⟨h', g, dr, tk', os⟩
    obtain ⟨oe, fv, hoe, hc, hd, hdat, h1⟩ := M.obj
    have hns := M.ns
    obtain ⟨G', g1, g2⟩ := restrict h' fun b => decide (b ≠ e)
    have gk : ∀ b, b ≠ e → G'.get? b = h'.get? b := fun b hb => g1 b (decide_eq_true hb)
    have ge : G'.get? e = none := g2 e (by simp)
    have old : ∀ b o, hp.get? b = some o → G'.get? b = some o := fun b o q => (gk b (Nat.ne_of_lt (Nat.lt_of_lt_of_le (Heap.lt_size q) M.new))).trans (M.keep b o q)
    have ob : ObjOk X.prog X.w (upd H1 d (.xd [(fld, v)])) G' d (.xd [(fld, v)]) :=
      ⟨_, hns.at (fun o q => (gk d M.dne).trans q), fun f => relO_one rv f⟩
    have J : Inv X pins σ (upd H1 d (.xd [(fld, v)])) ⟨G', g, dr, tk', os⟩ := I1.laid (t' := tk') old M.dbig ob
    refine ⟨e, oe, fv, ⟨G', g, dr, tk', os⟩, _, .ref C, some d, rfl, J, fun b o q => ?_, ge, hoe, ⟨hc, hd⟩, hdat, h1, ?_, rfl, I1.bare, raises_own T.exC T.tyC, q1 d (I1.hok.fresh M.dbig)⟩
    · by_cases hb : b = e
      · have q' : G'.get? b = some o := q
        rw [hb, ge] at q'; cases q'
      · exact (gk b hb).symm.trans q
    · rw [upd_ne (Ne.symm M.dne)]
      exact I1.hok.fresh M.new
/-- raise Err(e) -/
def tRaiseErr (fld : Str) (C : Addr) (W : WX) (ta : TA) : TS := fun _ σ H => tMkErr fld C ta σ H fun cls d H' => W cls d σ H'
theorem ps_raiseErr {a : Expr} {ta : TA} {W : WX} {p pos pos2 : Pos} {k : Nat} (hc : X.calm = true) (T : RX.ErrT X.prog X.K X.mg cn fld C fI) (hr : Room k X.A) (tk : Takes X W) (ha : PA X [a] ta) (hg : Gl X cn := by rfl) (hdb : (cn == ("__debug__" : Str)) = false := by decide)
    (he : starEach (a :: []) X.env = (false, eval a X.env) :: starEach [] X.env := by rfl) (hpl : (backTo pos (starEach [] X.env)).any (·.1) = false := by rfl) :
    PS X (.Raise (some (.Call (.Name cn p) [a] [] pos)) none pos2) (tRaiseErr fld C W ta) := ps_raise hc tk (pmk_err T hr ha hg hdb he hpl)
end
end L2
end
section
set_option Elab.async false
set_option linter.all false
set_option maxRecDepth 100000
set_option maxHeartbeats 2000000
/-! # Calls within which nothing is being shown: what repr needs to be told. -/
namespace L2
open PySem PySem.Spec PyProof.Rows
/-- as FnOk, but only where no repr is under way around the call -/
structure FnG (P : Program) (w : World) (K : PySem.W.Frag) (mg : Str → Option Value) (base : Heap)
    (CX : CXT) (k : Nat) (f : Addr) (fd : FuncData) (ps : List Str) (sp : Sp) : Prop where
  len : ∀ vs H Q E, sp vs H Q E → vs.length = ps.length
  run : ∀ (A : Around) (outer : List Env) (s : Shared) (H : Hp) (args : Args) (us : List Value)
    (vs : List V) (Q : VK) (E : XK), A.guards = some [] → Room k A → Env0 P w K mg base A outer s H →
    BindsTo s fd args (ps.zip us) → Vals vs us → sp vs H Q E →
    codeAny (model P w) A (.call (.ref f) args) (CR CX outer P w H s Q E) s
section
variable {P : Program} {w : World} {K : PySem.W.Frag} {mg : Str → Option Value} {base : Heap}
  {CX : CXT} {k j : Nat} {f : Addr} {fd : FuncData} {ps : List Str} {sp sp' : Sp}
theorem FnOk.g (F : FnOk P w K mg base CX k f fd ps sp) : FnG P w K mg base CX k f fd ps sp :=
  ⟨F.len, fun A o s H a us vs Q E _ => F.run A o s H a us vs Q E⟩
theorem FnG.mono (F : FnG P w K mg base CX j f fd ps sp) (h : j ≤ k) : FnG P w K mg base CX k f fd ps sp :=
  ⟨F.len, fun A o s H a us vs Q E hg hr => F.run A o s H a us vs Q E hg (hr.mono h)⟩
theorem FnG.imp (F : FnG P w K mg base CX k f fd ps sp) (h : ∀ vs H Q E, sp' vs H Q E → sp vs H Q E) :
    FnG P w K mg base CX k f fd ps sp' :=
  ⟨fun vs H Q E q => F.len vs H Q E (h _ _ _ _ q),
   fun A o s H a us vs Q E hg hr he hb hv hs => F.run A o s H a us vs Q E hg hr he hb hv (h _ _ _ _ hs)⟩
end
/-- a def by its body, where nothing is being shown -/
theorem fn_ofG {CX : CXT} {P : Program} {w : World} {K : PySem.W.Frag} {mg : Str → Option Value} {base : Heap}
    {k : Nat} {f : Addr} {name qual : Str} {params : Arguments} {body : List Stmt} {scope : Scope}
    {dV kV doc pm cdv ct oc : Value} {an od : Option Addr} {osl : Array (Option Value)} {N ps : List Str} {sp : Sp}
    (lk : K.lookup f = some ⟨oc, od, .func (PySem.W.fnOf name qual params body scope dV kV doc pm an cdv ct), osl⟩)
    (hcd : PySem.W.codeIn K cdv qual = true) (S : FnScope N ps scope)
    (len : ∀ vs H Q E, sp vs H Q E → vs.length = ps.length)
    (hbody : ∀ (A : Around) (outer : List Env) (s : Shared) (H : Hp) (vs : List V) (Q : VK) (E : XK),
      A.guards = some [] → Room k (A.deeper (envOfC qual scope s.heap.objs.size f cdv)) → sp vs H Q E →
      ∃ t, PSs (cxOf CX P w K mg base N qual scope f cdv A outer s H E) body t ∧
        t { nx := fun _ H' => Q .non H', rt := Q } (start N vs) H) :
    FnG P w K mg base CX (k + 1) f (PySem.W.fnOf name qual params body scope dV kV doc pm an cdv ct) ps sp := by
  constructor
  · exact len
  intro A outer s H args us vs Q E hgd hr e0 hb r hsp
  have lenV := len _ _ _ _ hsp
  have kept : ∀ b o, base.get? b = some o → s.heap.get? b = some o := fun b o e => (e0.bs b o e).1
  have KX : K.In s.heap := e0.mod.kin.keeps kept
  have noLim : s.heap.NoLimit := e0.mod.nolimit.keeps kept
  have kinds : ∀ y ∈ ps.zip us, scope.names.lookup y.1 = some .local ∨
      (scope.names.lookup y.1 = some .cell ∧ ((cellsFrom (s.heap.objs.size + 1) scope.names []).lookup y.1).isSome = true) := by
    rintro ⟨n, v⟩ hy
    have hn : n ∈ ps := (List.of_mem_zip hy).1
    rcases S.par n hn with z | z
    · exact Or.inl z
    · exact Or.inr ⟨z, PySem.W.cellsFrom_some _ _ _ (Or.inl z)⟩
  refine codeAny_call_function hr.depth (KX _ _ lk) rfl S.co S.gen rfl (PySem.W.codeRec_of KX hcd) ?_
  apply hb
  refine wpAny_newFunctionEnv_cells S.kind kinds ?_
  rintro env rfl s1 x
  refine ⟨noLim.keeps x.toInCall.keep, codeAny_func ?_⟩
  obtain ⟨t, ht, hq⟩ := hbody A outer s H vs Q E hgd (hr.deeper _) hsp
  have I := inv_start (CX := CX) (E := E) S hr.hd e0 lenV r x
  refine wpAny_mono (ht.run [] s1 (start N vs) H _ I hq) ?_ (fun _ _ z => z)
  intro fl s' hs
  have done : ∀ {σ' : St} {H' : Hp} {v : V} {u : Value},
      Inv (cxOf CX P w K mg base N qual scope f cdv A outer s H E) [] σ' H' s' → RelV v u → Q v H' →
      CE outer P w H s Q u s' := by
    intro σ' H' v u J rv q
    exact ⟨v, H', J.os, J.bare, J.base, J.hok, rv, q⟩
  match fl, hs with
  | .ret u, hs => obtain ⟨v, σ', H', J, rv, q⟩ := hs; exact done J rv q
  | .next, hs => obtain ⟨σ', H', J, q⟩ := hs; exact done (v := .non) (u := .none) J rfl q
  | .brk, hs => obtain ⟨_, _, _, q⟩ := hs; exact q.elim
  | .cont, hs => obtain ⟨_, _, _, q⟩ := hs; exact q.elim
section
variable {X : Cx} {CX : CXT} {k : Nat} {f C : Addr} {fd : FuncData} {ps : List Str} {sp : Sp} {dvs : List V} {ds : List Value} {E : XK} {x m : Str} {p pos apos : Pos} {e o : Expr} {es : List Expr} {ta : TE} {t : TA}
theorem run_fnG {pins : List (Addr × Obj)} {σ : St} {H : Hp} {s : Shared} {Q : VK} {us : List Value} {vs : List V}
    (F : FnG X.prog X.w X.K X.mg X.base CX k f fd ps sp) (hgd : X.A.guards = some []) (hr : Room k X.A) (hb : Binds X.K fd ps ds) (hd : Vals dvs ds)
    (hx : Passes CX X E) (I : Inv X pins σ H s) (r : Vals vs us) (h : sp (vs ++ dvs) H Q E) :
    wpAny (model X.prog X.w) X.A (call (.ref f) us) (EP X pins σ Q) X.xe s := by
  have r2 := r.append hd
  have hl : (us ++ ds).length = ps.length := r2.length.symm.trans (F.len _ _ _ _ h)
  apply wpAny_call
  refine codeAny_mono (F.run X.A X.stack s H ⟨us, []⟩ (us ++ ds) (vs ++ dvs) Q E hgd hr I.env0 (hb s us I.kIn hl) r2 h) ?_
  intro r s' hq
  match r, hq with
  | .error e, hq => exact hx pins σ H s e s' I hq
  | .ok (.ret u), hq => exact I.after hq
  | .ok .next, hq => exact False.elim hq
  | .ok .brk, hq => exact False.elim hq
  | .ok .cont, hq => exact False.elim hq
theorem pg_call (F : FnG X.prog X.w X.K X.mg X.base CX k f fd ps sp) (hgd : X.A.guards = some []) (hr : Room k X.A) (hg : Gl X x) (hm : X.mg x = some (.ref f))
    (hk : PySem.W.keepIn X.K (.ref f) = true) (hb : Binds X.K fd ps ds) (hd : Vals dvs ds) (hx : Passes CX X E)
    (ha : PA X (e :: es) t) (hdb : (x == ("__debug__" : Str)) = false := by decide)
    (he : starEach (e :: es) X.env = (false, eval e X.env) :: starEach es X.env := by rfl)
    (hpl : (backTo pos (starEach es X.env)).any (·.1) = false := by rfl) :
    PE X (.Call (.Name x p) (e :: es) [] pos) (tCall sp dvs E t) := by
  constructor
  intro pins s σ H Q I h
  refine wpAny_Call_Name_kw (ld_glob I hg hm ?_ hdb)
  refine PySem.W.callWith_K (h₀ := X.base) I.ok.mod.kin hk (thn (ha.run pos pins s σ H _ I h) ?_) he hpl
  rintro us s1 ⟨vs, H1, I1, r, q⟩
  exact ⟨I1.kIn, run_fnG F hgd hr hb hd hx I1 r q⟩
theorem pg_meth {pl : Sem Bool} (he : PE X o ta) (c : Cls X.K C) (hm : Meth X.K C m f) (F : FnG X.prog X.w X.K X.mg X.base CX k f fd ps sp)
    (hgd : X.A.guards = some []) (hr : Room k X.A) (hb : Binds X.K fd ps ds) (hd : Vals dvs ds) (hx : Passes CX X E) (ha : PA X (e :: es) t)
    (hst : starEach (e :: es) X.env = (false, eval e X.env) :: starEach es X.env := by rfl)
    (hpl : (backTo pos (starEach es X.env)).any (·.1) = false := by rfl)
    (ht : eval (.Call (.Attribute o m apos) (e :: es) [] pos) X.env =
      (do let ov ← eval o X.env; standAt apos.atName; let (f, first) ← holding [ov] (getMethod ov m pl); callWith pos f first (backTo pos (starEach (e :: es) X.env)) (backToKw pos (keywordEach [] X.env))) := by rfl) :
    PE X (.Call (.Attribute o m apos) (e :: es) [] pos) (tMeth C m sp dvs E ta t) := by
  constructor
  intro pins s σ H Q I h
  refine PySem.W.methodCall_KW (pl := pl) (thn (he.run pins s σ H _ I h) ?_) ht
  rintro u s1 ⟨x, H1, I1, rx, a, dx, fs, ex, ea, l, q⟩
  subst ex
  cases (show u = Value.ref a from rx)
  refine getmeth_ok I1 ea c hm l ?_
  refine PySem.W.callWith_K (first := [.ref a]) (h₀ := X.base) I.ok.mod.kin hm.kp (thn (ha.run pos pins s1 σ H1 _ I1 q) ?_) hst hpl
  rintro us s2 ⟨vs, H2, I2, r, q2⟩
  exact ⟨I2.kIn, run_fnG (us := .ref a :: us) (vs := .ref a :: vs) F hgd hr hb hd hx I2 (.cons rfl r) q2⟩
end
/-- the law's own call, at the heap behind the top -/
theorem law_callG {P : Program} {w : World} {K : PySem.W.Frag} {mg mb : Str → Option Value} {CX : CXT} {k : Nat} {fa a : Addr} {fd : FuncData} {x : Str} {sp : Sp} {s₁ : Shared} {vs : List Value} {ns : List Int}
    (KX : K.In s₁.heap) (hns : s₁.heap.Ns mainGlobals mg) (hb : s₁.heap.Ns builtinsNs mb) (hbb : ∀ x : Str, x ≠ "__name__" → mb x = bootBuiltins x)
    (hlim : s₁.heap.NoLimit) (hg : s₁.gens = #[]) (ha : s₁.heap.get? a = some { cls := .type "list", data := .seq vs.toArray })
    (hi : IntsAre vs ns) (hl : ns.length ≤ sizeLine) (hr : Room k callerA)
    (F : ∀ base : Heap, K.In base → base.Ns mainGlobals mg → FnG P w K mg base CX k fa fd [x] sp)
    (hbind : ∀ (s : Shared) (u : Value), BindsTo s fd ⟨[u], []⟩ [(x, u)])
    (hsp : ∀ H : Hp, Only H → SqL K H a (ns.map V.int) → sp [.ref a] H (fun v _ => v = .bl true) fun _ _ _ => False)
    (hCX : ∀ H e s', CX [] H s₁ (fun _ _ _ => False) e s' → False) :
    codeAny (model P w) callerA (.call (.ref fa) ⟨[.ref a], []⟩)
      (fun r s' => r = .ok (.ret (.bool true)) ∧ OldK s₁.heap s'.heap ∧ s'.os = s₁.os ∧ AllBare s'.gens) s₁ := by
  have rv := vals_ints hi
  have lenV := hi.length
  have core : ∀ H : Hp, Only H → SqL K H a (ns.map V.int) → HOk P w H s₁.heap → (∀ b, H b ≠ none → b = a) → (H a ≠ none → K.lookup a = none) →
      codeAny (model P w) callerA (.call (.ref fa) ⟨[.ref a], []⟩)
        (fun r s' => r = .ok (.ret (.bool true)) ∧ OldK s₁.heap s'.heap ∧ s'.os = s₁.os ∧ AllBare s'.gens) s₁ := by
    intro H hO hS hok hA hK
    have toB : ∀ {b : Addr} {o : Obj}, s₁.heap.get? b = some o → H b = none → (hidT s₁.heap H).get? b = some o := hidT_get
    have notA : ∀ {b : Addr} {o : Obj} {es : Array DictEntry} {ep : Nat}, s₁.heap.get? b = some o → o.data = .dict es ep → H b = none := by
      intro b o es ep e d
      cases q : H b with
      | none => rfl
      | some u =>
        cases (hA b (by rw [q]; simp))
        rw [ha] at e
        cases e
        exact nomatch (show Data.seq vs.toArray _ = Data.dict es ep from d)
    have toNs : ∀ {b : Addr} {m : Str → Option Value}, s₁.heap.Ns b m → (hidT s₁.heap H).Ns b m := by
      rintro b m ⟨o, es, ep, e, d, r⟩
      exact ⟨o, es, ep, toB e (notA e d), d, r⟩
    have inB : K.In (hidT s₁.heap H) := by
      intro b o e
      refine toB (KX b o e) ?_
      cases q : H b with
      | none => rfl
      | some u =>
        cases (hA b (by rw [q]; simp))
        have z := hK (by rw [q]; simp)
        rw [z] at e
        cases e
    have hM : Mod K mg (hidT s₁.heap H) := by
      obtain ⟨mc, h1, h2⟩ := hlim
      exact ⟨inB, toNs hns, ⟨mb, toNs hb, hbb⟩, ⟨mc, toNs h1, h2⟩⟩
    have e0 : Env0 P w K mg (hidT s₁.heap H) callerA [] s₁ H :=
      { frames := rfl, mod := hM, bs := fun b o e => of_hidT e, bsz := Nat.le_of_eq (hidT_size _ _), funs := trivial,
        frf := fun b hb => absurd (show b ∈ ([] : List Addr) from hb) (by simp), hok := hok, bare := .of_eq hg }
    have run := (F _ inB (toNs hns)).run callerA [] s₁ H ⟨[.ref a], []⟩ [.ref a] [.ref a] _ _ rfl hr e0 (hbind s₁ (.ref a)) (.cons rfl .nil) (hsp H hO hS)
    refine codeAny_mono run ?_
    intro r s' h
    match r, h with
    | .error e, h => exact (hCX H e s' h).elim
    | .ok .next, h => exact False.elim h
    | .ok .brk, h => exact False.elim h
    | .ok .cont, h => exact False.elim h
    | .ok (.ret u), h =>
      obtain ⟨v, H', os, bare, un, hok', r', q⟩ := h
      cases (show v = V.bl true from q)
      cases (show u = Value.bool true from r')
      refine ⟨rfl, OldK.of_keep ?_, os, bare⟩
      intro b o e
      cases q2 : H b with
      | none => exact un.keep b o e q2 (by intro z; exact absurd (show b ∈ ([] : List Addr) from z) (by simp)) (by simp)
      | some u2 =>
        rcases hO b with z | ⟨ob, xs, z⟩
        · rw [q2] at z
          cases z
        · obtain ⟨e1, _⟩ := hok b _ z
          obtain ⟨e2, _⟩ := hok' b _ (un.frzs b ob _ z)
          rw [e] at e1
          cases e1
          exact e2
  cases hk : K.lookup a with
  | some o =>
    have e := KX a o hk
    rw [ha] at e
    cases e
    refine core (fun _ => none) (fun _ => Or.inl rfl) (Or.inr ⟨_, vs.toArray, _, hk, rfl, rfl, rfl, ?_, ?_⟩) ?_ (fun b z => absurd rfl z) (fun z => absurd rfl z)
    · rw [List.size_toArray, lenV]
      exact hl
    · simpa using rv
    · intro b u z
      exact nomatch (show (none : Option HO) = some u from z)
  | none =>
    have hif : ∀ b, b ≠ a → (fun b => if b = a then some (HO.frz { cls := .type "list", data := .seq vs.toArray } (.lst (ns.map V.int))) else none) b = none := fun b h => if_neg h
    refine core (fun b => if b = a then some (.frz { cls := .type "list", data := .seq vs.toArray } (.lst (ns.map V.int))) else none) ?_ (Or.inl (Or.inr ⟨_, if_pos rfl⟩)) ?_ ?_ (fun _ => hk)
    · intro b
      by_cases h : b = a
      · exact Or.inr ⟨_, _, if_pos h⟩
      · exact Or.inl (hif b h)
    · intro b u z
      by_cases h : b = a
      · subst h
        cases (if_pos rfl).symm.trans z
        refine ⟨ha, ?_, vs, _, rv, ha⟩
        rw [List.length_map]
        exact hl
      · cases (hif b h).symm.trans z
    · intro b z
      by_cases h : b = a
      · exact h
      · exact absurd (hif b h) z
theorem walk_ofG {l : PySem.W.OpenLaw} {n k : Nat} {q : Program} {loose : List Str} {XP : (Str → Option Value) → Heap → Prop} {YP : World → Heap → Prop} {d : DefRec} {K : Params → PySem.W.Frag} {CX : World → CXT} {sp : World → Sp} {x : Str}
    (hn : l.most = some n) (hn2 : n ≤ sizeLine) (hdf : d.params.defaults = []) (hr : Room k callerA) (hY : ∀ (w : World) (h : Heap), YP w h → (K w.params).In h)
    (F : ∀ (w : World) (mg : Str → Option Value) (fa : Addr) (h : Heap), (K w.params).In h → h.Ns mainGlobals mg → mg d.name = some (.ref fa) →
      ∃ fd : FuncData, (∀ (s : Shared) (u : Value), BindsTo s fd ⟨[u], []⟩ [(x, u)]) ∧ ∀ base : Heap, (K w.params).In base → base.Ns mainGlobals mg → FnG l.prog w (K w.params) mg base (CX w) k fa fd [x] (sp w))
    (hsp : ∀ (w : World) (H : Hp) (a : Addr) (ns : List Int), ns.length ≤ n → Only H → SqL (K w.params) H a (ns.map V.int) → sp w [.ref a] H (fun v _ => v = .bl true) fun _ _ _ => False)
    (hCX : ∀ (w : World) (H : Hp) (s : Shared) (e : Value) (s' : Shared), CX w [] H s (fun _ _ _ => False) e s' → False) :
    PySem.W.WalkO q loose XP YP l.row.toRowW d [] (fun f vs => PySem.call f vs) := by
  refine Att.attach_call hn hdf ?_
  intro w s₀ s₁ mg mb fa o pm cd doc a vs ns G Y ho hd hcd hmg hobj hints hlen hg
  have KX := hY w _ Y
  obtain ⟨fd, hb, hF⟩ := F w mg fa _ KX G.T.g hmg
  exact law_callG KX G.T.g G.T.b G.T.builtins G.T.nolimit hg hobj hints (Nat.le_trans hlen hn2) hr hF hb
    (fun H hO hS => hsp w H a ns hlen hO hS) (fun H e s' => hCX w H s₁ e s')
end L2
end
section
set_option Elab.async false
set_option linter.all false
set_option maxRecDepth 100000
set_option maxHeartbeats 2000000
/-! # Data that stands still: what a value shows, and repr of it. -/
namespace L2
open PySem PySem.Spec PyProof.Rows
-- the value v is the datum d at the heap H; its lists and dicts stand at no address of M. L: lists may be in it, but no dict; else the empty dict, but no list
mutual
inductive Dr (L : Bool) (M : Addr → Prop) (H : Hp) : V → PyData → Prop
  | non : Dr L M H .non .none
  | bl (b : Bool) : Dr L M H (.bl b) (.bool b)
  | int (i : Int) : Dr L M H (.int i) (.int i)
  | str (x : Str) : Dr L M H (.str x) (.str x)
  | lst {a : Addr} {xs : List V} {ds : List PyData} (e : H a = some (.lst xs)) (n : ¬ M a) (l : L = true) (t : DrAll L M H xs ds) : Dr L M H (.ref a) (.list ds)
  | tup {a : Addr} {xs : List V} {ds : List PyData} (e : H a = some (.tup xs)) (n : ¬ M a) (t : DrAll L M H xs ds) : Dr L M H (.ref a) (.tuple ds)
  | dct {a : Addr} (e : H a = some (.dK [])) (n : ¬ M a) (l : L = false) : Dr L M H (.ref a) (.dict [])
inductive DrAll (L : Bool) (M : Addr → Prop) (H : Hp) : List V → List PyData → Prop
  | nil : DrAll L M H [] []
  | cons {v : V} {vs : List V} {d : PyData} {ds : List PyData} (h : Dr L M H v d) (t : DrAll L M H vs ds) : DrAll L M H (v :: vs) (d :: ds)
end
/-- what is tracked off M stays -/
def Off (M : Addr → Prop) (H H' : Hp) : Prop := ∀ b o, ¬ M b → H b = some o → H' b = some o
theorem Off.refl {M : Addr → Prop} (H : Hp) : Off M H H := fun _ _ _ e => e
theorem Off.trans {M : Addr → Prop} {H H1 H2 : Hp} (a : Off M H H1) (b : Off M H1 H2) : Off M H H2 := fun c o n e => b c o n (a c o n e)
theorem Off.new {M : Addr → Prop} {H : Hp} {p : Addr} {o : HO} (h : H p = none) : Off M H (upd H p o) := fun b u _ e => by
  rw [upd_ne (ne_of_none e h)]; exact e
theorem Off.mut {M : Addr → Prop} {H : Hp} {p : Addr} {o : HO} (h : M p) : Off M H (upd H p o) := fun b u n e => by
  rw [upd_ne (fun z => n (by rw [z]; exact h))]; exact e
theorem Off.same {M : Addr → Prop} {H H' : Hp} (h : Same H H') : Off M H H' := fun b o _ e => h b o e
section
variable {L : Bool} {M M' : Addr → Prop} {H H' : Hp}
mutual
theorem Dr.keep (h : Off M H H') : ∀ {v : V} {d : PyData}, Dr L M H v d → Dr L M H' v d
  | _, _, .non => .non
  | _, _, .bl b => .bl b
  | _, _, .int i => .int i
  | _, _, .str x => .str x
  | _, _, .lst e n l t => .lst (h _ _ n e) n l (DrAll.keep h t)
  | _, _, .tup e n t => .tup (h _ _ n e) n (DrAll.keep h t)
  | _, _, .dct e n l => .dct (h _ _ n e) n l
theorem DrAll.keep (h : Off M H H') : ∀ {vs : List V} {ds : List PyData}, DrAll L M H vs ds → DrAll L M H' vs ds
  | _, _, .nil => .nil
  | _, _, .cons a t => .cons (Dr.keep h a) (DrAll.keep h t)
end
mutual
/-- more may move, if it is nothing that is tracked -/
theorem Dr.wide (h : ∀ a, M' a → M a ∨ H a = none) : ∀ {v : V} {d : PyData}, Dr L M H v d → Dr L M' H v d
  | _, _, .non => .non
  | _, _, .bl b => .bl b
  | _, _, .int i => .int i
  | _, _, .str x => .str x
  | _, _, .lst e n l t => .lst e (fun z => (h _ z).elim n fun q => by rw [q] at e; cases e) l (DrAll.wide h t)
  | _, _, .tup e n t => .tup e (fun z => (h _ z).elim n fun q => by rw [q] at e; cases e) (DrAll.wide h t)
  | _, _, .dct e n l => .dct e (fun z => (h _ z).elim n fun q => by rw [q] at e; cases e) l
theorem DrAll.wide (h : ∀ a, M' a → M a ∨ H a = none) : ∀ {vs : List V} {ds : List PyData}, DrAll L M H vs ds → DrAll L M' H vs ds
  | _, _, .nil => .nil
  | _, _, .cons a t => .cons (Dr.wide h a) (DrAll.wide h t)
end
mutual
theorem Dr.noDict : ∀ {v : V} {d : PyData}, Dr true M H v d → d.hasDict = false
  | _, _, .non => rfl
  | _, _, .bl _ => rfl
  | _, _, .int _ => rfl
  | _, _, .str _ => rfl
  | _, _, .lst _ _ _ t => by simpa [PyData.hasDict] using DrAll.noDict t
  | _, _, .tup _ _ t => by simpa [PyData.hasDict] using DrAll.noDict t
  | _, _, .dct _ _ l => by cases l
theorem DrAll.noDict : ∀ {vs : List V} {ds : List PyData}, DrAll true M H vs ds → PyData.hasDictAll ds = false
  | _, _, .nil => rfl
  | _, _, .cons a t => by simp [PyData.hasDictAll, Dr.noDict a, DrAll.noDict t]
end
mutual
theorem Dr.reads {P : Program} {w : World} {h : Heap} (ok : HOk P w H h) : ∀ {v : V} {d : PyData} {u : Value}, Dr L M H v d → RelV v u → ∃ as, Reads h u d as ∧ (L = false → sysModules ∉ as)
  | _, _, _, .non, r => by
    cases (show _ = Value.none from r)
    exact ⟨[], .none, fun _ => by simp⟩
  | _, _, _, .bl b, r => by
    cases (show _ = Value.bool b from r)
    exact ⟨[], .bool b, fun _ => by simp⟩
  | _, _, _, .int i, r => by
    obtain ⟨t, rfl⟩ := (show ∃ t, _ = Value.int i t from r)
    exact ⟨[], .int i t, fun _ => by simp⟩
  | _, _, _, .str x, r => by
    obtain ⟨t, rfl⟩ := (show ∃ t, _ = Value.str x t from r)
    exact ⟨[], .str x t, fun _ => by simp⟩
  | _, _, _, .lst (a := a) e n l t, r => by
    cases (show _ = Value.ref a from r)
    obtain ⟨_, its, m, rv, ho⟩ := ok a _ e
    obtain ⟨as, hr, _⟩ := DrAll.reads ok t rv
    exact ⟨a :: as, .list ho rfl rfl (by simpa using hr), fun z => by rw [l] at z; cases z⟩
  | _, _, _, .tup (a := a) e n t, r => by
    cases (show _ = Value.ref a from r)
    obtain ⟨_, its, rv, o, ho, hc, m, hd⟩ := ok a _ e
    obtain ⟨as, hr, hs⟩ := DrAll.reads ok t rv
    exact ⟨as, .tuple ho hc hd (by simpa using hr), hs⟩
  | _, _, _, .dct (a := a) e n l, r => by
    cases (show _ = Value.ref a from r)
    obtain ⟨_, hn, vs, kv, o, es, ep, ho, hc, hd, hrest⟩ := ok a _ e
    cases kv
    obtain ⟨_, hp, _⟩ := hrest
    have hes : es.toList = [] := by
      generalize es.toList = l at hp
      cases hp
      rfl
    refine ⟨[a], ?_, fun _ z => ?_⟩
    · have q : Reads h (.ref a) (.dict []) (a :: [] ++ []) := .dict ho hc.1 hd (by rw [hes]; exact .nil) (by rw [hes]; exact .nil)
      simpa using q
    · simp only [List.mem_singleton] at z
      rw [← z] at hn
      simp at hn
theorem DrAll.reads {P : Program} {w : World} {h : Heap} (ok : HOk P w H h) : ∀ {vs : List V} {ds : List PyData} {us : List Value}, DrAll L M H vs ds → Vals vs us → ∃ as, ReadsAll h us ds as ∧ (L = false → sysModules ∉ as)
  | _, _, _, .nil, .nil => ⟨[], .nil, fun _ => by simp⟩
  | _, _, _, .cons a t, .cons r rs => by
    obtain ⟨as, h1, s1⟩ := Dr.reads ok a r
    obtain ⟨bs, h2, s2⟩ := DrAll.reads ok t rs
    exact ⟨as ++ bs, .cons h1 h2, fun z y => (List.mem_append.mp y).elim (s1 z) (s2 z)⟩
end
end
/-- repr(x), x a datum, where nothing is being shown -/
def rRepr : List V → Hp → VK → Prop := fun xs H Q => ∃ (v : V) (d : PyData) (L : Bool) (M : Addr → Prop), xs = [v] ∧ Dr L M H v d ∧ d.showable = true ∧ d.depth ≤ 60 ∧ d.shown.length ≤ sizeLine ∧ Q (.str d.shown) H
theorem call_reprD {X : Cx} {k : Nat} (hgd : X.A.guards = some []) (hr : Room k X.A) : CallR X (.builtin "repr") rRepr := by
  intro pins s σ H xs us Q I r h
  obtain ⟨v, d, L, M, rfl, hd, hs, hdep, hz, q⟩ := h
  obtain ⟨u, rfl, ru⟩ : ∃ u, us = [u] ∧ RelV v u := by
    cases r with
    | cons r1 r2 => cases r2; exact ⟨_, rfl, r1⟩
  have hu := hr.un
  obtain ⟨as, hreads, hsys⟩ := hd.reads I.hok ru
  have hsm : d.hasDict = true → sysModules ∉ as := by
    intro z
    cases L with
    | false => exact hsys rfl
    | true => rw [hd.noDict] at z; cases z
  cases hd with
  | non =>
    cases (show u = Value.none from ru)
    exact PySem.P.repr_of_none ⟨.str _, H, I.tok _, ⟨_, rfl⟩, q⟩
  | bl b =>
    cases (show u = Value.bool b from ru)
    exact PySem.P.repr_of_bool ⟨.str _, H, I.tok _, ⟨_, rfl⟩, by simpa [PyData.shown] using q⟩
  | int i =>
    obtain ⟨t, rfl⟩ := (show ∃ t, u = Value.int i t from ru)
    exact PySem.P.repr_of_int (by simpa [PyData.showable] using hs) ⟨.str _, H, I.tok _, ⟨_, rfl⟩, by simpa [PyData.shown] using q⟩
  | str x =>
    obtain ⟨t, rfl⟩ := (show ∃ t, u = Value.str x t from ru)
    exact PySem.P.repr_of_str ⟨.str _, H, I.tok _, ⟨_, rfl⟩, by simpa [PyData.shown] using q⟩ (by simpa [PyData.shown] using hz)
  | @lst a xs ds e n l t =>
    cases (show u = Value.ref a from ru)
    exact repr_of_reads' hreads hs hsm hgd (by omega) (fun _ _ z => z) (fun h' u' tk hk => ⟨.str _, H, I.kept (t' := tk) hk, ⟨u', rfl⟩, q⟩) hz
  | @tup a xs ds e n t =>
    cases (show u = Value.ref a from ru)
    exact repr_of_reads' hreads hs hsm hgd (by omega) (fun _ _ z => z) (fun h' u' tk hk => ⟨.str _, H, I.kept (t' := tk) hk, ⟨u', rfl⟩, q⟩) hz
  | @dct a e n l =>
    cases (show u = Value.ref a from ru)
    exact repr_of_reads' hreads hs hsm hgd (by omega) (fun _ _ z => z) (fun h' u' tk hk => ⟨.str _, H, I.kept (t' := tk) hk, ⟨u', rfl⟩, q⟩) hz
end L2
end
section
set_option Elab.async false
set_option linter.all false
set_option maxRecDepth 100000
set_option maxHeartbeats 2000000
/-! # == and != of an instance whose class has an __eq__ of its own, with anything. -/
namespace L2
open PySem PySem.Spec PyProof.Rows
section
variable {X : Cx} {pins : List (Addr × Obj)} {σ : St} {H : Hp} {s : Shared}
theorem tyOf_looks {M : Model} {x : V} {u t : Value} (I : Inv X pins σ H s) (rx : RelV x u) (ty : TyOf X.K H x t) : PySem.W.Looks M s.heap (typeOf u) t := by
  have viaRef : ∀ {a : Addr} {o : Obj} {T : String}, s.heap.get? a = some o → o.cls = .type T → PySem.W.Looks M s.heap (typeOf (.ref a)) (.type T) := by
    intro a o T ho hc A Q E s' k q
    exact wpAny_typeOf ⟨o, k _ _ ho, hc⟩ q
  cases ty with
  | non => cases (show u = Value.none from rx); exact fun A Q E s' k q => wpAny_typeOf (PySem.typeIs_none s') q
  | bl b => cases (show u = Value.bool b from rx); exact fun A Q E s' k q => wpAny_typeOf (PySem.typeIs_bool s' b) q
  | int i => obtain ⟨t, rfl⟩ := (show ∃ t, u = Value.int i t from rx); exact fun A Q E s' k q => wpAny_typeOf (typeIs_int s' i t) q
  | str y => obtain ⟨t, rfl⟩ := (show ∃ t, u = Value.str y t from rx); exact fun A Q E s' k q => wpAny_typeOf (typeIs_str s' y t) q
  | flt y => obtain ⟨t, rfl⟩ := (show ∃ t, u = Value.float y t from rx); exact fun A Q E s' k q => wpAny_typeOf (PySem.typeIs_float s' y t) q
  | @lst a xs e =>
    cases (show u = Value.ref a from rx)
    obtain ⟨_, its, m, _, ho⟩ := I.hok a _ e
    exact viaRef ho rfl
  | @frz a o xs e =>
    cases (show u = Value.ref a from rx)
    obtain ⟨_, _, its, m, _, ho⟩ := I.hok a _ e
    exact viaRef ho rfl
  | @tup a xs e =>
    cases (show u = Value.ref a from rx)
    obtain ⟨_, its, _, o, ho, hc, _⟩ := I.hok a _ e
    exact viaRef ho hc
  | @dK a kvs e =>
    cases (show u = Value.ref a from rx)
    obtain ⟨_, _, vs, _, o, es, ep, ho, hc, _⟩ := I.hok a _ e
    exact viaRef ho hc.1
  | @dT a kvs e =>
    cases (show u = Value.ref a from rx)
    obtain ⟨_, _, xs, _, o, es, ep, ho, hc, _⟩ := I.hok a _ e
    exact viaRef ho hc.1
  | @ins a C dx fs e cl ha hn htk hm =>
    cases (show u = Value.ref a from rx)
    obtain ⟨mA, O, _⟩ := ins_get I.hok e
    obtain ⟨od, J, _⟩ := O.look
    exact J.type
end
section
variable {X : Cx} {CX : CXT} {C f : Addr} {fd : FuncData} {ps : List Str} {sp : Sp} {n : Nat} {E : XK}
/-- what the top says of a class with an __eq__ of its own, at f -/
structure EqC (K : PySem.W.Frag) (C f : Addr) : Prop where
  eq : PySem.W.findIn K (.ref C) "__eq__" = some (some (.ref f))
  ne : PySem.W.findIn K (.ref C) "__ne__" = some (some (.builtin "object.__ne__"))
  fn : PySem.W.isFn K (.ref f) = true
  ob : PySem.W.mroIn K C (.type "object") = some true
def rEqO (K : PySem.W.Frag) (C : Addr) (sp : Sp) (E : XK) : R2 := fun x y H Q => ∃ a dx fs t, x = .ref a ∧ H a = some (.ins C dx fs) ∧ TyOf K H y t ∧ PySem.W.notFirst K C t = true ∧ sp [x, y] H (fun v H' => ∃ b, v = .bl b ∧ Q (.bl b) H') E
def rNeO (K : PySem.W.Frag) (C : Addr) (sp : Sp) (E : XK) : R2 := fun x y H Q => ∃ a dx fs t, x = .ref a ∧ H a = some (.ins C dx fs) ∧ TyOf K H y t ∧ PySem.W.notFirst K C t = true ∧ sp [x, y] H (fun v H' => ∃ b, v = .bl b ∧ Q (.bl (!b)) H') E
theorem op_eqO (T : EqC X.K C f) (F : FnG X.prog X.w X.K X.mg X.base CX n f fd ps sp) (hgd : X.A.guards = some []) (hr : Room n X.A) (hb : Binds X.K fd ps []) (hx : Passes CX X E) : OpR X (compareOp .Eq) (rEqO X.K C sp E) := by
  intro pins s σ H x y v u Q I rx ry h
  obtain ⟨a, dx, fs, t, rfl, ha, ty, hn, q⟩ := h
  cases (show v = Value.ref a from rx)
  obtain ⟨mA, O, _⟩ := ins_get I.hok ha
  obtain ⟨od, J, _⟩ := O.look
  obtain ⟨m, hF⟩ := I.fr
  show wpAny (model X.prog X.w) X.A (richCompare .Eq (.ref a) u) (EP X pins σ Q) X.xe s
  refine PySem.W.cmp_K (op := .Eq) (tb := t) hr.units0 hF I.ok.mod.kin J (tyOf_looks I ry ty) hn T.eq T.fn ?_
  refine wpAny_mono (run_fnG (us := [.ref a, u]) (vs := [.ref a, y]) F hgd hr hb .nil hx I (.cons rfl (.cons ry .nil)) q) ?_ (fun _ _ z => z)
  rintro w s' ⟨v', H', I', rv, b, rfl, q'⟩
  cases (show w = Value.bool b from rv)
  exact ⟨.bl b, H', I', rfl, q'⟩
theorem ne_body {A : Around} {M : Model} {a : Addr} {b : Value} {Q : Fin → Shared → Prop} {E' : Value → Shared → Prop} {s : Shared} (hu : A.units < cLine)
    (h : wpAny M A (callSpecialIfBound? (.ref a) "__eq__" [b]) (fun r s' => ∃ k, r = some (.bool k) ∧ Q (.done (.ret (.bool (!k)))) s') E' s) :
    wpAny M A (Builtin.«object.__ne__» ⟨[.ref a, b], []⟩) Q E' s := by
  unfold Builtin.«object.__ne__»
  repeat (first | with_reducible refine wpAny_cRoomFor hu ?_ | (with_reducible refine wpAny_bind (wpAny_mono h ?_ fun _ _ z => z)) | wp_step)
  rintro r s' ⟨k, rfl, hq⟩
  exact wpAny_bind (wpAny_of_eq (show truthy (.bool k) = pure k from rfl) (wpAny_pure hq))
theorem op_neO (T : EqC X.K C f) (F : FnG X.prog X.w X.K X.mg X.base CX n f fd ps sp) (hgd : X.A.guards = some []) (hr : Room (n + 1) X.A) (hb : Binds X.K fd ps []) (hx : Passes CX X E) : OpR X (compareOp .NotEq) (rNeO X.K C sp E) := by
  intro pins s σ H x y v u Q I rx ry h
  obtain ⟨a, dx, fs, t, rfl, ha, ty, hn, q⟩ := h
  cases (show v = Value.ref a from rx)
  obtain ⟨mA, O, _⟩ := ins_get I.hok ha
  obtain ⟨od, J, _⟩ := O.look
  have X0 : X.K.In s.heap := I.kIn
  have hb2 := tyOf_looks (M := model X.prog X.w) I ry ty
  -- the method called within object.__ne__
  have inner : wpAny (model X.prog X.w) X.A.in1 (call (.ref f) [.ref a, u]) (fun w s' => ∃ k, w = .bool k ∧ EP X pins σ Q (.bool (!k)) s') X.xe s := by
    have r2 : Vals [V.ref a, y] [Value.ref a, u] := .cons rfl (.cons ry .nil)
    have hl : ([Value.ref a, u] ++ ([] : List Value)).length = ps.length := r2.length.symm.trans (F.len _ _ _ _ q)
    apply wpAny_call
    refine codeAny_mono (F.run X.A.in1 X.stack s H ⟨[.ref a, u], []⟩ ([.ref a, u] ++ []) [.ref a, y] _ E hgd hr.in1 I.env0.in1 (hb s [.ref a, u] X0 hl) (by simpa using r2) q) ?_
    intro r s' hq
    match r, hq with
    | .error e, hq => exact hx pins σ H s e s' I hq
    | .ok (.ret w), hq =>
      obtain ⟨v', H', I', rv, b, rfl, q'⟩ := I.after hq
      cases (show w = Value.bool b from rv)
      exact ⟨b, rfl, .bl (!b), H', I', rfl, q'⟩
    | .ok .next, hq => exact False.elim hq
    | .ok .brk, hq => exact False.elim hq
    | .ok .cont, hq => exact False.elim hq
  have one : wpAny (model X.prog X.w) X.A (tryCompare (.ref a) "__ne__" u) (fun r s' => ∃ k, r = some (.bool k) ∧ EP X pins σ Q (.bool k) s') X.xe s := by
    unfold tryCompare
    refine wpAny_bind ?_
    simp only [callSpecialIfBound?, bindSpecialIfBound?]
    refine wpAny_holding (wpAny_bind (wpAny_bind (wpAny_bind (J.type.here ((PySem.W.looks_findIn X0 T.ne).here ?_)))))
    refine wpAny_bind (wpAny_askSetting (wpAny_ite ?_))
    have sub : PySem.W.Looks (model X.prog X.w) s.heap (isInstance (.ref a) (.type "object")) true := J.type.andThen (PySem.W.looks_mroIn X0 T.ob)
    have called : wpAny (model X.prog X.w) X.A (call (.builtin "object.__ne__") [.ref a, u]) (fun w s' => ∃ k, w = .bool k ∧ EP X pins σ Q (.bool k) s') X.xe s := by
      refine wpAny_call (codeAny_call_builtin PySem.F.cmp_object.ne.plain PySem.F.cmpEntry_ne (PySem.W.check_slot PySem.F.cmpKind_ne PySem.F.cmpSplit_ne sub (PySem.F.cmpArgs_ne _ _) ?_))
      refine ne_body (by have := hr.un; show X.A.units + 1 < cLine; omega) ?_
      refine PySem.W.ifBound_K X0 J T.eq T.fn (wpAny_mono inner ?_ fun _ _ z => z)
      rintro w s' ⟨k, rfl, z⟩
      exact ⟨k, rfl, !k, rfl, z⟩
    have fin : wpAny (model X.prog X.w) X.A (call (.builtin "object.__ne__") ([.ref a] ++ [u]) >>= fun v => pure (some v)) (fun r s' => wpAny (model X.prog X.w) X.A (match r with
        | some .notImplemented => pure none
        | none => pure none
        | some v => pure (some v)) (fun r s' => ∃ k, r = some (.bool k) ∧ EP X pins σ Q (.bool k) s') X.xe s') X.xe s := by
      refine wpAny_bind (wpAny_mono called ?_ fun _ _ z => z)
      rintro w s' ⟨k, rfl, z⟩
      exact wpAny_pure (wpAny_pure ⟨k, rfl, z⟩)
    split
    · exact wpAny_bind (wpAny_of_eq (PySem.F.cmp_object.ne.bind _) (wpAny_pure fin))
    · exact wpAny_tryCatch (wpAny_bind (wpAny_of_eq (PySem.F.cmp_object.ne.bind _) (wpAny_pure fin)))
  show wpAny (model X.prog X.w) X.A (richCompare .NotEq (.ref a) u) (EP X pins σ Q) X.xe s
  unfold richCompare
  simp only [PySem.oneThing_ref]
  refine wpAny_holding (wpAny_bind (wpAny_cRoomFor hr.units0 ?_))
  refine wpAny_bind (J.type.here (wpAny_bind (hb2.here ?_)))
  split
  · rename_i z
    have e : PySem.W.subIn X.K t (.ref C) = some false := by
      rcases Bool.or_eq_true_iff.mp hn with e | e
      · rw [beq_iff_eq.mp e] at z
        simp at z
      · exact beq_iff_eq.mp e
    refine wpAny_bind ((PySem.W.looks_subIn X0 e).here ?_)
    simp only [Bool.false_eq_true, if_false]
    refine wpAny_bind (wpAny_mono one ?_ fun _ _ z => z)
    rintro r s' ⟨k, rfl, z⟩
    exact wpAny_pure z
  · refine wpAny_bind (wpAny_pure ?_)
    simp only [Bool.false_eq_true, if_false]
    refine wpAny_bind (wpAny_mono one ?_ fun _ _ z => z)
    rintro r s' ⟨k, rfl, z⟩
    exact wpAny_pure z
end
end L2
end
section
set_option Elab.async false
set_option linter.all false
set_option maxRecDepth 100000
set_option maxHeartbeats 2000000
/-! # range(n) as a value, walked later. -/
namespace L2
open PySem PySem.Spec PyProof.Rows
section
variable {X : Cx}
theorem cr_rangeOne : CallR X (.type "range") (fun vs H Q => ∃ j, vs = [V.int j] ∧ ∀ p, H p = none → Q (.ref p) (upd H p (.rng 0 j))) := by
  intro pins s σ H vs us Q I r h
  obtain ⟨j, rfl, q⟩ := h
  obtain ⟨u, rfl, t, rfl⟩ : ∃ u, us = [u] ∧ ∃ t, u = Value.int j t := by
    cases r with
    | cons r1 r2 => cases r2; exact ⟨_, rfl, r1⟩
  have hf : H s.heap.objs.size = none := I.hok.fresh (Nat.le_refl _)
  refine call_range_1 ⟨.ref s.heap.objs.size, upd H s.heap.objs.size (.rng 0 j), ?_, rfl, q _ hf⟩
  exact I.laid (fun b o e => Heap.get?_push_of_some _ e) (Nat.le_refl _) ⟨_, t, _, Heap.get?_push_size _ rfl⟩
/-- for .. in r, r a range object that is tracked -/
def iRngV (te : TE) : TI := fun σ H R => te σ H fun x H1 => ∃ a lo hi, x = .ref a ∧ H1 a = some (.rng lo hi) ∧ -(2 ^ 62) ≤ lo ∧ lo < 2 ^ 62 ∧ -(2 ^ 62) ≤ hi ∧ hi < 2 ^ 62 ∧ R (Itr lo (hi - lo).toNat) H1
theorem pi_rngV {tg e : Expr} {te : TE} (he : PE X e te) : PI X tg e (iRngV te) := by
  constructor
  intro pins s σ H R I h
  refine thn (he.run pins s σ H _ I h) ?_
  rintro v s1 ⟨x, H1, I1, r1, a, lo, hi, rfl, ha, h1, h2, h3, h4, q⟩
  cases (show v = Value.ref a from r1)
  obtain ⟨t, u, w, ho⟩ := (show ObjOk X.prog X.w H1 s1.heap a (.rng lo hi) from I1.hok a _ ha)
  refine wpAny_pyIter_range (show IsRange s1.heap a lo hi 1 t u w from ho) (small_one h1 h2 h3 h4) ?_
  refine ⟨s1.heap.objs.size, [s1.heap.objs.size], _, _, H1, rfl, I1.kept (t' := s1.toks) (fun b o e => Heap.get?_push_of_some _ e), turn_range _ lo (hi - lo).toNat, ?_, ?_, q⟩
  · have e1 : lo + ((0 : Nat) : Int) * 1 = lo := by simp
    have e2 : (((hi - lo).toNat : Nat) : Int) - ((0 : Nat) : Int) = Builtin.Range.rangeSize lo hi 1 := by
      rw [rangeSize_one]
      split <;> omega
    show IsRangeIter _ _ (lo + ((0 : Nat) : Int) * 1) ((((hi - lo).toNat : Nat) : Int) - ((0 : Nat) : Int)) 1
    rw [e1, e2]
    exact Heap.get?_push_size _ rfl
  · intro b hb
    cases (by simpa using hb : b = s1.heap.objs.size)
    exact I1.fpOk (Nat.le_refl _) (I1.hok.fresh (Nat.le_refl _))
end
end L2
end
section
set_option Elab.async false
set_option linter.all false
set_option maxRecDepth 100000
set_option maxHeartbeats 2000000
/-! # Defs, classes and methods as one fact each. -/
namespace L2
open PySem PySem.Spec PyProof.Rows
abbrev CXe (P : Program) (w : World) : CXT := L2.CX P w
/-- a def of the module, called by its name -/
structure CalG (P : Program) (w : World) (K : PySem.W.Frag) (mg : Str → Option Value) (base : Heap) (k : Nat) (x : Str) (sp : Sp) : Prop where
  ex : ∃ (f : Addr) (fd : FuncData) (ps : List Str), FnG P w K mg base (CXe P w) k f fd ps sp ∧ mg x = some (.ref f) ∧ PySem.W.keepIn K (.ref f) = true ∧ Binds K fd ps []
/-- a class, called: its __init__ at sp, dvs its last defaults -/
structure MakG (P : Program) (w : World) (K : PySem.W.Frag) (mg : Str → Option Value) (base : Heap) (k : Nat) (x : Str) (C : Addr) (sp : Sp) (dvs : List V) : Prop where
  ex : ∃ (f : Addr) (fd : FuncData) (ps : List Str) (ds : List Value), FnG P w K mg base (CXe P w) k f fd ps sp ∧ Mk K C f ∧ mg x = some (.ref C) ∧ Binds K fd ps ds ∧ Vals dvs ds
/-- a method -/
structure MetG (P : Program) (w : World) (K : PySem.W.Frag) (mg : Str → Option Value) (base : Heap) (k : Nat) (C : Addr) (m : Str) (sp : Sp) : Prop where
  ex : ∃ (f : Addr) (fd : FuncData) (ps : List Str), FnG P w K mg base (CXe P w) k f fd ps sp ∧ Cls K C ∧ Meth K C m f ∧ Binds K fd ps []
section
variable {X : Cx} {k j : Nat} {x m : Str} {C : Addr} {sp : Sp} {dvs : List V} {e o : Expr} {es : List Expr} {ta : TE} {t : TA} {p pos apos : Pos} {E : St → XK}
theorem run_fnGS {pins : List (Addr × Obj)} {σ : St} {H : Hp} {s : Shared} {Q : VK} {us : List Value} {vs : List V} {CX : CXT} {f : Addr} {fd : FuncData} {ps : List Str} {E : XK}
    (F : FnG X.prog X.w X.K X.mg X.base CX k f fd ps sp) (hgd : X.A.guards = some []) (hr : Room k X.A) (hb : Binds X.K fd ps [])
    (hx : PassesAt CX X σ E) (I : Inv X pins σ H s) (r : Vals vs us) (h : sp vs H Q E) :
    wpAny (model X.prog X.w) X.A (call (.ref f) us) (EP X pins σ Q) X.xe s := by
  have hl : (us ++ []).length = ps.length := by
    rw [List.append_nil]
    exact r.length.symm.trans (F.len _ _ _ _ h)
  have hbb := hb s us I.kIn hl
  rw [List.append_nil] at hbb
  apply wpAny_call
  refine codeAny_mono (F.run X.A X.stack s H ⟨us, []⟩ us vs Q E hgd hr I.env0 hbb r h) ?_
  intro r s' hq
  match r, hq with
  | .error e, hq => exact hx pins H s e s' I hq
  | .ok (.ret u), hq => exact I.after hq
  | .ok .next, hq => exact False.elim hq
  | .ok .brk, hq => exact False.elim hq
  | .ok .cont, hq => exact False.elim hq
/-- f(e, ..): E says by the slots what is wanted of an exception -/
theorem pg_cS (c : CalG X.prog X.w X.K X.mg X.base k x sp) (hgd : X.A.guards = some []) (hr : Room j X.A) (hk : k ≤ j) (hx : ∀ σ, PassesAt (CXe X.prog X.w) X σ (E σ))
    (ha : PA X (e :: es) t) (hg : Gl X x := by rfl) (hdb : (x == ("__debug__" : Str)) = false := by decide)
    (he : starEach (e :: es) X.env = (false, eval e X.env) :: starEach es X.env := by rfl)
    (hpl : (backTo pos (starEach es X.env)).any (·.1) = false := by rfl) :
    PE X (.Call (.Name x p) (e :: es) [] pos) (tCallS sp E t) := by
  obtain ⟨f, fd, ps, F, hm, kp, hb⟩ := c.ex
  constructor
  intro pins s σ H Q I h
  refine wpAny_Call_Name_kw (ld_glob I hg hm ?_ hdb)
  refine PySem.W.callWith_K (h₀ := X.base) I.ok.mod.kin kp (thn (ha.run pos pins s σ H _ I h) ?_) he hpl
  rintro us s1 ⟨vs, H1, I1, r, q⟩
  exact ⟨I1.kIn, run_fnGS F hgd (hr.mono hk) hb (hx σ) I1 r q⟩
/-- where no exception leaves -/
theorem pg_c (c : CalG X.prog X.w X.K X.mg X.base k x sp) (hgd : X.A.guards = some []) (hr : Room j X.A) (hk : k ≤ j)
    (ha : PA X (e :: es) t) (hg : Gl X x := by rfl) (hdb : (x == ("__debug__" : Str)) = false := by decide)
    (he : starEach (e :: es) X.env = (false, eval e X.env) :: starEach es X.env := by rfl)
    (hpl : (backTo pos (starEach es X.env)).any (·.1) = false := by rfl) :
    PE X (.Call (.Name x p) (e :: es) [] pos) (tCallS sp (fun _ => E0) t) :=
  pg_cS c hgd hr hk (fun σ pins H s e s' I c => passL pins σ H s e s' I c) ha hg hdb he hpl
def tMakeS (C : Addr) (sp : Sp) (dvs : List V) (E : St → XK) (t : TA) : TE := fun σ H Q => t σ H fun vs H1 => ∀ x dx, H1 x = none → H1 dx = none → dx ≠ x →
  sp (.ref x :: (vs ++ dvs)) (upd (upd H1 dx (.own x)) x (.ins C dx [])) (fun v H2 => v = .non ∧ Q (.ref x) H2) (E σ)
theorem run_makeGS {pins : List (Addr × Obj)} {σ : St} {H : Hp} {s : Shared} {Q : VK} {us ds : List Value} {vs : List V} {CX : CXT} {f : Addr} {fd : FuncData} {ps : List Str} {E : XK}
    (M : Mk X.K C f) (F : FnG X.prog X.w X.K X.mg X.base CX k f fd ps sp) (hgd : X.A.guards = some []) (hr : Room (k + 1) X.A) (hb : Binds X.K fd ps ds) (hd : Vals dvs ds)
    (hx : PassesAt CX X σ E) (I : Inv X pins σ H s) (r : Vals vs us)
    (h : ∀ x dx, H x = none → H dx = none → dx ≠ x → sp (.ref x :: (vs ++ dvs)) (upd (upd H dx (.own x)) x (.ins C dx [])) (fun v H2 => v = .non ∧ Q (.ref x) H2) E) :
    wpAny (model X.prog X.w) X.A (call (.ref C) us) (EP X pins σ Q) X.xe s := by
  have q0 := h (s.heap.objs.size + 1) s.heap.objs.size (I.hok.fresh (Nat.le_succ _)) (I.hok.fresh (Nat.le_refl _)) (Nat.ne_of_lt (Nat.lt_succ_self _))
  have I2 := Inv.made (C := C) I
  have r2 : Vals (V.ref (s.heap.objs.size + 1) :: (vs ++ dvs)) (Value.ref (s.heap.objs.size + 1) :: (us ++ ds)) := Paired.cons rfl (r.append hd)
  have hl : (Value.ref (s.heap.objs.size + 1) :: us ++ ds).length = ps.length := r2.length.symm.trans (F.len _ _ _ _ q0)
  have gd : (X.A.under (.builtin "type.__call__" ⟨.ref C :: us, []⟩)).guards = some [] := by
    have z : (X.A.under (.builtin "type.__call__" ⟨.ref C :: us, []⟩)).guards = X.A.guards := by
      first | rfl | simp [Around.under, Code.guards, pushGuards, guardIds]
    rw [z, hgd]
  apply wpAny_call
  refine make_map (f := f) I.kIn M.makes M.init (beq_iff_eq.mp M.fn) ?_
  refine codeAny_mono (F.run _ X.stack _ _ ⟨Value.ref (s.heap.objs.size + 1) :: us, []⟩ (Value.ref (s.heap.objs.size + 1) :: (us ++ ds)) _ _ E gd (hr.make C us []) (I2.env0.make C us []) (hb _ (Value.ref (s.heap.objs.size + 1) :: us) I2.kIn hl) r2 q0) ?_
  intro r s' hq
  match r, hq with
  | .error e, hq => exact hx pins _ _ e s' I2 hq
  | .ok (.ret u), hq =>
    obtain ⟨v, H', I3, rv, ev, q3⟩ := I2.after hq
    subst ev
    exact ⟨rv, ⟨V.ref (s.heap.objs.size + 1), H', I3, rfl, q3⟩⟩
  | .ok .next, hq => exact False.elim hq
  | .ok .brk, hq => exact False.elim hq
  | .ok .cont, hq => exact False.elim hq
theorem pg_mkS (c : MakG X.prog X.w X.K X.mg X.base k x C sp dvs) (hgd : X.A.guards = some []) (hr : Room j X.A) (hk : k + 1 ≤ j) (hx : ∀ σ, PassesAt (CXe X.prog X.w) X σ (E σ))
    (ha : PA X (e :: es) t) (hg : Gl X x := by rfl) (hdb : (x == ("__debug__" : Str)) = false := by decide)
    (he : starEach (e :: es) X.env = (false, eval e X.env) :: starEach es X.env := by rfl)
    (hpl : (backTo pos (starEach es X.env)).any (·.1) = false := by rfl) :
    PE X (.Call (.Name x p) (e :: es) [] pos) (tMakeS C sp dvs E t) := by
  obtain ⟨f, fd, ps, ds, F, M, hm, hb, hd⟩ := c.ex
  constructor
  intro pins s σ H Q I h
  refine wpAny_Call_Name_kw (ld_glob I hg hm ?_ hdb)
  refine PySem.W.callWith_K (h₀ := X.base) I.ok.mod.kin M.kp (thn (ha.run pos pins s σ H _ I h) ?_) he hpl
  rintro us s1 ⟨vs, H1, I1, r, q⟩
  exact ⟨I1.kIn, run_makeGS M F hgd (hr.mono hk) hb hd (hx σ) I1 r q⟩
theorem pg_mk (c : MakG X.prog X.w X.K X.mg X.base k x C sp dvs) (hgd : X.A.guards = some []) (hr : Room j X.A) (hk : k + 1 ≤ j)
    (ha : PA X (e :: es) t) (hg : Gl X x := by rfl) (hdb : (x == ("__debug__" : Str)) = false := by decide)
    (he : starEach (e :: es) X.env = (false, eval e X.env) :: starEach es X.env := by rfl)
    (hpl : (backTo pos (starEach es X.env)).any (·.1) = false := by rfl) :
    PE X (.Call (.Name x p) (e :: es) [] pos) (tMakeS C sp dvs (fun _ => E0) t) :=
  pg_mkS c hgd hr hk (fun σ pins H s e s' I c => passL pins σ H s e s' I c) ha hg hdb he hpl
theorem pg_mk0 (c : MakG X.prog X.w X.K X.mg X.base k x C sp dvs) (hgd : X.A.guards = some []) (hr : Room j X.A) (hk : k + 1 ≤ j)
    (hg : Gl X x := by rfl) (hdb : (x == ("__debug__" : Str)) = false := by decide) :
    PE X (.Call (.Name x p) [] [] pos) (tMakeS C sp dvs (fun _ => E0) tNil) := by
  obtain ⟨f, fd, ps, ds, F, M, hm, hb, hd⟩ := c.ex
  constructor
  intro pins s σ H Q I h
  refine wpAny_Call_Name_kw (ld_glob I hg hm ?_ hdb)
  exact PySem.W.callWith_K0 I.kIn M.kp (run_makeGS (us := []) M F hgd (hr.mono hk) hb hd (fun pins H s e s' I c => passL pins σ H s e s' I c) I .nil h)
def tMethX6 (C : Addr) (m : Str) (sp : Sp) (E : St → XK) (ta : TE) (t : TA) : TE := fun σ H Q => ta σ H fun x H1 => ∃ a dx fs, x = .ref a ∧ H1 a = some (.ins C dx fs) ∧ fs.lookup m = none ∧
  t σ H1 fun vs H2 => sp (x :: vs) H2 Q (E σ)
theorem pg_mtS {pl : Sem Bool} (c : MetG X.prog X.w X.K X.mg X.base k C m sp) (hgd : X.A.guards = some []) (hr : Room j X.A) (hk : k ≤ j) (hx : ∀ σ, PassesAt (CXe X.prog X.w) X σ (E σ)) (ho : PE X o ta) (ha : PA X (e :: es) t)
    (hst : starEach (e :: es) X.env = (false, eval e X.env) :: starEach es X.env := by rfl)
    (hpl : (backTo pos (starEach es X.env)).any (·.1) = false := by rfl)
    (ht : eval (.Call (.Attribute o m apos) (e :: es) [] pos) X.env =
      (do let ov ← eval o X.env; standAt apos.atName; let (f, first) ← holding [ov] (getMethod ov m pl); callWith pos f first (backTo pos (starEach (e :: es) X.env)) (backToKw pos (keywordEach [] X.env))) := by rfl) :
    PE X (.Call (.Attribute o m apos) (e :: es) [] pos) (tMethX6 C m sp E ta t) := by
  obtain ⟨f, fd, ps, F, cl, hm, hb⟩ := c.ex
  constructor
  intro pins s σ H Q I h
  refine PySem.W.methodCall_KW (pl := pl) (thn (ho.run pins s σ H _ I h) ?_) ht
  rintro u s1 ⟨x, H1, I1, rx, a, dx, fs, ex, ea, l, q⟩
  subst ex
  cases (show u = Value.ref a from rx)
  refine getmeth_ok I1 ea cl hm l ?_
  refine PySem.W.callWith_K (first := [.ref a]) (h₀ := X.base) I.ok.mod.kin hm.kp (thn (ha.run pos pins s1 σ H1 _ I1 q) ?_) hst hpl
  rintro us s2 ⟨vs, H2, I2, r, q2⟩
  exact ⟨I2.kIn, run_fnGS (us := .ref a :: us) (vs := .ref a :: vs) F hgd (hr.mono hk) hb (hx σ) I2 (.cons rfl r) q2⟩
theorem pg_mt {pl : Sem Bool} (c : MetG X.prog X.w X.K X.mg X.base k C m sp) (hgd : X.A.guards = some []) (hr : Room j X.A) (hk : k ≤ j) (ho : PE X o ta) (ha : PA X (e :: es) t)
    (hst : starEach (e :: es) X.env = (false, eval e X.env) :: starEach es X.env := by rfl)
    (hpl : (backTo pos (starEach es X.env)).any (·.1) = false := by rfl)
    (ht : eval (.Call (.Attribute o m apos) (e :: es) [] pos) X.env =
      (do let ov ← eval o X.env; standAt apos.atName; let (f, first) ← holding [ov] (getMethod ov m pl); callWith pos f first (backTo pos (starEach (e :: es) X.env)) (backToKw pos (keywordEach [] X.env))) := by rfl) :
    PE X (.Call (.Attribute o m apos) (e :: es) [] pos) (tMethX6 C m sp (fun _ => E0) ta t) :=
  pg_mtS c hgd hr hk (fun σ pins H s e s' I c => passL pins σ H s e s' I c) ho ha hst hpl ht
theorem pg_mt0 {pl : Sem Bool} (c : MetG X.prog X.w X.K X.mg X.base k C m sp) (hgd : X.A.guards = some []) (hr : Room j X.A) (hk : k ≤ j) (ho : PE X o ta)
    (ht : eval (.Call (.Attribute o m apos) [] [] pos) X.env =
      (do let ov ← eval o X.env; standAt apos.atName; let (f, first) ← holding [ov] (getMethod ov m pl); callWith pos f first (backTo pos (starEach [] X.env)) (backToKw pos (keywordEach [] X.env))) := by rfl) :
    PE X (.Call (.Attribute o m apos) [] [] pos) (tMethX6 C m sp (fun _ => E0) ta tNil) := by
  obtain ⟨f, fd, ps, F, cl, hm, hb⟩ := c.ex
  constructor
  intro pins s σ H Q I h
  refine PySem.W.methodCall_KW (pl := pl) (thn (ho.run pins s σ H _ I h) ?_) ht
  rintro u s1 ⟨x, H1, I1, rx, a, dx, fs, ex, ea, l, q⟩
  subst ex
  cases (show u = Value.ref a from rx)
  refine getmeth_ok I1 ea cl hm l ?_
  exact PySem.W.callWith_K0 (first := [.ref a]) I1.kIn hm.kp (run_fnGS (us := [.ref a]) (vs := [.ref a]) F hgd (hr.mono hk) hb (fun pins H s e s' I c => passL pins σ H s e s' I c) I1 (.cons rfl .nil) q)
end
section
variable {P : Program} {w : World} {K : PySem.W.Frag} {mg : Str → Option Value} {base : Heap} {x qual : Str} {f : Addr} {fd : FuncData} {N ps : List Str} {k : Nat} {sp : Sp}
/-- a def by its body: it may raise, and nothing is being shown around it -/
theorem Fun.okG {st : Stmt} (F : Fun K x qual st f fd) (S : FnScope N ps (defScope st)) (len : ∀ vs H Q E, sp vs H Q E → vs.length = ps.length)
    (hbody : ∀ (cdv : Value) (A : Around) (outer : List Env) (s : Shared) (H : Hp) (vs : List V) (Q : VK) (E : XK), (A.deeper (envOfC qual (defScope st) s.heap.objs.size f cdv)).guards = some [] →
      Room k (A.deeper (envOfC qual (defScope st) s.heap.objs.size f cdv)) → sp vs H Q E →
      ∃ t, PSs (cxOf (CXe P w) P w K mg base N qual (defScope st) f cdv A outer s H E) (defBody st) t ∧ t { nx := fun _ H' => Q .non H', rt := Q } (start N vs) H) :
    FnG P w K mg base (CXe P w) (k + 1) f fd ps sp := by
  obtain ⟨oc, od, kV, doc, pm, an, cdv, ct, osl, rfl, lk, hcd⟩ := F.ex
  exact fn_ofG lk hcd S len fun A outer s H vs Q E hg hr hsp => hbody cdv A outer s H vs Q E hg hr hsp
theorem FunD.okG {params : Arguments} {body : List Stmt} {scope : Scope} {dvs : List V} {kws : List (Str × V)} (F : FunD K x qual params body scope dvs kws f fd) (S : FnScope N ps scope) (len : ∀ vs H Q E, sp vs H Q E → vs.length = ps.length)
    (hbody : ∀ (cdv : Value) (A : Around) (outer : List Env) (s : Shared) (H : Hp) (vs : List V) (Q : VK) (E : XK), (A.deeper (envOfC qual scope s.heap.objs.size f cdv)).guards = some [] →
      Room k (A.deeper (envOfC qual scope s.heap.objs.size f cdv)) → sp vs H Q E →
      ∃ t, PSs (cxOf (CXe P w) P w K mg base N qual scope f cdv A outer s H E) body t ∧ t { nx := fun _ H' => Q .non H', rt := Q } (start N vs) H) :
    FnG P w K mg base (CXe P w) (k + 1) f fd ps sp := by
  obtain ⟨oc, od, dV, kV, doc, pm, an, cdv, ct, osl, rfl, lk, hcd, _, _⟩ := F.ex
  exact fn_ofG lk hcd S len fun A outer s H vs Q E hg hr hsp => hbody cdv A outer s H vs Q E hg hr hsp
end
/-- the type of a tracked value, where it is one of the common ones -/
def tyN (H : Hp) : V → Option String
  | .non => some "NoneType"
  | .bl _ => some "bool"
  | .int _ => some "int"
  | .str _ => some "str"
  | .ref a => match H a with
    | some (.lst _) => some "list"
    | some (.tup _) => some "tuple"
    | some (.dK _) => some "dict"
    | some (.dT _) => some "dict"
    | _ => none
  | _ => none
theorem tyN_of {K : PySem.W.Frag} {H : Hp} {v : V} {n : String} (h : tyN H v = some n) : TyOf K H v (.type n) := by
  cases v with
  | non => cases h; exact .non
  | bl b => cases h; exact .bl b
  | int i => cases h; exact .int i
  | str x => cases h; exact .str x
  | byt b => cases h
  | flt b => cases h
  | ty t => cases h
  | ref a =>
    simp only [tyN] at h
    cases e : H a with
    | none => rw [e] at h; cases h
    | some o =>
      rw [e] at h
      cases o <;> simp only at h <;> first | (cases h; done) | skip
      all_goals first
        | (cases h; exact .lst e)
        | (cases h; exact .tup e)
        | (cases h; exact .dK e)
        | (cases h; exact .dT e)
end L2
end
section
set_option Elab.async false
set_option linter.all false
set_option maxRecDepth 100000
set_option maxHeartbeats 2000000
/-! # New objects, the heap behind them a letter. -/
namespace L2
open PySem PySem.Spec PyProof.Rows
theorem same_new {H : Hp} {p : Addr} {o : HO} (h : H p = none) : Same H (upd H p o) := fun b u e => by
  rw [upd_ne (ne_of_none e h)]; exact e
/-- o stands at p, new, in H2; else H2 is H -/
structure New (H H2 : Hp) (p : Addr) (o : HO) : Prop where
  free : H p = none
  at_ : H2 p = some o
  same : Same H H2
  rest : ∀ b, b ≠ p → H2 b = H b
theorem New.mk' {H : Hp} {p : Addr} {o : HO} (h : H p = none) : New H (upd H p o) p o := ⟨h, upd_same, same_new h, fun _ hb => upd_ne hb⟩
theorem New.off {M : Addr → Prop} {H H2 : Hp} {p : Addr} {o : HO} (n : New H H2 p o) : Off M H H2 := Off.same n.same
section
variable {X : Cx} {es : List Expr} {t : TA} {pos : Pos}
def tTupA (t : TA) : TE := fun σ H Q => t σ H fun xs H1 => xs.length ≤ sizeLine ∧ ∀ p H2, New H1 H2 p (.tup xs) → Q (.ref p) H2
def tLstA (t : TA) : TE := fun σ H Q => t σ H fun xs H1 => xs.length ≤ sizeLine ∧ ∀ p H2, New H1 H2 p (.lst xs) → Q (.ref p) H2
theorem pe_tupA {x1} (h : PA X es t) : PE X (.Tuple es x1 pos) (tTupA t) := by
  constructor
  intro pins s σ H Q I hq
  refine wpAny_Tuple_spliced (thn (h.run pos pins s σ H _ I hq) ?_)
  rintro us s1 ⟨xs, H1, I1, r, z, q⟩
  refine ⟨by rw [← r.length]; exact z, ?_⟩
  have hf : H1 s1.heap.objs.size = none := I1.hok.fresh (Nat.le_refl _)
  refine ⟨.ref s1.heap.objs.size, upd H1 s1.heap.objs.size (.tup xs), ?_, rfl, q _ _ (New.mk' hf)⟩
  exact I1.laid (t' := s1.toks) (fun b u e => Heap.get?_push_of_some _ e) (Nat.le_refl _) ⟨z, us, r, _, Heap.get?_push_size _ rfl, rfl, _, rfl⟩
theorem pe_lstA (h : PA X es t) : PE X (.List es pos) (tLstA t) := by
  constructor
  intro pins s σ H Q I hq
  refine wpAny_List_spliced (thn (h.run pos pins s σ H _ I hq) ?_)
  rintro us s1 ⟨xs, H1, I1, r, z, q⟩
  refine ⟨by rw [← r.length]; exact z, ?_⟩
  have hf : H1 s1.heap.objs.size = none := I1.hok.fresh (Nat.le_refl _)
  refine ⟨.ref s1.heap.objs.size, upd H1 s1.heap.objs.size (.lst xs), ?_, rfl, q _ _ (New.mk' hf)⟩
  exact I1.laid (t' := s1.toks) (fun b u e => Heap.get?_push_of_some _ e) (Nat.le_refl _) ⟨z, us, 0, r, Heap.get?_push_size _ rfl⟩
def tDNewA : TE := fun _ H Q => ∀ p H2, New H H2 p (.dK []) → Q (.ref p) H2
theorem pe_dnewA : PE X (.Dict [] [] pos) tDNewA := by
  constructor
  intro pins s σ H Q I hq
  exact pe_dnewK.run pins s σ H Q I fun p hp => hq p _ (New.mk' hp)
end
end L2
end
section
set_option Elab.async false
set_option linter.all false
set_option maxRecDepth 100000
set_option maxHeartbeats 2000000
/-! # What the top leaves, each fact from facts that are looked up. -/
namespace L2
open PySem PySem.Spec PyProof.Rows
theorem funD_mk {K : PySem.W.Frag} {x qual : Str} {params : Arguments} {body : List Stmt} {scope : Scope} {dvs : List V} {f T : Addr} {oc : Value} {od an : Option Addr} {osl : Array (Option Value)} {kV doc pm cdv ct : Value} {o : Obj} {its : List Value} {n : Nat}
    (l : K.lookup f = some ⟨oc, od, .func (PySem.W.fnOf x qual params body scope (.ref T) kV doc pm an cdv ct), osl⟩) (c : PySem.W.codeIn K cdv qual = true) (k : PySem.W.keepIn K (.ref f) = true)
    (t : K.lookup T = some o) (u : o.data = .seq its.toArray n) (v : Vals dvs its) (ne : dvs ≠ []) : FunD K x qual params body scope dvs [] f (PySem.W.fnOf x qual params body scope (.ref T) kV doc pm an cdv ct) :=
  ⟨⟨oc, od, _, kV, doc, pm, an, cdv, ct, osl, rfl, l, c, .inr ⟨ne, T, o, its, n, rfl, t, u, v⟩, .inl rfl⟩, k⟩
end L2
namespace RX
open PySem PySem.W PySem.Calls PyProof.Rows PySem.HandSPX
theorem te_of {K : Frag} {S : Addr} (a : subIn K (.ref S) (.type "BaseException") = some true) (b : isClsIn K S = true) (c : typeIn K (.ref S) = some (.type "type")) (d : subIn K (.ref S) (.ref S) = some true) : exmOne K (.ref S) (.ref S) = some true := by
  have b' : (clsIn K S).isSome = true := b
  simp [exmOne, kitCls, a, b', c, d]
/-- an error of the package, from facts that are looked up -/
theorem errT_mk {prog : Program} {K : Frag} {mg : Str → Option Value} {h : Heap} {cn fld : Str} {C fI : Addr} (X : K.In h) (G : h.Ns mainGlobals mg)
    {nm q : Str} {N : Addr} {bs bm : List Value} {sn : List Str} {sub : List Value} {ab : Bool} {col : Option Bool} {dd : Option Addr} {k0 k1 k2 k3 k5 : Option Value}
    {oc : Value} {od : Option Addr} {doc pm : Value} {an : Option Addr} {cda cc : Addr} {ct : Value} {osl : Array (Option Value)} {msg : Str} {qual : Str} {p1 p2 q1 q2 q3 q4 q5 q6 q7 q8 q9 q10 : Pos}
    {ccl cl : Value} {cdd cld : Option Addr} {ccs csl : Array (Option Value)} {vs : Array Value} {file : Str} {tf : Tok}
    (gC : nsIn K mainGlobals cn = some (some (.ref C)))
    (cls : K.lookup C = some (excClassObj nm q C N bs bm true sn sub ab col dd k0 k1 k2 k3 k5 "ValueError.__new__")) (rv : refsVE bm = true)
    (sa : findIn K (.ref C) "__setattr__" = some (some (.builtin "object.__setattr__")))
    (ga : findIn K (.ref C) "__getattribute__" = some (some (.builtin "BaseException.__getattribute__"))) (gg : findIn K (.ref C) "__getattr__" = some none)
    (noN : findIn K (.ref C) fld = some none) (iC : findIn K (.ref C) "__init__" = some (some (.ref fI))) (tC : typeIn K (.ref fI) = some (.type "function")) (kC : keepIn K (.ref C) = true)
    (exC : subIn K (.ref C) (.type "BaseException") = some true) (tyC : typeIn K (.ref C) = some (.type "type")) (hdC : hasDictIn K C = true)
    (icC : isClsIn K C = true) (sC : subIn K (.ref C) (.ref C) = some true)
    (veC : subIn K (.ref C) (.type "ValueError") = some true) (selfM : mroIn K C (.ref C) = some true) (up : ks_superIn K C C "__init__" = some (some (.builtin "ValueError.__init__")))
    (third : nsIn K cStatics "thirdparty.any" = some none) (noS : nsIn K mainGlobals "super" = some none) (top : (prog.main.scope.names.lookup ("super" : Str)).isSome = false)
    (fl : (eS fld).names.lookup fld = some .local ∧ (fld == ("self" : Str)) = false ∧ (eS fld).names.lookup ("super" : Str) = some .globalImplicit ∧ (eS fld).names.lookup ("__class__" : Str) = some .free ∧ (fld == ("__debug__" : Str)) = false)
    (bd : ∀ (qual : Str) (body : List Stmt) (doc pm : Value) (an : Option Addr) (cd ct : Value) (cc : Addr) (p1 p2 : Pos) (a b : Value), bindArgs (ksFn "__init__" qual (eA fld p1 p2) body (eS fld) .none .none doc pm an cd ct cc) ⟨[a, b], []⟩ = pure [(("self" : Str), a), (fld, b)])
    (l : K.lookup fI = some ⟨oc, od, .func (ksFn "__init__" qual (eA fld p1 p2) (eB fld msg q1 q2 q3 q4 q5 q6 q7 q8 q9 q10) (eS fld) .none .none doc pm an (.ref cda) ct cc), osl⟩) (cd : codeIn K (.ref cda) qual = true)
    (lc : K.lookup cda = some ⟨ccl, cdd, .fields vs, ccs⟩) (v2 : vs[2]? = some (.str file tf)) (vf : ((prog.main.file : Str) == file) = true) (lcc : K.lookup cc = some ⟨cl, cld, .cell (some (.ref C)), csl⟩) (ln : (q3.endLine == q5.line) = true) :
    ErrT prog K mg cn fld C fI :=
  { gC := mg_of X G gC, cls := ⟨nm, q, N, bs, bm, sn, sub, ab, col, dd, k0, k1, k2, k3, k5, cls, rv⟩, sa := sa, xf := ⟨ga, gg, exC, hdC⟩, noN := noN, iC := iC, tC := tC, kC := kC, exC := exC, tyC := tyC, hdC := hdC, te := te_of exC icC tyC sC, veC := veC, selfM := selfM, up := up, third := third,
    noS := noS, top := top, fl := fl, bd := bd, fn := ⟨oc, od, doc, pm, an, cda, cc, ct, osl, msg, qual, p1, p2, q1, q2, q3, q4, q5, q6, q7, q8, q9, q10, ccl, cl, cdd, cld, ccs, csl, vs, file, tf, l, cd, lc, v2, vf, lcc, ln⟩ }
end RX
end
section
set_option Elab.async false
set_option linter.all false
set_option maxRecDepth 100000
set_option maxHeartbeats 2000000
/-! # enumerate of a tuple, and of a list or a tuple. -/
namespace L2
open PySem PySem.Spec PyProof.Rows
theorem meets_en1 {v : Value} {o : Obj} {Z : Heap → Prop} (B : Begins v o Z) :
    Meets (Builtin.«enumerate.__new__» ⟨[.type "enumerate", v], []⟩) (fun _ R s => Z s.heap ∧ R (.ok (.ret (.ref (s.heap.push o).objs.size)))
      { s with heap := (s.heap.push o).push { cls := .type "enumerate", data := .fields #[.none, .bool false, .ref s.heap.objs.size, rawInt 0, .none, .none] } }) :=
  .of_wp fun prog w A R s q => by
    obtain ⟨hp, ge, dr, tk, os⟩ := s
    obtain ⟨z1, q⟩ := q
    have hs := sub_enumerate
    have step : ∀ {A' : Around} {E : Value → Shared → Prop} {Q : Value → Shared → Prop}, Q (.ref hp.objs.size) ⟨hp.push o, ge, dr, tk, os⟩ → wpAny (model prog w) A' (pyIter v) Q E ⟨hp, ge, dr, tk, os⟩ := fun u => B.iter prog w _ _ ⟨hp, ge, dr, tk, os⟩ _ z1 u
    wp_walk using step
    refine wpAny_stack_any fun sk => wpAny_pure ?_
    split
    · rename_i c _ _ _ _ _
      cases (c == Value.type "enumerate") <;> (wp_walk using step; exact ⟨_, rfl, q⟩)
    · wp_walk using step
      exact ⟨_, rfl, q⟩
section
variable {prog : Program} {w : World} {A : Around} {E : Value → Shared → Prop} {s : Shared}
/-- enumerate(v): its two new cells -/
theorem call_en {v : Value} {o : Obj} {Z : Heap → Prop} {Q : Value → Shared → Prop} (B : Begins v o Z) (z1 : Z s.heap)
    (q : ∀ h', IsEnum h' (s.heap.objs.size + 1) s.heap.objs.size 0 .none → h'.get? s.heap.objs.size = some o → h'.objs.size = s.heap.objs.size + 2 → (∀ b u, s.heap.get? b = some u → h'.get? b = some u) → Q (.ref (s.heap.objs.size + 1)) { s with heap := h' }) :
    wpAny (model prog w) A (call (.type "enumerate") [v]) Q E s := by
  refine callType_new F.called_enumerate (by decide) (F.typeCall_enumerate_1 _) (F.newCall_enumerate_1 _) (fun obj => F.args_object_init_2 obj _) F.entry_enumerate_new (meets_en1 B) ⟨z1, ?_⟩
  have e1 : (s.heap.push o).objs.size = s.heap.objs.size + 1 := Heap.size_push ..
  show _ ∧ _
  rw [e1]
  have he : IsEnum ((s.heap.push o).push { cls := .type "enumerate", data := .fields #[.none, .bool false, .ref s.heap.objs.size, rawInt 0, .none, .none] }) (s.heap.objs.size + 1) s.heap.objs.size 0 .none := by
    have u := Heap.get?_push_size (s.heap.push o) (o := { cls := .type "enumerate", data := .fields #[.none, .bool false, .ref s.heap.objs.size, rawInt 0, .none, .none] }) rfl
    rwa [e1] at u
  exact ⟨⟨_, he, rfl⟩, q _ he (Heap.get?_push_of_some _ (Heap.get?_push_size _ B.free)) (by rw [Heap.size_push, e1]) fun b u x => Heap.get?_push_of_some _ (Heap.get?_push_of_some _ x)⟩
end
/-- the tuple at a, each item in a new pair -/
def IteT (K : PySem.W.Frag) (a : Addr) : It :=
  ⟨fun i H => ∃ (xs : List V) (x : V), SqT K H a xs ∧ xs[i]? = some x, fun i H v H' => ∃ T x, v = .ref T ∧ H T = none ∧ H' = upd H T (.tup [.int (i : Nat), x]) ∧ ∀ xs, SqT K H a xs → xs[i]? = some x, fun i H => ∃ xs : List V, SqT K H a xs ∧ xs.length ≤ i⟩
theorem turn_enT {P : Program} {w : World} {K : PySem.W.Frag} {elts : List Expr} {kk : Nat} {tpos : Pos} (a e it : Addr) :
    Turn P w K (.Tuple elts kk tpos) (IteT K a) [e, it] e (fun i h => (∃ old, IsEnum h e it ((i : Nat) : Int) old) ∧ h.IsTupleIter it a i ∧ e ≠ it) where
  mem := by simp
  obj := fun i h st b hb => by
    obtain ⟨⟨old, he⟩, ⟨o, ho, hc, hd⟩, _⟩ := st
    rcases (by simpa using hb : b = e ∨ b = it) with z | z
    · exact z ▸ ⟨_, he, fun v q => nomatch q⟩
    · exact z ▸ ⟨o, ho, fun v q => by rw [hd] at q; cases q⟩
  keep := fun i h h' st k => ⟨let ⟨old, he⟩ := st.1; ⟨old, k e (by simp) _ he⟩, st.2.1.at fun o q => k it (by simp) o q, st.2.2⟩
  item := by
    intro X hP hw hK hc i pins s σ H E I hf st hg
    subst hP hw hK
    obtain ⟨⟨old, he⟩, hit, hne⟩ := st
    obtain ⟨xs, x, hq, hx⟩ := hg
    obtain ⟨its, rv, p, hz⟩ := I.tuple hq
    obtain ⟨u, hu, ru⟩ := rv.get hx
    have hel : e < s.heap.objs.size := Heap.lt_size he
    have hil : it < s.heap.objs.size := by obtain ⟨_, q, _⟩ := hit; exact Heap.lt_size q
    have ht : s.heap.IsTuple a its.toArray := p
    have hai : a ≠ it := by
      rintro rfl
      obtain ⟨o1, q1, c1, _⟩ := hit
      obtain ⟨o2, q2, c2, _⟩ := ht
      rw [q1] at q2
      cases q2
      exact absurd (Value.type.inj (c1.symm.trans c2)) (by decide)
    have hea : e ≠ a := by
      rintro rfl
      obtain ⟨o2, q2, c2, _⟩ := ht
      rw [he] at q2
      cases q2
      exact absurd (Value.type.inj (c2 : Value.type "enumerate" = .type "tuple")) (by decide)
    have hlt : i < its.toArray.size := by
      have := (List.getElem?_eq_some_iff.mp (by simpa using hu : its[i]? = some u)).1
      simpa using this
    refine wpAny_pyNext_enum_itemD (Draws.tuple (A := X.A.in1) (I.ok.hd hc) it a hai its.toArray) he ⟨hit, ht⟩ hlt hne (by simp [hne, hea]) fun x' h' tk hx' ho hst hT hsz hk => ?_
    have eu : x' = u := by
      have : its.toArray[i]? = some u := by simpa using hu
      exact Option.some.inj (hx'.symm.trans this)
    subst eu
    refine ⟨_, rfl, wpAny_letOwnedTupleGo_enum (s := { s with heap := h', toks := tk + 1 }) ho fun h'' he' sb => ?_⟩
    have hT2 : h''.get? s.heap.objs.size = some { cls := .type "tuple", data := .seq #[.int i tk, x'] } := (sb.2 _ (Nat.ne_of_gt hel)).trans hT
    have nw : ObjOk X.prog X.w (upd H s.heap.objs.size (.tup [.int (i : Nat), x])) h'' s.heap.objs.size (.tup [.int (i : Nat), x]) :=
      ⟨by show 2 ≤ sizeLine; decide, [.int i tk, x'], .cons ⟨_, rfl⟩ (.cons ru .nil), ⟨_, hT2, rfl, _, rfl⟩⟩
    have I1 : Inv X pins σ (upd H s.heap.objs.size (.tup [.int (i : Nat), x])) { s with heap := h'', toks := tk + 1 } :=
      I.turnedNew (ch := [e, it]) (fun b ob hb q => (sb.2 b (fun z => hb (by simp [z]))).trans (hk b ob (fun z => hb (by simp [z])) (fun z => hb (by simp [z])) q)) hf (Nat.le_refl _) nw
    refine ⟨.ref s.heap.objs.size, _, I1, rfl, ⟨_, x, rfl, I.hok.fresh (Nat.le_refl _), rfl, fun ys hy => by rw [I.tuple_inj hy hq]; exact hx⟩, ⟨⟨x', ?_⟩, hst.1.at fun o q => (sb.2 it (Ne.symm hne)).trans q, hne⟩, fun b hb => ?_⟩
    · rw [show ((i + 1 : Nat) : Int) = (i : Int) + 1 by omega]
      exact he'
    · have hb' : b < s.heap.objs.size := by
        rcases (by simpa using hb : b = e ∨ b = it) with z | z
        · exact z ▸ hel
        · exact z ▸ hil
      rw [upd_ne (Nat.ne_of_lt hb')]
      exact (hf b hb).1
  done := by
    intro X hP hw hK hc i pins s σ H E I hf st hg
    subst hP hw hK
    obtain ⟨⟨old, he⟩, hit, hne⟩ := st
    obtain ⟨xs, hq, hx⟩ := hg
    obtain ⟨its, rv, p, hz⟩ := I.tuple hq
    have ht : s.heap.IsTuple a its.toArray := p
    have hl := rv.length
    obtain ⟨f0, f1, f2, f3, f4, f5⟩ := hf it (by simp)
    have hT : s.TypeIs (.ref e) "enumerate" := ⟨_, he, rfl⟩
    have nn : its.toArray[i]? = none := by simp; omega
    unfold pyNext
    refine wpAny_bind (wpAny_attempt (wpAny_callSpecial?_slot (name := Str.ofString "__next__") hT F.slot_enumerate_next (wpAny_call_entry F.slot_enumerate_next hT F.entry_enumerate_next ?_ (F.args_enumerate_next_1 _))))
    show wpAny _ X.A.in1 (field (.ref e) 2 >>= _) _ _ s
    refine wpAny_bind (wpAny_field he rfl (x := .ref it) rfl (wpAny_bind (RZ.nextOf_tuple_end (A := X.A.in1) (I.ok.hd hc) hit ht nn fun h' y hy ht' => ?_)))
    obtain ⟨o, q1, q2⟩ := ht'
    refine wpAny_bind (wpAny_isInstance (T := "StopIteration") (b := true) ⟨o, q1, q2⟩ isSubtype_stop (wpAny_pure ⟨rfl, ?_⟩))
    exact I.turned (t' := s.toks) (fun b o hb q => hy b o hb q) f0 f1 f3 f4 f5
  self := fun A i s Q E st h => let ⟨⟨_, he⟩, _⟩ := st; wpAny_pyIter_enum he h
theorem walk_enT {K : PySem.W.Frag} {a : Addr} {xs : List V} : Walk (IteT K a) xs.length (fun H => SqT K H a xs) (YPair (fun i => some (.int (i : Nat))) (fun i => xs[i]?)) :=
  ⟨fun i _ hi q => ⟨xs, xs[i], q, by simp [hi]⟩, fun _ q => ⟨xs, q, Nat.le_refl _⟩, fun i H v H' _ q ⟨T, x, h1, h2, h3, h4⟩ => ⟨T, .int (i : Nat), x, h1, h2, h3, rfl, h4 xs q⟩⟩
section
variable {X : Cx} {e : Expr} {ta : TA} {p pos tpos : Pos} {elts : List Expr} {kk : Nat}
/-- enumerate(v), v a list or a tuple -/
def iEnum2 (K : PySem.W.Frag) (ta : TA) : TI := fun σ H R => ta σ H fun vs H1 => ∃ a xs, vs = [.ref a] ∧ (SqL K H1 a xs ∨ SqT K H1 a xs) ∧
  ∀ (J : It) (G : Hp → Prop), Walk J xs.length G (YPair (fun i => some (.int (i : Nat))) (fun i => xs[i]?)) → (∀ H', Same H1 H' → G H') → R J H1
theorem pi_enum2 (hg : Gl X "enumerate") (hm : X.mg "enumerate" = none) (ha : PA X [e] ta) (hs : starEach [e] X.env = [(false, eval e X.env)] := by rfl) : PI X (.Tuple elts kk tpos) (.Call (.Name "enumerate" p) [e] [] pos) (iEnum2 X.K ta) := by
  refine ⟨fun pins s σ H R I h => ?_⟩
  refine Call_ (ld_blt I hg hm boot_enumerate (PyProof.Rows.callWith_type1 (thn (ha.run pos pins s σ H _ I h) fun us s1 ⟨vs, H1, I1, r1, q1⟩ => ?_) hs rfl))
  obtain ⟨a, xs, ex, q1, q2⟩ := q1
  subst ex
  cases r1 with
  | cons r rr =>
    cases rr
    cases r
    have big : ∀ (b : Addr), b ∈ [s1.heap.objs.size + 1, s1.heap.objs.size] → FpOk X pins H1 b := fun b hb => by
      have hle : s1.heap.objs.size ≤ b := by
        rcases (by simpa using hb : b = s1.heap.objs.size + 1 ∨ b = s1.heap.objs.size) with z | z
        · exact z ▸ Nat.le_succ _
        · exact z ▸ Nat.le_refl _
      exact I1.fpOk hle (I1.hok.fresh hle)
    rcases q1 with hq | hq
    · have q := q2 _ _ walk_enum fun H' s' => s'.seq hq
      obtain ⟨its, rv, p', hz⟩ := I1.list hq
      refine call_en (begins_list a its.toArray) p'.isList fun h' he ho hsz hk => wpAny_pyIter_enum he ?_
      exact ⟨s1.heap.objs.size + 1, [s1.heap.objs.size + 1, s1.heap.objs.size], _, _, H1, rfl, I1.kept (t' := s1.toks) hk, turn_enum a (s1.heap.objs.size + 1) s1.heap.objs.size, ⟨⟨.none, he⟩, ⟨_, ho, rfl, rfl⟩, Nat.succ_ne_self _⟩, big, q⟩
    · have q := q2 _ _ walk_enT fun H' s' => hq.imp (fun z => z.imp (fun e => s' _ _ e) (fun ⟨o, e⟩ => ⟨o, s' _ _ e⟩)) id
      obtain ⟨its, rv, p', hz⟩ := I1.tuple hq
      refine call_en (begins_tuple a its.toArray) (show s1.heap.IsTuple a its.toArray from p') fun h' he ho hsz hk => wpAny_pyIter_enum he ?_
      exact ⟨s1.heap.objs.size + 1, [s1.heap.objs.size + 1, s1.heap.objs.size], _, _, H1, rfl, I1.kept (t' := s1.toks) hk, turn_enT a (s1.heap.objs.size + 1) s1.heap.objs.size, ⟨⟨.none, he⟩, ⟨_, ho, rfl, rfl⟩, Nat.succ_ne_self _⟩, big, q⟩
end
section
variable {X : Cx}
/-- tuple(v), v a list or a tuple that stands: a tuple of the same things stands then, the old one or a new one -/
def rTup2 : List V → Hp → VK → Prop := fun xs H Q => ∃ a ys, xs = [.ref a] ∧ (H a = some (.lst ys) ∨ H a = some (.tup ys)) ∧ ∀ t H', Same H H' → H' t = some (.tup ys) → (H t = none ∨ t = a) → Q (.ref t) H'
theorem cr_tup2 : CallR X (.type "tuple") rTup2 := fun pins s σ H xs us Q I rv h => by
  obtain ⟨a, ys, rfl, h1, k⟩ := h
  refine call_tuple_of pins s σ H [.ref a] us Q I rv ⟨a, ys, rfl, ?_⟩
  rcases h1 with e | e
  · exact .inl ⟨SqL.of e, fun l hl => k l _ (same_new hl) upd_same (.inl hl)⟩
  · exact .inr ⟨SqT.of e, k a H (Same.refl _) e (.inr rfl)⟩
end
end L2
end
section
set_option Elab.async false
set_option linter.all false
set_option maxRecDepth 100000
set_option maxHeartbeats 2000000
/-! # text.translate(a dict of signs for signs), text[::-1], text.index(a sign that is there) -/
namespace L2
open PySem PySem.Spec PyProof.Rows PySem.Builtin PySem.Builtin.Str
/-- what the dict tells of each sign: one ASCII sign, or nothing -/
def Swaps (f : Key → Option Value) (one : Nat → Nat) : Prop := ∀ c : Nat, (∃ (e : Nat) (t : Tok), f (.inl (c : Int)) = some (.str ⟨#[e]⟩ t) ∧ e < 128 ∧ one c = e) ∨ (f (.inl (c : Int)) = none ∧ one c = c)
section
variable {P : Program} {w : World} {A : Around} {E : Value → Shared → Prop} {s : Shared} {d : Addr} {c : Nat} {one : Nat → Nat}
theorem sw_mapOf {h h' : Heap} {f : Key → Option Value} (m : h.MapOf (mixKind P w) d f) (k : ∀ b o, h.get? b = some o → h'.get? b = some o) : h'.MapOf (mixKind P w) d f := by
  obtain ⟨ob, es, ep, q, rest⟩ := m
  exact ⟨ob, es, ep, k _ _ q, rest⟩
theorem sw_look {f : Key → Option Value} {Q : Mapped → Shared → Prop} (quiet : A.handled = none) (low : (d == sysModules) = false) (m : s.heap.MapOf (mixKind P w) d f) (sw : Swaps f one)
    (hit : one c < 128 → ∀ h1 k1, (∀ b o, s.heap.get? b = some o → h1.get? b = some o) → Q (.text ⟨#[one c]⟩) { s with heap := h1, toks := k1 })
    (miss : one c = c → ∀ h1 k1, (∀ b o, s.heap.get? b = some o → h1.get? b = some o) → Q .keep { s with heap := h1, toks := k1 }) : wpAny (model P w) A (tableLookup (.ref d) c) Q E s := by
  unfold tableLookup
  refine wpAny_bind (wpAny_attempt (wpAny_bind (wpAny_mkInt ?_)))
  rcases sw c with ⟨e, t, q1, q2, q3⟩ | ⟨q1, q3⟩
  · refine wpAny_getItem_of (knd := mixKind P w) (k := Sum.inl (c : Int)) (kV_is (k := Sum.inl (c : Int)) ⟨_, rfl⟩) m q1 ?_
    show wpAny _ _ (do let o ← asInt? (Value.str ⟨#[e]⟩ t); _) _ _ _
    refine wpAny_bind (wpAny_of_eq (a := none) rfl ?_)
    refine wpAny_bind (wpAny_of_eq (a := some ⟨#[e]⟩) rfl ?_)
    rw [← q3]
    exact wpAny_pure (hit (q3 ▸ q2) s.heap _ fun _ _ z => z)
  · refine wpAny_getItem_missing_of (knd := mixKind P w) (k := Sum.inl (c : Int)) (kV_is (k := Sum.inl (c : Int)) ⟨_, rfl⟩) low quiet m q1 fun h1 x new => ?_
    show wpAny _ _ (do let b ← isInstance (.ref x) (.type "LookupError"); _) _ _ _
    obtain ⟨ob, t, o1, o2, _⟩ := new.there
    refine wpAny_bind (wpAny_isInstance (T := "KeyError") (b := true) ⟨ob, o1, o2⟩ key_is_lookup ?_)
    rw [if_pos rfl]
    exact wpAny_bind (wpAny_rule (wpAny_pure (miss q3 h1 _ new.keeps)))
end
theorem sw_fold (one : Nat → Nat) : ∀ (l : List Nat) (acc : Array Nat), List.foldl (fun r (p : Str) => r ++ p.cps) acc (l.map fun c => (⟨#[one c]⟩ : Str)) = acc ++ (l.map one).toArray
  | [], acc => by simp
  | a :: l, acc => by
    rw [List.map_cons, List.foldl_cons, sw_fold one l]
    apply Array.toList_inj.mp
    simp
/-- what stands ahead of each turn -/
def SwAt (one : Nat → Nat) (x : List Nat) (ascii : Bool) (s : Shared) (rest : List Nat) (st : List Str × Nat × Bool × List (Nat × Option Nat) × Bool) (s1 : Shared) : Prop :=
  ∃ (done : List Nat) (ps : List Str) (kn : List (Nat × Option Nat)) (h1 : Heap) (k1 : Nat), x = done ++ rest ∧ st = (ps, done.length, ascii, kn, false) ∧ ps.reverse = done.map (fun c => (⟨#[one c]⟩ : Str)) ∧
    (∀ c a, List.lookup c kn = some a → a = some (one c)) ∧ s1 = { s with heap := h1, toks := k1 } ∧ ∀ b o, s.heap.get? b = some o → h1.get? b = some o
theorem SwAt.step {one : Nat → Nat} {x : List Nat} {ascii : Bool} {s : Shared} {rest done : List Nat} {c : Nat} {ps : List Str} {kn : List (Nat × Option Nat)} {h1 : Heap} {k1 : Nat} (q1 : x = done ++ c :: rest)
    (q2 : ps.reverse = done.map (fun c => (⟨#[one c]⟩ : Str))) (q3 : ∀ c a, List.lookup c kn = some a → a = some (one c)) (q4 : ∀ b o, s.heap.get? b = some o → h1.get? b = some o) :
    SwAt one x ascii s rest (⟨#[one c]⟩ :: ps, done.length + 1, ascii, kn, false) { s with heap := h1, toks := k1 } :=
  ⟨done ++ [c], _, kn, h1, k1, by rw [q1, List.append_assoc]; rfl, by rw [List.length_append]; rfl, by rw [List.reverse_cons, q2, List.map_append]; rfl, q3, rfl, q4⟩
theorem sw_meets {P : Program} {w : World} (one : Nat → Nat) (x : List Nat) (t : Tok) (d : Addr) (low : (d == sysModules) = false) (short : x.length ≤ 16000000) : MeetsIn P w («str.translate» ⟨[.str (SX.S x) t, .ref d], []⟩) (fun A R s =>
    A.handled = none ∧ (∃ f, s.heap.MapOf (mixKind P w) d f ∧ Swaps f one) ∧ ∀ (v : Value) (h1 : Heap) (k1 : Nat), (∀ b o, s.heap.get? b = some o → h1.get? b = some o) → (∃ t1, v = .str (SX.S (x.map one)) t1) → R (.ok (.ret v)) { s with heap := h1, toks := k1 }) := by
  refine .of_wp fun A R s hyp => ?_
  obtain ⟨quiet, ⟨f, m, sw⟩, fin⟩ := hyp
  have quiet1 : A.in1.handled = none := quiet
  show wpAny _ _ (if ((SX.S x).length == 0) = true then (do rule "str.translate.empty"; ret (.str (SX.S x) t)) else (do
    let st ← forIn (SX.S x).cps (([], 0, (SX.S x).cps.all fun y => decide (y < 128), [], false) : List Str × Nat × Bool × List (Nat × Option Nat) × Bool) _
    _)) _ _ s
  by_cases none0 : ((SX.S x).length == 0) = true
  · rw [if_pos none0]
    have hx : x = [] := by
      rw [beq_iff_eq, SX.S_len] at none0
      exact List.eq_nil_of_length_eq_zero none0
    subst hx
    exact wpAny_bind (wpAny_rule (wpAny_pure ⟨_, rfl, fin _ s.heap s.toks (fun _ _ z => z) ⟨t, rfl⟩⟩))
  rw [if_neg none0]
  generalize ((SX.S x).cps.all fun y => decide (y < 128)) = ascii
  refine wpAny_bind (MeetsSeq2.wpAny_forIn_array _ (SwAt one x ascii s) _ (fun c rest st s1 I => ?turn) (fun st s1 I => ?last) (SX.S x).cps ([], 0, ascii, [], false) ?first)
  case first => exact ⟨[], [], [], s.heap, s.toks, by show x = [] ++ x.toArray.toList; simp, rfl, rfl, fun c a z => (by rw [List.lookup_nil] at z; cases z), rfl, fun _ _ z => z⟩
  case turn =>
    obtain ⟨done, ps, kn, h1, k1, e1, e2, e3, e4, e5, e6⟩ := I
    subst e2
    subst e5
    have few : done.length ≤ 16000000 := by
      have := congrArg List.length e1
      rw [List.length_append] at this
      omega
    have m1 : ({ s with heap := h1, toks := k1 } : Shared).heap.MapOf (mixKind P w) d f := sw_mapOf m e6
    have known1 : ∀ c' a, List.lookup c' ((c, some (one c)) :: kn) = some a → a = some (one c') := fun c' a z => by
      rcases lookup_new z with ⟨y1, y2⟩ | y
      · rw [y2, y1]
      · exact e4 c' a y
    show wpAny _ _ (if tooLong done.length = true then _ else (if ascii = true then _ else _)) _ _ _
    rw [show tooLong done.length = false from PyProof.Rows.short24 (by omega), if_neg Bool.false_ne_true]
    cases ascii with
    | true =>
      rw [if_pos rfl]
      cases lk : List.lookup c kn with
      | some a =>
        have ea := e4 c a lk
        subst ea
        exact wpAny_bind (wpAny_pure (wpAny_pure (SwAt.step e1 e3 e4 e6)))
      | none =>
        refine wpAny_bind (sw_look (one := one) quiet1 low m1 sw (fun lt h2 k2 k3 => ?_) (fun eq h2 k2 k3 => ?_))
        · have q := SwAt.step (ascii := true) (k1 := k2) (kn := (c, some (one c)) :: kn) e1 e3 known1 (fun b o z => k3 b o (e6 b o z))
          have cond : (((⟨#[one c]⟩ : Str).length == 1) && ((⟨#[one c]⟩ : Str).cps.all fun y => decide (y < 128))) = true := by
            have : decide (one c < 128) = true := decide_eq_true lt
            simp [Str.length, this]
          simp only [cond, if_true]
          refine wpAny_bind (wpAny_pure ?_)
          exact wpAny_pure q
        · have q := SwAt.step (ascii := true) (k1 := k2) (kn := (c, some (one c)) :: kn) e1 e3 known1 (fun b o z => k3 b o (e6 b o z))
          rw [eq] at q
          refine wpAny_bind (wpAny_pure ?_)
          exact wpAny_pure q
    | false =>
      rw [if_neg Bool.false_ne_true]
      show wpAny _ _ (if false = true then _ else _) _ _ _
      rw [if_neg Bool.false_ne_true]
      refine wpAny_bind (sw_look (one := one) quiet1 low m1 sw (fun lt h2 k2 k3 => ?_) (fun eq h2 k2 k3 => ?_))
      · exact wpAny_pure (SwAt.step (ascii := false) (k1 := k2) e1 e3 e4 (fun b o z => k3 b o (e6 b o z)))
      · have q := SwAt.step (ascii := false) (k1 := k2) e1 e3 e4 (fun b o z => k3 b o (e6 b o z))
        rw [eq] at q
        exact wpAny_pure q
  case last =>
    obtain ⟨done, ps, kn, h1, k1, e1, e2, e3, e4, e5, e6⟩ := I
    subst e2
    subst e5
    have all : x = done := by rw [e1, List.append_nil]
    show wpAny _ _ (if tooLong done.length = true then _ else retStr { cps := List.foldl (fun acc (p : Str) => acc ++ p.cps) #[] ps.reverse }) _ _ _
    rw [show tooLong done.length = false from PyProof.Rows.short24 (by rw [← all]; omega), if_neg Bool.false_ne_true, e3, sw_fold, ← all]
    have ev : (⟨#[] ++ (x.map one).toArray⟩ : Str) = SX.S (x.map one) := by rw [Array.empty_append]
    rw [ev]
    exact wpAny_bind (wpAny_mkStr (wpAny_pure ⟨_, rfl, fin _ h1 _ e6 ⟨_, rfl⟩⟩) (by rw [SX.S_len, List.length_map, sizeLine_eq]; omega))
/-- the same of a dict at a tracked address -/
def SwapsK (kvs : List (Key × V)) (one : Nat → Nat) : Prop := ∀ c : Nat, (∃ e : Nat, valV kvs (.inl (c : Int)) = some (.str ⟨#[e]⟩) ∧ e < 128 ∧ one c = e) ∨ (valV kvs (.inl (c : Int)) = none ∧ one c = c)
section
variable {X : Cx}
theorem mt_swaps (one : Nat → Nat) (hc : X.calm = true) : MtR X "str.translate" (fun x xs H Q => ∃ (z : Str) (d : Addr) (kvs : List (Key × V)), x = .str z ∧ xs = [.ref d] ∧ H d = some (.dK kvs) ∧ SwapsK kvs one ∧ z.length ≤ 16000000 ∧ Q (.str ⟨(z.cps.toList.map one).toArray⟩) H) := by
  intro pins s σ H x xs v us Q I rx rs h
  obtain ⟨z, d, kvs, rfl, rfl, hd, sw, hl, q⟩ := h
  obtain ⟨t, rfl⟩ := rx
  cases rs with
  | cons r1 rs =>
    cases rs
    cases r1
    obtain ⟨_, low, vs, rel, dd⟩ := dk_of I.hok hd
    have ez : z = SX.S z.cps.toList := by cases z with | mk c => show (⟨c⟩ : Str) = ⟨c.toList.toArray⟩; simp
    have sw1 : Swaps (valueAt vs) one := fun c => by
      have rv := rel.val (.inl (c : Int))
      rcases sw c with ⟨e, q1, q2, q3⟩ | ⟨q1, q3⟩
      · rw [q1] at rv
        obtain ⟨u, hu, ru⟩ := RelO.some_of (v := .str ⟨#[e]⟩) (o := valueAt vs (.inl (c : Int))) rv
        obtain ⟨t2, rfl⟩ := ru
        exact .inl ⟨e, t2, hu, q2, q3⟩
      · rw [q1] at rv
        refine .inr ⟨?_, q3⟩
        cases hv : valueAt vs (.inl (c : Int)) with
        | none => rfl
        | some y => rw [hv] at rv; exact False.elim rv
    have hl2 : z.cps.toList.length ≤ 16000000 := by simpa [Str.length] using hl
    rw [ez]
    refine call_meetsIn F.slot_str_translate (typeIs_str _ _ _) F.entry_str_translate (F.args_str_translate_2 _ _) (sw_meets one z.cps.toList t d low hl2) ⟨I.ok.hd hc, ⟨valueAt vs, dd.mapOf, sw1⟩, ?_⟩
    intro v h1 k1 keep ⟨t1, e⟩
    subst e
    exact ⟨.str _, H, I.kept (t' := k1) keep, ⟨t1, rfl⟩, q⟩
/-- text.index(sign), where it is -/
theorem mt_signAt : MtR X "str.index" (fun x xs H Q => ∃ (z : Str) (c : Nat), x = .str z ∧ xs = [.str ⟨#[c]⟩] ∧ c ∈ z.cps.toList ∧ Q (.int (Txt.find z ⟨#[c]⟩)) H) := by
  intro pins s σ H x xs v us Q I rx rs h
  obtain ⟨z, c, rfl, rfl, hm, q⟩ := h
  have f := PySem.StrLaws.found_one z c
  rw [decide_eq_true hm] at f
  cases ho : Builtin.Str.occurrences z ⟨#[c]⟩ 0 z.length 1 with
  | nil => rw [ho] at f; cases f
  | cons i rest =>
    refine mt_sindex pins s σ H _ _ v us Q I rx rs ⟨z, _, i, rest, rfl, rfl, ho, ?_⟩
    have e : Txt.find z ⟨#[c]⟩ = (i : Int) := by
      unfold Txt.find
      rw [ho]
    rw [← e]
    exact q
/-- text[::-1] -/
def revS (z : Str) : Str := ⟨z.cps.toList.reverse.toArray⟩
theorem sliceBy_rev (z : Str) (u : Tok) : Txt.sliceBy z none none (-1, u) = revS z := by
  have h := step_rev_list z u
  have e : (List.range z.length).map (fun k => z.cps.getD (z.length - 1 - k) 0) = z.cps.toList.reverse := by
    refine List.ext_getElem (by simp [Str.length]) fun i h1 h2 => ?_
    rw [List.length_map, List.length_range] at h1
    have h3 : z.length - 1 - i < z.cps.size := by
      have : z.length = z.cps.size := rfl
      omega
    rw [List.getElem_map, List.getElem_range, List.getElem_reverse]
    simp [Array.getD, h3]
    rfl
  rw [e] at h
  generalize Txt.sliceBy z none none (-1, u) = y at h
  cases y with
  | mk c =>
    show (⟨c⟩ : Str) = ⟨z.cps.toList.reverse.toArray⟩
    have : c.toList = z.cps.toList.reverse := h
    rw [← this]
def tRevS (te : TE) : TE := fun σ H Q => te σ H fun x H1 => ∃ z, x = .str z ∧ z.length ≤ sizeLine ∧ Q (.str (revS z)) H1
theorem pe_revS {e : Expr} {te : TE} {k : Nat} {p1 p2 p3 pos : Pos} (he : PE X e te) : PE X (.Subscript e (.Slice none none (some (.UnaryOp .USub (.Constant (.int 1) k p1) p2)) p3) pos) (tRevS te) := by
  refine ⟨fun pins s σ H Q I hyp => ?_⟩
  refine Subscript_ (thn (he.run pins s σ H _ I hyp) fun v s1 ⟨x, H1, I1, r1, z, ex, hz, q⟩ => ?_)
  subst ex
  obtain ⟨t, rfl⟩ := r1
  have neg : PO X (some (.UnaryOp .USub (.Constant (.int 1) k p1) p2)) (tPart (tUn (rU fun i => .int (-i)) (tC (.int 1)))) := po_some (pe_un un_neg pe_int)
  refine wpAny_Slice (thn (po_none.run pins s1 σ H1 (fun o H2 => o = none ∧ H2 = H1) I1 ⟨rfl, rfl⟩) fun vl s2 ⟨l, H2, I2, pl, el, e2⟩ => ?_)
  subst el
  subst e2
  refine thn (po_none.run pins s2 σ H2 (fun o H3 => o = none ∧ H3 = H2) I2 ⟨rfl, rfl⟩) fun vu s3 ⟨u, H3, I3, pu, eu, e3⟩ => ?_
  subst eu
  subst e3
  refine thn (neg.run pins s3 σ H3 (fun o H4 => o = some (-1) ∧ H4 = H3) I3 ⟨1, rfl, -1, rfl, rfl, rfl⟩) fun vs s4 ⟨o, H4, I4, ps, eo, e4⟩ => ?_
  subst eo
  subst e4
  have I5 : Inv X pins σ H4 { s4 with heap := s4.heap.push { cls := .type "slice", data := .fields #[vl, vu, vs] } } := I4.kept (t' := s4.toks) fun b ob q => Heap.get?_push_of_some _ q
  obtain ⟨l1, rfl, el1⟩ := IsPart.raw pl
  obtain ⟨u1, rfl, eu1⟩ := IsPart.raw pu
  obtain ⟨st1, rfl, es1⟩ := IsPart.raw ps
  have l0 : l1 = none := by cases l1 with | none => rfl | some y => cases el1
  have u0 : u1 = none := by cases u1 with | none => rfl | some y => cases eu1
  subst l0
  subst u0
  obtain ⟨tk, rfl⟩ : ∃ tk, st1 = some (-1, tk) := by
    cases st1 with
    | none => cases es1
    | some y =>
      obtain ⟨y1, y2⟩ := y
      have : y1 = -1 := Option.some.inj es1
      subst this
      exact ⟨y2, rfl⟩
  show wpAny (model X.prog X.w) X.A (subscriptTail e (.Slice none none (some (.UnaryOp .USub (.Constant (.int 1) k p1) p2)) p3) (.str z t) (.ref s4.heap.objs.size)) (EP X pins σ Q) X.xe { s4 with heap := s4.heap.push { cls := .type "slice", data := .fields #[_, _, _] } }
  refine tail_any (ops := [.str z t, .ref s4.heap.objs.size]) (typeIs_str _ _ _) F.slot_str_getitem.lookup ?_ (by with_unfolding_all rfl)
  refine wpAny_getItem_str_slice (l := none) (u := none) (st := some (-1, tk)) ⟨_, Heap.get?_push_size _ rfl, rfl, rfl⟩ rfl ?_
  have hl : (revS z).length ≤ sizeLine := by
    have : (revS z).length = z.length := by simp [revS, Str.length]
    rw [this]
    exact hz
  have em : ∀ st : Str, Txt.sliceBy z none none (-1, tk) = st → sliceMade z t none none (some (-1, tk)) = .str st := fun st h => by
    unfold Txt.sliceBy at h
    unfold sliceMade
    have no : ¬ ((((some ((-1 : Int), tk)).map (·.1)).getD 1 == 1 && (slicePicked z none none (some (-1, tk))).length == z.length) = true) := by
      have : ((((some ((-1 : Int), tk)).map (·.1)).getD 1 == 1)) = false := rfl
      rw [this, Bool.false_and]
      exact Bool.false_ne_true
    rw [if_neg no] at h ⊢
    rw [h]
  rw [em _ (sliceBy_rev z tk)]
  exact ⟨hl, .str _, _, I5.tok _, ⟨_, rfl⟩, q⟩
end
end L2
end
section
set_option Elab.async false
set_option linter.all false
set_option maxRecDepth 100000
set_option maxHeartbeats 2000000
/-! # A written dict asked for texts; == of data; a def that calls itself. -/
namespace L2
open PySem PySem.Spec PyProof.Rows
/-- what the written dict at a has for a text -/
structure KD (K : PySem.W.Frag) (w : World) (a : Addr) (x : Str) (r : Option Value) : Prop where
  ex : ∃ es n, K.lookup a = some ⟨.type "dict", none, .dict es n, #[]⟩ ∧ PySem.W.KeysLit w.params es.toList ∧ (a == sysModules) = false ∧ PySem.W.nsIn K a x = some r
theorem KD.get {K : PySem.W.Frag} {w : World} {a : Addr} {x : Str} {u : Value} {v : V} (h : KD K w a x (some u)) (r : RelV v u) : KDct K w a x v := by
  obtain ⟨es, n, h1, h2, _, h4⟩ := h.ex
  exact ⟨es, n, u, h1, h2, h4, r⟩
/-- t not in d, d a written dict -/
theorem op_notIn_w {X : Cx} : OpR X (compareOp .NotIn) (fun x y H Q => ∃ (p : Addr) (z : Str) (r : Option Value), x = .str z ∧ y = .ref p ∧ KD X.K X.w p z r ∧ Q (.bl (!r.isSome)) H) := by
  intro pins s σ H x y v u Q I rx ry h
  obtain ⟨p, z, r, rfl, rfl, ⟨es, n, hl, hk, low, hm⟩, q⟩ := h
  obtain rfl : u = Value.ref p := ry
  obtain ⟨t, rfl⟩ := (show ∃ t, v = Value.str z t from rx)
  have hm' := PySem.W.mapOf_K (prog := X.prog) (w := X.w) I.kIn hl hk
  refine wpAny_notIn_of (strKind_is X.prog X.w z t) low hm' ?_
  rw [PySem.W.find_K hl hm]
  exact ⟨.bl _, H, I.tok _, rfl, q⟩
theorem iteT' {c : Prop} [Decidable c] {A B : Prop} (h : c) (a : A) : if c then A else B := by rw [if_pos h]; exact a
theorem iteF' {c : Prop} [Decidable c] {A B : Prop} (h : ¬ c) (b : B) : if c then A else B := by rw [if_neg h]; exact b
/-- one of two readings -/
theorem op_either {X : Cx} {f : Value → Value → Sem Value} {r1 r2 : R2} (h1 : OpR X f r1) (h2 : OpR X f r2) : OpR X f (fun x y H Q => r1 x y H Q ∨ r2 x y H Q) := by
  intro pins s σ H x y v u Q I rx ry h
  rcases h with h | h
  · exact h1 pins s σ H x y v u Q I rx ry h
  · exact h2 pins s σ H x y v u Q I rx ry h
def rEqDr : R2 := fun x y H Q => ∃ (d e : PyData) (L L' : Bool) (M M' : Addr → Prop), Dr L M H x d ∧ Dr L' M' H y e ∧ SeqAt.shaped d = true ∧ SeqAt.shaped e = true ∧ Q (.bl (PyData.eqv d e)) H
theorem op_eqDr {X : Cx} (hu : X.A.units + 64 < cLine) : OpR X (compareOp .Eq) rEqDr := by
  intro pins s σ H x y v u Q I rx ry h
  obtain ⟨d, e, L, L', M, M', hd, he, sd, se, q⟩ := h
  obtain ⟨as, r1, _⟩ := Dr.reads I.hok hd rx
  obtain ⟨bs, r2, _⟩ := Dr.reads I.hok he ry
  exact SeqAt.compareEq_shaped r1 r2 sd se hu ⟨.bl _, H, I, rfl, q⟩
def rEqNil : R2 := fun x y H Q => ∃ a b, x = .ref a ∧ y = .ref b ∧ H a = some (.dK []) ∧ H b = some (.dK []) ∧ Q (.bl true) H
theorem op_eqNil {X : Cx} (hu : X.A.units < cLine) : OpR X (compareOp .Eq) rEqNil := by
  intro pins s σ H x y v u Q I rx ry h
  obtain ⟨a, b, rfl, rfl, ha, hb, q⟩ := h
  obtain rfl : v = Value.ref a := rx
  obtain rfl : u = Value.ref b := ry
  obtain ⟨_, na, va, ka, da⟩ := dk_of I.hok ha
  obtain ⟨_, nb, vb, kb, db⟩ := dk_of I.hok hb
  cases ka
  cases kb
  exact PySem.W.keq_eq (r := true) na nb da db hu (fun _ => .nil) ⟨.bl true, H, I, rfl, q⟩
/-- data of any kind but dicts, or two empty dicts -/
theorem op_eqAny {X : Cx} (hu : X.A.units + 64 < cLine) : OpR X (compareOp .Eq) (fun x y H Q => rEqDr x y H Q ∨ rEqNil x y H Q) := op_either (op_eqDr hu) (op_eqNil (Nat.lt_of_le_of_lt (Nat.le_add_right _ 64) hu))
/-- t + u of tuples that are tracked: a tuple of both stands then, new or one of the two -/
def rCatU : R2 := fun x y H Q => ∃ a b xs ys, x = .ref a ∧ y = .ref b ∧ H a = some (.tup xs) ∧ H b = some (.tup ys) ∧ xs.length + ys.length ≤ sizeLine ∧ ∀ t H', Same H H' → H' t = some (.tup (xs ++ ys)) → (H t = none ∨ t = a ∨ t = b) → Q (.ref t) H'
theorem op_catU {X : Cx} : OpR X (binaryOp .Add) rCatU := by
  intro pins s σ H x y v u Q I rx ry h
  obtain ⟨a, b, xs, ys, rfl, rfl, ha, hb, hz, k⟩ := h
  refine op_catA pins s σ H _ _ v u Q I rx ry ⟨a, b, xs, ys, rfl, rfl, SqT.of ha, SqT.of hb, hz, fun e => ?_, fun _ e => ?_, fun _ _ p hp => k p _ (same_new hp) upd_same (.inl hp)⟩
  · subst e; exact k b H (Same.refl _) hb (.inr (.inr rfl))
  · subst e; exact k a H (Same.refl _) (by rw [List.append_nil]; exact ha) (.inr (.inl rfl))
/-- t[lo:hi] of a tracked tuple -/
def rSlU : V → Option Int → Option Int → Hp → VK → Prop := fun x lo hi H Q => ∃ a xs, x = .ref a ∧ H a = some (.tup xs) ∧ ∀ t H', Same H H' → H' t = some (.tup (cutV xs lo hi)) → (H t = none ∨ t = a) → Q (.ref t) H'
theorem cutV_whole {xs : List V} {lo hi : Option Int} (h : HT.sIx xs.length 0 lo = 0 ∧ HT.sIx xs.length xs.length hi = xs.length) : cutV xs lo hi = xs := by
  unfold cutV
  rw [h.1, h.2]
  simp
theorem sl_tupU {X : Cx} : SlR X rSlU := by
  intro pins s σ H x v vl vu lo hi sl Q I rx hs pl pu h
  obtain ⟨a, xs, rfl, ha, k⟩ := h
  exact sl_tupA pins s σ H _ v vl vu lo hi sl Q I rx hs pl pu ⟨a, xs, rfl, SqT.of ha, fun z => k a H (Same.refl _) (by rw [cutV_whole z]; exact ha) (.inr rfl), fun _ p hp => k p _ (same_new hp) upd_same (.inl hp)⟩
/-- a promise that is never asked for -/
theorem FnG.void {P : Program} {w : World} {K : PySem.W.Frag} {mg : Str → Option Value} {base : Heap} {CX : CXT} {k : Nat} {f : Addr} {fd : FuncData} {ps : List Str} : FnG P w K mg base CX k f fd ps (fun _ _ _ _ => False) :=
  ⟨fun _ _ _ _ h => h.elim, fun _ _ _ _ _ _ _ _ _ _ _ _ _ _ h => h.elim⟩
/-- a def that calls itself: by the depth -/
theorem fnG_rec {P : Program} {w : World} {K : PySem.W.Frag} {mg : Str → Option Value} {base : Heap} {k : Nat} {x : Str} {f : Addr} {fd : FuncData} {ps : List Str} {sp : Nat → Sp}
    (hm : mg x = some (.ref f)) (kp : PySem.W.keepIn K (.ref f) = true) (hb : Binds K fd ps [])
    (step : ∀ n, CalG P w K mg base (k + n) x (fun vs H Q E => ∃ m, n = m + 1 ∧ sp m vs H Q E) → FnG P w K mg base (CXe P w) (k + n + 1) f fd ps (sp n)) : ∀ n, FnG P w K mg base (CXe P w) (k + n + 1) f fd ps (sp n) := by
  intro n
  induction n with
  | zero => 
    refine step 0 ⟨f, fd, ps, FnG.imp FnG.void ?_, hm, kp, hb⟩
    rintro vs H Q E ⟨m, e, _⟩
    exact absurd e (by omega)
  | succ n ih =>
    refine step (n + 1) ⟨f, fd, ps, FnG.imp ih ?_, hm, kp, hb⟩
    rintro vs H Q E ⟨m, e, h⟩
    obtain rfl : n = m := by omega
    exact h
theorem calG_rec {P : Program} {w : World} {K : PySem.W.Frag} {mg : Str → Option Value} {base : Heap} {k : Nat} {x : Str} {f : Addr} {fd : FuncData} {ps : List Str} {sp : Nat → Sp}
    (hm : mg x = some (.ref f)) (kp : PySem.W.keepIn K (.ref f) = true) (hb : Binds K fd ps [])
    (step : ∀ n, CalG P w K mg base (k + n) x (fun vs H Q E => ∃ m, n = m + 1 ∧ sp m vs H Q E) → FnG P w K mg base (CXe P w) (k + n + 1) f fd ps (sp n)) (n : Nat) : CalG P w K mg base (k + n + 1) x (sp n) :=
  ⟨f, fd, ps, fnG_rec hm kp hb step n, hm, kp, hb⟩
/-- called with any depth up to N -/
theorem calG_upto {P : Program} {w : World} {K : PySem.W.Frag} {mg : Str → Option Value} {base : Heap} {k : Nat} {x : Str} {f : Addr} {fd : FuncData} {ps : List Str} {sp : Nat → Sp}
    (hm : mg x = some (.ref f)) (kp : PySem.W.keepIn K (.ref f) = true) (hb : Binds K fd ps [])
    (step : ∀ n, CalG P w K mg base (k + n) x (fun vs H Q E => ∃ m, n = m + 1 ∧ sp m vs H Q E) → FnG P w K mg base (CXe P w) (k + n + 1) f fd ps (sp n)) (N : Nat) : CalG P w K mg base (k + N + 1) x (fun vs H Q E => ∃ n, n ≤ N ∧ sp n vs H Q E) := by
  refine ⟨f, fd, ps, ⟨?_, ?_⟩, hm, kp, hb⟩
  · rintro vs H Q E ⟨n, _, h⟩
    exact (fnG_rec hm kp hb step n).len vs H Q E h
  · rintro A o s H a us vs Q E hg hr he hb' hv ⟨n, hn, hs⟩
    exact (fnG_rec hm kp hb step n).run A o s H a us vs Q E hg (hr.mono (by omega)) he hb' hv hs
end L2
end
section
set_option Elab.async false
set_option linter.all false
set_option maxRecDepth 100000
set_option maxHeartbeats 2000000
/-! # d.get(k, x) of a written dict; stars in a list; sorted ints. -/
namespace L2
open PySem PySem.Spec PyProof.Rows
/-- a written dict stands at a -/
structure KIsD (K : PySem.W.Frag) (w : World) (a : Addr) : Prop where
  ex : ∃ es n, K.lookup a = some ⟨.type "dict", none, .dict es n, #[]⟩ ∧ PySem.W.KeysLit w.params es.toList ∧ (a == sysModules) = false
theorem KD.is {K : PySem.W.Frag} {w : World} {a : Addr} {x : Str} {r : Option Value} (h : KD K w a x r) : KIsD K w a := by
  obtain ⟨es, n, h1, h2, h3, _⟩ := h.ex
  exact ⟨es, n, h1, h2, h3⟩
def tKGet2 (K : PySem.W.Frag) (w : World) (td ty tx : TE) : TE := fun σ H Q => td σ H fun x H1 => ∃ a, x = .ref a ∧ KIsD K w a ∧ ty σ H1 fun y H2 => tx σ H2 fun z H3 => ∃ (k : Str) (r : Option Value) (v : V), y = .str k ∧ KD K w a k r ∧ (r = none → v = z) ∧ (∀ u, r = some u → RelV v u) ∧ Q v H3
section
variable {X : Cx} {o e f : Expr} {apos cpos : Pos} {td ty tx : TE}
theorem pe_kget2 (ho : PE X o td) (he : PE X e ty) (hf : PE X f tx) (m : M2 X o "get" apos e f cpos) : PE X (.Call (.Attribute o "get" apos) [e, f] [] cpos) (tKGet2 X.K X.w td ty tx) := by
  refine ⟨fun pins s σ H Q I h => ?_⟩
  refine wpAny_Call_method m.base m.few m.line PySem.F.plainAttrs_dict PySem.F.slot_dict_get PySem.F.type_dict_get (thn (ho.run pins s σ H _ I h) fun u s1 ⟨x, H1, I1, rx, a, ex, d, q1⟩ => ?_)
  subst ex
  obtain rfl : u = Value.ref a := rx
  obtain ⟨es, n, hl, hk, low⟩ := d.ex
  refine ⟨(PySem.W.mapOf_K (prog := X.prog) (w := X.w) I1.kIn hl hk).typeIs, fun b q => by cases q; exact ⟨_, I1.kIn _ _ hl, rfl⟩, ?_⟩
  rw [m.trees]
  refine Calls.callWith_builtin rfl (Calls.evalArgs_plain (Calls.spliced_cons (thn (he.run pins s1 σ H1 _ I1 q1) fun iv s2 ⟨y, H2, I2, ry, q2⟩ =>
    Calls.spliced_cons (thn (hf.run pins s2 σ H2 _ I2 q2) fun fv s3 ⟨z, H3, I3, rz, k, r, v, ey, kd, h1, h2, q3⟩ => Calls.spliced_nil ?_))))
  subst ey
  obtain ⟨t, rfl⟩ := (show ∃ t, iv = Value.str k t from ry)
  obtain ⟨es', n', hl', hk', low', hn⟩ := kd.ex
  have dm := PySem.W.mapOf_K (prog := X.prog) (w := X.w) I3.kIn hl' hk'
  refine call_meetsIn PySem.F.slot_dict_get dm.typeIs PySem.F.entry_dict_get (PySem.F.args_dict_get_3 _ _ _) (meets_dict_get_default (strKind X.prog X.w) a (strKind_is X.prog X.w k t) low' fv) ⟨_, dm, ?_⟩
  rw [PySem.W.find_K hl' hn]
  cases r with
  | none =>
    rw [h1 rfl] at q3
    exact ⟨z, H3, I3.tok _, rz, q3⟩
  | some u => exact ⟨v, H3, I3.tok _, h2 u rfl, q3⟩
end
end L2
end
section
set_option Elab.async false
set_option linter.all false
set_option maxRecDepth 100000
set_option maxHeartbeats 2000000
/-! # What is shown of data, bounded -/
namespace L2
open PySem PySem.Spec PyProof.Rows
/-- d can be shown, so deep and so long at most -/
structure Sh (d : PyData) (n l : Nat) : Prop where
  ok : d.showable = true
  deep : d.depth ≤ n
  len : d.shown.length ≤ l
theorem Sh.mono {d : PyData} {n l n' l' : Nat} (h : Sh d n l) (h1 : n ≤ n') (h2 : l ≤ l') : Sh d n' l' := ⟨h.ok, Nat.le_trans h.deep h1, Nat.le_trans h.len h2⟩
theorem sh_all {n : Nat} : ∀ {ds : List PyData}, (∀ d ∈ ds, d.showable = true ∧ d.depth ≤ n) → PyData.showableAll ds = true ∧ PyData.depthAll ds ≤ n
  | [], _ => ⟨rfl, Nat.zero_le _⟩
  | d :: r, h => by
    obtain ⟨a, b⟩ := sh_all (ds := r) fun x hx => h x (List.mem_cons_of_mem _ hx)
    obtain ⟨c, e⟩ := h d (List.mem_cons_self ..)
    constructor
    · simp only [PyData.showableAll, a, c, Bool.and_self]
    · simp only [PyData.depthAll]
      omega
theorem sum_shown {l : Nat} : ∀ {ds : List PyData}, (∀ d ∈ ds, d.shown.length ≤ l) → (ds.map fun d => d.shown.length + 2).sum ≤ ds.length * (l + 2)
  | [], _ => by simp
  | d :: r, h => by
    have a := sum_shown (ds := r) fun x hx => h x (List.mem_cons_of_mem _ hx)
    have b := h d (List.mem_cons_self ..)
    simp only [List.map_cons, List.sum_cons, List.length_cons, Nat.succ_mul]
    omega
theorem piled_shown (d : PyData) (r : List PyData) : piled (PyData.shownAll (d :: r)) = ((d :: r).map fun d => d.shown.length + 2).sum := by
  unfold piled
  rw [PyProof.Rows.shownAll_eq_map, List.map_map]
  rfl
theorem tuple_len (ds : List PyData) : (PyData.tuple ds).shown.length ≤ (ds.map fun d => d.shown.length + 2).sum + 3 := by
  rw [PyData.shown_tuple, strLen_append, strLen_append]
  have x : ("(" : Str).length = 1 := rfl
  have y : ((if (ds.length == 1) = true then ",)" else ")" : String) : Str).length ≤ 2 := by
    split <;> decide +kernel
  rw [x]
  cases ds with
  | nil =>
    have : (Str.join ", " (PyData.shownAll [])).length = 0 := rfl
    rw [this]
    simp only [List.map_nil, List.sum_nil]
    omega
  | cons d r =>
    have j := join_length_add (PyData.shownAll (d :: r)) (by simp [PyData.shownAll])
    rw [piled_shown] at j
    omega
theorem list_len (ds : List PyData) : (PyData.list ds).shown.length ≤ (ds.map fun d => d.shown.length + 2).sum + 3 := by
  rw [PyData.shown_list, strLen_append, strLen_append]
  have x : ("[" : Str).length = 1 := rfl
  have y : ("]" : Str).length = 1 := rfl
  rw [x, y]
  cases ds with
  | nil =>
    have : (Str.join ", " (PyData.shownAll [])).length = 0 := rfl
    rw [this]
    simp only [List.map_nil, List.sum_nil]
    omega
  | cons d r =>
    have j := join_length_add (PyData.shownAll (d :: r)) (by simp [PyData.shownAll])
    rw [piled_shown] at j
    omega
theorem Sh.tuple {ds : List PyData} {n l m : Nat} (h : ∀ d ∈ ds, Sh d n l) (hm : ds.length ≤ m) : Sh (.tuple ds) (n + 1) (m * (l + 2) + 3) := by
  obtain ⟨a, b⟩ := sh_all (n := n) (ds := ds) fun d hd => ⟨(h d hd).ok, (h d hd).deep⟩
  refine ⟨a, ?_, ?_⟩
  · simp only [PyData.depth]; omega
  · have c := tuple_len ds
    have d := sum_shown (l := l) (ds := ds) fun d hd => (h d hd).len
    have e : ds.length * (l + 2) ≤ m * (l + 2) := Nat.mul_le_mul_right _ hm
    omega
theorem Sh.list {ds : List PyData} {n l m : Nat} (h : ∀ d ∈ ds, Sh d n l) (hm : ds.length ≤ m) : Sh (.list ds) (n + 1) (m * (l + 2) + 3) := by
  obtain ⟨a, b⟩ := sh_all (n := n) (ds := ds) fun d hd => ⟨(h d hd).ok, (h d hd).deep⟩
  refine ⟨a, ?_, ?_⟩
  · simp only [PyData.depth]; omega
  · have c := list_len ds
    have d := sum_shown (l := l) (ds := ds) fun d hd => (h d hd).len
    have e : ds.length * (l + 2) ≤ m * (l + 2) := Nat.mul_le_mul_right _ hm
    omega
theorem small_int : ∀ n : Fin 1000, (PyData.int (n.val : Int)).shown.length ≤ 3 ∧ (PyData.int (n.val : Int)).showable = true := by decide +kernel
theorem Sh.int {i : Int} (h0 : 0 ≤ i) (h1 : i < 1000) : Sh (.int i) 0 3 := by
  obtain ⟨k, rfl⟩ := Int.eq_ofNat_of_zero_le h0
  obtain ⟨a, b⟩ := small_int ⟨k, by omega⟩
  exact ⟨b, Nat.le_refl _, a⟩
theorem Sh.ints {xs : List Int} {m : Nat} (h : ∀ x ∈ xs, 0 ≤ x ∧ x < 1000) (hm : xs.length ≤ m) : Sh (.tuple (xs.map .int)) 1 (m * 5 + 3) := by
  refine Sh.tuple (n := 0) (l := 3) (fun d hd => ?_) (by simpa using hm)
  obtain ⟨x, hx, rfl⟩ := List.mem_map.mp hd
  exact Sh.int (h x hx).1 (h x hx).2
theorem Sh.non : Sh .none 0 4 := ⟨rfl, Nat.le_refl _, by decide +kernel⟩
theorem Sh.fit {d : PyData} {n l : Nat} (h : Sh d n l) (h1 : n ≤ 60) (h2 : l ≤ 1000000) : d.showable = true ∧ d.depth ≤ 60 ∧ d.shown.length ≤ sizeLine :=
  ⟨h.ok, Nat.le_trans h.deep h1, Nat.le_trans h.len (Nat.le_trans h2 (by decide +kernel))⟩
end L2
end
section
set_option Elab.async false
set_option linter.all false
set_option maxRecDepth 100000
set_option maxHeartbeats 2000000
/-! # list(text) -/
namespace L2
open PySem PySem.Spec PyProof.Rows
def signsV (z : Str) : List V := z.cps.toList.map fun c => V.str ⟨#[c]⟩
theorem call_list_text {X : Cx} (hcalm : X.calm = true) : CallR X (.type "list") (fun xs H Q => ∃ z : Str, xs = [.str z] ∧ z.length ≤ 16000000 ∧ ∀ l, H l = none → Q (.ref l) (upd H l (.lst (signsV z)))) := by
  intro pins s σ H xs us Q I r h
  obtain ⟨z, rfl, hz, q⟩ := h
  obtain ⟨u, rfl, t, rfl⟩ := vals1 r
  have hz2 : z.cps.size ≤ 16000000 := hz
  have hle : z.cps.size ≤ sizeLine := Nat.le_trans hz2 (by decide +kernel)
  refine call_list_str (I.ok.hd hcalm) z t (fun h' tk acc' c' kp e it => ?_) hle
  obtain ⟨hsz, hit⟩ := it
  have hv : Vals ((List.range acc'.toList.length).map fun j => V.str ⟨#[z.cps.getD j 0]⟩) acc'.toList := vals_of_get _ _ fun j u hj => by
    rw [Array.getElem?_toList] at hj
    obtain ⟨c, tk2, hc, rfl⟩ := hit j u hj
    refine ⟨tk2, ?_⟩
    have hlt : j < z.cps.size := (Array.getElem?_eq_some_iff.mp hc).1
    rw [Array.getElem?_eq_getElem hlt] at hc
    simp [Array.getD, hlt, Option.some.inj hc]
  have he : ((List.range acc'.toList.length).map fun j => V.str ⟨#[z.cps.getD j 0]⟩) = signsV z := by
    unfold signsV
    apply List.ext_getElem?
    intro j
    rw [List.getElem?_map, List.getElem?_map, Array.length_toList, hsz]
    by_cases hj : j < z.cps.size
    · rw [List.getElem?_range hj, Array.getElem?_toList, Array.getElem?_eq_getElem hj]
      simp [Array.getD, hj]
    · rw [List.getElem?_eq_none (by simpa using hj), Array.getElem?_toList, Array.getElem?_eq_none (by simpa using hj)]
      rfl
  rw [he] at hv
  have hl : (signsV z).length ≤ sizeLine := by
    unfold signsV
    rw [List.length_map, Array.length_toList]
    exact Nat.le_trans hz2 (by decide +kernel)
  exact ⟨.ref s.heap.objs.size, _, I.laid (t' := tk) kp (Nat.le_refl _) (show ObjOk X.prog X.w _ h' _ (.lst (signsV z)) from ⟨hl, acc'.toList, c', hv, e⟩), rfl, q _ (I.hok.fresh (Nat.le_refl _))⟩
end L2
end
section
set_option Elab.async false
set_option linter.all false
set_option maxRecDepth 100000
set_option maxHeartbeats 2000000
/-! # a try with several clauses 'except X as e' -/
namespace L2
open PySem PySem.Spec PyProof.Rows
/-- the clauses of a try, and what they want of an exception of the body -/
inductive Clauses (X : Cx) (Wout : WX) : List ExceptHandler → (Ends → WX) → Prop
  | nil : Clauses X Wout [] fun _ => Wout
  | cons {x n : Str} {c : Value} {i : Nat} {suite : List Stmt} {b₀ : Stmt} {np pos : Pos} {ts : Addr → Value → Option Addr → TS} {hds : List ExceptHandler} {W : Ends → WX}
      (hi : X.N[i]? = some n) (hl : X.env.kindOf n = some .local) (hc : Names X x c)
      (hs : ∀ (a : Addr) (oe : Obj) (cls : Value) (d : Option Addr) (pn : List (Addr × Obj)), Zc cls d oe → (∃ vs, oe.data = .fields vs) → PSs (X.suite a ((a, oe) :: pn)) (b₀ :: suite) (ts a cls d))
      (r : Clauses X Wout hds W) : Clauses X Wout (.ExceptHandler (some (.Name x np)) (some n) (b₀ :: suite) pos :: hds) fun D => wAs X.K c i ts (W D) D
section
variable {X : Cx} {Wout : WX} {a : Addr} {B : Heap} {sI s' : Shared} {pins : List (Addr × Obj)} {cls : Value} {d : Option Addr}
/-- no frame is an exception's object -/
theorem notFrame {h : Heap} {o : Obj} {vs : Array Value} (ff : h.FunFrames B (X.env :: X.outer)) (e : h.get? a = some o) (dd : o.data = .fields vs) : a ∉ frs (X.env :: X.outer) := fun hm => by
  obtain ⟨_, o', e', nf⟩ := ff.mem hm
  rw [e] at e'
  cases e'
  exact nf _ dd
/-- the clauses, one behind another, where the exception has landed -/
theorem cls_land (hs : X.stack = X.env :: X.outer) (hf : X.env.frame = some X.env.locals) (hN : X.N.Nodup) (tk : Takes X Wout) {D : Ends} {σ : St} {H : Hp} (J : Inv X pins σ H sI)
    (nb : ∀ b o, sI.heap.get? b = some o → b ∉ frs X.stack → B.get? b = some o) (na : H a = none) (os : s'.os = sI.os) (ag : AllBare s'.gens) :
    ∀ {hds : List ExceptHandler} {W : Ends → WX}, Clauses X Wout hds W → ∀ {h : Heap}, HandSPX.FlyingZ B (X.env :: X.outer) a (Zc cls d) h → sI.heap.UpToSlots h → W D cls d σ H →
      wpAny (model X.prog X.w) X.A (handleBy (.ref a) X.env hds) (SP X pins D) X.xe { s' with heap := h } := by
  have ok := J.ok
  have hfr : X.A.frames = some (X.env :: X.outer) := by rw [ok.frames, hs]
  intro hds W q
  induction q with
  | nil =>
    intro h fl up wish
    refine wpAny_handleBy_nil ?_
    obtain ⟨k1, k2, k3, oe, vs, T, oT, ts', he, hz, hd, h1, hr⟩ := id fl
    have go : wpAny (model X.prog X.w) X.A (setFlight (.ref a) X.env.frame) (fun _ s4 => wpAny (model X.prog X.w) X.A (throw (.ref a) : Sem Flow) (SP X pins D) X.xe s4) X.xe { s' with heap := h } := by
      rw [hf]
      refine HandSPX.setFlight_upZ fl fun h4 hh4 up4 => wpAny_throw (tk _ _ ?_)
      exact ⟨a, B, sI, pins, σ, H, cls, d, rfl, J, nb, up.trans up4, .inr (.inr (by rw [hs]; exact hh4)), na, os, ag, wish⟩
    unfold PySem.passOn
    refine wpAny_bind (wpAny_field he hd h1 ?_)
    rw [if_neg (show ¬ ((Value.ref T == Value.none) = true) from by simp)]
    first
      | exact wpAny_bind (wpAny_pure (wpAny_bind go))
      | exact wpAny_bind go
  | @cons x n c i suite b₀ np pos ts hds W hi hl hc hsu r ih =>
    intro h fl up wish
    obtain ⟨b, hb, yes, no⟩ := wish
    have land : ∀ {h4 : Heap}, HandSPX.FlyingZ B (X.env :: X.outer) a (Zc cls d) h4 → sI.heap.UpToSlots h4 →
        ∃ oe vs, h4.get? a = some oe ∧ Zc cls d oe ∧ oe.data = .fields vs ∧ Inv X pins σ H { s' with heap := h4 } ∧ Inv (X.suite a ((a, oe) :: (X.pn ++ pins))) [] σ H { s' with heap := h4 } := by
      intro h4 f4 u4
      have J4 : Inv X pins σ H { s' with heap := h4 } := J.landed nb f4.1 u4 os ag
      obtain ⟨oe, vs, e, hz, hd⟩ := f4.there
      have nf := notFrame (X := X) f4.2.2.1 e hd
      refine ⟨oe, vs, e, hz, hd, J4, J4.suite e hd na (fun z => nf ?_) fun hm => ?_⟩
      · exact List.mem_filterMap.mpr ⟨X.env, List.mem_cons_self, by rw [hf, z]⟩
      · obtain ⟨v, hv, q⟩ := List.mem_filterMap.mp hm
        exact nf (List.mem_filterMap.mpr ⟨v, List.mem_cons_of_mem _ hv, q⟩)
    obtain ⟨oe, vs, he, hz, hd, J3, S3⟩ := land fl up
    refine wpAny_handleBy_cons (codeAny_handlers_test ?_) (by intro q; cases q)
    have look : PySem.W.Looks (model X.prog X.w) h (typeOf (.ref a)) cls := fun A Q E s k q => wpAny_typeOf_ref (k _ _ he) (by rw [hz.1]; exact q)
    have match_ := PySem.W.exm_one (M := model X.prog X.w) J3.kIn look hb
    have named : ∀ {Q : Value → Shared → Prop} {E : Value → Shared → Prop}, Q c { s' with heap := h } → wpAny (model X.prog X.w) (X.A.mark (some (.ref a))) (eval (.Name x np) X.env) Q E { s' with heap := h } := fun {Q E} q => by
      obtain ⟨hg, nd, hm | ⟨hm, hv, hne⟩⟩ := hc
      · exact ld_glob (X := X.suite a ((a, oe) :: (X.pn ++ pins))) S3 hg hm q nd
      · exact ld_blt (X := X.suite a ((a, oe) :: (X.pn ++ pins))) S3 hg hm hv q hne nd
    refine named (match_.here ?_)
    cases b with
    | false => exact ih fl up (no rfl)
    | true =>
      refine codeAny_handlers_suite_as ?_
      refine HandSPX.lands_againZ fl fun h4 fl4 up4 => ?_
      obtain ⟨oe4, vs4, he4, hz4, hd4, J4, S4⟩ := land fl4 (up.trans up4)
      refine store_ok (X := X.suite a ((a, oe4) :: (X.pn ++ pins))) (v := .ref a) S4 hN hi (.inl hl) rfl (fun s5 S5 => ?_) (.inr hl)
      refine wpAny_mono ((hsu a oe4 cls d (X.pn ++ pins) hz4 ⟨_, hd4⟩).run [] s5 _ H _ S5 (yes rfl a na)) (fun f s6 out => ?_) (fun _ _ z => False.elim z)
      have drop : ∀ {σ6 : St} {H6 : Hp} {Q : Shared → Prop}, Inv (X.suite a ((a, oe4) :: (X.pn ++ pins))) [] σ6 H6 s6 → (∀ s7, Inv X pins (σ6.set i none) H6 s7 → Q s7) →
          wpAny (model X.prog X.w) X.A (do bindName X.env n .none; unbindBehindTheSuite X.env n pos) (fun _ s7 => Q s7) X.xe s6 := fun {σ6 H6 Q} S6 k => gone_ok (S6.unsuite ok) hN hi hl k
      cases f with
      | ret u =>
        obtain ⟨v6, σ6, H6, S6, r6, q6⟩ := out
        exact drop S6 fun s7 J7 => ⟨_, _, _, J7, r6, q6⟩
      | next =>
        obtain ⟨σ6, H6, S6, q6⟩ := out
        exact drop S6 fun s7 J7 => ⟨_, _, J7, q6⟩
      | brk =>
        obtain ⟨σ6, H6, S6, q6⟩ := out
        exact drop S6 fun s7 J7 => ⟨_, _, J7, q6⟩
      | cont =>
        obtain ⟨σ6, H6, S6, q6⟩ := out
        exact drop S6 fun s7 J7 => ⟨_, _, J7, q6⟩
end
section
variable {X : Cx} {body : List Stmt} {h₀ : ExceptHandler} {hds : List ExceptHandler} {pos : Pos} {tb : WX → TS} {Wout : WX} {W : Ends → WX}
theorem ps_try_cls (hs : X.stack = X.env :: X.outer) (hf : X.env.frame = some X.env.locals) (hN : X.N.Nodup) (tk : Takes X Wout) (q : Clauses X Wout (h₀ :: hds) W)
    (hb : ∀ (W' : WX) (pn : List (Addr × Obj)) (xe : Value → Shared → Prop), Takes (X.tr pn xe) W' → PassesOwn (model X.prog X.w) X.A X.env xe → PSs (X.tr pn xe) body (tb W')) :
    PS X (.Try body (h₀ :: hds) [] [] pos) (fun D σ H => tb (W D) D σ H) := by
  refine ⟨fun pins s σ H D I h => ?_⟩
  have hfr : X.A.frames = some (X.env :: X.outer) := by rw [I.ok.frames, hs]
  refine wpAny_Try_except ?_
  refine wpAny_mono ((hb (W D) (X.pn ++ pins) (fun e s₁ => wpAny (model X.prog X.w) X.A (noteFrame e X.env) (fun _ s₂ => wpAny (model X.prog X.w) X.A (setFlight e none) (fun _ s₃ =>
    wpAny (model X.prog X.w) X.A (handleBy e X.env (h₀ :: hds)) (SP X pins D) X.xe s₃) X.xe s₂) X.xe s₁) (fun u s' xx => ?_) PassesOwn.looking).run [] s σ H D (I.toTry _) h) (fun f s1 out => ?_) (fun e s1 z => z)
  · obtain ⟨a, B, sI, pins', σ', H', cls, d, rfl, J, nb, up, sky, na, os, ag, wish⟩ := xx
    refine Sky.land Zc.steady hfr hf (by rw [← hs]; exact sky) fun h3 fl3 up3 => ?_
    exact cls_land hs hf hN tk (J.ofTry I.ok) nb na os ag q fl3 (up.trans up3) wish
  · cases f with
    | ret u =>
      obtain ⟨v, σ', H', J, r, z⟩ := out
      exact ⟨v, σ', H', J.ofTry I.ok, r, z⟩
    | next =>
      obtain ⟨σ', H', J, z⟩ := out
      exact wpAny_execs_nil ⟨σ', H', J.ofTry I.ok, z⟩
    | brk =>
      obtain ⟨σ', H', J, z⟩ := out
      exact ⟨σ', H', J.ofTry I.ok, z⟩
    | cont =>
      obtain ⟨σ', H', J, z⟩ := out
      exact ⟨σ', H', J.ofTry I.ok, z⟩
end
end L2
end
section
set_option Elab.async false
set_option linter.all false
set_option maxRecDepth 100000
set_option maxHeartbeats 2000000
/-! # {} != {} -/
namespace L2
open PySem PySem.Spec PyProof.Rows
section
variable {X : Cx}
def rNeE : R2 := fun x y H Q => ∃ a b, x = .ref a ∧ y = .ref b ∧ H a = some (.dK []) ∧ H b = some (.dK []) ∧ Q (.bl false) H
theorem op_neE (hu : X.A.units + 64 < cLine) : OpR X (compareOp .NotEq) rNeE := by
  intro pins s σ H x y v u Q I rx ry h
  obtain ⟨a, b, rfl, rfl, ha, hb, q⟩ := h
  cases (show v = Value.ref a from rx)
  cases (show u = Value.ref b from ry)
  obtain ⟨_, ya, va, ra, da⟩ := (show ObjOk X.prog X.w H s.heap a (.dK []) from I.hok a _ ha)
  obtain ⟨_, yb, vb, rb, db⟩ := (show ObjOk X.prog X.w H s.heap b (.dK []) from I.hok b _ hb)
  show wpAny (model X.prog X.w) X.A (richCompare .NotEq (.ref a) (.ref b)) (EP X pins σ Q) X.xe s
  have hn : va = [] := by cases ra; rfl
  have hm : vb = [] := by cases rb; rfl
  subst hn hm
  refine wpAny_richCompare_same_room (op := .NotEq) da.typeIs db.typeIs PySem.F.slot_dict_ne (wpAny_call_entry PySem.F.slot_dict_ne da.typeIs PySem.F.entry_dict_ne ?_ (PySem.F.args_dict_ne_2 _ _)) (by omega)
  show wpAny _ _ (Builtin.Dict.dictSlotArgs "__ne__" ⟨[.ref a, .ref b], []⟩ >>= _) _ _ s
  refine wpAny_bind ?_
  unfold Builtin.Dict.dictSlotArgs
  refine wpAny_bind (wpAny_notOrdered_dict da.typeIs ?_)
  show wpAny _ _ (pure (Value.ref a, Value.ref b)) _ _ s
  refine wpAny_pure ?_
  refine wpAny_bind (wpAny_isInstance (T := "dict") db.typeIs PySem.F.sub_dict_dict ?_)
  simp only [Bool.not_true, Bool.false_eq_true, if_false]
  refine wpAny_bind (wpAny_pure (wpAny_bind (wpAny_pure ?_)))
  refine wpAny_bind (PySem.W.samePairsP ya yb da db (r := true) (fun _ => .nil) ?_)
  refine wpAny_pure ⟨_, rfl, fun x => (nomatch x), ?_⟩
  exact ⟨.bl false, H, I, rfl, q⟩
end
end L2
end
section
set_option Elab.async false
set_option linter.all false
set_option maxRecDepth 100000
set_option maxHeartbeats 2000000
/-! # a tuple, read from behind: t[::-1] -/
namespace HT
open PySem PySem.Spec PyProof.Rows
section
variable {prog : Program} {w : World} {A : Around} {E : Value → Shared → Prop} {s : Shared}
theorem adjust_rev (n : Nat) : Builtin.Slice.sliceAdjust none none (-1) (n : Int) = ((n : Int) - 1, -1) := by
  unfold Builtin.Slice.sliceAdjust
  rfl
theorem places_rev (n : Nat) : Builtin.Slice.slicePlaces ((n : Int) - 1) (-1) (-1) = n := by
  unfold Builtin.Slice.slicePlaces
  have h1 : ¬ ((-1 : Int) > 0) := by omega
  simp only [h1, if_false]
  have e : (-(-1 : Int)) = 1 := by decide
  rw [e, Int.ediv_one]
  split <;> omega
theorem fm_congr {α β : Type} {f g : α → Option β} : ∀ {l : List α}, (∀ x ∈ l, f x = g x) → l.filterMap f = l.filterMap g
  | [], _ => rfl
  | x :: r, h => by rw [List.filterMap_cons, List.filterMap_cons, h x (List.mem_cons_self ..), fm_congr fun y hy => h y (List.mem_cons_of_mem _ hy)]
theorem pick_rev (xs : Array Value) : ((List.range xs.size).filterMap fun (k : Nat) => xs[(((xs.size : Int) - 1) + (k : Int) * (-1)).toNat]?).toArray = xs.toList.reverse.toArray := by
  have e : (List.range xs.size).filterMap (fun (k : Nat) => xs[(((xs.size : Int) - 1) + (k : Int) * (-1)).toNat]?) = ((List.range xs.size).map fun k => xs.size - 1 - k).filterMap (xs[·]?) := by
    rw [List.filterMap_map]
    refine fm_congr fun k hk => ?_
    have := List.mem_range.mp hk
    have e2 : (((xs.size : Int) - 1) + (k : Int) * (-1)).toNat = xs.size - 1 - k := by omega
    show xs[_]? = xs[_]?
    rw [e2]
  rw [e, PySem.W.krv_range, List.filterMap_reverse, PySem.W.krv_all]
theorem sliceApplied_rev {sl : Addr} {vl vu vs : Value} {n : Nat} {Q : Int × Int × Nat → Shared → Prop} (hs : s.heap.IsSliceOf sl vl vu vs) (pl : IsPart vl none) (pu : IsPart vu none) (ps : IsPart vs (some (-1)))
    (h : Q ((n : Int) - 1, -1, n) s) : wpAny (model prog w) A (Builtin.Slice.sliceApplied (.ref sl) (pure (n : Int))) Q E s := by
  obtain ⟨os, hos, hcs, hds⟩ := id hs
  unfold Builtin.Slice.sliceApplied Builtin.Slice.sliceFields
  refine wpAny_bind (wpAny_bind (wpAny_field hos hds (x := vl) rfl (wpAny_bind (wpAny_field hos hds (x := vu) rfl (wpAny_bind (wpAny_field hos hds (x := vs) rfl (wpAny_pure ?_)))))))
  refine wpAny_bind (slicePart_ ps ?_)
  show wpAny _ _ (if ((-1 : Int) == 0) = true then _ else _) _ _ s
  rw [if_neg (by decide)]
  refine wpAny_bind (slicePart_ pl (wpAny_bind (slicePart_ pu (wpAny_bind (wpAny_pure ?_)))))
  show wpAny _ _ (match Builtin.Slice.sliceAdjust none none (-1) (n : Int) with | (lo, hi) => pure (lo, (-1 : Int), Builtin.Slice.slicePlaces lo hi (-1))) _ _ s
  rw [adjust_rev n]
  show wpAny _ _ (pure ((n : Int) - 1, (-1 : Int), Builtin.Slice.slicePlaces ((n : Int) - 1) (-1) (-1))) _ _ s
  rw [places_rev]
  exact wpAny_pure h
theorem getItem_tuple_rev {t sl : Addr} {items : Array Value} {vl vu vs : Value} {Q : Value → Shared → Prop} (ht : IsTup s.heap t items) (hs : s.heap.IsSliceOf sl vl vu vs) (pl : IsPart vl none) (pu : IsPart vu none) (ps : IsPart vs (some (-1)))
    (h : Q (.ref s.heap.objs.size) { s with heap := s.heap.push { cls := .type "tuple", data := .seq items.toList.reverse.toArray } })
    (hsz : items.size ≤ sizeLine) : wpAny (model prog w) A (getItem (.ref t) (.ref sl)) Q E s := by
  have htake : sizeOk (.seq items.toList.reverse.toArray) := by
    show items.toList.reverse.toArray.size ≤ sizeLine
    rw [List.size_toArray, List.length_reverse, Array.length_toList]
    omega
  obtain ⟨os, hos, hcs, hds⟩ := id hs
  have hTs : s.TypeIs (.ref sl) "slice" := ⟨os, hos, hcs⟩
  unfold getItem
  try with_reducible refine wpAny_holding ?_
  first | refine wpAny_bind (wpAny_pure ?_) | skip
  refine wpAny_bind (wpAny_sequenceKey ht.typeIs (by decide) ?_)
  refine wpAny_bind (wpAny_callSpecial?_slot (name := Str.ofString "__getitem__") ht.typeIs PyProof.Rows.slot_tuple_getitem
    (wpAny_call_entry PyProof.Rows.slot_tuple_getitem ht.typeIs entry_tuple_getitem ?_ (args_tuple_getitem _ _)))
  show wpAny _ _ (Builtin.Tuple.tupleItemsOf (.ref t) >>= _) _ _ s
  refine wpAny_bind (tupleItemsOf_ ht ?_)
  refine wpAny_bind (wpAny_typeOf hTs ?_)
  rw [if_pos (by decide)]
  refine wpAny_bind (sliceApplied_rev hs pl pu ps ?_)
  have hno : ¬ (((items.size : Int) - 1 == 0 && (-1 : Int) == 1 && items.size == items.size) = true) := by
    intro q
    rw [Bool.and_eq_true, Bool.and_eq_true] at q
    exact absurd q.1.2 (by decide)
  show wpAny _ _ (if ((items.size : Int) - 1 == 0 && (-1 : Int) == 1 && items.size == items.size) = true then _ else _) _ _ s
  rw [if_neg hno, pick_rev]
  first
    | exact wpAny_bind (m := Builtin.Tuple.tupleExact _) (wpAny_newObj_type (wpAny_pure ⟨_, rfl, wpAny_pure h⟩) htake)
    | exact wpAny_bind (m := Builtin.Tuple.tupleExact _) (wpAny_newObj_type (wpAny_bind (wpAny_pure (wpAny_pure ⟨_, rfl, wpAny_pure h⟩))) htake)
    | exact wpAny_bind (wpAny_bind (m := Builtin.Tuple.tupleExact _) (wpAny_newObj_type (wpAny_pure (wpAny_pure ⟨_, rfl, wpAny_pure h⟩)) htake))
    | exact wpAny_bind (wpAny_bind (m := Builtin.Tuple.tupleExact _) (wpAny_newObj_type (wpAny_pure ⟨_, rfl, wpAny_pure h⟩) htake))
end
end HT
namespace L2
open PySem PySem.Spec PyProof.Rows
section
variable {X : Cx}
/-- t[::-1] -/
def tRevT (te : TE) : TE := fun σ H Q => te σ H fun x H1 => ∃ a xs, x = .ref a ∧ H1 a = some (.tup xs) ∧ ∀ p, H1 p = none → Q (.ref p) (upd H1 p (.tup xs.reverse))
theorem pe_revT {e : Expr} {te : TE} {k : Nat} {p1 p2 p3 pos : Pos} (he : PE X e te) : PE X (.Subscript e (.Slice none none (some (.UnaryOp .USub (.Constant (.int 1) k p1) p2)) p3) pos) (tRevT te) := by
  refine ⟨fun pins s σ H Q I h => ?_⟩
  refine Subscript_ (thn (he.run pins s σ H _ I h) fun v s1 ⟨x, H1, I1, r1, q1⟩ => ?_)
  obtain ⟨a, xs, ex, hx, q⟩ := q1
  subst ex
  cases r1
  have hst : PO X (some (.UnaryOp .USub (.Constant (.int 1) k p1) p2)) (tPart (tUn (rU fun i => .int (-i)) (tC (.int 1)))) := po_some (pe_un un_neg pe_int)
  refine wpAny_Slice (thn (po_none.run pins s1 σ H1 (fun o H2 => o = none ∧ H2 = H1) I1 ⟨rfl, rfl⟩) fun vl s2 ⟨l, H2, I2, pl, el, e2⟩ => ?_)
  subst el e2
  refine thn (po_none.run pins s2 σ H2 (fun o H3 => o = none ∧ H3 = H2) I2 ⟨rfl, rfl⟩) fun vu s3 ⟨u, H3, I3, pu, eu, e3⟩ => ?_
  subst eu e3
  refine thn (hst.run pins s3 σ H3 (fun o H4 => o = some (-1) ∧ H4 = H3) I3 ⟨1, rfl, -1, rfl, rfl, rfl⟩) fun vs s4 ⟨o, H4, I4, ps, eo, e4⟩ => ?_
  subst eo e4
  have I5 : Inv X pins σ H4 { s4 with heap := s4.heap.push { cls := .type "slice", data := .fields #[vl, vu, vs] } } := I4.kept (t' := s4.toks) fun b ob q => Heap.get?_push_of_some _ q
  obtain ⟨its, r, ht, hz⟩ := I5.tuple (SqT.of hx)
  have hlen := r.length
  show wpAny (model X.prog X.w) X.A (subscriptTail e (.Slice none none (some (.UnaryOp .USub (.Constant (.int 1) k p1) p2)) p3) (.ref a) (.ref s4.heap.objs.size)) (EP X pins σ Q) X.xe { s4 with heap := s4.heap.push { cls := .type "slice", data := .fields #[vl, vu, vs] } }
  refine tail_any (ops := [.ref a, .ref s4.heap.objs.size]) ht.typeIs (PyProof.Rows.slot_tuple_getitem.lookup) ?_ (by with_unfolding_all rfl)
  refine HT.getItem_tuple_rev ht (Heap.IsSliceOf.new _ vl vu vs) pl pu ps ?_ (by rw [List.size_toArray]; omega)
  refine ⟨.ref _, _, I5.laid (t' := s4.toks) (o := .tup xs.reverse) (fun b ob q => Heap.get?_push_of_some _ q) (Nat.le_refl _) ?_, rfl, q _ (I5.hok.fresh (Nat.le_refl _))⟩
  exact ⟨by rw [List.length_reverse]; omega, _, r.reverse, IsTup.new _ _⟩
end
end L2
end
section
set_option Elab.async false
set_option linter.all false
set_option maxRecDepth 100000
set_option maxHeartbeats 2000000
/-! # Dicts whose keys are tuples of any depth (ints, texts, such tuples); their values are flags. -/
namespace L2
open PySem PySem.Spec PyProof.Rows
mutual
/-- the value v is this key -/
inductive NkIs (H : Hp) : NestedKey → V → Prop
  | int (i : Int) : NkIs H (.num i) (.int i)
  | str (x : Str) : NkIs H (.text x) (.str x)
  | tup {a : Addr} {ks : List NestedKey} {vs : List V} (e : H a = some (.tup vs)) (t : NkAll H ks vs) : NkIs H (.tup ks) (.ref a)
inductive NkAll (H : Hp) : List NestedKey → List V → Prop
  | nil : NkAll H [] []
  | cons {k : NestedKey} {v : V} {ks : List NestedKey} {vs : List V} (h : NkIs H k v) (t : NkAll H ks vs) : NkAll H (k :: ks) (v :: vs)
end
mutual
/-- it is so as long as the tuples stand -/
theorem NkIs.tups {H H' : Hp} (s : ∀ a xs, H a = some (.tup xs) → H' a = some (.tup xs)) : ∀ {k : NestedKey} {v : V}, NkIs H k v → NkIs H' k v
  | _, _, .int i => .int i
  | _, _, .str x => .str x
  | _, _, .tup e t => .tup (s _ _ e) (NkAll.tups s t)
theorem NkAll.tups {H H' : Hp} (s : ∀ a xs, H a = some (.tup xs) → H' a = some (.tup xs)) : ∀ {ks : List NestedKey} {vs : List V}, NkAll H ks vs → NkAll H' ks vs
  | _, _, .nil => .nil
  | _, _, .cons h t => .cons (NkIs.tups s h) (NkAll.tups s t)
end
mutual
theorem nk_is {P : Program} {w : World} {H : Hp} {h : Heap} (ok : HOk P w H h) : ∀ {k : NestedKey} {v : V} {u : Value}, NkIs H k v → RelV v u → NestedIs h k u
  | _, _, _, .int i, r => by
    obtain ⟨t, rfl⟩ := r
    exact .int i t
  | _, _, _, .str x, r => by
    obtain ⟨t, rfl⟩ := r
    exact .text x t
  | _, _, u, .tup e t, r => by
    cases (show u = Value.ref _ from r)
    obtain ⟨_, its, rv, ⟨o, ho, hc, n, hd⟩⟩ := ok _ _ e
    exact .tup ho hc hd (nk_all ok t rv)
theorem nk_all {P : Program} {w : World} {H : Hp} {h : Heap} (ok : HOk P w H h) : ∀ {ks : List NestedKey} {vs : List V} {us : List Value}, NkAll H ks vs → Vals vs us → NestedAll h ks us
  | _, _, _, .nil, r => by cases r; exact .nil
  | _, _, _, .cons a t, r => by
    cases r with
    | cons ra rt => exact .cons (nk_is ok a ra) (nk_all ok t rt)
end
/-- a dict with these keys, where they stand, and these values -/
def NkAt (P : Program) (w : World) (h : Heap) (d : Addr) (xs : List (NestedKey × Addr × Value)) : Prop :=
  xs.length ≤ sizeLine ∧ (d == sysModules) = false ∧ ∃ o es ep, h.get? d = some o ∧ o.ExactDict ∧ o.data = .dict es ep ∧ es.toList = xs.map (entryOfKey (nestedKind P w)) ∧ (xs.map (·.1)).Nodup
def nkO (P : Program) (w : World) (d : Addr) (xs : List (NestedKey × Addr × Value)) : HO := .ext fun h => NkAt P w h d xs
/-- its keys stand -/
def NkKeys (H : Hp) (xs : List (NestedKey × Addr × Value)) : Prop := ∀ y ∈ xs, NkIs H y.1 (.ref y.2.1) ∧ y.1.depth ≤ 8
theorem nk_ok {P : Program} {w : World} {H : Hp} {h : Heap} {d : Addr} {xs : List (NestedKey × Addr × Value)} (a : NkAt P w h d xs) : ObjOk P w H h d (nkO P w d xs) := by
  refine ⟨a, ?_, fun h1 h2 q k => ?_⟩
  · obtain ⟨_, _, o, _, _, ho, _⟩ := a
    exact ⟨o, ho⟩
  · obtain ⟨z, hd, o, es, ep, ho, r⟩ := q
    exact ⟨z, hd, o, es, ep, k _ ho, r⟩
theorem nk_at {P : Program} {w : World} {H : Hp} {h : Heap} {d : Addr} {xs : List (NestedKey × Addr × Value)} (ok : HOk P w H h) (e : H d = some (nkO P w d xs)) (hk : NkKeys H xs) : xs.length ≤ sizeLine ∧ (d == sysModules) = false ∧ h.DictOfH (nestedKind P w) d xs := by
  obtain ⟨⟨z, hd, o, es, ep, ho, h1, h2, h3, h4⟩, _⟩ := ok _ _ e
  exact ⟨z, hd, o, es, ep, ho, h1, h2, h3, fun y hy => ⟨nk_is ok (hk y hy).1 rfl, (hk y hy).2⟩, h4⟩
theorem nkAt_of {P : Program} {w : World} {h : Heap} {d : Addr} {xs : List (NestedKey × Addr × Value)} (z : xs.length ≤ sizeLine) (hd : (d == sysModules) = false) (m : h.DictOfH (nestedKind P w) d xs) : NkAt P w h d xs := by
  obtain ⟨o, es, ep, ho, h1, h2, h3, _, h4⟩ := m
  exact ⟨z, hd, o, es, ep, ho, h1, h2, h3, h4⟩
def rNotInNk (P : Program) (w : World) : R2 := fun x y H Q => ∃ d xs b k, x = .ref b ∧ y = .ref d ∧ H d = some (nkO P w d xs) ∧ NkKeys H xs ∧ NkIs H k (.ref b) ∧ k.depth ≤ 8 ∧ Q (.bl (!(atKey xs k).isSome)) H
def rSetNk (P : Program) (w : World) : TSet := fun o i v H Q => ∃ d xs b k c, o = .ref d ∧ i = .ref b ∧ v = .bl c ∧ H d = some (nkO P w d xs) ∧ NkKeys H xs ∧ NkIs H k (.ref b) ∧ k.depth ≤ 8 ∧ xs.length < sizeLine ∧ Q (upd H d (nkO P w d (storedH xs k b (.bool c))))
theorem storedH_len {xs : List (NestedKey × Addr × Value)} {k : NestedKey} {a : Addr} {v : Value} : (storedH xs k a v).length ≤ xs.length + 1 := by
  unfold storedH
  split
  · rw [List.length_map]; omega
  · rw [List.length_append]; simp
section
variable {X : Cx}
/-- key not in dict -/
theorem op_notInNk (hu : X.A.units + 9 < cLine) : OpR X (compareOp .NotIn) (rNotInNk X.prog X.w) := by
  intro pins s σ H x y v u Q I rx ry h
  obtain ⟨d, xs, b, k, rfl, rfl, e, hk, kb, kd, q⟩ := h
  cases (show v = Value.ref b from rx)
  cases (show u = Value.ref d from ry)
  obtain ⟨z, hd, m⟩ := nk_at I.hok e hk
  exact wpAny_notIn_heap (knd := nestedKind X.prog X.w) (show X.A.units + 1 + 8 < cLine by omega) ⟨nk_is I.hok kb rfl, kd⟩ hd m ⟨.bl _, H, I.tok _, rfl, q⟩
/-- dict[key] = flag -/
theorem set_nk (hu : X.A.units + 9 < cLine) : PSet X (rSetNk X.prog X.w) := by
  intro pins s σ H o i v ov iv u Q I ro ri rv h
  obtain ⟨d, xs, b, k, c, rfl, rfl, rfl, e, hk, kb, kd, hl, q⟩ := h
  cases (show ov = Value.ref d from ro)
  cases (show iv = Value.ref b from ri)
  cases (show u = Value.bool c from rv)
  obtain ⟨z, hd, m⟩ := nk_at I.hok e hk
  refine wpAny_setItem_heap (hsz := z) (knd := nestedKind X.prog X.w) (show X.A.units + 1 + 8 < cLine by omega) ⟨nk_is I.hok kb rfl, kd⟩ m fun h' m' hs => ⟨_, ?_, q⟩
  have sl := storedH_len (xs := xs) (k := k) (a := b) (v := .bool c)
  have he : ∃ q, h'.get? d = some q := let ⟨q, _, _, hq, _⟩ := m'; ⟨q, hq⟩
  exact d_write I (by rw [e]; exact True.intro) hs he (nk_ok (nkAt_of (by omega) hd m'))
/-- {key: flag} -/
def tNk1 (P : Program) (w : World) (tk tv : TE) : TE := fun σ H Q => ∀ d, H d = none → tk σ (upd H d (nkO P w d [])) fun x H1 => tv σ H1 fun y H2 => ∃ b k c, x = .ref b ∧ y = .bl c ∧ H2 d = some (nkO P w d []) ∧ NkIs H2 k (.ref b) ∧ k.depth ≤ 8 ∧ Q (.ref d) (upd H2 d (nkO P w d [(k, b, .bool c)]))
theorem pe_nk1 {k v : Expr} {tk tv : TE} {pos : Pos} (hu : X.A.units + 9 < cLine) (hk : PE X k tk) (hv : PE X v tv) : PE X (.Dict [some k] [v] pos) (tNk1 X.prog X.w tk tv) := by
  refine ⟨fun pins s σ H Q I q => ?_⟩
  have hn := I.hok.fresh (Nat.le_refl s.heap.objs.size)
  have hb : (s.heap.objs.size == sysModules) = false := beq_eq_false_iff_ne.mpr (Ne.symm (Nat.ne_of_lt I.big))
  have a0 : NkAt X.prog X.w (s.heap.push { cls := .type "dict", data := .dict #[] }) s.heap.objs.size [] :=
    ⟨Nat.zero_le _, hb, _, #[], 0, Heap.get?_push_size _ rfl, ⟨rfl, rfl, rfl⟩, rfl, rfl, List.nodup_nil⟩
  have I1 := I.laid (a := s.heap.objs.size) (o := nkO X.prog X.w s.heap.objs.size []) (h' := s.heap.push { cls := .type "dict", data := .dict #[] }) (t' := s.toks) (fun _ _ q => Heap.get?_push_of_some _ q) (Nat.le_refl _) (nk_ok a0)
  refine wpAny_Dict_any (by rfl) (by rfl) (fun z => by cases z) (by simp) ?_
  refine pairTrees_cons_walk (thn (hk.run pins _ σ _ _ I1 (q _ hn)) fun u s1 ⟨x, H1, I2, rx, q1⟩ => thn (hv.run pins s1 σ H1 _ I2 q1) fun w2 s2 ⟨y, H2, I3, ry, b, ky, c, ex, ey, e, kb, kd, q2⟩ => pairTrees_nil_walk ?_)
  subst ex ey
  cases (show u = Value.ref b from rx)
  cases (show w2 = Value.bool c from ry)
  obtain ⟨z, hd, m⟩ := nk_at I3.hok e (fun y hy => by cases hy)
  unfold storeAll
  rw [List.forIn_cons]
  refine wpAny_bind (wpAny_bind (wpAny_dictSet_heap (hsz := z) (knd := nestedKind X.prog X.w) (show X.A.units + 8 < cLine by omega) ⟨nk_is I3.hok kb rfl, kd⟩ m fun h' m' hs => wpAny_pure ?_))
  show wpAny _ _ (forIn [] PUnit.unit _) _ _ _
  rw [List.forIn_nil]
  refine wpAny_pure ⟨.ref s.heap.objs.size, _, ?_, rfl, q2⟩
  have he : ∃ q, h'.get? s.heap.objs.size = some q := let ⟨q, _, _, hq, _⟩ := m'; ⟨q, hq⟩
  have e1 : storedH ([] : List (NestedKey × Addr × Value)) ky b (.bool c) = [(ky, b, .bool c)] := rfl
  rw [e1] at m'
  exact d_write I3 (by rw [e]; exact True.intro) hs he (nk_ok (nkAt_of (by rw [sizeLine_eq]; exact Nat.le_of_ble_eq_true rfl) hd m'))
end
end L2
end
section
set_option Elab.async false
set_option linter.all false
set_option maxRecDepth 100000
set_option maxHeartbeats 2000000
/-! # list.count of flat values; a call with two readings. -/
namespace L2
open PySem PySem.Spec PyProof.Rows
theorem count_eqU {x : V} : ∀ {xs : List V} {us : List Value}, Vals xs us → xs.all flatV = true → us.countP (eqU x) = xs.countP fun y => eqV y x
  | _, _, .nil, _ => rfl
  | y :: ys, u :: us, .cons r t, f => by
    rw [List.all_cons, Bool.and_eq_true] at f
    rw [List.countP_cons, List.countP_cons, count_eqU t f.2, eqU_of r f.1]
def rCntF (K : PySem.W.Frag) : V → List V → Hp → VK → Prop := fun x xs H Q => ∃ (p : Addr) (ys : List V) (y : V), x = .ref p ∧ xs = [y] ∧ SqL K H p ys ∧ flatV y = true ∧ ys.all flatV = true ∧ Q (.int ((ys.countP fun z => eqV z y : Nat) : Int)) H
section
variable {X : Cx}
/-- xs.count(y) -/
theorem mt_lcountF : MtR X "list.count" (rCntF X.K) := by
  intro pins s σ H x xs v us Q I rx rxs h
  obtain ⟨p, ys, y, rfl, rfl, hs, fy, fs, q⟩ := h
  cases rx
  obtain ⟨u, rfl, ru⟩ := rxs.one
  obtain ⟨its, rv, ⟨⟨cls, dd, data, sl⟩, n, ho, hc, hdn, hd⟩, hlen⟩ := I.list hs
  simp only at hc hd
  subst hc hd
  refine call_meets PySem.F.slot_list_count ⟨_, ho, rfl⟩ PySem.F.entry_list_count (PySem.F.args_list_count_2 _ _)
    (SeqAt.list_countAt p its.toArray n dd sl u (eqU y)) ⟨ho, fun z hz => mem_eqAt ru fy rv fs z (by simpa using hz), ?_⟩
  have ec : its.toArray.toList.countP (eqU y) = ys.countP fun z => eqV z y := by
    rw [List.toList_toArray]
    exact count_eqU rv fs
  refine ⟨.int ((ys.countP fun z => eqV z y : Nat) : Int), H, I.tok _, ⟨s.toks, ?_⟩, q⟩
  show Value.int ((its.toArray.toList.countP (eqU y) : Nat) : Int) s.toks = _
  rw [ec]
theorem call_or {f : Value} {r1 r2 : List V → Hp → VK → Prop} (h1 : CallR X f r1) (h2 : CallR X f r2) : CallR X f fun xs H Q => r1 xs H Q ∨ r2 xs H Q := by
  intro pins s σ H xs us Q I rx h
  rcases h with h | h
  · exact h1 pins s σ H xs us Q I rx h
  · exact h2 pins s σ H xs us Q I rx h
end
end L2
end
section
set_option Elab.async false
set_option linter.all false
set_option maxRecDepth 100000
set_option maxHeartbeats 2000000
/-! # max(numbers, default=d) -/
namespace MxD
open PySem PySem.Spec PyProof.Rows
section
variable {prog : Program} {w : World} {A : Around} {R : Result → Shared → Prop} {I : Addr} {fp wr : List Addr} {n : Nat} {P : Nat → Value → Prop} {St : Nat → Heap → Prop} {d : Value}
/-- the keywords of the call -/
def kwD (d : Value) : List (Str × Value) := [(Str.ofString "default", d)]
theorem nm : (toString "max" ++ toString ".loop" : String) = "max.loop" := by decide
/-- some are seen: vb is the greatest of them -/
theorem go_on (W : Walks prog w A.in1 I fp wr n P St) (bt : Nat → Nat → Bool) (hcmp : CmpOf prog w A.in1 .Gt P bt) (S : Addr) (hSf : S ∉ fp)
    (r : Nat) : ∀ (j : Nat) (s : Shared) (vb : Value) (c : Nat), n = j + 1 + r → St (j + 1) s.heap → P (argBest bt j) vb →
    s.heap.get? S = some { cls := .type "list", dict := none, data := .seq #[vb, vb] c, slots := #[] } →
    (∀ v h' tk, P (argBest bt (n - 1)) v → (∀ b o, b ∉ wr → b ≠ S → s.heap.get? b = some o → h'.get? b = some o) → R (.ok (.ret v)) { s with heap := h', toks := tk }) →
    codeAny (model prog w) A (.builtin "max.loop" ⟨[.ref I, .none, .ref S], kwD d⟩) R s := by
  have hw : S ∉ wr := fun z => hSf (W.sub _ z)
  induction r with
  | zero =>
    intro j s vb c en st hb hS k
    refine codeAny_builtin F.entry_max_loop ?_
    rw [Around.under_plainId F.plain_max_loop _]
    show wpAny _ A.in1 (seqItems? (.ref S) >>= _) _ _ s
    refine wpAny_bind (wpAny_seqItems hS rfl ?_)
    show wpAny _ A.in1 (tryCatch (pyNext (.ref I)) _ >>= _) _ _ s
    refine wpAny_bind (wpAny_tryCatch (W.done s _ _ (by rw [show n = j + 1 by omega]; exact st) fun h1 tk old => ?_))
    show wpAny _ A.in1 (updateSeq S (fun _ => #[]) >>= _) _ _ _
    refine wpAny_bind (wpAny_updateSeq (old S _ hw hS) rfl (wpAny_bind (wpAny_letGo (wpAny_pure ?_))))
    refine k vb _ tk (by rw [show n - 1 = j by omega]; exact hb) fun b o nb ns e => ?_
    exact (Heap.get?_update_other _ _ (Ne.symm ns)).trans (old b o nb e)
  | succ r ih =>
    intro j s vb c en st hb hS k
    refine codeAny_builtin F.entry_max_loop ?_
    rw [Around.under_plainId F.plain_max_loop _]
    show wpAny _ A.in1 (seqItems? (.ref S) >>= _) _ _ s
    refine wpAny_bind (wpAny_seqItems hS rfl ?_)
    show wpAny _ A.in1 (tryCatch (pyNext (.ref I)) _ >>= _) _ _ s
    refine wpAny_bind (wpAny_tryCatch (W.item (j + 1) s _ _ (by omega) st fun v h1 tk hv st1 old => ?_))
    have hS1 := old S _ hw hS
    show wpAny _ A.in1 (tryCatch (holding [v, v] (richCompare .Gt v vb >>= _)) _ >>= _) _ _ _
    refine wpAny_bind (wpAny_tryCatch (wpAny_holding (wpAny_bind (hcmp (j + 1) (argBest bt j) v vb _ _ _ hv hb ?_))))
    refine wpAny_bind (wpAny_holding (wpAny_truthy_bool (wpAny_bind (wpAny_letGo (wpAny_pure ?_)))))
    by_cases hc : bt (j + 1) (argBest bt j) = true
    · rw [if_pos hc]
      refine wpAny_bind (wpAny_updateSeq hS1 rfl (wpAny_bind (wpAny_letGo ?_)))
      rw [nm]
      refine wpAny_pure ⟨plainId_quiet F.plain_max_loop _, ih (j + 1) _ v _ (by omega) (W.frame _ _ _ st1 fun b hbf o e => ?_) (by unfold argBest; rw [if_pos hc]; exact hv) (Heap.get?_update_self _ hS1 rfl) fun v' h2 tk2 hv2 old2 => ?_⟩
      · exact (Heap.get?_update_other _ _ (fun z : S = b => hSf (by rw [z]; exact hbf))).trans e
      · exact k v' h2 tk2 hv2 fun b o nb ns e => old2 b o nb ns ((Heap.get?_update_other _ _ (Ne.symm ns)).trans (old b o nb e))
    · rw [if_neg hc]
      refine wpAny_bind (wpAny_letGo ?_)
      rw [nm]
      refine wpAny_pure ⟨plainId_quiet F.plain_max_loop _, ih (j + 1) _ vb c (by omega) st1 (by unfold argBest; rw [if_neg hc]; exact hb) hS1 fun v' h2 tk2 hv2 old2 => ?_⟩
      exact k v' h2 tk2 hv2 fun b o nb ns e => old2 b o nb ns (old b o nb e)
/-- none is seen yet -/
theorem start (W : Walks prog w A.in1 I fp wr n P St) (bt : Nat → Nat → Bool) (hcmp : CmpOf prog w A.in1 .Gt P bt) (S : Addr) (hSf : S ∉ fp) {s : Shared} {c : Nat} (st : St 0 s.heap)
    (hS : s.heap.get? S = some { cls := .type "list", dict := none, data := .seq #[] c, slots := #[] })
    (k : ∀ v h' tk, (0 < n ∧ P (argBest bt (n - 1)) v ∨ n = 0 ∧ v = d) → (∀ b o, b ∉ wr → b ≠ S → s.heap.get? b = some o → h'.get? b = some o) → R (.ok (.ret v)) { s with heap := h', toks := tk }) :
    codeAny (model prog w) A (.builtin "max.loop" ⟨[.ref I, .none, .ref S], kwD d⟩) R s := by
  have hw : S ∉ wr := fun z => hSf (W.sub _ z)
  refine codeAny_builtin F.entry_max_loop ?_
  rw [Around.under_plainId F.plain_max_loop _]
  show wpAny _ A.in1 (seqItems? (.ref S) >>= _) _ _ s
  refine wpAny_bind (wpAny_seqItems hS rfl ?_)
  show wpAny _ A.in1 (tryCatch (pyNext (.ref I)) _ >>= _) _ _ s
  by_cases hn : n = 0
  · refine wpAny_bind (wpAny_tryCatch (W.done s _ _ (by rw [hn]; exact st) fun h1 tk old => ?_))
    refine wpAny_bind (wpAny_rule (wpAny_pure ?_))
    exact k d h1 tk (.inr ⟨hn, rfl⟩) fun b o nb _ e => old b o nb e
  refine wpAny_bind (wpAny_tryCatch (W.item 0 s _ _ (by omega) st fun v h1 tk hv st1 old => ?_))
  have hS1 := old S _ hw hS
  show wpAny _ A.in1 (updateSeq S (fun _ => #[v, v]) >>= _) _ _ _
  refine wpAny_bind (wpAny_updateSeq hS1 rfl ?_)
  rw [nm]
  refine wpAny_pure ⟨plainId_quiet F.plain_max_loop _, go_on W bt hcmp S hSf (n - 1) 0 _ v _ (by omega) (W.frame _ _ _ st1 fun b hbf o e => ?_) hv (Heap.get?_update_self _ hS1 rfl) fun v' h2 tk2 hv2 old2 => ?_⟩
  · exact (Heap.get?_update_other _ _ (fun z : S = b => hSf (by rw [z]; exact hbf))).trans e
  · exact k v' h2 tk2 (.inl ⟨by omega, hv2⟩) fun b o nb ns e => old2 b o nb ns ((Heap.get?_update_other _ _ (Ne.symm ns)).trans (old b o nb e))
end
section
variable {prog : Program} {w : World} {A : Around} {E : Value → Shared → Prop} {s : Shared} {d : Value}
theorem args_ok (a d : Value) : argsOk "max" ⟨[a], kwD d⟩ := by unfold argsOk; kernel_rfl
theorem tree_kw {id : String} {b : Builtin} {args : List Value} {kw : List (Str × Value)} {Q : Value → Shared → Prop} (hk : builtinKind id = none) (hp : plainId id = true)
    (hb : entryFor table id = some b) (ha : argsOk id ⟨args, kw⟩)
    (hc : wpAny (model prog w) A.in1 (b ⟨args, kw⟩) (fun fin s' => match fin with
      | .done f => (match (Except.ok f : Result) with | .ok (.ret v) => Q v s' | .ok _ => False | .error e => E e s')
      | .again c' => c'.quiet = true ∧ codeAny (model prog w) A c' (fun r s' => match r with | .ok (.ret v) => Q v s' | .ok _ => False | .error e => E e s') s') E s) :
    wpAny (model prog w) A (call (.builtin id) args kw) Q E s := by
  refine wpAny_call (codeAny_call_builtin hp hb ?_)
  simp only [checkBuiltinCall, hk]
  cases hs : Manifest.signature? id with
  | none => exact wpAny_pure hc
  | some sig =>
    have ha' : Bind.checkArgs id sig ⟨args, kw⟩ = pure () := by simpa only [argsOk, hs] using ha
    simp only [ha']
    exact wpAny_pure hc
theorem call_walk {x : Value} {Q : Value → Shared → Prop}
    (h : wpAny (model prog w) A.in1 (pyIter x) (fun it s₂ => ∃ I fp wr n P St bt, it = .ref I ∧ Walks prog w A.in1 I fp wr n P St ∧ St 0 s₂.heap ∧ (∀ b ∈ fp, b < s₂.heap.objs.size) ∧ CmpOf prog w A.in1 .Gt P bt ∧
      ∀ v h' tk, (0 < n ∧ P (argBest bt (n - 1)) v ∨ n = 0 ∧ v = d) → (∀ b o, b ∉ wr → s₂.heap.get? b = some o → h'.get? b = some o) → Q v { s₂ with heap := h', toks := tk }) E s) :
    wpAny (model prog w) A (call (.builtin "max") [x] (kwD d)) Q E s := by
  refine tree_kw F.kind_max F.plain_max F.entry_max (args_ok _ _) ?_
  show wpAny _ A.in1 (Builtin.Builtins.bindParams "max" ["key", "default"] 0 ⟨[], kwD d⟩ >>= _) _ _ s
  refine wpAny_bind (wpAny_of_eq (show Builtin.Builtins.bindParams "max" ["key", "default"] 0 ⟨[], kwD d⟩ = pure [none, some d] from rfl) ?_)
  refine wpAny_bind (wpAny_pure ?_)
  refine wpAny_bind (wpAny_mono h (fun it s₂ h₂ => ?_) fun _ _ e => e)
  obtain ⟨I, fp, wr, n, P, St, bt, rfl, W, hst, hfp, hcmp, k⟩ := h₂
  refine wpAny_bind (wpAny_newObj_type ?_)
  have hSf : s₂.heap.objs.size ∉ fp := fun z => Nat.lt_irrefl _ (hfp _ z)
  rw [nm]
  refine wpAny_pure ⟨plainId_quiet F.plain_max_loop _, start W bt hcmp s₂.heap.objs.size hSf (W.frame _ _ _ hst fun b _ o e => Heap.get?_push_of_some _ e) (Heap.get?_push_size _ rfl) fun v h' tk hv old => ?_⟩
  exact k v h' tk hv fun b o nb e => old b o nb (Nat.ne_of_lt (Heap.lt_size e)) (Heap.get?_push_of_some _ e)
theorem ints_raw {l : Addr} {its : List Value} {ns : List Int} {d : Int} {t : Tok} {Q : Value → Shared → Prop} (hh : A.handled = none) (hl : s.heap.IsList l its.toArray) (hi : IntsAre its ns)
    (k : ∀ h' tk M t', (∀ b o, s.heap.get? b = some o → h'.get? b = some o) → (M ∈ ns ∧ (∀ a, a ∈ ns → a ≤ M) ∨ ns = [] ∧ M = d) → Q (.int M t') { s with heap := h', toks := tk }) : wpAny (model prog w) A (call (.builtin "max") [.ref l] (kwD (.int d t))) Q E s := by
  obtain ⟨xs, e⟩ := hi.allInts.items
  have hn : numsOf (intItems xs).toList = ns := by rw [← e]; exact hi.numsOf
  rw [nums_intItems] at hn
  subst hn
  rw [e] at hl
  refine call_walk (iter_intList hl fun s₂ e st hfp hlI => ?_)
  subst e
  refine ⟨_, _, _, _, _, _, _, rfl, Walks.list (A := A.in1) hh _ l hlI (intItems xs), st, hfp, CmpOf.ints_gt (numAt xs) (fun _ _ => intItems_at), fun v h' tk hP hk => ?_⟩
  have old : ∀ b o, s.heap.get? b = some o → h'.get? b = some o := old_kept hk
  rcases hP with ⟨hp, hv⟩ | ⟨h0, rfl⟩
  · obtain ⟨t, rfl⟩ := intItems_at hv
    obtain ⟨h1, h2⟩ := argBest_gt (numAt xs) ((intItems xs).size - 1)
    have hsz : 0 < xs.size := by simpa [intItems] using hp
    have hs2 : (intItems xs).size = xs.size := by simp [intItems]
    refine k h' tk _ t old (.inl ⟨?_, fun a ha => ?_⟩)
    · rw [numAt_eq]; exact PySem.getD_mem (by rw [List.length_map, Array.length_toList]; omega)
    · obtain ⟨j, hj, rfl⟩ := mem_getD ha
      rw [List.length_map, Array.length_toList] at hj
      rw [← numAt_eq]; exact h2 j (by omega)
  · refine k h' tk d t old (.inr ⟨?_, rfl⟩)
    have : xs.size = 0 := by simpa [intItems] using h0
    rw [Array.eq_empty_of_size_eq_zero this]
    rfl
end
end MxD
namespace L2
open PySem PySem.Spec PyProof.Rows
/-- max(numbers, default=d) -/
def rMaxDf (K : PySem.W.Frag) : List V → List V → Hp → VK → Prop := fun vs zs H Q => ∃ (a : Addr) (ns : List Int) (d : Int), vs = [V.ref a] ∧ zs = [V.int d] ∧ SqL K H a (ns.map V.int) ∧ ∀ m, (m ∈ ns ∧ (∀ y, y ∈ ns → y ≤ m) ∨ ns = [] ∧ m = d) → Q (.int m) H
theorem cr_maxDf {X : Cx} (hc : X.calm = true) : CallRK X (.builtin "max") [Str.ofString "default"] (rMaxDf X.K) := by
  intro pins s σ H vs zs us ws Q I r rz h
  obtain ⟨a, ns, d, rfl, rfl, hs, q⟩ := h
  obtain rfl := Vals.ref1 r
  obtain ⟨w1, rfl, t, e1⟩ := vals1 rz
  obtain ⟨its, rv, hl, _⟩ := I.list hs
  rw [e1]
  exact MxD.ints_raw (I.ok.hd hc) hl.isList rv.ints fun h' tk m t' hk hm => ⟨.int _, H, I.kept hk, ⟨_, rfl⟩, q m hm⟩
end L2
end
section
set_option Elab.async false
set_option linter.all false
set_option maxRecDepth 100000
set_option maxHeartbeats 2000000
/-! # an own exception without a method of its own, made of nothing: X() -/
namespace L2
open PySem PySem.Spec PyProof.Rows
section
variable {X : Cx} {C : Addr} {bmB : List Value} {B newId initId : String}
theorem pmk_own0 {x : Str} {p pos : Pos} (F : ExcBaseFacts B newId initId bmB) (q : PySem.W.excIn X.K C bmB newId = true) (gC : X.mg x = some (.ref C)) (kC : PySem.W.keepIn X.K (.ref C) = true) (r : Raises X (.ref C)) (hg : Gl X x)
    (hdb : (x == ("__debug__" : Str)) = false := by decide) : PMk X (.Call (.Name x p) [] [] pos) (fun _ H Q => Q (.ref C) none H) := by
  intro pins s σ H Q I h
  refine wpAny_Call_Name_kw (ld_glob I hg gC ?_ hdb)
  refine PySem.W.callWith_K0 I.kIn kC ?_
  show wpAny _ _ (call (.ref C) []) _ _ _
  obtain ⟨bm, N, nm, qn, bs, hdct, sn, sub, ab, col, dd, k0, k1, k2, k3, k5, mN, hC, hN, hni, T⟩ := exc_obj I.kIn q
  refine wpAny_call_exc_subT F T hC hN hni (fun h' e hm => ?_) (Nat.zero_le _)
  exact mk_of I hm r h (I.hok.gone hm.new)
/-- the class of an error that adds nothing to ValueError but its name -/
structure ErrN (K : PySem.W.Frag) (mg : Str → Option Value) (cn : Str) (C : Addr) : Prop where
  gC : mg cn = some (.ref C)
  ex : PySem.W.excIn K C [.type "ValueError", .type "Exception", .type "BaseException", .type "object"] "ValueError.__new__" = true
  kC : PySem.W.keepIn K (.ref C) = true
  exC : PySem.W.subIn K (.ref C) (.type "BaseException") = some true
  tyC : PySem.W.typeIn K (.ref C) = some (.type "type")
  te : PySem.W.exmOne K (.ref C) (.ref C) = some true
/-- raise X() -/
theorem ps_raiseN {cn : Str} {W : WX} {p pos pos2 : Pos} (hc : X.calm = true) (T : ErrN X.K X.mg cn C) (tk : Takes X W) (hg : Gl X cn := by rfl) (hdb : (cn == ("__debug__" : Str)) = false := by decide) :
    PS X (.Raise (some (.Call (.Name cn p) [] [] pos)) none pos2) (fun _ σ H => W (.ref C) none σ H) :=
  ps_raise hc tk (pmk_own0 PySem.F.excBase_ValueError T.ex T.gC T.kC (raises_own T.exC T.tyC) hg hdb)
end
end L2
end
section
set_option Elab.async false
set_option linter.all false
set_option maxRecDepth 100000
set_option maxHeartbeats 2000000
/-! # a list or a tuple, walked -/
namespace L2
open PySem PySem.Spec PyProof.Rows
def iSeq (K : PySem.W.Frag) (te : TE) : TI := fun σ H R => te σ H fun x H1 => ∃ a, x = .ref a ∧ (((∃ xs, SqL K H1 a xs) ∧ R (Itl K a) H1) ∨ ((∃ xs, SqT K H1 a xs) ∧ R (Itt K a) H1))
theorem fresh_fp {X : Cx} {pins : List (Addr × Obj)} {σ : St} {H : Hp} {s : Shared} (I : Inv X pins σ H s) : ∀ b ∈ [s.heap.objs.size], FpOk X pins H b := fun b hb => by
  rw [List.mem_singleton.mp hb]
  exact I.fpOk (Nat.le_refl _) (I.hok.fresh (Nat.le_refl _))
theorem pi_seq {X : Cx} {tg e : Expr} {te : TE} (he : PE X e te) : PI X tg e (iSeq X.K te) := by
  constructor
  intro pins s σ H R I h
  refine thn (he.run pins s σ H _ I h) fun v s1 ⟨x, H1, J, r, q⟩ => ?_
  obtain ⟨a, rfl, ⟨⟨xs, hq⟩, q⟩ | ⟨⟨xs, hq⟩, q⟩⟩ := q
  · cases r
    obtain ⟨its, rv, p, hz⟩ := J.list hq
    exact wpAny_pyIter_list p.isList ⟨_, _, _, _, H1, rfl, J.kept (t' := s1.toks) (fun b o z => Heap.get?_push_of_some _ z), turn_list a _, ⟨_, Heap.get?_push_size _ rfl, rfl, rfl⟩, fresh_fp J, q⟩
  · cases r
    obtain ⟨its, rv, p, hz⟩ := J.tuple hq
    exact wpAny_pyIter_tuple (show s1.heap.IsTuple a its.toArray from p) ⟨_, _, _, _, H1, rfl, J.kept (t' := s1.toks) (fun b o z => Heap.get?_push_of_some _ z), turn_tuple a _, ⟨_, Heap.get?_push_size _ rfl, rfl, rfl⟩, fresh_fp J, q⟩
end L2
end
section
set_option Elab.async false
set_option linter.all false
set_option maxRecDepth 100000
set_option maxHeartbeats 2000000
/-! # a try with several clauses, with and without a name -/
namespace L2
open PySem PySem.Spec PyProof.Rows
/-- the clauses of a try, and what they want of an exception of the body -/
inductive ClausesN (X : Cx) (Wout : WX) : List ExceptHandler → (Ends → WX) → Prop
  | nil : ClausesN X Wout [] fun _ => Wout
  | cons {x n : Str} {c : Value} {i : Nat} {suite : List Stmt} {b₀ : Stmt} {np pos : Pos} {ts : Addr → Value → Option Addr → TS} {hds : List ExceptHandler} {W : Ends → WX}
      (hi : X.N[i]? = some n) (hl : X.env.kindOf n = some .local) (hc : Names X x c)
      (hs : ∀ (a : Addr) (oe : Obj) (cls : Value) (d : Option Addr) (pn : List (Addr × Obj)), Zc cls d oe → (∃ vs, oe.data = .fields vs) → PSs (X.suite a ((a, oe) :: pn)) (b₀ :: suite) (ts a cls d))
      (r : ClausesN X Wout hds W) : ClausesN X Wout (.ExceptHandler (some (.Name x np)) (some n) (b₀ :: suite) pos :: hds) fun D => wAs X.K c i ts (W D) D
  | only {x : Str} {c : Value} {suite : List Stmt} {b₀ : Stmt} {np pos : Pos} {ts : Addr → Value → Option Addr → TS} {hds : List ExceptHandler} {W : Ends → WX}
      (hc : Names X x c)
      (hs : ∀ (a : Addr) (oe : Obj) (cls : Value) (d : Option Addr) (pn : List (Addr × Obj)), Zc cls d oe → (∃ vs, oe.data = .fields vs) → PSs (X.suite a ((a, oe) :: pn)) (b₀ :: suite) (ts a cls d))
      (r : ClausesN X Wout hds W) : ClausesN X Wout (.ExceptHandler (some (.Name x np)) none (b₀ :: suite) pos :: hds) fun D => wOnly X.K c ts (W D) D
section
variable {X : Cx} {Wout : WX} {a : Addr} {B : Heap} {sI s' : Shared} {pins : List (Addr × Obj)} {cls : Value} {d : Option Addr}
/-- the clauses, one behind another, where the exception has landed -/
theorem clsn_land (hs : X.stack = X.env :: X.outer) (hf : X.env.frame = some X.env.locals) (hN : X.N.Nodup) (tk : Takes X Wout) {D : Ends} {σ : St} {H : Hp} (J : Inv X pins σ H sI)
    (nb : ∀ b o, sI.heap.get? b = some o → b ∉ frs X.stack → B.get? b = some o) (na : H a = none) (os : s'.os = sI.os) (ag : AllBare s'.gens) :
    ∀ {hds : List ExceptHandler} {W : Ends → WX}, ClausesN X Wout hds W → ∀ {h : Heap}, HandSPX.FlyingZ B (X.env :: X.outer) a (Zc cls d) h → sI.heap.UpToSlots h → W D cls d σ H →
      wpAny (model X.prog X.w) X.A (handleBy (.ref a) X.env hds) (SP X pins D) X.xe { s' with heap := h } := by
  have ok := J.ok
  have hfr : X.A.frames = some (X.env :: X.outer) := by rw [ok.frames, hs]
  intro hds W q
  induction q with
  | nil =>
    intro h fl up wish
    refine wpAny_handleBy_nil ?_
    obtain ⟨k1, k2, k3, oe, vs, T, oT, ts', he, hz, hd, h1, hr⟩ := id fl
    have go : wpAny (model X.prog X.w) X.A (setFlight (.ref a) X.env.frame) (fun _ s4 => wpAny (model X.prog X.w) X.A (throw (.ref a) : Sem Flow) (SP X pins D) X.xe s4) X.xe { s' with heap := h } := by
      rw [hf]
      refine HandSPX.setFlight_upZ fl fun h4 hh4 up4 => wpAny_throw (tk _ _ ?_)
      exact ⟨a, B, sI, pins, σ, H, cls, d, rfl, J, nb, up.trans up4, .inr (.inr (by rw [hs]; exact hh4)), na, os, ag, wish⟩
    unfold PySem.passOn
    refine wpAny_bind (wpAny_field he hd h1 ?_)
    rw [if_neg (show ¬ ((Value.ref T == Value.none) = true) from by simp)]
    first
      | exact wpAny_bind (wpAny_pure (wpAny_bind go))
      | exact wpAny_bind go
  | @cons x n c i suite b₀ np pos ts hds W hi hl hc hsu r ih =>
    intro h fl up wish
    obtain ⟨b, hb, yes, no⟩ := wish
    have land : ∀ {h4 : Heap}, HandSPX.FlyingZ B (X.env :: X.outer) a (Zc cls d) h4 → sI.heap.UpToSlots h4 →
        ∃ oe vs, h4.get? a = some oe ∧ Zc cls d oe ∧ oe.data = .fields vs ∧ Inv X pins σ H { s' with heap := h4 } ∧ Inv (X.suite a ((a, oe) :: (X.pn ++ pins))) [] σ H { s' with heap := h4 } := by
      intro h4 f4 u4
      have J4 : Inv X pins σ H { s' with heap := h4 } := J.landed nb f4.1 u4 os ag
      obtain ⟨oe, vs, e, hz, hd⟩ := f4.there
      have nf := notFrame (X := X) f4.2.2.1 e hd
      refine ⟨oe, vs, e, hz, hd, J4, J4.suite e hd na (fun z => nf ?_) fun hm => ?_⟩
      · exact List.mem_filterMap.mpr ⟨X.env, List.mem_cons_self, by rw [hf, z]⟩
      · obtain ⟨v, hv, q⟩ := List.mem_filterMap.mp hm
        exact nf (List.mem_filterMap.mpr ⟨v, List.mem_cons_of_mem _ hv, q⟩)
    obtain ⟨oe, vs, he, hz, hd, J3, S3⟩ := land fl up
    refine wpAny_handleBy_cons (codeAny_handlers_test ?_) (by intro q; cases q)
    have look : PySem.W.Looks (model X.prog X.w) h (typeOf (.ref a)) cls := fun A Q E s k q => wpAny_typeOf_ref (k _ _ he) (by rw [hz.1]; exact q)
    have match_ := PySem.W.exm_one (M := model X.prog X.w) J3.kIn look hb
    have named : ∀ {Q : Value → Shared → Prop} {E : Value → Shared → Prop}, Q c { s' with heap := h } → wpAny (model X.prog X.w) (X.A.mark (some (.ref a))) (eval (.Name x np) X.env) Q E { s' with heap := h } := fun {Q E} q => by
      obtain ⟨hg, nd, hm | ⟨hm, hv, hne⟩⟩ := hc
      · exact ld_glob (X := X.suite a ((a, oe) :: (X.pn ++ pins))) S3 hg hm q nd
      · exact ld_blt (X := X.suite a ((a, oe) :: (X.pn ++ pins))) S3 hg hm hv q hne nd
    refine named (match_.here ?_)
    cases b with
    | false => exact ih fl up (no rfl)
    | true =>
      refine codeAny_handlers_suite_as ?_
      refine HandSPX.lands_againZ fl fun h4 fl4 up4 => ?_
      obtain ⟨oe4, vs4, he4, hz4, hd4, J4, S4⟩ := land fl4 (up.trans up4)
      refine store_ok (X := X.suite a ((a, oe4) :: (X.pn ++ pins))) (v := .ref a) S4 hN hi (.inl hl) rfl (fun s5 S5 => ?_) (.inr hl)
      refine wpAny_mono ((hsu a oe4 cls d (X.pn ++ pins) hz4 ⟨_, hd4⟩).run [] s5 _ H _ S5 (yes rfl a na)) (fun f s6 out => ?_) (fun _ _ z => False.elim z)
      have drop : ∀ {σ6 : St} {H6 : Hp} {Q : Shared → Prop}, Inv (X.suite a ((a, oe4) :: (X.pn ++ pins))) [] σ6 H6 s6 → (∀ s7, Inv X pins (σ6.set i none) H6 s7 → Q s7) →
          wpAny (model X.prog X.w) X.A (do bindName X.env n .none; unbindBehindTheSuite X.env n pos) (fun _ s7 => Q s7) X.xe s6 := fun {σ6 H6 Q} S6 k => gone_ok (S6.unsuite ok) hN hi hl k
      cases f with
      | ret u =>
        obtain ⟨v6, σ6, H6, S6, r6, q6⟩ := out
        exact drop S6 fun s7 J7 => ⟨_, _, _, J7, r6, q6⟩
      | next =>
        obtain ⟨σ6, H6, S6, q6⟩ := out
        exact drop S6 fun s7 J7 => ⟨_, _, J7, q6⟩
      | brk =>
        obtain ⟨σ6, H6, S6, q6⟩ := out
        exact drop S6 fun s7 J7 => ⟨_, _, J7, q6⟩
      | cont =>
        obtain ⟨σ6, H6, S6, q6⟩ := out
        exact drop S6 fun s7 J7 => ⟨_, _, J7, q6⟩
  | @only x c suite b₀ np pos ts hds W hc hsu r ih =>
    intro h fl up wish
    obtain ⟨b, hb, yes, no⟩ := wish
    have land : ∀ {h4 : Heap}, HandSPX.FlyingZ B (X.env :: X.outer) a (Zc cls d) h4 → sI.heap.UpToSlots h4 →
        ∃ oe vs, h4.get? a = some oe ∧ Zc cls d oe ∧ oe.data = .fields vs ∧ Inv X pins σ H { s' with heap := h4 } ∧ Inv (X.suite a ((a, oe) :: (X.pn ++ pins))) [] σ H { s' with heap := h4 } := by
      intro h4 f4 u4
      have J4 : Inv X pins σ H { s' with heap := h4 } := J.landed nb f4.1 u4 os ag
      obtain ⟨oe, vs, e, hz, hd⟩ := f4.there
      have nf := notFrame (X := X) f4.2.2.1 e hd
      refine ⟨oe, vs, e, hz, hd, J4, J4.suite e hd na (fun z => nf ?_) fun hm => ?_⟩
      · exact List.mem_filterMap.mpr ⟨X.env, List.mem_cons_self, by rw [hf, z]⟩
      · obtain ⟨v, hv, q⟩ := List.mem_filterMap.mp hm
        exact nf (List.mem_filterMap.mpr ⟨v, List.mem_cons_of_mem _ hv, q⟩)
    obtain ⟨oe, vs, he, hz, hd, J3, S3⟩ := land fl up
    refine wpAny_handleBy_cons (codeAny_handlers_test ?_) (by intro q; cases q)
    have look : PySem.W.Looks (model X.prog X.w) h (typeOf (.ref a)) cls := fun A Q E s k q => wpAny_typeOf_ref (k _ _ he) (by rw [hz.1]; exact q)
    have match_ := PySem.W.exm_one (M := model X.prog X.w) J3.kIn look hb
    have named : ∀ {Q : Value → Shared → Prop} {E : Value → Shared → Prop}, Q c { s' with heap := h } → wpAny (model X.prog X.w) (X.A.mark (some (.ref a))) (eval (.Name x np) X.env) Q E { s' with heap := h } := fun {Q E} q => by
      obtain ⟨hg, nd, hm | ⟨hm, hv, hne⟩⟩ := hc
      · exact ld_glob (X := X.suite a ((a, oe) :: (X.pn ++ pins))) S3 hg hm q nd
      · exact ld_blt (X := X.suite a ((a, oe) :: (X.pn ++ pins))) S3 hg hm hv q hne nd
    refine named (match_.here ?_)
    cases b with
    | false => exact ih fl up (no rfl)
    | true =>
      refine codeAny_handlers_suite ?_
      refine HandSPX.lands_againZ fl fun h4 fl4 up4 => ?_
      obtain ⟨oe4, vs4, he4, hz4, hd4, J4, S4⟩ := land fl4 (up.trans up4)
      refine wpAny_mono ((hsu a oe4 cls d (X.pn ++ pins) hz4 ⟨_, hd4⟩).run [] _ _ H _ S4 (yes rfl a na)) (fun f s6 out => ?_) (fun _ _ z => False.elim z)
      cases f with
      | ret u =>
        obtain ⟨v6, σ6, H6, S6, r6, q6⟩ := out
        exact ⟨_, _, _, S6.unsuite ok, r6, q6⟩
      | next =>
        obtain ⟨σ6, H6, S6, q6⟩ := out
        exact ⟨_, _, S6.unsuite ok, q6⟩
      | brk =>
        obtain ⟨σ6, H6, S6, q6⟩ := out
        exact ⟨_, _, S6.unsuite ok, q6⟩
      | cont =>
        obtain ⟨σ6, H6, S6, q6⟩ := out
        exact ⟨_, _, S6.unsuite ok, q6⟩
end
section
variable {X : Cx} {body : List Stmt} {h₀ : ExceptHandler} {hds : List ExceptHandler} {pos : Pos} {tb : WX → TS} {Wout : WX} {W : Ends → WX}
theorem ps_try_clsN (hs : X.stack = X.env :: X.outer) (hf : X.env.frame = some X.env.locals) (hN : X.N.Nodup) (tk : Takes X Wout) (q : ClausesN X Wout (h₀ :: hds) W)
    (hb : ∀ (W' : WX) (pn : List (Addr × Obj)) (xe : Value → Shared → Prop), Takes (X.tr pn xe) W' → PassesOwn (model X.prog X.w) X.A X.env xe → PSs (X.tr pn xe) body (tb W')) :
    PS X (.Try body (h₀ :: hds) [] [] pos) (fun D σ H => tb (W D) D σ H) := by
  refine ⟨fun pins s σ H D I h => ?_⟩
  have hfr : X.A.frames = some (X.env :: X.outer) := by rw [I.ok.frames, hs]
  refine wpAny_Try_except ?_
  refine wpAny_mono ((hb (W D) (X.pn ++ pins) (fun e s₁ => wpAny (model X.prog X.w) X.A (noteFrame e X.env) (fun _ s₂ => wpAny (model X.prog X.w) X.A (setFlight e none) (fun _ s₃ =>
    wpAny (model X.prog X.w) X.A (handleBy e X.env (h₀ :: hds)) (SP X pins D) X.xe s₃) X.xe s₂) X.xe s₁) (fun u s' xx => ?_) PassesOwn.looking).run [] s σ H D (I.toTry _) h) (fun f s1 out => ?_) (fun e s1 z => z)
  · obtain ⟨a, B, sI, pins', σ', H', cls, d, rfl, J, nb, up, sky, na, os, ag, wish⟩ := xx
    refine Sky.land Zc.steady hfr hf (by rw [← hs]; exact sky) fun h3 fl3 up3 => ?_
    exact clsn_land hs hf hN tk (J.ofTry I.ok) nb na os ag q fl3 (up.trans up3) wish
  · cases f with
    | ret u =>
      obtain ⟨v, σ', H', J, r, z⟩ := out
      exact ⟨v, σ', H', J.ofTry I.ok, r, z⟩
    | next =>
      obtain ⟨σ', H', J, z⟩ := out
      exact wpAny_execs_nil ⟨σ', H', J.ofTry I.ok, z⟩
    | brk =>
      obtain ⟨σ', H', J, z⟩ := out
      exact ⟨σ', H', J.ofTry I.ok, z⟩
    | cont =>
      obtain ⟨σ', H', J, z⟩ := out
      exact ⟨σ', H', J.ofTry I.ok, z⟩
end
end L2
end
section
set_option Elab.async false
set_option linter.all false
set_option maxRecDepth 100000
set_option maxHeartbeats 2000000
/-! # == and != with either result, over data that may hold instances with an __eq__ of their own -/
namespace GQB
open PySem PySem.SeqAt
open AutoSeq1 (wpAny_loadPart')
open MeetsSeq MeetsSeq2 MeetsSeq3 SeqRoads2
def resOf : CmpOp → Bool → Bool
  | .NotEq, b => !b
  | _, b => b
section
variable {prog : Program} {w : World} {A : Around} {R : Result → Shared → Prop}
abbrev FinOf (prog : Program) (w : World) (A : Around) (R : Result → Shared → Prop) : Fin → Shared → Prop := fun fin s' => match fin with
  | .done f => R (.ok f) s'
  | .again c' => c'.quiet = true ∧ codeAny (model prog w) A c' R s'
/-- pairs from the i-th on: the result that they come to, by T (turn, are the two equal) -/
def ListB (prog : Program) (w : World) (A : Around) (E : Value → Shared → Prop) (l b : Addr) (N : Nat) (res : Bool) (I : Nat → Shared → Prop) : Prop :=
  ∀ i s, I i s → ∃ (items items2 : Array Value) (n n2 : Nat), s.heap.get? l = some { cls := .type "list", data := .seq items n } ∧ s.heap.get? b = some { cls := .type "list", data := .seq items2 n2 } ∧ items.size = N ∧ items2.size = N ∧
    ∀ (h1 : i < items.size) (h2 : i < items2.size), wpAny (model prog w) A.in1 (eqBool items[i] items2[i]) (fun r s' => (r = true ∧ I (i + 1) s') ∨ (r = false ∧ res = false ∧ I i s')) E s
theorem eq_loopB (op : CmpOp) (code : Nat) (hop : (op = .Eq ∧ code = 2) ∨ (op = .NotEq ∧ code = 3)) (l b : Addr) (N : Nat) (res : Bool) (I : Nat → Shared → Prop) (hl : ListB prog w A (fun e s' => R (.error e) s') l b N res I)
    (fin : ∀ s i, I i s → (res = true → i = N) → R (.ok (.ret (.bool (resOf op res)))) s) (full : ∀ s, I N s → res = true) (k : Nat) :
    ∀ i : Nat, N - i = k → i ≤ N → ∀ s, I i s →
      wpAny (model prog w) A.in1 (Builtin.«list.__eq__.loop» ⟨[.ref l, .ref b, rawInt i, rawInt code], []⟩) (FinOf prog w A R) (fun e s' => R (.error e) s') s := by
  induction k with
  | zero =>
    intro i hk hi s h
    obtain ⟨items, items2, n, n2, hl1, hb1, hs1, hs2, _⟩ := hl _ _ h
    have hi' : i = N := by omega
    have ht : res = true := full s (hi' ▸ h)
    have hR := fin s i h (fun _ => hi')
    rw [ht] at hR
    obtain ⟨hp, g, d, tk, os⟩ := s
    rcases hop with ⟨rfl, rfl⟩ | ⟨rfl, rfl⟩
    · wp_walk using wpAny_loadPart' hl1, wpAny_loadPart' hb1
      have hi1 : items[((i : Nat) : Int).toNat]? = none := by simp; omega
      have hi2 : items2[((i : Nat) : Int).toNat]? = none := by simp; omega
      rw [hi1, hi2]
      wp_walk using wpAny_loadPart' hl1, wpAny_loadPart' hb1
      show R (.ok (.ret (.bool (items.size == items2.size)))) _
      rw [hs1, hs2]
      simpa [resOf] using hR
    · wp_walk using wpAny_loadPart' hl1, wpAny_loadPart' hb1
      have hi1 : items[((i : Nat) : Int).toNat]? = none := by simp; omega
      have hi2 : items2[((i : Nat) : Int).toNat]? = none := by simp; omega
      rw [hi1, hi2]
      wp_walk using wpAny_loadPart' hl1, wpAny_loadPart' hb1
      show R (.ok (.ret (.bool (items.size != items2.size)))) _
      rw [hs1, hs2]
      simpa [resOf] using hR
  | succ k ih =>
    intro i hk hi s h
    obtain ⟨items, items2, n, n2, hl1, hb1, hs1, hs2, turn⟩ := hl _ _ h
    have hlt : i < items.size := by omega
    have hlt2 : i < items2.size := by omega
    have ht := turn hlt hlt2
    have hi1 : items[((i : Nat) : Int).toNat]? = some items[i] := by simp [hlt]
    have hi2 : items2[((i : Nat) : Int).toNat]? = some items2[i] := by simp [hlt2]
    have hc : ((i : Int) + 1) = ((i + 1 : Nat) : Int) := by omega
    obtain ⟨hp, g, d, tk, os⟩ := s
    rcases hop with ⟨rfl, rfl⟩ | ⟨rfl, rfl⟩ <;>
    · wp_walk using wpAny_loadPart' hl1, wpAny_loadPart' hb1
      rw [hi1, hi2]
      refine wpAny_bind (wpAny_mono ht (fun r s2 h2 => ?_) fun _ _ x => x)
      rcases h2 with ⟨rfl, h2⟩ | ⟨rfl, hres, h2⟩
      · have hrec := ih (i + 1) (by omega) (by omega) s2 h2
        obtain ⟨hp2, g2, d2, tk2, os2⟩ := s2
        wp_walk
        rw [hc]
        exact ⟨plainId_quiet plain_eq_loop _, codeAny_builtin entry_eq_loop (by
          rw [Around.under_plainId plain_eq_loop _]
          exact hrec)⟩
      · obtain ⟨items', items2', n', n2', hl1', hb1', hs1', hs2', _⟩ := hl _ _ h2
        have hR := fin s2 i h2 (fun z => by rw [hres] at z; cases z)
        rw [hres] at hR
        have hj1 : items'[((i : Nat) : Int).toNat]? = some (items'[i]'(by omega)) := by simp
        have hj2 : items2'[((i : Nat) : Int).toNat]? = some (items2'[i]'(by omega)) := by simp
        obtain ⟨hp2, g2, d2, tk2, os2⟩ := s2
        wp_walk using wpAny_loadPart' hl1', wpAny_loadPart' hb1'
        rw [hj1, hj2]
        wp_walk
        simpa [resOf] using hR
theorem list_opB (op : CmpOp) (code : Nat) (hop : (op = .Eq ∧ code = 2) ∨ (op = .NotEq ∧ code = 3)) (l b : Addr) (N : Nat) (res : Bool) (I : Nat → Shared → Prop) (hl : ListB prog w A (fun e s' => R (.error e) s') l b N res I)
    (fin : ∀ s i, I i s → (res = true → i = N) → R (.ok (.ret (.bool (resOf op res)))) s) (full : ∀ s, I N s → res = true) {s : Shared} (h : I 0 s) :
    wpAny (model prog w) A.in1 ((match op with | .Eq => Builtin.«list.__eq__» | _ => Builtin.«list.__ne__») ⟨[.ref l, .ref b], []⟩) (FinOf prog w A R) (fun e s' => R (.error e) s') s := by
  obtain ⟨items, items2, n, n2, hl1, hb1, hs1, hs2, _⟩ := hl _ _ h
  have hrec := eq_loopB (A := A) (R := R) op code hop l b N res I hl fin full _ 0 rfl (Nat.zero_le _) s h
  obtain ⟨hp, g, d, tk, os⟩ := s
  have f3 := AutoSeq1.sub_list_list
  have hne : ¬ (items.size != items2.size) = true := by simp [hs1, hs2]
  rcases hop with ⟨rfl, rfl⟩ | ⟨rfl, rfl⟩ <;>
  · wp_walk using wpAny_loadPart' hl1, wpAny_loadPart' hb1
    exact ⟨plainId_quiet plain_eq_loop _, codeAny_builtin entry_eq_loop (by
      rw [Around.under_plainId plain_eq_loop _]
      exact hrec)⟩
/-- lists of other lengths -/
theorem list_lenB (op : CmpOp) (hop : op = .Eq ∨ op = .NotEq) {l b : Addr} {items items2 : Array Value} {n n2 : Nat} {s : Shared} (hl1 : s.heap.get? l = some { cls := .type "list", data := .seq items n }) (hb1 : s.heap.get? b = some { cls := .type "list", data := .seq items2 n2 })
    (hne : (items.size != items2.size) = true) (hR : R (.ok (.ret (.bool (resOf op false)))) s) :
    wpAny (model prog w) A.in1 ((match op with | .Eq => Builtin.«list.__eq__» | _ => Builtin.«list.__ne__») ⟨[.ref l, .ref b], []⟩) (FinOf prog w A R) (fun e s' => R (.error e) s') s := by
  obtain ⟨hp, g, d, tk, os⟩ := s
  have f3 := AutoSeq1.sub_list_list
  rcases hop with rfl | rfl <;>
  · wp_walk using wpAny_loadPart' hl1, wpAny_loadPart' hb1
    first
      | exact hR
      | simpa [resOf] using hR
theorem tuple_opB (op : CmpOp) (hop : op = .Eq ∨ op = .NotEq) (l b : Addr) (items items2 : Array Value) (n n2 : Nat) (dd dd2 : Option Addr) (sl sl2 : Array (Option Value)) (res : Bool) (I : Nat → Shared → Prop)
    (turn : ∀ i (h1 : i < items.size) (h2 : i < items2.size) s, I i s → wpAny (model prog w) A.in1 (eqBool items[i] items2[i]) (fun r s' => (r = true ∧ I (i + 1) s') ∨ (r = false ∧ R (.ok (.ret (.bool (resOf op false)))) s')) (fun e s' => R (.error e) s') s)
    (fin : ∀ s, I (min items.size items2.size) s → R (.ok (.ret (.bool (resOf op (items.size == items2.size))))) s) {s : Shared} (hl1 : s.heap.get? l = some { cls := .type "tuple", dict := dd, data := .seq items n, slots := sl }) (hb1 : s.heap.get? b = some { cls := .type "tuple", dict := dd2, data := .seq items2 n2, slots := sl2 }) (h : I 0 s) :
    wpAny (model prog w) A.in1 ((match op with | .Eq => Builtin.«tuple.__eq__» | _ => Builtin.«tuple.__ne__») ⟨[.ref l, .ref b], []⟩) (FinOf prog w A R) (fun e s' => R (.error e) s') s := by
  have f2 := AutoSeq1.sub_tuple_tuple
  have hZ : (items.toList.zip items2.toList).length = min items.size items2.size := by simp
  have h0 := h
  obtain ⟨hp, g, d, tk, os⟩ := s
  rcases hop with rfl | rfl
  all_goals wp_walk using wpAny_loadPart' hl1, wpAny_loadPart' hb1, wpAny_forIn_list _ (fun rest b s' => b.1 = none ∧ ∃ i, rest = (items.toList.zip items2.toList).drop i ∧ i ≤ min items.size items2.size ∧ I i s') _
  all_goals try exact ⟨rfl, 0, rfl, Nat.zero_le _, h0⟩
  case inl.h.h.hq.h.hq.hq.turn | inr.h.h.hq.h.hq.hq.turn =>
    rintro ⟨y, x⟩ rest b s' ⟨hb', i, hz, hi, hI⟩
    have hlt : i < (items.toList.zip items2.toList).length := by
      rcases Nat.lt_or_ge i (items.toList.zip items2.toList).length with h' | h'
      · exact h'
      · rw [List.drop_of_length_le h'] at hz; cases hz
    have hm : i < min items.size items2.size := hZ ▸ hlt
    have h1 : i < items.size := Nat.lt_of_lt_of_le hm (Nat.min_le_left _ _)
    have h2 : i < items2.size := Nat.lt_of_lt_of_le hm (Nat.min_le_right _ _)
    rw [List.drop_eq_getElem_cons hlt] at hz
    injection hz with hyx hrest
    have hy : y = items[i] := by have := congrArg Prod.fst hyx; simpa using this
    have hx : x = items2[i] := by have := congrArg Prod.snd hyx; simpa using this
    subst hy hx
    refine wpAny_bind (wpAny_mono (turn i h1 h2 s' hI) (fun r s2 q2 => ?_) fun _ _ x => x)
    rcases q2 with ⟨rfl, q2⟩ | ⟨rfl, q2⟩
    · wp_walk
      exact ⟨rfl, i + 1, hrest, hm, q2⟩
    · wp_walk
      simpa [resOf] using q2
  all_goals
    rintro ⟨b1, b2⟩ s' ⟨hb', i, hz, hi, hI⟩
    simp only at hb'
    subst hb'
    have hge : min items.size items2.size ≤ i := by
      rcases Nat.lt_or_ge i (items.toList.zip items2.toList).length with h' | h'
      · rw [List.drop_eq_getElem_cons h'] at hz; cases hz
      · exact hZ ▸ h'
    have hi' : i = min items.size items2.size := by omega
    have hR := fin s' (hi' ▸ hI)
    wp_walk
    first
      | exact hR
      | simpa [Builtin.Tuple.tupleCompareSizes, resOf, bne] using hR
end
section
variable {prog : Program} {w : World} {A : Around} {E : Value → Shared → Prop} {s : Shared}
/-- == of two things inside a builtin, by their rich comparison -/
theorem eqBool_rcB {l : Addr} {v : Value} {Q : Bool → Shared → Prop} (hne : (Value.ref l == v) = false) (h : wpAny (model prog w) A (richCompare .Eq (.ref l) v) (fun r s' => ∃ b, r = .bool b ∧ Q b s') E s) : wpAny (model prog w) A (eqBool (.ref l) v) Q E s := by
  unfold eqBool
  refine wpAny_holding ?_
  refine wpAny_ite_split (fun hab => by rw [hne] at hab; cases hab) (fun _ => ?_)
  refine wpAny_bind (wpAny_mono h (fun r s' hv => ?_) fun _ _ x => x)
  obtain ⟨b, rfl, q⟩ := hv
  exact wpAny_truthy_bool q
theorem rc_listB (op : CmpOp) (code : Nat) (hop : (op = .Eq ∧ code = 2) ∨ (op = .NotEq ∧ code = 3)) {l b : Addr} {N : Nat} {res : Bool} {Q : Value → Shared → Prop} (hu : A.units < cLine) (I : Nat → Shared → Prop) (hl : ListB prog w A E l b N res I)
    (fin : ∀ s i, I i s → (res = true → i = N) → Q (.bool (resOf op res)) s) (full : ∀ s, I N s → res = true) (h : I 0 s) : wpAny (model prog w) A (richCompare op (.ref l) (.ref b)) Q E s := by
  obtain ⟨items, items2, n, n2, hl1, hb1, _, _, _⟩ := hl _ _ h
  have go := list_opB (A := A) (R := wants (fun v s' => v ≠ .notImplemented ∧ Q v s') E) op code hop l b N res I hl (fun s i q z => ⟨(fun x => nomatch x), fin s i q z⟩) full h
  rcases hop with ⟨rfl, rfl⟩ | ⟨rfl, rfl⟩
  · exact wpAny_richCompare_same_room (op := .Eq) ⟨_, hl1, rfl⟩ ⟨_, hb1, rfl⟩ F.slot_list_eq (GQ.call_here F.slot_list_eq ⟨_, hl1, rfl⟩ F.entry_list_eq (F.args_list_eq_2 _ _) go) hu
  · exact wpAny_richCompare_same_room (op := .NotEq) ⟨_, hl1, rfl⟩ ⟨_, hb1, rfl⟩ F.slot_list_ne (GQ.call_here F.slot_list_ne ⟨_, hl1, rfl⟩ F.entry_list_ne (F.args_list_ne_2 _ _) go) hu
theorem rc_lenB (op : CmpOp) (hop : op = .Eq ∨ op = .NotEq) {l b : Addr} {items items2 : Array Value} {n n2 : Nat} {Q : Value → Shared → Prop} (hu : A.units < cLine) (hl1 : s.heap.get? l = some { cls := .type "list", data := .seq items n }) (hb1 : s.heap.get? b = some { cls := .type "list", data := .seq items2 n2 })
    (hne : (items.size != items2.size) = true) (h : Q (.bool (resOf op false)) s) : wpAny (model prog w) A (richCompare op (.ref l) (.ref b)) Q E s := by
  have go := list_lenB (A := A) (prog := prog) (w := w) (R := wants (fun v s' => v ≠ .notImplemented ∧ Q v s') E) op hop hl1 hb1 hne ⟨(fun x => nomatch x), h⟩
  rcases hop with rfl | rfl
  · exact wpAny_richCompare_same_room (op := .Eq) ⟨_, hl1, rfl⟩ ⟨_, hb1, rfl⟩ F.slot_list_eq (GQ.call_here F.slot_list_eq ⟨_, hl1, rfl⟩ F.entry_list_eq (F.args_list_eq_2 _ _) go) hu
  · exact wpAny_richCompare_same_room (op := .NotEq) ⟨_, hl1, rfl⟩ ⟨_, hb1, rfl⟩ F.slot_list_ne (GQ.call_here F.slot_list_ne ⟨_, hl1, rfl⟩ F.entry_list_ne (F.args_list_ne_2 _ _) go) hu
theorem rc_tupB (op : CmpOp) (hop : op = .Eq ∨ op = .NotEq) {l b : Addr} {items items2 : Array Value} {Q : Value → Shared → Prop} (hu : A.units < cLine) (I : Nat → Shared → Prop)
    (hl1 : s.heap.IsTuple l items) (hb1 : s.heap.IsTuple b items2)
    (turn : ∀ i (h1 : i < items.size) (h2 : i < items2.size) s, I i s → wpAny (model prog w) A.in1 (eqBool items[i] items2[i]) (fun r s' => (r = true ∧ I (i + 1) s') ∨ (r = false ∧ Q (.bool (resOf op false)) s')) E s)
    (fin : ∀ s, I (min items.size items2.size) s → Q (.bool (resOf op (items.size == items2.size))) s) (h : I 0 s) : wpAny (model prog w) A (richCompare op (.ref l) (.ref b)) Q E s := by
  obtain ⟨⟨cls, dd, data, sl⟩, ho, hc, n, hd⟩ := id hl1
  obtain ⟨⟨cls2, dd2, data2, sl2⟩, ho2, hc2, n2, hd2⟩ := id hb1
  simp only at hc hd hc2 hd2
  subst hc hd hc2 hd2
  have go := tuple_opB (A := A) (prog := prog) (w := w) (R := wants (fun v s' => v ≠ .notImplemented ∧ Q v s') E) op hop l b items items2 n n2 dd dd2 sl sl2 true I
    (fun i h1 h2 s q => wpAny_mono (turn i h1 h2 s q) (fun r s' z => z.imp id fun z => ⟨z.1, (fun x => nomatch x), z.2⟩) fun _ _ x => x) (fun s q => ⟨(fun x => nomatch x), fin s q⟩) ho ho2 h
  rcases hop with rfl | rfl
  · exact wpAny_richCompare_same_room (op := .Eq) ⟨_, ho, rfl⟩ ⟨_, ho2, rfl⟩ F.slot_tuple_eq (GQ.call_here F.slot_tuple_eq ⟨_, ho, rfl⟩ F.entry_tuple_eq (F.args_tuple_eq_2 _ _) go) hu
  · exact wpAny_richCompare_same_room (op := .NotEq) ⟨_, ho, rfl⟩ ⟨_, ho2, rfl⟩ F.slot_tuple_ne (GQ.call_here F.slot_tuple_ne ⟨_, ho, rfl⟩ F.entry_tuple_ne (F.args_tuple_ne_2 _ _) go) hu
end
end GQB
namespace L2
open PySem PySem.Spec PyProof.Rows GQB
/-- how two values compare, by the abstract heap -/
abbrev EqB := V → V → Hp → Bool → Prop
def MonB (D : EqB) : Prop := ∀ x y H H' b, Ext H H' → D x y H b → D x y H' b
structure SubG (X : Cx) (n : Nat) (A : Around) : Prop where
  room : Room n A
  fr : A.frames = X.A.frames
  gd : A.guards = some []
theorem SubG.in1 {X : Cx} {n : Nat} {A : Around} (s : SubG X (n + 1) A) : SubG X n A.in1 := ⟨s.room.in1, s.fr, s.gd⟩
theorem SubG.mono {X : Cx} {n m : Nat} {A : Around} (s : SubG X n A) (h : m ≤ n) : SubG X m A := ⟨s.room.mono h, s.fr, s.gd⟩
def EqX (X : Cx) (n : Nat) (D : EqB) : Prop :=
  ∀ (A : Around) (pins : List (Addr × Obj)) (s : Shared) (σ : St) (H : Hp) (x y : V) (u v : Value) (b : Bool), SubG X n A → Inv X pins σ H s → RelV x u → RelV y v → D x y H b →
    wpAny (model X.prog X.w) A (eqBool u v) (fun r s' => r = b ∧ ∃ H', Inv X pins σ H' s' ∧ Ext H H') X.xe s
def RcX (X : Cx) (op : CmpOp) (n : Nat) (D : EqB) : Prop :=
  ∀ (A : Around) (pins : List (Addr × Obj)) (s : Shared) (σ : St) (H : Hp) (x y : V) (u v : Value) (b : Bool), SubG X n A → Inv X pins σ H s → RelV x u → RelV y v → D x y H b →
    wpAny (model X.prog X.w) A (richCompare op u v) (fun r s' => r = .bool (resOf op b) ∧ ∃ H', Inv X pins σ H' s' ∧ Ext H H') X.xe s
/-- item by item, up to the first two that differ -/
inductive PrsB (D : EqB) (H : Hp) : List V → List V → Bool → Prop
  | nil : PrsB D H [] [] true
  | more {y : V} {ys : List V} : PrsB D H [] (y :: ys) false
  | less {x : V} {xs : List V} : PrsB D H (x :: xs) [] false
  | same {x y : V} {xs ys : List V} {b : Bool} : D x y H true → PrsB D H xs ys b → PrsB D H (x :: xs) (y :: ys) b
  | diff {x y : V} {xs ys : List V} : D x y H false → PrsB D H (x :: xs) (y :: ys) false
section
variable {X : Cx} {n m : Nat} {D D' : EqB} {op : CmpOp}
theorem EqX.mono (h : EqX X n D) (hn : n ≤ m) : EqX X m D := fun A pins s σ H x y u v b sb => h A pins s σ H x y u v b (sb.mono hn)
theorem EqX.imp (h : EqX X n D) (hd : ∀ x y H b, D' x y H b → D x y H b) : EqX X n D' := fun A pins s σ H x y u v b sb I rx ry d => h A pins s σ H x y u v b sb I rx ry (hd x y H b d)
theorem EqX.or (h : EqX X n D) (h' : EqX X n D') : EqX X n (fun x y H b => D x y H b ∨ D' x y H b) := fun A pins s σ H x y u v b sb I rx ry d => by
  rcases d with d | d
  · exact h A pins s σ H x y u v b sb I rx ry d
  · exact h' A pins s σ H x y u v b sb I rx ry d
theorem MonB.or (h : MonB D) (h' : MonB D') : MonB (fun x y H b => D x y H b ∨ D' x y H b) := fun x y H H' b e d => d.elim (fun d => .inl (h x y H H' b e d)) fun d => .inr (h' x y H H' b e d)
theorem RcX.mono (h : RcX X op n D) (hn : n ≤ m) : RcX X op m D := fun A pins s σ H x y u v b sb => h A pins s σ H x y u v b (sb.mono hn)
theorem RcX.imp (h : RcX X op n D) (hd : ∀ x y H b, D' x y H b → D x y H b) : RcX X op n D' := fun A pins s σ H x y u v b sb I rx ry d => h A pins s σ H x y u v b sb I rx ry (hd x y H b d)
theorem RcX.or (h : RcX X op n D) (h' : RcX X op n D') : RcX X op n (fun x y H b => D x y H b ∨ D' x y H b) := fun A pins s σ H x y u v b sb I rx ry d => by
  rcases d with d | d
  · exact h A pins s σ H x y u v b sb I rx ry d
  · exact h' A pins s σ H x y u v b sb I rx ry d
/-- plain data -/
def DDat (K : PySem.W.Frag) : EqB := fun x y H b => ∃ d e, Dp K H x d ∧ Dp K H y e ∧ SeqAt.shaped d = true ∧ SeqAt.shaped e = true ∧ b = PyData.eqv d e
mutual
theorem Dp.extB {K : PySem.W.Frag} {H H' : Hp} (e : Ext H H') : ∀ {x : V} {d : PyData}, Dp K H x d → Dp K H' x d
  | _, _, .non => .non
  | _, _, .bl b => .bl b
  | _, _, .int i => .int i
  | _, _, .str x => .str x
  | _, _, .lst h t => .lst (h.ext e) (DpAll.extB e t)
  | _, _, .tup h t => .tup (h.ext e) (DpAll.extB e t)
theorem DpAll.extB {K : PySem.W.Frag} {H H' : Hp} (e : Ext H H') : ∀ {xs : List V} {ds : List PyData}, DpAll K H xs ds → DpAll K H' xs ds
  | _, _, .nil => .nil
  | _, _, .cons h t => .cons (h.extB e) (DpAll.extB e t)
end
theorem monB_dat {K : PySem.W.Frag} : MonB (DDat K) := fun x y H H' b e d => by
  obtain ⟨d1, d2, h1, h2, h3, h4, h5⟩ := d
  exact ⟨d1, d2, h1.extB e, h2.extB e, h3, h4, h5⟩
theorem eqX_dat : EqX X 0 (DDat X.K) := by
  intro A pins s σ H x y u v b sb I rx ry d
  obtain ⟨d1, d2, h1, h2, s1, s2, rfl⟩ := d
  obtain ⟨as, r1⟩ := Dp.reads I d1 x u h1 rx
  obtain ⟨bs, r2⟩ := Dp.reads I d2 y v h2 ry
  exact SeqAt.eqAt_reads d1 d2 A s u v as bs r1 r2 (SeqAt.canLay_of_shaped s1) (SeqAt.canLay_of_shaped s2) (SeqAt.room_of_shaped s1 sb.room.units) X.prog X.w X.xe _ ⟨rfl, H, I, Ext.rfl'⟩
/-- the same thing -/
def DSame : EqB := fun x y _ b => x = y ∧ b = true ∧ ((∃ a, x = .ref a) ∨ flatV x = true)
theorem monB_same : MonB DSame := fun _ _ _ _ _ _ d => d
theorem eqX_same : EqX X 0 DSame := by
  intro A pins s σ H x y u v b sb I rx ry d
  obtain ⟨rfl, rfl, ⟨a, rfl⟩ | fl⟩ := d
  · cases rx
    cases ry
    exact SeqAt.EqAt.same (A := A) (s := s) (.ref a) X.prog X.w X.xe _ ⟨rfl, H, I, Ext.rfl'⟩
  · have q := eqAt_V (A := A) (s := s) rx ry fl fl
    have e : eqV x x = true := by
      cases x <;> first | rfl | (simp [eqV]; done) | (exact absurd fl (by simp [flatV])) | skip
    rw [e] at q
    exact q X.prog X.w X.xe _ ⟨rfl, H, I, Ext.rfl'⟩
theorem PrsB.mon (hD : MonB D) {xs ys : List V} {b : Bool} {H H' : Hp} (e : Ext H H') (p : PrsB D H xs ys b) : PrsB D H' xs ys b := by
  induction p with
  | nil => exact .nil
  | more => exact .more
  | less => exact .less
  | same h _ ih => exact .same (hD _ _ _ _ _ e h) ih
  | diff h => exact .diff (hD _ _ _ _ _ e h)
theorem PrsB.full {xs ys : List V} {b : Bool} {H : Hp} (p : PrsB D H xs ys b) (h : xs = [] ∨ ys = []) : b = decide (xs.length = ys.length) := by
  cases p with
  | nil => rfl
  | more => simp
  | less => simp
  | same _ _ => simp at h
  | diff _ => simp at h
def LoopB (X : Cx) (pins : List (Addr × Obj)) (σ : St) (H : Hp) (D : EqB) (xs ys : List V) (b : Bool) (i : Nat) (s' : Shared) : Prop := ∃ H', Inv X pins σ H' s' ∧ Ext H H' ∧ PrsB D H' (xs.drop i) (ys.drop i) b
theorem turnB (hD : MonB D) (h : EqX X n D) {A : Around} (sb : SubG X (n + 1) A) {pins : List (Addr × Obj)} {σ : St} {H : Hp} {xs ys : List V} {its its2 : List Value} {b : Bool} (r : Vals xs its) (r2 : Vals ys its2)
    (i : Nat) (h1 : i < its.toArray.size) (h2 : i < its2.toArray.size) (s' : Shared) (l : LoopB X pins σ H D xs ys b i s') :
    wpAny (model X.prog X.w) A.in1 (eqBool its.toArray[i] its2.toArray[i]) (fun r s2 => (r = true ∧ LoopB X pins σ H D xs ys b (i + 1) s2) ∨ (r = false ∧ b = false ∧ LoopB X pins σ H D xs ys b i s2)) X.xe s' := by
  obtain ⟨H1, I1, e1, p⟩ := l
  have g1 : its[i]? = some its.toArray[i] := by
    have h1' : i < its.length := by simpa using h1
    rw [List.getElem?_eq_getElem h1'] <;> simp
  have g2 : its2[i]? = some its2.toArray[i] := by
    have h2' : i < its2.length := by simpa using h2
    rw [List.getElem?_eq_getElem h2'] <;> simp
  have k1 : i < xs.length := by rw [r.length]; simpa using h1
  have k2 : i < ys.length := by rw [r2.length]; simpa using h2
  obtain ⟨u, hu, ru⟩ := r.get (List.getElem?_eq_getElem k1)
  obtain ⟨v, hv, rv⟩ := r2.get (List.getElem?_eq_getElem k2)
  rw [g1] at hu
  rw [g2] at hv
  rw [Option.some.inj hu, Option.some.inj hv]
  have pp := p
  rw [List.drop_eq_getElem_cons k1, List.drop_eq_getElem_cons k2] at p
  cases p with
  | same d q =>
    refine wpAny_mono (h A.in1 pins s' σ H1 _ _ u v true sb.in1 I1 ru rv d) (fun r s2 z => ?_) fun _ _ x => x
    obtain ⟨hr, H2, I2, e2⟩ := z
    exact .inl ⟨hr, H2, I2, e1.trans e2, q.mon hD e2⟩
  | diff d =>
    refine wpAny_mono (h A.in1 pins s' σ H1 _ _ u v false sb.in1 I1 ru rv d) (fun r s2 z => ?_) fun _ _ x => x
    obtain ⟨hr, H2, I2, e2⟩ := z
    exact .inr ⟨hr, rfl, H2, I2, e1.trans e2, pp.mon hD e2⟩
def DTupB (K : PySem.W.Frag) (D : EqB) : EqB := fun x y H b => ∃ p q xs ys, x = .ref p ∧ y = .ref q ∧ SqT K H p xs ∧ SqT K H q ys ∧ PrsB D H xs ys b
def DLstB (D : EqB) : EqB := fun x y H b => ∃ p q xs ys, x = .ref p ∧ y = .ref q ∧ H p = some (.lst xs) ∧ H q = some (.lst ys) ∧ ((xs.length ≠ ys.length ∧ b = false) ∨ (xs.length = ys.length ∧ PrsB D H xs ys b))
theorem monB_tup {K : PySem.W.Frag} (hD : MonB D) : MonB (DTupB K D) := fun x y H H' b e d => by
  obtain ⟨p, q, xs, ys, hx, hy, h1, h2, z⟩ := d
  exact ⟨p, q, xs, ys, hx, hy, h1.ext e, h2.ext e, z.mon hD e⟩
theorem monB_lst (hD : MonB D) : MonB (DLstB D) := fun x y H H' b e d => by
  obtain ⟨p, q, xs, ys, hx, hy, h1, h2, z⟩ := d
  exact ⟨p, q, xs, ys, hx, hy, e _ _ h1, e _ _ h2, z.imp id fun z => ⟨z.1, z.2.mon hD e⟩⟩
theorem PrsB.true_len {xs ys : List V} {b : Bool} {H : Hp} (p : PrsB D H xs ys b) : b = true → xs.length = ys.length := by
  induction p with
  | nil => exact fun _ => rfl
  | more => exact fun z => nomatch z
  | less => exact fun z => nomatch z
  | same _ _ ih => exact fun z => congrArg (· + 1) (ih z)
  | diff _ => exact fun z => nomatch z
theorem rcX_tup (hop : op = .Eq ∨ op = .NotEq) (hD : MonB D) (h : EqX X n D) : RcX X op (n + 1) (DTupB X.K D) := by
  intro A pins s σ H x y u v b sb I rx ry d
  obtain ⟨p, q, xs, ys, rfl, rfl, ha, hb, z⟩ := d
  cases rx
  cases ry
  obtain ⟨its, r, e, _⟩ := I.tuple ha
  obtain ⟨its2, r2, e2, _⟩ := I.tuple hb
  refine rc_tupB op hop sb.room.units0 (LoopB X pins σ H D xs ys b) e e2 (fun i h1 h2 s' l => wpAny_mono (turnB hD h sb r r2 i h1 h2 s' l) (fun r' s2 w => ?_) fun _ _ x => x) (fun s' l => ?_) ⟨H, I, Ext.rfl', z⟩
  · rcases w with w | ⟨w1, rfl, H2, I2, e3, _⟩
    · exact .inl w
    · exact .inr ⟨w1, rfl, H2, I2, e3⟩
  · obtain ⟨H2, I2, e3, w⟩ := l
    have hl1 := r.length
    have hl2 := r2.length
    have hm : min its.toArray.size its2.toArray.size = min xs.length ys.length := by rw [List.size_toArray, List.size_toArray, ← hl1, ← hl2]
    rw [hm] at w
    have eb := w.full (by
      rcases Nat.le_total xs.length ys.length with k | k
      · left; rw [Nat.min_eq_left k, List.drop_length]
      · right; rw [Nat.min_eq_right k, List.drop_length])
    refine ⟨?_, H2, I2, e3⟩
    rw [eb, List.size_toArray, List.size_toArray, ← hl1, ← hl2, List.length_drop, List.length_drop]
    have : (xs.length == ys.length) = decide (xs.length - min xs.length ys.length = ys.length - min xs.length ys.length) := by
      by_cases k : xs.length = ys.length
      · rw [k]; simp
      · have : ¬ (xs.length - min xs.length ys.length = ys.length - min xs.length ys.length) := by omega
        simp [k, this]
    rw [this]
theorem rcX_lst (hop : op = .Eq ∨ op = .NotEq) (hD : MonB D) (h : EqX X n D) : RcX X op (n + 1) (DLstB D) := by
  intro A pins s σ H x y u v b sb I rx ry d
  obtain ⟨p, q, xs, ys, rfl, rfl, ha, hb, z⟩ := d
  cases rx
  cases ry
  rcases z with ⟨hl, rfl⟩ | ⟨hl, z⟩
  · obtain ⟨_, its, k, r, e⟩ := I.hok p _ ha
    obtain ⟨_, its2, k2, r2, e2⟩ := I.hok q _ hb
    have hl1 := r.length
    have hl2 := r2.length
    exact rc_lenB op hop sb.room.units0 e e2 (by rw [List.size_toArray, List.size_toArray, ← hl1, ← hl2]; simpa using hl) ⟨rfl, H, I, Ext.rfl'⟩
  · refine rc_listB op (if op = .Eq then 2 else 3) (by rcases hop with rfl | rfl <;> simp) (N := xs.length) (res := b) sb.room.units0 (fun i s' => LoopB X pins σ H D xs ys b i s') (fun i s' l => ?_) (fun s' i l _ => ?_) (fun s' l => ?_) ⟨H, I, Ext.rfl', z⟩
    · obtain ⟨H1, I1, e1, w⟩ := id l
      obtain ⟨_, its, k, r, e⟩ := I1.hok p _ (e1 _ _ ha)
      obtain ⟨_, its2, k2, r2, e2⟩ := I1.hok q _ (e1 _ _ hb)
      refine ⟨its.toArray, its2.toArray, k, k2, e, e2, by rw [List.size_toArray, ← r.length], by rw [List.size_toArray, ← r2.length, ← hl], fun h1 h2 => ?_⟩
      exact turnB hD h sb r r2 i h1 h2 s' l
    · obtain ⟨H1, I1, e1, w⟩ := l
      exact ⟨rfl, H1, I1, e1⟩
    · obtain ⟨H1, I1, e1, w⟩ := l
      have eb := w.full (.inl (List.drop_length ..))
      rw [List.drop_length, hl, List.drop_length] at eb
      simpa using eb
/-- instances of the class at C with the text's own ==, with anything -/
def DInsB (K : PySem.W.Frag) (C : Addr) (D : EqB) : EqB := fun x y H b => (∃ a dx fs, x = .ref a ∧ H a = some (.ins C dx fs)) ∧ (∃ t, TyOf K H y t ∧ PySem.W.notFirst K C t = true) ∧ D x y H b
/-- what the own == promises -/
def spEqB (D : EqB) : Sp := fun vs H Q _ => ∃ x y b, vs = [x, y] ∧ D x y H b ∧ ∀ H', Ext H H' → Q (.bl b) H'
theorem rcX_eqI {CX : CXT} {C f : Addr} {fd : FuncData} {ps : List Str} {E : XK} (T : EqC X.K C f) (F : FnG X.prog X.w X.K X.mg X.base CX n f fd ps (spEqB D)) (hb : Binds X.K fd ps []) (hx : Passes CX X E) : RcX X .Eq n (DInsB X.K C D) := by
  intro A pins s σ H x y u v b sb I rx ry d
  obtain ⟨⟨a, dx, fs, rfl, ha⟩, ⟨t, ty, hn⟩, hd⟩ := d
  cases rx
  obtain ⟨mA, J, _⟩ := ins_get I.hok ha
  obtain ⟨od, J, _⟩ := J.look
  obtain ⟨m, hF⟩ := I.fr
  refine PySem.W.cmp_K (op := .Eq) (tb := t) sb.room.units0 hF I.ok.mod.kin J (tyOf_looks I ry ty) hn T.eq T.fn ?_
  have hsp : spEqB D [.ref a, y] H (fun v H' => v = .bl b ∧ Ext H H') E := ⟨.ref a, y, b, rfl, hd, fun H' e => ⟨rfl, e⟩⟩
  have e0 : Env0 X.prog X.w X.K X.mg X.base A X.stack s H := by
    have e := I.env0
    exact ⟨by rw [sb.fr]; exact e.frames, e.mod, e.bs, e.bsz, e.funs, e.frf, e.hok, e.bare⟩
  have hl := F.len _ _ _ _ hsp
  have r2 : Vals [V.ref a, y] [Value.ref a, v] := .cons rfl (.cons ry .nil)
  refine wpAny_call (codeAny_mono (F.run A X.stack s H ⟨[.ref a, v], []⟩ [.ref a, v] [.ref a, y] _ E sb.gd sb.room e0 (by
    have := hb s [.ref a, v] I.kIn (by simpa using hl)
    simpa using this) r2 hsp) fun r s' hq => ?_)
  cases r with
  | error e => exact hx pins σ H s e s' I hq
  | ok fl =>
    cases fl with
    | ret w =>
      obtain ⟨z, H', I', rz, ez, ex⟩ := I.after hq
      subst ez
      cases rz
      exact ⟨rfl, H', I', ex⟩
    | next => exact False.elim hq
    | brk => exact False.elim hq
    | cont => exact False.elim hq
theorem rcX_neI {CX : CXT} {C f : Addr} {fd : FuncData} {ps : List Str} {E : XK} (T : EqC X.K C f) (F : FnG X.prog X.w X.K X.mg X.base CX n f fd ps (spEqB D)) (hb : Binds X.K fd ps []) (hx : Passes CX X E) : RcX X .NotEq (n + 1) (DInsB X.K C D) := by
  intro A pins s σ H x y u v b sb I rx ry d
  obtain ⟨⟨a, dx, fs, rfl, ha⟩, ⟨t, ty, hn⟩, hd⟩ := d
  cases rx
  obtain ⟨mA, O, _⟩ := ins_get I.hok ha
  obtain ⟨od, J, _⟩ := O.look
  have X0 : X.K.In s.heap := I.kIn
  have hb2 := tyOf_looks (M := model X.prog X.w) I ry ty
  have hr := sb.room
  have hsp : spEqB D [.ref a, y] H (fun v H' => v = .bl b ∧ Ext H H') E := ⟨.ref a, y, b, rfl, hd, fun H' e => ⟨rfl, e⟩⟩
  have e0 : Env0 X.prog X.w X.K X.mg X.base A.in1 X.stack s H := by
    have e := I.env0
    exact ⟨by rw [show A.in1.frames = A.frames from rfl, sb.fr]; exact e.frames, e.mod, e.bs, e.bsz, e.funs, e.frf, e.hok, e.bare⟩
  have inner : wpAny (model X.prog X.w) A.in1 (call (.ref f) [.ref a, v]) (fun w s' => w = .bool b ∧ ∃ H', Inv X pins σ H' s' ∧ Ext H H') X.xe s := by
    have r2 : Vals [V.ref a, y] [Value.ref a, v] := .cons rfl (.cons ry .nil)
    have hl := F.len _ _ _ _ hsp
    apply wpAny_call
    refine codeAny_mono (F.run A.in1 X.stack s H ⟨[.ref a, v], []⟩ [.ref a, v] [.ref a, y] _ E sb.gd hr.in1 e0 (by
      have := hb s [.ref a, v] X0 (by simpa using hl)
      simpa using this) r2 hsp) fun r s' hq => ?_
    match r, hq with
    | .error e, hq => exact hx pins σ H s e s' I hq
    | .ok (.ret w), hq =>
      obtain ⟨z, H', I', rz, ez, ex⟩ := I.after hq
      subst ez
      cases rz
      exact ⟨rfl, H', I', ex⟩
    | .ok .next, hq => exact False.elim hq
    | .ok .brk, hq => exact False.elim hq
    | .ok .cont, hq => exact False.elim hq
  have one : wpAny (model X.prog X.w) A (tryCompare (.ref a) "__ne__" v) (fun r s' => r = some (.bool (!b)) ∧ ∃ H', Inv X pins σ H' s' ∧ Ext H H') X.xe s := by
    unfold tryCompare
    refine wpAny_bind ?_
    simp only [callSpecialIfBound?, bindSpecialIfBound?]
    refine wpAny_holding (wpAny_bind (wpAny_bind (wpAny_bind (J.type.here ((PySem.W.looks_findIn X0 T.ne).here ?_)))))
    refine wpAny_bind (wpAny_askSetting (wpAny_ite ?_))
    have sub : PySem.W.Looks (model X.prog X.w) s.heap (isInstance (.ref a) (.type "object")) true := J.type.andThen (PySem.W.looks_mroIn X0 T.ob)
    have called : wpAny (model X.prog X.w) A (call (.builtin "object.__ne__") [.ref a, v]) (fun w s' => w = .bool (!b) ∧ ∃ H', Inv X pins σ H' s' ∧ Ext H H') X.xe s := by
      refine wpAny_call (codeAny_call_builtin PySem.F.cmp_object.ne.plain PySem.F.cmpEntry_ne (PySem.W.check_slot PySem.F.cmpKind_ne PySem.F.cmpSplit_ne sub (PySem.F.cmpArgs_ne _ _) ?_))
      refine ne_body (by have := hr.un; show A.units + 1 < cLine; omega) ?_
      refine PySem.W.ifBound_K X0 J T.eq T.fn (wpAny_mono inner ?_ fun _ _ z => z)
      rintro w s' ⟨rfl, z⟩
      exact ⟨b, rfl, rfl, z⟩
    have fin : wpAny (model X.prog X.w) A (call (.builtin "object.__ne__") ([.ref a] ++ [v]) >>= fun v => pure (some v)) (fun r s' => wpAny (model X.prog X.w) A (match r with
        | some .notImplemented => pure none
        | none => pure none
        | some v => pure (some v)) (fun r s' => r = some (.bool (!b)) ∧ ∃ H', Inv X pins σ H' s' ∧ Ext H H') X.xe s') X.xe s := by
      refine wpAny_bind (wpAny_mono called ?_ fun _ _ z => z)
      rintro w s' ⟨rfl, z⟩
      exact wpAny_pure (wpAny_pure ⟨rfl, z⟩)
    split
    · exact wpAny_bind (wpAny_of_eq (PySem.F.cmp_object.ne.bind _) (wpAny_pure fin))
    · exact wpAny_tryCatch (wpAny_bind (wpAny_of_eq (PySem.F.cmp_object.ne.bind _) (wpAny_pure fin)))
  show wpAny (model X.prog X.w) A (richCompare .NotEq (.ref a) v) (fun r s' => r = .bool (!b) ∧ ∃ H', Inv X pins σ H' s' ∧ Ext H H') X.xe s
  unfold richCompare
  simp only [PySem.oneThing_ref]
  refine wpAny_holding (wpAny_bind (wpAny_cRoomFor hr.units0 ?_))
  refine wpAny_bind (J.type.here (wpAny_bind (hb2.here ?_)))
  split
  · rename_i z
    have e : PySem.W.subIn X.K t (.ref C) = some false := by
      rcases Bool.or_eq_true_iff.mp hn with e | e
      · rw [beq_iff_eq.mp e] at z
        simp at z
      · exact beq_iff_eq.mp e
    refine wpAny_bind ((PySem.W.looks_subIn X0 e).here ?_)
    simp only [Bool.false_eq_true, if_false]
    refine wpAny_bind (wpAny_mono one ?_ fun _ _ z => z)
    rintro r s' ⟨rfl, z⟩
    exact wpAny_pure ⟨rfl, z⟩
  · refine wpAny_bind (wpAny_pure ?_)
    simp only [Bool.false_eq_true, if_false]
    refine wpAny_bind (wpAny_mono one ?_ fun _ _ z => z)
    rintro r s' ⟨rfl, z⟩
    exact wpAny_pure ⟨rfl, z⟩
theorem rcX_ins {CX : CXT} {C f : Addr} {fd : FuncData} {ps : List Str} {E : XK} (hop : op = .Eq ∨ op = .NotEq) (T : EqC X.K C f) (F : FnG X.prog X.w X.K X.mg X.base CX n f fd ps (spEqB D)) (hb : Binds X.K fd ps []) (hx : Passes CX X E) : RcX X op (n + 1) (DInsB X.K C D) := by
  rcases hop with rfl | rfl
  · exact (rcX_eqI T F hb hx).mono (Nat.le_succ n)
  · exact rcX_neI T F hb hx
/-- from a rich comparison to == inside a list or tuple: a thing is equal to itself -/
theorem RcX.eqX (h : RcX X .Eq n D) (hr : ∀ x y H b, D x y H b → (∃ a, x = .ref a) ∧ (x = y → b = true)) : EqX X n D := by
  intro A pins s σ H x y u v b sb I rx ry d
  obtain ⟨⟨a, rfl⟩, hs⟩ := hr _ _ _ _ d
  cases rx
  by_cases hab : V.ref a = y
  · cases hab
    cases ry
    rw [hs rfl]
    exact SeqAt.EqAt.same (A := A) (s := s) (.ref a) X.prog X.w X.xe _ ⟨rfl, H, I, Ext.rfl'⟩
  · refine eqBool_rcB (?_) (wpAny_mono (h A pins s σ H (.ref a) y _ v b sb I rfl ry d) (fun r s' q => ?_) fun _ _ x => x)
    · cases hz : (Value.ref a == v) with
      | false => rfl
      | true =>
        exfalso
        have e : v = Value.ref a := (eq_of_beq hz).symm
        subst e
        cases y with
        | ref c => cases (show Value.ref a = Value.ref c from ry); exact hab rfl
        | non => cases (show Value.ref a = Value.none from ry)
        | bl k => cases (show Value.ref a = Value.bool k from ry)
        | int k => obtain ⟨t, e⟩ := (show ∃ t, Value.ref a = Value.int k t from ry); cases e
        | str k => obtain ⟨t, e⟩ := (show ∃ t, Value.ref a = Value.str k t from ry); cases e
        | byt k => obtain ⟨t, e⟩ := (show ∃ t, Value.ref a = Value.bytes k t from ry); cases e
        | flt k => obtain ⟨t, e⟩ := (show ∃ t, Value.ref a = Value.float k t from ry); cases e
        | ty k => first | (cases (show Value.ref a = Value.type k from ry)) | (obtain ⟨t, e⟩ := ry; cases e) | cases ry
    · obtain ⟨hr', q⟩ := q
      exact ⟨b, hr', rfl, q⟩
/-- x == y as an expression, x != y likewise -/
def rOpB (op : CmpOp) (D : EqB) : R2 := fun x y H Q => ∃ b, D x y H b ∧ ∀ H', Ext H H' → Q (.bl (resOf op b)) H'
theorem op_X (hop : op = .Eq ∨ op = .NotEq) (h : RcX X op n D) (hgd : X.A.guards = some []) (hr : Room n X.A) : OpR X (compareOp op) (rOpB op D) := by
  intro pins s σ H x y v u Q I rx ry hq
  obtain ⟨b, d, q⟩ := hq
  have go : wpAny (model X.prog X.w) X.A (richCompare op v u) (EP X pins σ Q) X.xe s := by
    refine wpAny_mono (h X.A pins s σ H x y v u b ⟨hr, rfl, hgd⟩ I rx ry d) (fun r s' z => ?_) fun _ _ x => x
    obtain ⟨hr', H', I', e⟩ := z
    subst hr'
    exact ⟨.bl _, H', I', rfl, q H' e⟩
  rcases hop with rfl | rfl <;> exact go
end
end L2
end
section
set_option Elab.async false
set_option linter.all false
set_option maxRecDepth 100000
set_option maxHeartbeats 2000000
/-! # things of other kinds than a class; comparisons of what is the same thing -/
namespace L2
open PySem PySem.Spec PyProof.Rows GQB
/-- a thing of another kind than the class C -/
def NoIns (K : PySem.W.Frag) (C : Addr) (H : Hp) (y : V) : Prop := ∃ ty, TyOf K H y ty ∧ PySem.W.kitOne K ty (.ref C) = some false ∧ PySem.W.notFirst K C ty = true
theorem tyOf_ext {K : PySem.W.Frag} {H H' : Hp} {y : V} {ty : Value} (e : Ext H H') (h : TyOf K H y ty) : TyOf K H' y ty := by
  cases h with
  | non => exact .non
  | bl b => exact .bl b
  | int i => exact .int i
  | str x => exact .str x
  | flt x => exact .flt x
  | lst h => exact .lst (e _ _ h)
  | frz h => exact .frz (e _ _ h)
  | tup h => exact .tup (e _ _ h)
  | dK h => exact .dK (e _ _ h)
  | dT h => exact .dT (e _ _ h)
  | ins h a b c d f => exact .ins (e _ _ h) a b c d f
theorem tyOf_off {K : PySem.W.Frag} {M : Addr → Prop} {H H' : Hp} {y : V} {ty : Value} (o : Off M H H') (n : ∀ a, y = .ref a → ¬ M a) (h : TyOf K H y ty) : TyOf K H' y ty := by
  cases h with
  | non => exact .non
  | bl b => exact .bl b
  | int i => exact .int i
  | str x => exact .str x
  | flt x => exact .flt x
  | lst h => exact .lst (o _ _ (n _ rfl) h)
  | frz h => exact .frz (o _ _ (n _ rfl) h)
  | tup h => exact .tup (o _ _ (n _ rfl) h)
  | dK h => exact .dK (o _ _ (n _ rfl) h)
  | dT h => exact .dT (o _ _ (n _ rfl) h)
  | ins h a b c d f => exact .ins (o _ _ (n _ rfl) h) a b c d f
theorem NoIns.ext {K : PySem.W.Frag} {C : Addr} {H H' : Hp} {y : V} (e : Ext H H') (h : NoIns K C H y) : NoIns K C H' y := by
  obtain ⟨ty, a, b, c⟩ := h
  exact ⟨ty, tyOf_ext e a, b, c⟩
theorem NoIns.off {K : PySem.W.Frag} {M : Addr → Prop} {C : Addr} {H H' : Hp} {y : V} (o : Off M H H') (n : ∀ a, y = .ref a → ¬ M a) (h : NoIns K C H y) : NoIns K C H' y := by
  obtain ⟨ty, a, b, c⟩ := h
  exact ⟨ty, tyOf_off o n a, b, c⟩
/-- the built-in kinds of data are no class of ours -/
structure KitNo (K : PySem.W.Frag) (C : Addr) : Prop where
  n0 : PySem.W.kitOne K (.type "NoneType") (.ref C) = some false
  n1 : PySem.W.kitOne K (.type "bool") (.ref C) = some false
  n2 : PySem.W.kitOne K (.type "int") (.ref C) = some false
  n3 : PySem.W.kitOne K (.type "str") (.ref C) = some false
  n4 : PySem.W.kitOne K (.type "list") (.ref C) = some false
  n5 : PySem.W.kitOne K (.type "tuple") (.ref C) = some false
  n6 : PySem.W.kitOne K (.type "dict") (.ref C) = some false
  s0 : PySem.W.subIn K (.type "NoneType") (.ref C) = some false
  s1 : PySem.W.subIn K (.type "bool") (.ref C) = some false
  s2 : PySem.W.subIn K (.type "int") (.ref C) = some false
  s3 : PySem.W.subIn K (.type "str") (.ref C) = some false
  s4 : PySem.W.subIn K (.type "list") (.ref C) = some false
  s5 : PySem.W.subIn K (.type "tuple") (.ref C) = some false
  s6 : PySem.W.subIn K (.type "dict") (.ref C) = some false
theorem first_of {K : PySem.W.Frag} {C : Addr} {t : Value} (h : PySem.W.subIn K t (.ref C) = some false) : PySem.W.notFirst K C t = true := by
  simp [PySem.W.notFirst, h]
section
variable {K : PySem.W.Frag} {C : Addr} {H : Hp} (N : KitNo K C)
include N
theorem KitNo.non : NoIns K C H .non := ⟨_, .non, N.n0, first_of N.s0⟩
theorem KitNo.bl (b : Bool) : NoIns K C H (.bl b) := ⟨_, .bl b, N.n1, first_of N.s1⟩
theorem KitNo.int (i : Int) : NoIns K C H (.int i) := ⟨_, .int i, N.n2, first_of N.s2⟩
theorem KitNo.str (x : Str) : NoIns K C H (.str x) := ⟨_, .str x, N.n3, first_of N.s3⟩
theorem KitNo.lst {a : Addr} {xs : List V} (e : H a = some (.lst xs)) : NoIns K C H (.ref a) := ⟨_, .lst e, N.n4, first_of N.s4⟩
theorem KitNo.tup {a : Addr} {xs : List V} (e : H a = some (.tup xs)) : NoIns K C H (.ref a) := ⟨_, .tup e, N.n5, first_of N.s5⟩
theorem KitNo.dK {a : Addr} {xs : List (Key × V)} (e : H a = some (.dK xs)) : NoIns K C H (.ref a) := ⟨_, .dK e, N.n6, first_of N.s6⟩
theorem KitNo.dT {a : Addr} {xs : List (List Key × V)} (e : H a = some (.dT xs)) : NoIns K C H (.ref a) := ⟨_, .dT e, N.n6, first_of N.s6⟩
end
/-- an instance of another class -/
theorem noIns_ins {K : PySem.W.Frag} {C D a dx : Addr} {H : Hp} {fs : List (Str × V)} (ic : C8.InsC K D) (h : H a = some (.ins D dx fs)) (k : PySem.W.kitOne K (.ref D) (.ref C) = some false) (s : PySem.W.subIn K (.ref D) (.ref C) = some false) : NoIns K C H (.ref a) :=
  ⟨.ref D, .ins h ic.cl ic.ha ic.hn ic.htk ic.hm, k, first_of s⟩
/-- a thing that is one with itself, whatever it is -/
def OneT (v : V) : Prop := (∃ a, v = .ref a) ∨ flatV v = true
theorem prsB_same {H : Hp} : ∀ {vs : List V}, (∀ v ∈ vs, OneT v) → PrsB DSame H vs vs true
  | [], _ => .nil
  | v :: r, h => .same ⟨rfl, rfl, h v (List.mem_cons_self ..)⟩ (prsB_same fun x hx => h x (List.mem_cons_of_mem _ hx))
section
variable {X : Cx} {op : CmpOp}
/-- tuples of the same things -/
theorem op_tupS (hop : op = .Eq ∨ op = .NotEq) (hgd : X.A.guards = some []) (hr : Room 1 X.A) : OpR X (compareOp op) (rOpB op (DTupB X.K DSame)) := op_X hop (rcX_tup hop monB_same eqX_same) hgd hr
theorem dSameT {K : PySem.W.Frag} {H : Hp} {p q : Addr} {vs : List V} (hp : H p = some (.tup vs)) (hq : H q = some (.tup vs)) (h : ∀ v ∈ vs, OneT v) : DTupB K DSame (.ref p) (.ref q) H true :=
  ⟨p, q, vs, vs, rfl, rfl, SqT.of hp, SqT.of hq, prsB_same h⟩
theorem oneT_two {s : Str} {v : V} (h : OneT v) : ∀ x ∈ [V.str s, v], OneT x := fun x hx => by
  simp only [List.mem_cons, List.not_mem_nil, or_false] at hx
  rcases hx with rfl | rfl
  · exact .inr rfl
  · exact h
/-- two comparisons for one place -/
theorem op_alt {op : Value → Value → Sem Value} {R1 R2 : L2.R2} (h1 : OpR X op R1) (h2 : OpR X op R2) : OpR X op fun x y H Q => R1 x y H Q ∨ R2 x y H Q := by
  intro pins s σ H x y v u Q I rx ry h
  rcases h with h | h
  · exact h1 pins s σ H x y v u Q I rx ry h
  · exact h2 pins s σ H x y v u Q I rx ry h
end
end L2
end
section
set_option Elab.async false
set_option linter.all false
set_option maxRecDepth 100000
set_option maxHeartbeats 2000000
/-! # a tuple repeated, no time and once too -/
namespace L2
open PySem PySem.Spec PyProof.Rows
theorem tuple_mul0 (l : Addr) (items : Array Value) (n : Nat) (dd : Option Addr) (sl : Array (Option Value)) (x : Int) (u : Tok) (c0 : (decide (x < -(2 ^ 63)) || decide (x ≥ 2 ^ 63)) = false) (c1 : (items.isEmpty || x == 1) = false) (c2 : (decide (x ≤ 0) || items.isEmpty) = true) :
    Meets (Builtin.«tuple.__mul__» ⟨[.ref l, .int x u], []⟩) (fun _ R s => s.heap.get? l = some { cls := .type "tuple", dict := dd, data := .seq items n, slots := sl } ∧
      R (.ok (.ret (Value.ref s.heap.objs.size))) { s with heap := s.heap.push { cls := Value.type "tuple", data := Data.seq #[] }, toks := s.toks }) :=
  .of_wp fun prog w A R s h => by
    obtain ⟨hp, g, d, tk, os⟩ := s
    obtain ⟨hl, h⟩ := h
    have f1 := AutoSeq1.idx_int
    wp_walk using wpAny_loadPart' hl
    repeat (first
      | (refine wpAny_ite_false (decide_eq_false (by rw [c0]; exact Bool.false_ne_true)) ?_; wp_walk using wpAny_loadPart' hl)
      | (refine wpAny_ite_false (decide_eq_false (by rw [c1]; exact Bool.false_ne_true)) ?_; wp_walk using wpAny_loadPart' hl)
      | (refine wpAny_ite_true (decide_eq_true c2) ?_; wp_walk using wpAny_loadPart' hl))
    exact ⟨_, rfl, h⟩
theorem tuple_mul1 (l : Addr) (items : Array Value) (n : Nat) (dd : Option Addr) (sl : Array (Option Value)) (u : Tok) :
    Meets (Builtin.«tuple.__mul__» ⟨[.ref l, .int 1 u], []⟩) (fun _ R s => s.heap.get? l = some { cls := .type "tuple", dict := dd, data := .seq items n, slots := sl } ∧
      R (.ok (.ret (Value.ref l))) s) :=
  .of_wp fun prog w A R s h => by
    obtain ⟨hp, g, d, tk, os⟩ := s
    obtain ⟨hl, h⟩ := h
    have f1 := AutoSeq1.idx_int
    have c1 : (items.isEmpty || (1 : Int) == 1) = true := by simp
    wp_walk using wpAny_loadPart' hl
    repeat (first
      | (refine wpAny_ite_false (decide_eq_false (by decide)) ?_; wp_walk using wpAny_loadPart' hl)
      | (refine wpAny_ite_true (decide_eq_true c1) ?_; wp_walk using wpAny_loadPart' hl))
    exact ⟨_, rfl, h⟩
def rRepA : R2 := fun x y H Q => ∃ l k xs, x = .ref l ∧ y = .int k ∧ H l = some (.tup xs) ∧ xs ≠ [] ∧ 0 ≤ k ∧ k ≤ 1000 ∧ xs.length ≤ 1000 ∧ ∀ p H', Same H H' → H' p = some (.tup (List.replicate k.toNat xs).flatten) → Q (.ref p) H'
section
variable {X : Cx}
theorem op_repA : OpR X (binaryOp .Mult) rRepA := by
  intro pins s σ H x y v u Q I rx ry h
  obtain ⟨l, k, xs, rfl, rfl, hT, hne, h1, h2, hz, q⟩ := h
  by_cases k2 : 2 ≤ k
  · exact op_repT pins s σ H (.ref l) (.int k) v u Q I rx ry ⟨l, k, xs, rfl, rfl, SqT.of hT, hne, k2, h2, hz, fun p hp => q p _ (fun b o e => by rw [upd_ne (ne_of_none e hp)]; exact e) upd_same⟩
  cases rx
  obtain ⟨t, rfl⟩ := ry
  obtain ⟨its, r, ⟨⟨cls, dd, data, sl⟩, ho, hc, n, hd⟩, hs⟩ := I.tuple (SqT.of hT)
  simp only at hc hd
  subst hc hd
  have hle : its.length = xs.length := r.length.symm
  have hn : its ≠ [] := fun e => hne (by
    rw [e] at hle
    exact List.eq_nil_of_length_eq_zero hle.symm)
  have hi : its.toArray.isEmpty = false := by
    cases its with
    | nil => exact absurd rfl hn
    | cons a b => rfl
  by_cases k1 : k = 1
  · subst k1
    refine wpAny_binaryOp_repeat_ref (T := "tuple") (U := "int") (by decide) ⟨_, ho, rfl⟩ (fun s' => typeIs_int s' 1 t) noFill_tuple_mul F.fills_int_mul F.slot_int_rmul repeat_tuple F.slot_int_index.lookup
      (call_meets F.slot_int_rmul (typeIs_int s 1 t) F.entry_int_rmul (F.args_int_rmul_2 _ _) (int_rmul_tuple 1 t l its.toArray n dd sl)
        ⟨ho, rfl, ⟨_, ho, rfl⟩, call_meets F.slot_tuple_mul ⟨_, ho, rfl⟩ F.entry_tuple_mul (F.args_tuple_mul_2 _ _) (tuple_mul1 l its.toArray n dd sl t) ⟨ho, ?_⟩⟩)
    exact ⟨.ref l, H, I, rfl, q l H (fun _ _ e => e) (by simpa using hT)⟩
  · have k0 : k = 0 := by omega
    subst k0
    have c0 : (decide ((0 : Int) < -(2 ^ 63)) || decide ((0 : Int) ≥ 2 ^ 63)) = false := by decide
    have c1 : (its.toArray.isEmpty || (0 : Int) == 1) = false := by rw [hi]; rfl
    have c2 : (decide ((0 : Int) ≤ 0) || its.toArray.isEmpty) = true := by simp
    refine wpAny_binaryOp_repeat_ref (T := "tuple") (U := "int") (by decide) ⟨_, ho, rfl⟩ (fun s' => typeIs_int s' 0 t) noFill_tuple_mul F.fills_int_mul F.slot_int_rmul repeat_tuple F.slot_int_index.lookup
      (call_meets F.slot_int_rmul (typeIs_int s 0 t) F.entry_int_rmul (F.args_int_rmul_2 _ _) (int_rmul_tuple 0 t l its.toArray n dd sl)
        ⟨ho, rfl, ⟨_, ho, rfl⟩, call_meets F.slot_tuple_mul ⟨_, ho, rfl⟩ F.entry_tuple_mul (F.args_tuple_mul_2 _ _) (tuple_mul0 l its.toArray n dd sl 0 t c0 c1 c2) ⟨ho, ?_⟩⟩)
    have hf := I.hok.fresh (Nat.le_refl _)
    refine ⟨.ref s.heap.objs.size, _, I.laid (t' := s.toks) (o := .tup []) (fun b ob q => Heap.get?_push_of_some _ q) (Nat.le_refl _) ?_, rfl, q _ _ (fun b o e => by rw [upd_ne (ne_of_none e hf)]; exact e) upd_same⟩
    exact ⟨Nat.zero_le _, [], .nil, IsTup.new _ _⟩
end
section
open PySem.W
/-- the class of an error without methods, from facts that are looked up -/
theorem errN_mk {K : Frag} {mg : Str → Option Value} {h : Heap} {cn : Str} {C : Addr} (X : K.In h) (G : h.Ns mainGlobals mg) (gC : nsIn K mainGlobals cn = some (some (.ref C)))
    (ex : excIn K C [.type "ValueError", .type "Exception", .type "BaseException", .type "object"] "ValueError.__new__" = true) (kC : keepIn K (.ref C) = true) (exC : subIn K (.ref C) (.type "BaseException") = some true) (tyC : typeIn K (.ref C) = some (.type "type"))
    (icC : isClsIn K C = true) (sC : subIn K (.ref C) (.ref C) = some true) : ErrN K mg cn C := ⟨mg_of X G gC, ex, kC, exC, tyC, RX.te_of exC icC tyC sC⟩
/-- an error of class S is no C, from facts that are looked up -/
theorem te_no {K : Frag} {S C : Addr} (a : subIn K (.ref C) (.type "BaseException") = some true) (b : isClsIn K C = true) (c : typeIn K (.ref C) = some (.type "type")) (d : subIn K (.ref S) (.ref C) = some false) : exmOne K (.ref S) (.ref C) = some false := by
  have b' : (clsIn K C).isSome = true := b
  simp [exmOne, kitCls, a, b', c, d]
end
end L2
end
section
set_option Elab.async false
set_option linter.all false
set_option maxRecDepth 100000
set_option maxHeartbeats 2000000
/-! # readings of one's own, short: tuples joined, cut -/
namespace L2
open PySem PySem.Spec PyProof.Rows
section
variable {K : PySem.W.Frag} {H : Hp} {a b : Addr} {xs ys : List V} {Q : VK}
theorem catU (ha : H a = some (.tup xs)) (hb : H b = some (.tup ys)) (hz : xs.length + ys.length ≤ sizeLine) (k : ∀ p H', Ext H H' → H' p = some (.tup (xs ++ ys)) → Q (.ref p) H') : rCatA K (.ref a) (.ref b) H Q :=
  ⟨a, b, xs, ys, rfl, rfl, SqT.of ha, SqT.of hb, hz, fun z => k b H Ext.rfl' (by rw [z]; exact hb), fun _ z => k a H Ext.rfl' (by rw [z, List.append_nil]; exact ha), fun _ _ p hp => k p _ (Ext.upd hp) upd_same⟩
theorem slU {lo hi : Option Int} (ha : H a = some (.tup xs)) (k : ∀ p H', Ext H H' → H' p = some (.tup (cutV xs lo hi)) → Q (.ref p) H') : rSlA K (.ref a) lo hi H Q :=
  ⟨a, xs, rfl, SqT.of ha, fun z => k a H Ext.rfl' (by
    have : cutV xs lo hi = xs := by unfold cutV; rw [z.1, z.2, List.drop_zero, Nat.sub_zero, List.take_length]
    rw [this]; exact ha), fun _ p hp => k p _ (Ext.upd hp) upd_same⟩
theorem cut_from {j : Nat} (h : j ≤ xs.length) : cutV xs (some (j : Int)) none = xs.drop j := by
  unfold cutV
  rw [HT.sIx_nat, HT.sIx_none, Nat.min_eq_left h, List.take_of_length_le (by rw [List.length_drop]; omega)]
theorem cut_to {j : Nat} (h : j ≤ xs.length) : cutV xs none (some (j : Int)) = xs.take j := by
  unfold cutV
  rw [HT.sIx_none, HT.sIx_nat, List.drop_zero, Nat.sub_zero, Nat.min_eq_left h]
theorem nopart_of {σ : St} {H : Hp} {Q : Option Int → Hp → Prop} (h : Q none H) : tNoPart σ H Q := h
end
end L2
end
section
set_option Elab.async false
set_option linter.all false
set_option maxRecDepth 100000
set_option maxHeartbeats 2000000
/-! # a sign, many times: "#" * n -/
namespace L2
open PySem PySem.Spec PyProof.Rows
theorem foldl_sign (c : Nat) : ∀ (n : Nat) (a : Array Nat), (List.replicate n #[c]).foldl (· ++ ·) a = a ++ (List.replicate n c).toArray
  | 0, a => by simp
  | n + 1, a => by
    rw [List.replicate_succ, List.foldl_cons, foldl_sign c n, List.replicate_succ]
    apply Array.ext'
    simp
theorem mul_sign (c n : Nat) : Txt.mul ⟨#[c]⟩ (n : Int) = ⟨(List.replicate n c).toArray⟩ := by
  unfold Txt.mul
  by_cases h : (n : Int) < 1
  · have : n = 0 := by omega
    subst this
    rfl
  · rw [if_neg h]
    by_cases h1 : n = 1
    · subst h1
      rfl
    · have : ((n : Int) == 1 || Str.length ⟨#[c]⟩ == 0) = false := by
        have h2 : ((n : Int) == 1) = false := beq_eq_false_iff_ne.mpr (by omega)
        rw [h2]; rfl
      rw [if_neg (by rw [this]; exact Bool.false_ne_true), Int.toNat_natCast]
      show (⟨(List.replicate n #[c]).foldl (· ++ ·) #[]⟩ : Str) = _
      rw [foldl_sign]
      simp
section
variable {X : Cx}
def rMulS : R2 := fun x y H Q => ∃ c n : Nat, x = .str ⟨#[c]⟩ ∧ y = .int (n : Int) ∧ n ≤ 1000 ∧ Q (.str ⟨(List.replicate n c).toArray⟩) H
theorem op_mulS : OpR X (binaryOp .Mult) rMulS := by
  intro pins s σ H x y v u Q I rx ry h
  obtain ⟨c, n, rfl, rfl, hn, q⟩ := h
  obtain ⟨t, rfl⟩ := rx
  obtain ⟨t', rfl⟩ := ry
  refine SB.mul ⟨?_, ?_, ?_⟩ fun t' k => ⟨.str ⟨(List.replicate n c).toArray⟩, H, I.tok _, ⟨t', ?_⟩, q⟩
  · rw [decide_eq_false (by omega), decide_eq_false (by omega)]; rfl
  · intro h1 _
    have : (1 : Int) ≤ (2 ^ 63 - 1) / (n : Int) := by
      refine (Int.le_ediv_iff_mul_le (by omega)).mpr ?_
      omega
    show ¬ ((1 : Nat) : Int) > _
    omega
  · intro _ _
    show Builtin.Str.tooLong (1 * _) = false
    unfold Builtin.Str.tooLong
    rw [sizeLine_eq]
    simp
    omega
  · rw [mul_sign]
end
end L2
end
section
set_option Elab.async false
set_option linter.all false
set_option maxRecDepth 100000
set_option maxHeartbeats 2000000
/-! # list(zip(a, b)) of two tuples: a new list of new pairs; a zip whose pairs are kept. -/
open PySem
namespace ZZ
section
variable {M : Model} {A : Around} {E : Value → Shared → Prop} {s : Shared}
theorem wpp {α : Type} {a : α} {Q : α → Shared → Prop} (h : Q a s) : wpAny M A (pure a) Q E s := fun _ _ _ => h
theorem wp_alive {a : Addr} {Q : Option Obj → Shared → Prop} (h : Q (s.heap.get? a) s) : wpAny M A (loadIfAlive a) Q E s := fun Γ p hΓ => by
  unfold loadIfAlive
  rw [Sem.wp_loadIfAlive]
  exact h
end
variable {prog : Program} {w : World} {A : Around} {E : Value → Shared → Prop} {s : Shared}
theorem owned_held {z TI TO T : Addr} {f : Bool} {oT : Obj} (hz : IsZipHeld s.heap z TI TO T f) (hT : s.heap.get? T = some oT) {Q : Bool → Shared → Prop}
    (k : ∀ h' : Heap, IsZipHeld h' z TI TO T true → h'.objs.size = s.heap.objs.size → (∀ c o, c ≠ z → s.heap.get? c = some o → h'.get? c = some o) → Q false { s with heap := h' }) : wpAny (model prog w) A (Builtin.SmallTypes.ownedTupleIsFree (.ref z)) Q E s := by
  unfold Builtin.SmallTypes.ownedTupleIsFree
  refine wpAny_bind (wpAny_field hz rfl rfl ?_)
  show wpAny _ _ (loadIfAlive _ >>= _) _ _ _
  refine wpAny_bind (wp_alive ?_)
  rw [Int.toNat_natCast, hT]
  show wpAny _ _ (field _ _ >>= _) _ _ _
  refine wpAny_bind (wpAny_field hz rfl rfl ?_)
  cases f with
  | true => 
    exact wpp (k s.heap hz rfl fun c o _ e => e)
  | false =>
    show wpAny _ _ (setField _ _ _ >>= _) _ _ _
    refine wpAny_bind (wpAny_setField_rec hz (by show 1 < 5; decide) fun h' e sb => wpp (k h' e sb.1 fun c o hc e => (sb.2 c hc).trans e))
theorem zipT_next_held {z TI TO T i1 i2 l1 l2 : Addr} {f : Bool} {oT : Obj} {k1 k2 : Nat} {xs ys : Array Value} {x y : Value} {Q : Value → Shared → Prop}
   (ap : ZipApart z TI TO i1 i2 l1 l2) (hz : IsZipHeld s.heap z TI TO T f) (hT : s.heap.get? T = some oT) (hTI : IsPair s.heap TI (.ref i1) (.ref i2)) (h1 : s.heap.IsTupleIter i1 l1 k1) (h2 : s.heap.IsTupleIter i2 l2 k2) (t1 : s.heap.IsTuple l1 xs) (t2 : s.heap.IsTuple l2 ys)
   (ex : xs[k1]? = some x) (ey : ys[k2]? = some y)
   (k : ∀ h' : Heap, IsZipHeld h' z TI TO T true → h'.IsTupleIter i1 l1 (k1 + 1) → h'.IsTupleIter i2 l2 (k2 + 1) → IsPair h' s.heap.objs.size x y → h'.objs.size = s.heap.objs.size + 1 → (∀ c o, c ≠ z → c ≠ i1 → c ≠ i2 → s.heap.get? c = some o → h'.get? c = some o) → Q (.ref s.heap.objs.size) { s with heap := h' }) :
   wpAny (model prog w) A (Builtin.«zip.__next__» { pos := [.ref z] }) (fun fin s' => ∃ v, fin = .done (.ret v) ∧ Q v s') E s := by
  unfold Builtin.«zip.__next__»
  refine wpAny_bind ?_
  show wpAny _ _ (pure _) _ _ _
  refine wpp ?_
  refine wpAny_bind (wpAny_field hz rfl rfl ?_)
  refine wpAny_bind (wpAny_field hz rfl rfl ?_)
  refine wpAny_bind (wpAny_seqItems hTI rfl ?_)
  show wpAny _ _ (Builtin.SmallTypes.ownedTupleIsFree _ >>= _) _ _ _
  refine wpAny_bind (owned_held hz hT fun ha za sza ka => ?_)
  have h1a := h1.imp fun o q => And.imp_left (ka i1 o ap.i1z) q
  have h2a := h2.imp fun o q => And.imp_left (ka i2 o ap.i2z) q
  have t1a := t1.imp fun o q => And.imp_left (ka l1 o ap.l1z) q
  have t2a := t2.imp fun o q => And.imp_left (ka l2 o ap.l2z) q
  show wpAny _ _ (forIn #[Value.ref i1, Value.ref i2] (none, #[]) _ >>= _) _ _ _
  refine wpAny_bind (MeetsSeq2.wpAny_forIn_array _ (fun l b s' => (l = [.ref i1, .ref i2] ∧ b = (none, #[]) ∧ s' = { s with heap := ha }) ∨
    (l = [.ref i2] ∧ b = (none, #[x]) ∧ ∃ h' : Heap, s' = { s with heap := h' } ∧ h'.IsTupleIter i1 l1 (k1 + 1) ∧ Heap.SameBut i1 ha h') ∨
    (l = [] ∧ b = (none, #[x, y]) ∧ ∃ h' h'' : Heap, s' = { s with heap := h'' } ∧ h'.IsTupleIter i1 l1 (k1 + 1) ∧ Heap.SameBut i1 ha h' ∧ h''.IsTupleIter i2 l2 (k2 + 1) ∧ Heap.SameBut i2 h' h'')) _ ?_ ?_ _ _ (.inl ⟨rfl, rfl, rfl⟩))
  · rintro it rest b s' (⟨el, rfl, rfl⟩ | ⟨el, rfl, h', rfl, g1, g2⟩ | ⟨el, _⟩)
    · cases el
      refine wpAny_bind ?_
      refine wpAny_holding ?_
      show wpAny _ _ (Builtin.SmallTypes.nextOf _ >>= fun r => pure (some r)) _ _ _
      refine wpAny_bind (RZ.nextOf_tuple_item h1a t1a ex fun h' q sb => wpp ?_)
      refine wpp ?_
      exact .inr (.inl ⟨rfl, rfl, h', rfl, q, sb⟩)
    · cases el
      refine wpAny_bind ?_
      refine wpAny_holding ?_
      show wpAny _ _ (Builtin.SmallTypes.nextOf _ >>= fun r => pure (some r)) _ _ _
      have kb : ∀ c, c ≠ i1 → h'.get? c = ha.get? c := g2.2
      refine wpAny_bind (RZ.nextOf_tuple_item (h2a.imp fun o q => And.imp_left (fun e => (kb i2 ap.i12.symm).trans e) q) (t2a.imp fun o q => And.imp_left (fun e => (kb l2 ap.l2i1).trans e) q) ey fun h'' q sb => wpp ?_)
      refine wpp ?_
      exact .inr (.inr ⟨rfl, rfl, h', h'', rfl, g1, g2, q, sb⟩)
    · cases el
  · rintro b s' (⟨el, _⟩ | ⟨el, _⟩ | ⟨_, rfl, h', h'', rfl, g1, g2, g3, g4⟩)
    · cases el
    · cases el
    have hs : h''.objs.size = s.heap.objs.size := g4.1.trans (g2.1.trans sza)
    have kk : ∀ c o, c ≠ i1 → c ≠ i2 → ha.get? c = some o → (h''.push { cls := .type "tuple", data := .seq [x, y].toArray }).get? c = some o := fun c o n1 n2 e => Heap.get?_push_of_some _ ((g4.2 c n2).trans ((g2.2 c n1).trans e))
    show wpAny _ _ (newTuple [x, y] >>= fun v => ret v) _ _ _
    refine wpAny_bind (wpAny_newTuple ?_ (show 2 ≤ sizeLine by decide +kernel))
    refine wpp ⟨_, rfl, ?_⟩
    have hp := Heap.get?_push_size h'' (o := { cls := .type "tuple", data := .seq [x, y].toArray }) rfl
    have q := k (h''.push { cls := .type "tuple", data := .seq [x, y].toArray }) (kk _ _ ap.i1z.symm ap.i2z.symm za) (g1.imp fun o q => And.imp_left (fun e => Heap.get?_push_of_some _ ((g4.2 i1 ap.i12).trans e)) q) (g3.imp fun o q => And.imp_left (fun e => Heap.get?_push_of_some _ e) q) (by rw [← hs]; exact hp) (by rw [← hs]; exact Array.size_push ..) fun c o n1 n2 n3 e => kk c o n2 n3 (ka c o n1 e)
    rw [← hs] at q
    exact q
theorem wp_attempt {M : Model} {α : Type} {m : Sem α} {Q : Except Value α → Shared → Prop} (h : wpAny M A m (fun a s' => Q (.ok a) s') (fun e s' => Q (.error e) s') s) : wpAny M A m.attempt Q E s := fun Γ p hΓ => by
  rw [Sem.wp_attempt]
  exact h Γ p hΓ
theorem zipT_next_held_end {z TI TO T i1 i2 l1 l2 : Addr} {f : Bool} {oT : Obj} {k1 : Nat} {xs : Array Value} {Q : PySem.Fin → Shared → Prop}
   (hA : A.handled = none) (ap : ZipApart z TI TO i1 i2 l1 l2) (hz : IsZipHeld s.heap z TI TO T f) (hT : s.heap.get? T = some oT) (hTI : IsPair s.heap TI (.ref i1) (.ref i2)) (h1 : s.heap.IsTupleIter i1 l1 k1) (t1 : s.heap.IsTuple l1 xs)
   (ex : xs[k1]? = none)
   (k : ∀ (h' : Heap) (e : Addr), (∀ c o, c ≠ z → c ≠ i1 → s.heap.get? c = some o → h'.get? c = some o) → (∃ o, h'.get? e = some o ∧ o.cls = .type "StopIteration") → E (.ref e) { s with heap := h' }) :
   wpAny (model prog w) A (Builtin.«zip.__next__» { pos := [.ref z] }) Q E s := by
  unfold Builtin.«zip.__next__»
  refine wpAny_bind ?_
  show wpAny _ _ (pure _) _ _ _
  refine wpp ?_
  refine wpAny_bind (wpAny_field hz rfl rfl ?_)
  refine wpAny_bind (wpAny_field hz rfl rfl ?_)
  refine wpAny_bind (wpAny_seqItems hTI rfl ?_)
  show wpAny _ _ (Builtin.SmallTypes.ownedTupleIsFree _ >>= _) _ _ _
  refine wpAny_bind (owned_held hz hT fun ha za sza ka => ?_)
  have h1a := h1.imp fun o q => And.imp_left (ka i1 o ap.i1z) q
  have t1a := t1.imp fun o q => And.imp_left (ka l1 o ap.l1z) q
  show wpAny _ _ (forIn #[Value.ref i1, Value.ref i2] (none, #[]) _ >>= _) _ _ _
  refine wpAny_bind (MeetsSeq2.wpAny_forIn_array _ (fun l b s' => l = [.ref i1, .ref i2] ∧ b = (none, #[]) ∧ s' = { s with heap := ha }) _ ?_ ?_ _ _ ⟨rfl, rfl, rfl⟩)
  · rintro it rest b s' ⟨el, rfl, rfl⟩
    cases el
    refine wpAny_bind ?_
    refine wpAny_holding ?_
    show wpAny _ _ (Builtin.SmallTypes.nextOf _ >>= fun r => pure (some r)) _ _ _
    exact wpAny_bind (RZ.nextOf_tuple_end hA h1a t1a ex fun h' e sb st => k h' e (fun c o n1 n2 e => sb c o n2 (ka c o n1 e)) st)
  · rintro b s' ⟨el, _⟩
    cases el
theorem pyNext_zip_item {z TI TO T i1 i2 l1 l2 : Addr} {f : Bool} {oT : Obj} {k1 k2 : Nat} {xs ys : Array Value} {x y : Value} {Q : Option Value → Shared → Prop}
   (ap : ZipApart z TI TO i1 i2 l1 l2) (hz : IsZipHeld s.heap z TI TO T f) (hT : s.heap.get? T = some oT) (hTI : IsPair s.heap TI (.ref i1) (.ref i2)) (h1 : s.heap.IsTupleIter i1 l1 k1) (h2 : s.heap.IsTupleIter i2 l2 k2) (t1 : s.heap.IsTuple l1 xs) (t2 : s.heap.IsTuple l2 ys)
   (ex : xs[k1]? = some x) (ey : ys[k2]? = some y)
   (k : ∀ h' : Heap, IsZipHeld h' z TI TO T true → h'.IsTupleIter i1 l1 (k1 + 1) → h'.IsTupleIter i2 l2 (k2 + 1) → IsPair h' s.heap.objs.size x y → h'.objs.size = s.heap.objs.size + 1 → (∀ c o, c ≠ z → c ≠ i1 → c ≠ i2 → s.heap.get? c = some o → h'.get? c = some o) → Q (some (.ref s.heap.objs.size)) { s with heap := h' }) :
   wpAny (model prog w) A (pyNext (.ref z)) Q E s := by
  unfold pyNext
  have hty : s.TypeIs (.ref z) "zip" := ⟨_, hz, rfl⟩
  refine wpAny_bind (wp_attempt ?_)
  refine wpAny_callSpecial?_slot hty F.slot_zip_next ?_
  refine wpAny_call_entry F.slot_zip_next hty F.entry_zip_next ?_
  refine zipT_next_held ap hz hT hTI h1 h2 t1 t2 ex ey fun h' a1 a2 a3 a4 a5 a6 => ?_
  exact wpp (k h' a1 a2 a3 a4 a5 a6)
theorem sub_stop : isSubtype (.type "StopIteration") (.type "StopIteration") = pure true := by rfl
theorem pyNext_zip_end {z TI TO T i1 i2 l1 l2 : Addr} {f : Bool} {oT : Obj} {k1 : Nat} {xs : Array Value} {Q : Option Value → Shared → Prop}
   (hA : A.handled = none) (ap : ZipApart z TI TO i1 i2 l1 l2) (hz : IsZipHeld s.heap z TI TO T f) (hT : s.heap.get? T = some oT) (hTI : IsPair s.heap TI (.ref i1) (.ref i2)) (h1 : s.heap.IsTupleIter i1 l1 k1) (t1 : s.heap.IsTuple l1 xs)
   (ex : xs[k1]? = none)
   (k : ∀ (h' : Heap), (∀ c o, c ≠ z → c ≠ i1 → s.heap.get? c = some o → h'.get? c = some o) → Q none { s with heap := h' }) :
   wpAny (model prog w) A (pyNext (.ref z)) Q E s := by
  unfold pyNext
  have hty : s.TypeIs (.ref z) "zip" := ⟨_, hz, rfl⟩
  refine wpAny_bind (wp_attempt ?_)
  refine wpAny_callSpecial?_slot hty F.slot_zip_next ?_
  refine wpAny_call_entry F.slot_zip_next hty F.entry_zip_next ?_
  refine zipT_next_held_end hA ap hz hT hTI h1 t1 ex fun h' e kk st => ?_
  show wpAny _ _ (isInstance (.ref e) (.type "StopIteration") >>= _) _ _ _
  exact wpAny_bind (wpAny_isInstance (T := "StopIteration") (b := true) st sub_stop (wpp (k h' kk)))
/-- a zip of two tuples, i pairs drawn and kept -/
def ZSt (h : Heap) (z TI TO i1 i2 l1 l2 : Addr) (xs ys : Array Value) (i : Nat) : Prop :=
  ((∃ a b, IsZip h z TI TO .none ∧ IsPair h TO a b) ∨ ∃ T f oT, IsZipHeld h z TI TO T f ∧ h.get? T = some oT) ∧
  IsPair h TI (.ref i1) (.ref i2) ∧ h.IsTupleIter i1 l1 i ∧ h.IsTupleIter i2 l2 i ∧ h.IsTuple l1 xs ∧ h.IsTuple l2 ys
theorem ZSt.keep {h h' : Heap} {z TI TO i1 i2 l1 l2 : Addr} {xs ys : Array Value} {i : Nat} (q : ZSt h z TI TO i1 i2 l1 l2 xs ys i) (k : ∀ c o, h.get? c = some o → ∃ o', h'.get? c = some o') (k2 : ∀ c ∈ [z, TI, TO, i1, i2, l1, l2], h'.get? c = h.get? c) : ZSt h' z TI TO i1 i2 l1 l2 xs ys i := by
  obtain ⟨q1, q2, q3, q4, q5, q6⟩ := q
  have g : ∀ c, c ∈ [z, TI, TO, i1, i2, l1, l2] → ∀ o, h.get? c = some o → h'.get? c = some o := fun c hc o e => (k2 c hc).trans e
  refine ⟨?_, g _ (by simp) _ q2, q3.imp fun o q => And.imp_left (g _ (by simp) _) q, q4.imp fun o q => And.imp_left (g _ (by simp) _) q, q5.imp fun o q => And.imp_left (g _ (by simp) _) q, q6.imp fun o q => And.imp_left (g _ (by simp) _) q⟩
  rcases q1 with ⟨a, b, e1, e2⟩ | ⟨T, f, oT, e1, e2⟩
  · exact .inl ⟨a, b, g _ (by simp) _ e1, g _ (by simp) _ e2⟩
  · obtain ⟨o', e'⟩ := k T oT e2
    exact .inr ⟨T, f, o', g _ (by simp) _ e1, e'⟩
theorem next_item {z TI TO i1 i2 l1 l2 : Addr} {xs ys : Array Value} {i : Nat} {x y : Value} {Q : Option Value → Shared → Prop}
   (ap : ZipApart z TI TO i1 i2 l1 l2) (q : ZSt s.heap z TI TO i1 i2 l1 l2 xs ys i) (ex : xs[i]? = some x) (ey : ys[i]? = some y)
   (k : ∀ h' : Heap, ZSt h' z TI TO i1 i2 l1 l2 xs ys (i + 1) → IsPair h' s.heap.objs.size x y → (∀ c o, c ∉ [z, TO, i1, i2] → s.heap.get? c = some o → h'.get? c = some o) → Q (some (.ref s.heap.objs.size)) { s with heap := h' }) :
   wpAny (model prog w) A (pyNext (.ref z)) Q E s := by
  obtain ⟨q1, q2, q3, q4, q5, q6⟩ := q
  rcases q1 with ⟨a, b, e1, e2⟩ | ⟨T, f, oT, e1, e2⟩
  · refine RZ.pyNext_zipT_item ap e1 q2 e2 q3 q4 q5 q6 ex ey fun h' a1 a2 a3 a4 a5 a6 a7 => ?_
    refine k h' ⟨.inr ⟨_, false, _, a1, a5⟩, a7 _ _ ap.TIz ap.TITO ap.TIi1 ap.TIi2 q2, a3, a4, q5.imp fun o q => And.imp_left (a7 _ _ ap.l1z ap.l1TO ap.l1i1 ap.l1i2) q, q6.imp fun o q => And.imp_left (a7 _ _ ap.l2z ap.l2TO ap.l2i1 ap.l2i2) q⟩ a5 fun c o hc e => ?_
    simp only [List.mem_cons, List.not_mem_nil, or_false, not_or] at hc
    exact a7 c o hc.1 hc.2.1 hc.2.2.1 hc.2.2.2 e
  · refine pyNext_zip_item ap e1 e2 q2 q3 q4 q5 q6 ex ey fun h' a1 a3 a4 a5 a6 a7 => ?_
    have hT' : ∃ o, h'.get? T = some o := by
      by_cases c1 : T = z
      · subst c1; exact ⟨_, a1⟩
      by_cases c2 : T = i1
      · subst c2; exact a3.imp fun o q => q.1
      by_cases c3 : T = i2
      · subst c3; exact a4.imp fun o q => q.1
      exact ⟨_, a7 _ _ c1 c2 c3 e2⟩
    obtain ⟨o', e'⟩ := hT'
    refine k h' ⟨.inr ⟨_, _, _, a1, e'⟩, a7 _ _ ap.TIz ap.TIi1 ap.TIi2 q2, a3, a4, q5.imp fun o q => And.imp_left (a7 _ _ ap.l1z ap.l1i1 ap.l1i2) q, q6.imp fun o q => And.imp_left (a7 _ _ ap.l2z ap.l2i1 ap.l2i2) q⟩ a5 fun c o hc e => ?_
    simp only [List.mem_cons, List.not_mem_nil, or_false, not_or] at hc
    exact a7 c o hc.1 hc.2.2.1 hc.2.2.2 e
theorem next_end {z TI TO i1 i2 l1 l2 : Addr} {xs ys : Array Value} {i : Nat} {Q : Option Value → Shared → Prop}
   (hA : A.handled = none) (ap : ZipApart z TI TO i1 i2 l1 l2) (q : ZSt s.heap z TI TO i1 i2 l1 l2 xs ys i) (ex : xs[i]? = none)
   (k : ∀ h' : Heap, (∀ c o, c ∉ [z, TO, i1, i2] → s.heap.get? c = some o → h'.get? c = some o) → Q none { s with heap := h' }) :
   wpAny (model prog w) A (pyNext (.ref z)) Q E s := by
  obtain ⟨q1, q2, q3, q4, q5, q6⟩ := q
  rcases q1 with ⟨a, b, e1, e2⟩ | ⟨T, f, oT, e1, e2⟩
  · refine RZ.pyNext_zipT_end hA ap e1 q2 e2 q3 q4 q5 q6 (.inl ex) fun h' a7 => k h' fun c o hc e => ?_
    simp only [List.mem_cons, List.not_mem_nil, or_false, not_or] at hc
    exact a7 c o hc.1 hc.2.1 hc.2.2.1 hc.2.2.2 e
  · refine pyNext_zip_end hA ap e1 e2 q2 q3 q5 ex fun h' a7 => k h' fun c o hc e => ?_
    simp only [List.mem_cons, List.not_mem_nil, or_false, not_or] at hc
    exact a7 c o hc.1 hc.2.2.1 e
open L2
theorem fp_upd {X : Cx} {pins : List (Addr × Obj)} {H : Hp} {b T : Addr} {o : HO} (h : FpOk X pins H b) (n : b ≠ T) : FpOk X pins (upd H T o) b := ⟨(upd_ne n).trans h.1, h.2⟩
theorem get_lt {h : Heap} {a : Addr} {o : Obj} (e : h.get? a = some o) : a < h.objs.size := by
  rcases Nat.lt_or_ge a h.objs.size with c | c
  · exact c
  · unfold Heap.get? at e
    rw [Array.getElem?_eq_none c] at e
    cases e
theorem loopZ {X : Cx} {pins : List (Addr × Obj)} {σ : St} {R : Result → Shared → Prop} {z TI TO i1 i2 l1 l2 S : Addr} {xs ys : List V} {rx ry : Array Value} (hA : A.handled = none) (ap : ZipApart z TI TO i1 i2 l1 l2)
    (hx : Vals xs rx.toList) (hy : Vals ys ry.toList) (hl : xs.length = ys.length) (hsz : xs.length ≤ 1000) (res : Value) (hS : S ∉ [z, TI, TO, i1, i2, l1, l2]) :
    ∀ (k i : Nat) (s : Shared) (H : Hp) (ts : List Addr) (c : Nat), xs.length - i = k → i ≤ xs.length → Inv X pins σ H s → (∀ b ∈ [z, TI, TO, i1, i2], FpOk X pins H b ∧ b < s.heap.objs.size) → H S = some (.lst (ts.map V.ref)) →
      s.heap.get? S = some { cls := .type "list", data := .seq (ts.map Value.ref).toArray c } → ts.length = i → ZSt s.heap z TI TO i1 i2 l1 l2 rx ry i →
      (∀ (j : Nat) (t : Addr), ts[j]? = some t → ∃ x y, xs[j]? = some x ∧ ys[j]? = some y ∧ H t = some (.tup [x, y])) →
      (∀ (s' : Shared) (H' : Hp) (ts' : List Addr), Inv X pins σ H' s' → (∀ b o, b ≠ S → H b = some o → H' b = some o) → H' S = some (.lst (ts'.map V.ref)) → ts'.length = xs.length →
        (∀ (j : Nat) (t : Addr), ts'[j]? = some t → ∃ x y, xs[j]? = some x ∧ ys[j]? = some y ∧ H' t = some (.tup [x, y])) → R (.ok (.ret res)) s') →
      codeAny (model X.prog X.w) A (.builtin "list.extend.loop" { pos := [.ref S, .ref z, res] }) R s := by
  intro k
  induction k with
  | zero =>
    intro i s H ts c hk hi I fp hH hs hlen q hts fin
    have e : i = xs.length := by omega
    refine codeAny_builtin F.entry_extend_loop ?_
    unfold Builtin.«list.extend.loop»
    show wpAny _ _ (pyNext (.ref z) >>= _) _ _ _
    refine wpAny_bind (next_end (by exact hA) ap q (by have := hx.length; rw [Array.getElem?_eq_none]; rw [← Array.length_toList]; omega) fun h' kk => ?_)
    refine wpp ?_
    refine fin _ H ts (I.turnedL (t' := s.toks) (ch := [z, TO, i1, i2]) kk fun b hb => (fp b ?_).1) (fun b o _ e => e) hH (by omega) hts
    simp only [List.mem_cons, List.not_mem_nil, or_false] at hb ⊢
    rcases hb with hb | hb | hb | hb <;> simp [hb]
  | succ k ih =>
    intro i s H ts c hk hi I fp hH hs hlen q hts fin
    refine codeAny_builtin F.entry_extend_loop ?_
    unfold Builtin.«list.extend.loop»
    show wpAny _ _ (pyNext (.ref z) >>= _) _ _ _
    have hi2 : i < xs.length := by omega
    have hi3 : i < ys.length := by omega
    obtain ⟨u, eu, ru⟩ := LiI.paired_get hx (List.getElem?_eq_getElem hi2)
    obtain ⟨v, ev, rv⟩ := LiI.paired_get hy (List.getElem?_eq_getElem hi3)
    refine wpAny_bind (next_item ap q (x := u) (y := v) (by rw [← Array.getElem?_toList]; exact eu) (by rw [← Array.getElem?_toList]; exact ev) fun h' q' hp kk => ?_)
    show wpAny _ _ (Builtin.List.listUpdate (.ref S) _ >>= _) _ _ _
    simp only [List.mem_cons, List.not_mem_nil, or_false, not_or] at hS
    have hS' : h'.get? S = some { cls := .type "list", data := .seq (ts.map Value.ref).toArray c } := kk S _ (by simp [hS]) hs
    have I1 : Inv X pins σ (upd H s.heap.objs.size (.tup [xs[i], ys[i]])) { s with heap := h' } := I.turnedNew (t' := s.toks) (ch := [z, TO, i1, i2]) kk (fun b hb => (fp b (by
      simp only [List.mem_cons, List.not_mem_nil, or_false] at hb ⊢
      rcases hb with hb | hb | hb | hb <;> simp [hb])).1) (Nat.le_refl _) ⟨(show 2 ≤ sizeLine by decide +kernel), [u, v], .cons ru (.cons rv .nil), _, hp, rfl, _, rfl⟩
    have nT : H s.heap.objs.size = none := I.hok.fresh (Nat.le_refl _)
    have hST : S ≠ s.heap.objs.size := fun e => by rw [← e, hH] at nT; cases nT
    refine wpAny_bind (PyProof.Rows.listUpdate_at hS' rfl ?_ ?_ ?_)
    rotate_left
    · simp; exact Nat.le_trans (show ts.length ≤ 1000 by omega) (by decide +kernel)
    · simp; exact Nat.le_trans (show ts.length ≤ 1000 by omega) (by decide +kernel)
    refine wpp ⟨plainId_quiet F.plain_extend_loop _, ?_⟩
    have ep : (ts.map Value.ref).toArray.push (.ref s.heap.objs.size) = ((ts ++ [s.heap.objs.size]).map Value.ref).toArray := by simp
    obtain ⟨n', hf⟩ : ∃ n', Obj.mapSeq (fun x_1 => x_1.push (.ref s.heap.objs.size)) { cls := .type "list", data := .seq (ts.map Value.ref).toArray c } = { cls := .type "list", data := .seq ((ts ++ [s.heap.objs.size]).map Value.ref).toArray n' } := ⟨_, by
      rw [← ep]
      rfl⟩
    have hH1 : upd H s.heap.objs.size (.tup [xs[i], ys[i]]) S = some (.lst (ts.map V.ref)) := (upd_ne hST).trans hH
    have I2 := I1.lstUpd (p := S) (xs := ts.map V.ref) (ys := (ts ++ [s.heap.objs.size]).map V.ref) (its := ts.map Value.ref) hH1 hS' hf (LiI.vals_refs _) (by simp; exact Nat.le_trans (show ts.length + 1 ≤ 1001 by omega) (by decide +kernel)) s.toks
    refine ih (i + 1) _ _ (ts ++ [s.heap.objs.size]) _ (by omega) (by omega) I2 (fun b hb => ?_) upd_same ((Heap.get?_update_self _ hS' (by rw [hf]; rfl)).trans (congrArg some hf)) (by simp [hlen]) ?_ (fun j t e => ?_) (fun s' H' ts' I' kp hS2 hl2 ht2 => fin s' H' ts' I' (fun b o hb e => kp b o hb ?_) hS2 hl2 ht2)
    · have hb2 : b ≠ s.heap.objs.size := Nat.ne_of_lt (fp b hb).2
      have hbS : b ≠ S := by
        intro e; subst e
        simp only [List.mem_cons, List.not_mem_nil, or_false] at hb
        simp [hS] at hb
      refine ⟨fp_upd (fp_upd (fp b hb).1 hb2) hbS, Nat.lt_trans (fp b hb).2 (get_lt (o := _) ((Heap.get?_update_other _ _ hST).trans hp))⟩
    · refine q'.keep (fun c' o' e => ?_) fun c' hc' => Heap.get?_update_other _ _ fun e => ?_
      · by_cases hc : S = c'
        · subst hc
          exact ⟨_, Heap.get?_update_self _ hS' (by rw [hf]; rfl)⟩
        · exact ⟨o', (Heap.get?_update_other _ _ hc).trans e⟩
      · subst e
        simp only [List.mem_cons, List.not_mem_nil, or_false] at hc'
        simp [hS] at hc'
    · by_cases hj : j < ts.length
      · rw [List.getElem?_append_left hj] at e
        obtain ⟨x, y, e1, e2, e3⟩ := hts j t e
        refine ⟨x, y, e1, e2, ?_⟩
        rw [upd_ne (fun z => by rw [z, hH] at e3; cases e3), upd_ne (fun z => by rw [z, nT] at e3; cases e3)]
        exact e3
      · rw [List.getElem?_append_right (by omega)] at e
        have hj0 : j - ts.length = 0 := by
          cases hh : j - ts.length with
          | zero => rfl
          | succ n => rw [hh] at e; cases e
        rw [hj0] at e
        cases e
        have hji : j = i := by omega
        subst hji
        exact ⟨xs[j], ys[j], List.getElem?_eq_getElem hi2, List.getElem?_eq_getElem hi3, (upd_ne hST.symm).trans upd_same⟩
    · rw [upd_ne hb, upd_ne (fun z => by rw [z, nT] at e; cases e)]
      exact e
theorem zip_no_len : typeLookup (.type "zip") "__len__" = pure none := by rfl
theorem zip_no_hint : typeLookup (.type "zip") "__length_hint__" = pure none := by rfl
theorem wp_rule {M : Model} {α : Type} {nm : String} {f : Unit → Sem α} {Q : α → Shared → Prop} (h : wpAny M A (f ()) Q E s) : wpAny M A (rule nm >>= f) Q E s := fun Γ p hΓ => h Γ p hΓ
theorem hint_zip {z : Addr} {Q : Bool → Shared → Prop} (hty : s.TypeIs (.ref z) "zip") (k : Q true s) : wpAny (model prog w) A (Builtin.List.listLengthHint (.ref z)) Q E s := by
  unfold Builtin.List.listLengthHint
  refine wpAny_bind (wpAny_specialOf hty zip_no_len ?_)
  show wpAny _ _ (specialOf (.ref z) "__length_hint__" >>= _) _ _ _
  refine wpAny_bind (wpAny_specialOf hty zip_no_hint ?_)
  exact wpp k
theorem extendZ {X : Cx} {pins : List (Addr × Obj)} {σ : St} {R : Result → Shared → Prop} {z TI TO i1 i2 l1 l2 S : Addr} {xs ys : List V} {rx ry : Array Value} {H : Hp} {c : Nat} (hA : A.handled = none) (ap : ZipApart z TI TO i1 i2 l1 l2)
    (hx : Vals xs rx.toList) (hy : Vals ys ry.toList) (hl : xs.length = ys.length) (hsz : xs.length ≤ 1000) (res : Value) (hS : S ∉ [z, TI, TO, i1, i2, l1, l2]) (I : Inv X pins σ H s) (fp : ∀ b ∈ [z, TI, TO, i1, i2], FpOk X pins H b ∧ b < s.heap.objs.size) (hH : H S = some (.lst []))
    (hs : s.heap.get? S = some { cls := .type "list", data := .seq #[] c }) (hz : ∃ a b, IsZip s.heap z TI TO .none ∧ IsPair s.heap TO a b) (q2 : IsPair s.heap TI (.ref i1) (.ref i2)) (q3 : s.heap.IsTupleIter i1 l1 0) (q4 : s.heap.IsTupleIter i2 l2 0) (q5 : s.heap.IsTuple l1 rx) (q6 : s.heap.IsTuple l2 ry)
    (fin : ∀ (s' : Shared) (H' : Hp) (ts' : List Addr), Inv X pins σ H' s' → (∀ b o, b ≠ S → H b = some o → H' b = some o) → H' S = some (.lst (ts'.map V.ref)) → ts'.length = xs.length →
        (∀ (j : Nat) (t : Addr), ts'[j]? = some t → ∃ x y, xs[j]? = some x ∧ ys[j]? = some y ∧ H' t = some (.tup [x, y])) → R (.ok (.ret res)) s') :
    wpAny (model X.prog X.w) A.in1 (Builtin.List.listExtendWith (.ref S) (.ref z) res) (fun fin s' => match fin with
      | .done f => R (.ok f) s'
      | .again c' => c'.quiet = true ∧ codeAny (model X.prog X.w) A c' R s') (fun e s' => R (.error e) s') s := by
  unfold Builtin.List.listExtendWith
  obtain ⟨a0, b0, hz1, hz2⟩ := id hz
  have hty : s.TypeIs (.ref z) "zip" := ⟨_, hz1, rfl⟩
  refine wpAny_bind (wpAny_typeOf hty ?_)
  have hSz : S ≠ z := fun e => hS (by simp [e])
  have c1 : (Builtin.List.listSameRef (.ref S) (.ref z) || (Value.type "zip") == Value.type "list" || (Value.type "zip") == Value.type "tuple") = false := by
    have : Builtin.List.listSameRef (.ref S) (.ref z) = false := by simp [Builtin.List.listSameRef, hSz]
    rw [this]; rfl
  rw [c1]
  show wpAny _ _ (pyIter (.ref z) >>= _) _ _ _
  refine wpAny_bind (wpAny_pyIter_zip hz1 ?_)
  refine wpAny_bind (wpAny_holding (hint_zip hty ?_))
  show wpAny _ _ (rule "list.extend.makes-room" >>= fun _ => Builtin.List.listTouch (.ref S) >>= fun _ => again (.builtin "list.extend.loop" { pos := [.ref S, .ref z, res] })) _ _ _
  refine wp_rule ?_
  refine wpAny_bind ?_
  unfold Builtin.List.listTouch
  refine wpAny_bind (PyProof.Rows.listUpdate_at hs rfl ?_ (by simp) (by simp))
  have f1 : ∃ n', Obj.mapSeq (fun x => x.push Value.none) { cls := .type "list", data := .seq #[] c } = { cls := .type "list", data := .seq #[Value.none] n' } := ⟨_, rfl⟩
  obtain ⟨n1, f1⟩ := f1
  have g1 : (s.heap.update S (Obj.mapSeq fun x => x.push Value.none)).get? S = some { cls := .type "list", data := .seq #[Value.none] n1 } := (Heap.get?_update_self _ hs (by rw [f1]; rfl)).trans (congrArg some f1)
  have I1 := I.lstUpd (p := S) (xs := []) (ys := [.non]) (its := []) (its' := [.none]) hH hs f1 (.cons rfl .nil) (show 1 ≤ sizeLine by decide +kernel) s.toks
  have f2 : ∃ n', Obj.mapSeq (fun x => x.pop) { cls := .type "list", data := .seq #[Value.none] n1 } = { cls := .type "list", data := .seq #[] n' } := ⟨_, rfl⟩
  obtain ⟨n2, f2⟩ := f2
  refine PyProof.Rows.listUpdate_at g1 rfl ?_ (show 1 ≤ sizeLine by decide +kernel) (by simp)
  have g2 : ((s.heap.update S (Obj.mapSeq fun x => x.push Value.none)).update S (Obj.mapSeq fun x => x.pop)).get? S = some { cls := .type "list", data := .seq #[] n2 } := (Heap.get?_update_self _ g1 (by rw [f2]; rfl)).trans (congrArg some f2)
  have I2 := I1.lstUpd (p := S) (xs := [.non]) (ys := []) (its := [.none]) (its' := []) upd_same g1 f2 .nil (Nat.zero_le _) s.toks
  have eo : ∀ b, S ≠ b → ((s.heap.update S (Obj.mapSeq fun x => x.push Value.none)).update S (Obj.mapSeq fun x => x.pop)).get? b = s.heap.get? b := fun b h => (Heap.get?_update_other _ _ h).trans (Heap.get?_update_other _ _ h)
  refine wpp ⟨plainId_quiet F.plain_extend_loop _, ?_⟩
  refine loopZ hA ap hx hy hl hsz res hS xs.length 0 _ _ [] _ (by omega) (Nat.zero_le _) I2 (fun b hb => ?_) upd_same g2 rfl ?_ (fun j t e => by simp at e) fun s' H' ts' I' kp hS2 hl2 ht2 => fin s' H' ts' I' (fun b o hb e => kp b o hb ?_) hS2 hl2 ht2
  · have hbS : b ≠ S := fun e => hS (by
      subst e
      simp only [List.mem_cons, List.not_mem_nil, or_false] at hb ⊢
      rcases hb with h | h | h | h | h <;> simp [h])
    refine ⟨fp_upd (fp_upd (fp b hb).1 hbS) hbS, ?_⟩
    have e1 : ∀ (h : Heap) (f : Obj → Obj), (h.update S f).objs.size = h.objs.size := fun h f => by simp [Heap.update]
    rw [e1, e1]; exact (fp b hb).2
  · refine ZSt.keep (h := s.heap) ⟨.inl hz, q2, q3, q4, q5, q6⟩ (fun c' o' e => ?_) fun c' hc' => eo _ fun e => hS (by rw [e]; exact hc')
    by_cases hc : S = c'
    · subst hc; exact ⟨_, g2⟩
    · exact ⟨o', (eo _ hc).trans e⟩
  · rw [upd_ne hb, upd_ne hb]; exact e
theorem listZ {X : Cx} {pins : List (Addr × Obj)} {σ : St} {Q : Value → Shared → Prop} {z TI TO i1 i2 l1 l2 : Addr} {xs ys : List V} {rx ry : Array Value} {H : Hp} (hA : A.handled = none) (ap : ZipApart z TI TO i1 i2 l1 l2)
    (hx : Vals xs rx.toList) (hy : Vals ys ry.toList) (hl : xs.length = ys.length) (hsz : xs.length ≤ 1000) (I : Inv X pins σ H s) (fp : ∀ b ∈ [z, TI, TO, i1, i2], FpOk X pins H b ∧ b < s.heap.objs.size) (hb1 : l1 < s.heap.objs.size) (hb2 : l2 < s.heap.objs.size)
    (hz : ∃ a b, IsZip s.heap z TI TO .none ∧ IsPair s.heap TO a b) (q2 : IsPair s.heap TI (.ref i1) (.ref i2)) (q3 : s.heap.IsTupleIter i1 l1 0) (q4 : s.heap.IsTupleIter i2 l2 0) (q5 : s.heap.IsTuple l1 rx) (q6 : s.heap.IsTuple l2 ry)
    (fin : ∀ (s' : Shared) (H' : Hp) (S : Addr) (ts' : List Addr), Inv X pins σ H' s' → H S = none → (∀ b o, H b = some o → H' b = some o) → H' S = some (.lst (ts'.map V.ref)) → ts'.length = xs.length →
        (∀ (j : Nat) (t : Addr), ts'[j]? = some t → ∃ x y, xs[j]? = some x ∧ ys[j]? = some y ∧ H' t = some (.tup [x, y])) → Q (.ref S) s') :
    wpAny (model X.prog X.w) A (call (.type "list") [.ref z]) Q E s := by
  have nS : H s.heap.objs.size = none := I.hok.fresh (Nat.le_refl _)
  refine callType_codes (Q₁ := fun obj s1 => obj = .ref s.heap.objs.size ∧ s1 = { s with heap := s.heap.push { cls := .type "list", data := .seq #[] } }) F.called_list (F.typeCall_list_1 _) F.entry_list_init (code_list_new _ ⟨rfl, rfl⟩) ?_
  rintro obj s1 ⟨rfl, rfl⟩
  have hS : (s.heap.push { cls := .type "list", data := .seq #[] }).get? s.heap.objs.size = some { cls := .type "list", data := .seq #[] } := Heap.get?_push_size _ rfl
  refine ⟨⟨_, hS, rfl⟩, F.args_list_init_2 _ _, ?_⟩
  unfold Builtin.«list.__init__»
  show wpAny _ _ (Builtin.List.listItems _ >>= _) _ _ _
  refine wpAny_bind (wpAny_listItems hS rfl ?_)
  refine wpAny_bind (PyProof.Rows.listUpdate_at hS rfl ?_ (by simp) (by simp))
  show wpAny _ _ (letGo [] >>= fun _ => Builtin.List.listExtendWith (.ref s.heap.objs.size) (.ref z) Value.none) _ _ _
  refine wpAny_bind (show wpAny _ _ (pure ()) _ _ _ from wpp ?_)
  have I1 : Inv X pins σ (upd H s.heap.objs.size (.lst [])) { s with heap := s.heap.push { cls := .type "list", data := .seq #[] } } := I.laid (t' := s.toks) (fun b u e => Heap.get?_push_of_some _ e) (Nat.le_refl _) ⟨Nat.zero_le _, [], 0, .nil, hS⟩
  obtain ⟨n2, f2⟩ : ∃ n', Obj.mapSeq (fun x => #[]) { cls := .type "list", data := .seq #[] 0 } = { cls := .type "list", data := .seq #[] n' } := ⟨_, rfl⟩
  have I2 := I1.lstUpd (p := s.heap.objs.size) (xs := []) (ys := []) (its := []) (its' := []) upd_same hS f2 .nil (Nat.zero_le _) s.toks
  have g2 : ((s.heap.push { cls := .type "list", data := .seq #[] }).update s.heap.objs.size (Obj.mapSeq fun x => #[])).get? s.heap.objs.size = some { cls := .type "list", data := .seq #[] n2 } := (Heap.get?_update_self _ hS (by rw [f2]; rfl)).trans (congrArg some f2)
  have eo : ∀ b o, s.heap.get? b = some o → ((s.heap.push { cls := .type "list", data := .seq #[] }).update s.heap.objs.size (Obj.mapSeq fun x => #[])).get? b = some o := fun b o e => (Heap.get?_update_other _ _ (Nat.ne_of_gt (get_lt e))).trans (Heap.get?_push_of_some _ e)
  have esz : ((s.heap.push { cls := .type "list", data := .seq #[] }).update s.heap.objs.size (Obj.mapSeq fun x => #[])).objs.size = s.heap.objs.size + 1 := by
    have e1 : ∀ (h : Heap) (S : Addr) (f : Obj → Obj), (h.update S f).objs.size = h.objs.size := fun h S f => by simp [Heap.update]
    rw [e1]; exact Array.size_push ..
  refine extendZ (A := A.in1) hA ap hx hy hl hsz .none ?_ I2 (fun b hb => ⟨fp_upd (fp_upd (fp b hb).1 (Nat.ne_of_lt (fp b hb).2)) (Nat.ne_of_lt (fp b hb).2), by
      show b < ((s.heap.push { cls := .type "list", data := .seq #[] }).update s.heap.objs.size (Obj.mapSeq fun x => #[])).objs.size
      rw [esz]; exact Nat.lt_succ_of_lt (fp b hb).2⟩) upd_same g2 (hz.imp fun a z => z.imp fun b z => ⟨eo _ _ z.1, eo _ _ z.2⟩) (eo _ _ q2) (q3.imp fun o q => And.imp_left (eo _ _) q) (q4.imp fun o q => And.imp_left (eo _ _) q) (q5.imp fun o q => And.imp_left (eo _ _) q) (q6.imp fun o q => And.imp_left (eo _ _) q) fun s' H' ts' I' kp hS2 hl2 ht2 => ⟨rfl, fin s' H' _ ts' I' nS (fun b o e => ?_) hS2 hl2 ht2⟩
  · intro hm
    simp only [List.mem_cons, List.not_mem_nil, or_false] at hm
    rcases hm with h | h | h | h | h | h | h
    · exact Nat.lt_irrefl _ (h ▸ (fp z (by simp)).2)
    · exact Nat.lt_irrefl _ (h ▸ (fp TI (by simp)).2)
    · exact Nat.lt_irrefl _ (h ▸ (fp TO (by simp)).2)
    · exact Nat.lt_irrefl _ (h ▸ (fp i1 (by simp)).2)
    · exact Nat.lt_irrefl _ (h ▸ (fp i2 (by simp)).2)
    · exact Nat.lt_irrefl _ (h ▸ hb1)
    · exact Nat.lt_irrefl _ (h ▸ hb2)
  · have hne : b ≠ s.heap.objs.size := fun z => by rw [z, nS] at e; cases e
    exact kp b o hne ((upd_ne hne).trans ((upd_ne hne).trans e))
theorem IsTup_keep {h h' : Heap} {a : Addr} {xs : Array Value} (k : ∀ c o, h.get? c = some o → h'.get? c = some o) (q : h.IsTuple a xs) : h'.IsTuple a xs := q.imp fun o z => And.imp_left (k _ _) z
open PyProof.Rows
/-- list(zip(a, b)), a and b tuples of one length -/
def tListZip (K : PySem.W.Frag) (ta : TA) : TE := fun σ H Q => ta σ H fun vs H1 => ∃ l1 l2 xs ys, vs = [.ref l1, .ref l2] ∧ SqT K H1 l1 xs ∧ SqT K H1 l2 ys ∧ xs.length = ys.length ∧ xs.length ≤ 1000 ∧
  ∀ (S : Addr) (ts : List Addr) (H' : Hp), H1 S = none → (∀ b o, H1 b = some o → H' b = some o) → H' S = some (.lst (ts.map V.ref)) → ts.length = xs.length → (∀ (j : Nat) (t : Addr), ts[j]? = some t → ∃ x y, xs[j]? = some x ∧ ys[j]? = some y ∧ H' t = some (.tup [x, y])) → Q (.ref S) H'
theorem pe_listZip {X : Cx} {a b : Expr} {ta : TA} {p p2 q pos : Pos} (hc : X.calm = true) (hg : Gl X "list") (hm : X.mg "list" = none) (hg2 : Gl X "zip") (hm2 : X.mg "zip" = none) (ha : PA X [a, b] ta)
    (hs : starEach [a, b] X.env = (false, eval a X.env) :: starEach [b] X.env := by rfl) (hs2 : ((backTo q (starEach [b] X.env)).any fun x => x.fst) = false := by rfl)
    (hs3 : starEach [.Call (.Name "zip" p2) [a, b] [] q] X.env = (false, eval (.Call (.Name "zip" p2) [a, b] [] q) X.env) :: starEach [] X.env := by rfl) :
    PE X (.Call (.Name "list" p) [.Call (.Name "zip" p2) [a, b] [] q] [] pos) (tListZip X.K ta) := by
  refine ⟨fun pins s σ H Q I h => ?_⟩
  refine Call_ (ld_blt I hg hm PySem.Pv.boot_list (PyProof.Rows.callWith_type1 (PyProof.Rows.spliced_more (Call_ (ld_blt I hg2 hm2 boot_zip (PyProof.Rows.callWith_type1 (thn (ha.run q pins s σ H _ I h) fun us s1 ⟨vs, H1, I1, r1, q1⟩ => ?_) hs hs2))) hs3) hs3 rfl))
  obtain ⟨l1, l2, xs, ys, ex, hq1, hq2, hl, hsz, k⟩ := q1
  subst ex
  cases r1 with
  | cons r rr =>
    cases rr with
    | cons r2 rr =>
      cases rr
      cases r
      cases r2
      obtain ⟨its1, rv1, p1, _⟩ := I1.tuple hq1
      obtain ⟨its2, rv2, p2', _⟩ := I1.tuple hq2
      have b1 : l1 < s1.heap.objs.size := by obtain ⟨o, e, _⟩ := (show s1.heap.IsTuple l1 its1.toArray from p1); exact get_lt e
      have b2 : l2 < s1.heap.objs.size := by obtain ⟨o, e, _⟩ := (show s1.heap.IsTuple l2 its2.toArray from p2'); exact get_lt e
      refine RZ.call_zipT (show s1.heap.IsTuple l1 its1.toArray from p1) (show s1.heap.IsTuple l2 its2.toArray from p2') fun h' z1 z2 z3 z4 z5 z6 z7 => ?_
      refine PyProof.Rows.spliced_none ?_
      have ap : ZipApart (s1.heap.objs.size + 4) (s1.heap.objs.size + 2) (s1.heap.objs.size + 3) s1.heap.objs.size (s1.heap.objs.size + 1) l1 l2 := by
        have c1 : @LT.lt Nat _ l1 s1.heap.objs.size := b1
        have c2 : @LT.lt Nat _ l2 s1.heap.objs.size := b2
        constructor <;> (refine (show @Ne Nat _ _ from ?_); omega)
      refine listZ (s := { s1 with heap := h' }) ?_ ap rv1 rv2 hl hsz (I1.kept (t' := s1.toks) z7) (fun b hb => ?_) (by rw [show h'.objs.size = _ from z6]; exact Nat.lt_of_lt_of_le b1 (Nat.le_add_right ..)) (by rw [show h'.objs.size = _ from z6]; exact Nat.lt_of_lt_of_le b2 (Nat.le_add_right ..)) ⟨_, _, z1, z3⟩ z2 z4 z5 (IsTup_keep z7 p1) (IsTup_keep z7 p2') fun s' H' S ts' I' nS kp hS2 hl2 ht2 => ⟨.ref S, H', I', rfl, k S ts' H' nS kp hS2 hl2 ht2⟩
      · exact I1.ok.hd hc
      · have hb2 : s1.heap.objs.size ≤ b ∧ b < s1.heap.objs.size + 5 := by
          simp only [List.mem_cons, List.not_mem_nil, or_false] at hb
          refine (show @LE.le Nat _ s1.heap.objs.size b ∧ @LT.lt Nat _ b (s1.heap.objs.size + 5) from ?_)
          rcases hb with h | h | h | h | h <;> (rw [h]; constructor <;> omega)
        exact ⟨I1.fpOk hb2.1 (I1.hok.fresh hb2.1), by rw [show h'.objs.size = _ from z6]; exact hb2.2⟩
end ZZ
end
section
set_option Elab.async false
set_option linter.all false
set_option maxRecDepth 100000
set_option maxHeartbeats 2000000
/-! # sorted of a list of derivations: pairs of a whole number and a tuple of such pairs. -/
namespace L2
open PySem PySem.Spec PyProof.Rows
mutual
theorem dp_reads {X : Cx} {pins : List (Addr × Obj)} {σ : St} {H : Hp} {s : Shared} (I : Inv X pins σ H s) : ∀ {x : V} {d : PyData} {u : Value}, Dp X.K H x d → RelV x u → ∃ as, Reads s.heap u d as
  | _, _, u, .non, r => by cases r; exact ⟨_, .none⟩
  | _, _, u, .bl b, r => by cases r; exact ⟨_, .bool b⟩
  | _, _, u, .int i, r => by obtain ⟨t, rfl⟩ := (show ∃ t, u = Value.int i t from r); exact ⟨_, .int i t⟩
  | _, _, u, .str x, r => by obtain ⟨t, rfl⟩ := (show ∃ t, u = Value.str x t from r); exact ⟨_, .str x t⟩
  | _, _, u, .lst h t, r => by
    cases r
    obtain ⟨its, rv, p, _⟩ := I.list h
    obtain ⟨o, e1, e2, n, e3⟩ := p.isList
    obtain ⟨as, q⟩ := dp_readsAll I t rv
    exact ⟨_, .list e1 e2 e3 q⟩
  | _, _, u, .tup h t, r => by
    cases r
    obtain ⟨its, rv, p, _⟩ := I.tuple h
    obtain ⟨o, e1, e2, n, e3⟩ := (show s.heap.IsTuple _ its.toArray from p)
    obtain ⟨as, q⟩ := dp_readsAll I t rv
    exact ⟨_, .tuple e1 e2 e3 q⟩
theorem dp_readsAll {X : Cx} {pins : List (Addr × Obj)} {σ : St} {H : Hp} {s : Shared} (I : Inv X pins σ H s) : ∀ {xs : List V} {ds : List PyData} {us : List Value}, DpAll X.K H xs ds → Vals xs us → ∃ as, ReadsAll s.heap us ds as
  | _, _, us, .nil, r => by cases r; exact ⟨_, .nil⟩
  | _, _, us, .cons h t, r => by
    cases r with
    | cons r1 r2 =>
      obtain ⟨as, q⟩ := dp_reads I h r1
      obtain ⟨bs, q2⟩ := dp_readsAll I t r2
      exact ⟨_, .cons q q2⟩
end
/-- derivations as data -/
inductive DerD : PyData → Prop
  | mk (i : Int) (ds : List PyData) : (∀ d ∈ ds, DerD d) → DerD (.tuple [.int i, .tuple ds])
theorem al_nil (ys : List PyData) : PySem.W.alike (.tuple []) (.tuple ys) = true := by simp [PySem.W.alike, PySem.W.alikeAll]
theorem al_nil' (ys : List PyData) : PySem.W.alike (.tuple ys) (.tuple []) = true := by cases ys <;> simp [PySem.W.alike, PySem.W.alikeAll]
theorem al_cons (x y : PyData) (xs ys : List PyData) : PySem.W.alike (.tuple (x :: xs)) (.tuple (y :: ys)) = (PySem.W.alike x y && PySem.W.alike (.tuple xs) (.tuple ys)) := by simp [PySem.W.alike, PySem.W.alikeAll]
theorem al_int (x y : Int) : PySem.W.alike (.int x) (.int y) = true := by simp [PySem.W.alike]
theorem al_ders : ∀ {ds ds' : List PyData}, (∀ d ∈ ds, ∀ d', DerD d' → PySem.W.alike d d' = true) → (∀ d' ∈ ds', DerD d') → PySem.W.alike (.tuple ds) (.tuple ds') = true
  | [], ds', _, _ => al_nil ds'
  | d :: ds, [], _, _ => al_nil' _
  | d :: ds, d' :: ds', h, h' => by
    rw [al_cons, h d (List.mem_cons_self ..) d' (h' d' (List.mem_cons_self ..)), al_ders (fun e he => h e (List.mem_cons_of_mem _ he)) (fun e he => h' e (List.mem_cons_of_mem _ he))]; rfl
theorem der_alike {d : PyData} (h : DerD d) : ∀ d', DerD d' → PySem.W.alike d d' = true := by
  induction h with
  | mk i ds _ ih =>
    intro d' h'
    cases h' with
    | mk i' ds' hd' => rw [al_cons, al_int, al_cons, al_ders ih hd', al_nil]; rfl
def rSortD (K : PySem.W.Frag) : List V → Hp → VK → Prop := fun vs H Q => ∃ (a : Addr) (xs : List V), vs = [.ref a] ∧ SqL K H a xs ∧ xs.length ≤ 1000000 ∧ (∀ x ∈ xs, ∃ d, Dp K H x d ∧ DerD d ∧ d.depth ≤ 100) ∧
  ∀ (ys : List V) (p : Addr), ys.Perm xs → H p = none → Q (.ref p) (upd H p (.lst ys))
theorem sort_pairs {K : PySem.W.Frag} {H : Hp} : ∀ {xs : List V}, (∀ x ∈ xs, ∃ d, Dp K H x d ∧ DerD d ∧ d.depth ≤ 100) → ∃ bs : List (V × PyData), bs.map (·.1) = xs ∧ ∀ b ∈ bs, Dp K H b.1 b.2 ∧ DerD b.2 ∧ b.2.depth ≤ 100
  | [], _ => ⟨[], rfl, fun b h => by cases h⟩
  | x :: xs, h => by
    obtain ⟨d, hd⟩ := h x (List.mem_cons_self ..)
    obtain ⟨bs, e, hb⟩ := sort_pairs (xs := xs) fun y hy => h y (List.mem_cons_of_mem _ hy)
    refine ⟨(x, d) :: bs, by rw [List.map_cons, e], fun b hb' => ?_⟩
    rcases List.mem_cons.mp hb' with rfl | h'
    · exact hd
    · exact hb b h'
theorem each_of {bs : List (V × PyData)} {us : List Value} : Vals (bs.map (·.1)) us → PySem.W.EachIs (fun u (b : V × PyData) => RelV b.1 u) us bs := by
  induction bs generalizing us with
  | nil => intro r; cases r; exact .nil
  | cons b bs ih => intro r; cases r with | cons r1 r2 => exact .cons r1 (ih r2)
theorem vals_each {bs : List (V × PyData)} {us : List Value} (h : PySem.W.EachIs (fun u (b : V × PyData) => RelV b.1 u) us bs) : Vals (bs.map (·.1)) us := by
  induction h with
  | nil => exact .nil
  | cons a _ ih => exact .cons a ih
theorem each_reads {X : Cx} {pins : List (Addr × Obj)} {σ : St} {H : Hp} {s : Shared} (I : Inv X pins σ H s) {bs : List (V × PyData)} {us : List Value} (hb : ∀ b ∈ bs, Dp X.K H b.1 b.2) (h : PySem.W.EachIs (fun u (b : V × PyData) => RelV b.1 u) us bs) : PySem.W.EachIs (fun u (b : V × PyData) => ∃ as, Reads s.heap u b.2 as) us bs := by
  induction h with
  | nil => exact .nil
  | cons a _ ih => exact .cons (dp_reads I (hb _ (List.mem_cons_self ..)) a) (ih fun b h => hb b (List.mem_cons_of_mem _ h))
theorem cr_sortedDer {X : Cx} (hu : X.A.units + 200 < cLine) : CallR X (.builtin "sorted") (rSortD X.K) := by
  intro pins s σ H vs us Q I rv h
  obtain ⟨a, xs, rfl, hq, hlen, hd, k⟩ := h
  cases rv with
  | cons r1 r2 =>
    cases r2
    cases r1
    obtain ⟨its, rvv, p, _⟩ := I.list hq
    obtain ⟨bs, rfl, hb⟩ := sort_pairs hd
    have he := each_of rvv
    rw [List.length_map] at hlen
    refine PySem.W.sorted_data (enc := fun b : V × PyData => b.2) (l := a) (vs := its) (bs := bs) p.isList he (each_reads I (fun b h => (hb b h).1) he) ?_ (.inl ?_) (Nat.le_trans hlen (by decide +kernel)) (fun b h => by have := (hb b h).2.2; show X.A.units + 2 + b.2.depth < cLine; omega) fun out ho hout => ?_
    · intro d hd d' hd'
      obtain ⟨b, h1, rfl⟩ := List.mem_map.mp hd
      obtain ⟨b', h2, rfl⟩ := List.mem_map.mp hd'
      exact der_alike (hb b h1).2.1 _ (hb b' h2).2.1
    · intro d hd
      obtain ⟨b, h1, rfl⟩ := List.mem_map.mp hd
      have hd := (hb b h1).2.1
      generalize b.2 = d at hd
      cases hd with
      | mk i ds _ => exact ⟨_, _, rfl⟩
    · have perm : ((bs.mergeSort (PySem.W.dataLe false fun b : V × PyData => b.2)).map (·.1)).Perm (bs.map (·.1)) := (List.mergeSort_perm bs _).map _
      have hf : H (s.heap.objs.size + 1) = none := I.hok.fresh (Nat.le_succ _)
      obtain ⟨e, hat⟩ := sortedAll_at s.heap its out.toArray
      refine ⟨.ref (s.heap.objs.size + 1), _, ?_, rfl, k _ _ perm hf⟩
      refine I.laid (t' := s.toks) (fun b o e => sortedAll_old e) (Nat.le_succ _) ⟨?_, out, e, vals_each hout, ?_⟩
      · rw [List.length_map, List.length_mergeSort]; exact Nat.le_trans hlen (by decide +kernel)
      · exact hat
end L2
end
section
set_option Elab.async false
set_option linter.all false
set_option maxRecDepth 100000
set_option maxHeartbeats 2000000
/-! # errors of the package held as values: made, their field read, asked for their class -/
namespace L2
open PySem PySem.Spec PyProof.Rows
/-- an error of the class C at a, its own dict at d (none: it has none) -/
def ErO (C : Addr) (d : Option Addr) (a : Addr) : HO := .ext fun h => ∃ (oe : Obj) (vs : Array Value), h.get? a = some oe ∧ oe.cls = .ref C ∧ oe.dict = d ∧ oe.data = .fields vs
theorem erO_ok {P : Program} {w : World} {H : Hp} {h : Heap} {a C : Addr} {d : Option Addr} {oe : Obj} {vs : Array Value} (e : h.get? a = some oe) (c : oe.cls = .ref C) (z : oe.dict = d) (f : oe.data = .fields vs) : ObjOk P w H h a (ErO C d a) :=
  ⟨⟨oe, vs, e, c, z, f⟩, ⟨oe, e⟩, fun _ _ ⟨o, v, q, r⟩ k => ⟨o, v, k o q, r⟩⟩
section
variable {X : Cx} {C fI : Addr} {cn fld : Str}
/-- Err(e) as a value -/
def tErr (fld : Str) (C : Addr) (ta : TA) : TE := fun σ H Q => ta σ H fun vs H1 => ∃ v, vs = [v] ∧ ∀ d e, H1 d = none → H1 e = none → d ≠ e → Q (.ref e) (upd (upd H1 d (.xd [(fld, v)])) e (ErO C (some d) e))
theorem pe_err {a : Expr} {ta : TA} {p pos : Pos} {k : Nat} (T : RX.ErrT X.prog X.K X.mg cn fld C fI) (hr : Room k X.A) (ha : PA X [a] ta) (hg : Gl X cn := by rfl) (hdb : (cn == ("__debug__" : Str)) = false := by decide)
    (he : starEach (a :: []) X.env = (false, eval a X.env) :: starEach [] X.env := by rfl) (hpl : (backTo pos (starEach [] X.env)).any (·.1) = false := by rfl) :
    PE X (.Call (.Name cn p) [a] [] pos) (tErr fld C ta) := by
  refine ⟨fun pins s σ H Q I h => ?_⟩
  refine wpAny_Call_Name_kw (ld_glob I hg T.gC ?_ hdb)
  refine PySem.W.callWith_K (h₀ := X.base) I.ok.mod.kin T.kC (thn (ha.run pos pins s σ H _ I h) fun us s1 hh => ?_) he hpl
  obtain ⟨vs, H1, I1, r1, v, ev, q1⟩ := hh
  subst ev
  refine ⟨I1.kIn, ?_⟩
  cases r1 with
  | cons rv rn =>
    rename_i v' us'
    cases rn
    show wpAny _ _ (call (.ref C) [v']) _ _ _
    have hbk := I1.bk
    obtain ⟨hp, g, dr, tk, os⟩ := s1
    refine wpAny_call (RX.err_made T I1.mod hbk (by have := hr.dp; omega) fun h' tk' e d M => ?_)
    obtain ⟨oe, fv, hoe, hc, hd, hdat, h1⟩ := M.obj
    have hns := M.ns
    obtain ⟨G', g1, g2⟩ := restrict h' fun b => decide (b ≠ e)
    have gk : ∀ b, b ≠ e → G'.get? b = h'.get? b := fun b hb => g1 b (decide_eq_true hb)
    have ge : G'.get? e = none := g2 e (by simp)
    have old : ∀ b o, hp.get? b = some o → G'.get? b = some o := fun b o q => (gk b (Nat.ne_of_lt (Nat.lt_of_lt_of_le (Heap.lt_size q) M.new))).trans (M.keep b o q)
    have ob : ObjOk X.prog X.w (upd H1 d (.xd [(fld, v)])) G' d (.xd [(fld, v)]) :=
      ⟨_, hns.at (fun o q => (gk d M.dne).trans q), fun f => relO_one rv f⟩
    have J : Inv X pins σ (upd H1 d (.xd [(fld, v)])) ⟨G', g, dr, tk', os⟩ := I1.laid (t' := tk') old M.dbig ob
    have nd : H1 d = none := I1.hok.fresh M.dbig
    have ne : H1 e = none := I1.hok.fresh M.new
    have k2 : ∀ b o, G'.get? b = some o → h'.get? b = some o := fun b o q => by
      by_cases hb : b = e
      · rw [hb, ge] at q; cases q
      · exact (gk b hb).symm.trans q
    exact ⟨.ref e, _, J.laidN (h' := h') (a := e) (o := ErO C (some d) e) (t' := tk') k2 ge ((upd_ne M.dne.symm).trans ne) (erO_ok hoe hc hd hdat), rfl, q1 d e nd ne M.dne⟩
/-- e.field -/
def tErF (C : Addr) (n : Str) (te : TE) : TE := fun σ H Q => te σ H fun x H1 => ∃ (a d : Addr) (fs : List (Str × V)) (v : V), x = .ref a ∧ H1 a = some (ErO C (some d) a) ∧ H1 d = some (.xd fs) ∧ fs.lookup n = some v ∧ Q v H1
theorem pe_erF {e : Expr} {te : TE} {pos : Pos} {n : Str} (T : XfC X.K C) (hno : PySem.W.findIn X.K (.ref C) n = some none) (he : PE X e te) (hb : attributeBase e n X.env (eval e X.env) = eval e X.env := by rfl) : PE X (.Attribute e n pos) (tErF C n te) := by
  refine ⟨fun pins s σ H Q I h => ?_⟩
  refine attr_of hb (thn (he.run pins s σ H _ I h) fun u s1 hh => ?_)
  obtain ⟨x, H1, I1, rx, a, d, fs, v, ex, ea, ed, l, q⟩ := hh
  subst ex
  obtain rfl : u = Value.ref a := rx
  obtain ⟨⟨oe, vs, ho, hc, hd, hf⟩, _, _⟩ := (show ObjOk X.prog X.w H1 s1.heap a (ErO C (some d) a) from I1.hok a _ ea)
  have hx : ObjOk X.prog X.w H1 s1.heap d (.xd fs) := I1.hok d _ ed
  obtain ⟨mA, hns, hr⟩ := hx
  obtain ⟨od, ho2, hl⟩ := lookIn_ns hns
  obtain ⟨u, hu, ru⟩ := RelO.some_of (v := v) (o := mA n) (by rw [← l]; exact hr n)
  have J : PySem.W.InstAt s1.heap a oe C (some od) := ⟨ho, hc, by unfold PySem.W.notCls; rw [hf] <;> rfl, by rw [hd]; exact ho2⟩
  exact HandSPX.exc_get I1.kIn J T.ga T.gg T.exC (PySem.W.findObj_own T.hdC hno rfl (by rw [hl, hu])) (handed_of ru) ⟨v, H1, I1.tok _, ru, q⟩
/-- isinstance(e, c) of such an error: with an own dict that is tracked, or without one -/
def rIsEr (K : PySem.W.Frag) : List V → Hp → VK → Prop := fun xs H Q => ∃ (c : V) (cv : Value) (b : Bool) (D a : Addr) (d : Option Addr), xs = [.ref a, c] ∧ ClsV c cv ∧ ExcC K D ∧ H a = some (ErO D d a) ∧ (∀ dd, d = some dd → ∃ fs, H dd = some (.xd fs)) ∧ PySem.W.kitOne K (.ref D) cv = some b ∧ Q (.bl b) H
theorem call_isEr : CallR X (.builtin "isinstance") (rIsEr X.K) := by
  intro pins s σ H xs us Q I r h
  obtain ⟨c, cv, b, D, a, d, rfl, hcv, C, hea, hdd, e, q⟩ := h
  cases r with
  | cons rx rr =>
    cases rr with
    | cons rt rr =>
      cases rr
      cases rx
      have ec := hcv.eq rt
      subst ec
      obtain ⟨⟨oe, vs, ho, hc, hd, hf⟩, _, _⟩ := (show ObjOk X.prog X.w H s.heap a (ErO D d a) from I.hok a _ hea)
      obtain ⟨od, hod⟩ : ∃ od : Option Obj, PySem.W.InstAt s.heap a oe D od := by
        cases d with
        | none => exact ⟨none, ho, hc, by unfold PySem.W.notCls; rw [hf] <;> rfl, by rw [hd]; trivial⟩
        | some dd =>
          obtain ⟨fs, hfs⟩ := hdd dd rfl
          obtain ⟨mA, hns, hr⟩ := (show ObjOk X.prog X.w H s.heap dd (.xd fs) from I.hok dd _ hfs)
          obtain ⟨od, ho2, hl⟩ := lookIn_ns hns
          exact ⟨some od, ho, hc, by unfold PySem.W.notCls; rw [hf] <;> rfl, by rw [hd]; exact ho2⟩
      exact PySem.W.kia_one (PySem.W.kitx_exc (by
        obtain ⟨cd, hc, _⟩ := PySem.W.any_some C.hd
        rw [hc]; rfl) C.hg C.hk C.hs C.ha C.hn C.ht C.hm) I.kIn hod e (fun z => nomatch z) fun tk => ⟨.bl b, H, I.kept (t' := tk) fun _ _ z => z, rfl, q⟩
/-- Err() of a class that adds nothing -/
def tErr0 (C : Addr) : TE := fun _ H Q => ∀ e, H e = none → Q (.ref e) (upd H e (ErO C none e))
theorem pe_err0 {x : Str} {p pos : Pos} (T : ErrN X.K X.mg x C) (hg : Gl X x := by rfl) (hdb : (x == ("__debug__" : Str)) = false := by decide) : PE X (.Call (.Name x p) [] [] pos) (tErr0 C) := by
  refine ⟨fun pins s σ H Q I h => ?_⟩
  refine wpAny_Call_Name_kw (ld_glob I hg T.gC ?_ hdb)
  refine PySem.W.callWith_K0 I.kIn T.kC ?_
  show wpAny _ _ (call (.ref C) []) _ _ _
  obtain ⟨bm, N, nm, qn, bs, hdct, sn, sub, ab, col, dd, k0, k1, k2, k3, k5, mN, hC, hN, hni, T'⟩ := exc_obj I.kIn T.ex
  refine wpAny_call_exc_subT PySem.F.excBase_ValueError T' hC hN hni (fun h' e hm => ?_) (Nat.zero_le _)
  obtain ⟨t, he, _, _⟩ := hm.there
  exact ⟨.ref e, _, I.laidN (h' := h') (a := e) (o := ErO C none e) (t' := s.toks) hm.keeps hm.new (I.hok.gone hm.new) (erO_ok he rfl rfl rfl), rfl, h e (I.hok.gone hm.new)⟩
end
end L2
end
section
set_option Elab.async false
set_option linter.all false
set_option maxRecDepth 100000
set_option maxHeartbeats 2000000
namespace K01
open PySem L2
local macro_rules | `(tactic| walk_at "hp") => `(tactic| first | assumption | exact upd_same | (refine (upd_ne (by first | assumption | (apply Ne.symm; assumption))).trans ?_; walk_at "hp"))
local macro_rules | `(tactic| walk_at "rd1") => `(tactic| first
  | (refine ⟨_, rfl, ?_⟩)
  | (refine ⟨_, _, rfl, rfl, ?_⟩)
  | (refine ⟨(rfl : scal _ _ = true), ?_⟩)
  | (refine And.intro (by show (0 : Int) < _; decide) ?_)
  | (refine And.intro (And.intro (by decide) (by decide)) ?_)
  | (refine And.intro (Or.inr (And.intro (by decide) (by decide))) ?_)
  | (refine And.intro (And.intro (by decide) (And.intro (by decide) (by decide))) ?_)
  | (refine And.intro (by assumption) ?_)
  | (refine And.intro (And.intro (by omega) (by omega)) ?_)
  | (refine And.intro (Or.inl (And.intro (by omega) (by omega))) ?_)
  | (refine' ⟨_, _, _, _, rfl, rfl, Or.inl (Or.inl ?h1), ?h2, ?h3⟩; (case h1 => walk_at "hp"); (case h2 => rfl))
  | (refine' ⟨_, _, _, _, rfl, rfl, ?h1, ?h2, ?h3⟩; (case h1 => walk_at "hp"); (case h2 => rfl))
  | (refine' ⟨_, _, rfl, Or.inl (Or.inl (Or.inl ?h1)), ?h3⟩; (case h1 => walk_at "hp"))
  | (refine Or.inl ⟨_, rfl, ?_⟩))
local macro_rules | `(tactic| walk_at "rd") => `(tactic| repeat walk_at "rd1")
def top (i : Nat) : Stmt := PySem.Challenge.pw_roomsthrough_k01_errors_of_the_package.main.body.getD i (.Pass ⟨0, 0, 0, 0⟩)
abbrev s_BadRules_init : Stmt := inClass (top 2) 0
abbrev s_BadBag_init : Stmt := inClass (top 3) 0
abbrev s_BadRoom_init : Stmt := inClass (top 4) 0
abbrev s_BadCell_init : Stmt := inClass (top 5) 0
abbrev s_BadMouth_init : Stmt := inClass (top 6) 0
abbrev s_BadLevel_init : Stmt := inClass (top 7) 0
abbrev s_BadPath_init : Stmt := inClass (top 8) 0
abbrev s_BadPlay_init : Stmt := inClass (top 9) 0
abbrev s_BadOutcome_init : Stmt := inClass (top 10) 0
abbrev s_BadTable_init : Stmt := inClass (top 11) 0
abbrev s_BadFrail_init : Stmt := inClass (top 12) 0
abbrev s_BadFull_init : Stmt := inClass (top 13) 0
abbrev s_BadGrammar_init : Stmt := inClass (top 14) 0
abbrev s_BadDerivation_init : Stmt := inClass (top 15) 0
abbrev s_BadName_init : Stmt := inClass (top 16) 0
abbrev s_BadCount_init : Stmt := inClass (top 17) 0
abbrev s_BadWish_init : Stmt := inClass (top 18) 0
abbrev s_BadPrices_init : Stmt := inClass (top 19) 0
abbrev s_BadNumber_init : Stmt := inClass (top 20) 0
abbrev s_BadIndex_init : Stmt := inClass (top 21) 0
abbrev s_BadText_init : Stmt := inClass (top 22) 0
abbrev s__law_pool : Stmt := top 28
abbrev s__law_draw : Stmt := top 29
abbrev s__law_odd : Stmt := top 30
abbrev s__law_first_kinds : Stmt := top 31
abbrev s__law_kinds : Stmt := top 32
abbrev s__law_first : Stmt := top 33
abbrev s__law_second : Stmt := top 34
abbrev s_law : Stmt := top 35
theorem sc__law_pool : FnScope ["script"] ["script"] (defScope s__law_pool) := ⟨rfl, rfl, rfl, by decide +kernel, rfl, by decide +kernel, by decide +kernel⟩
theorem sc__law_draw : FnScope ["pool", "many", "cell", "digit", "number"] ["pool", "many"] (defScope s__law_draw) := ⟨rfl, rfl, rfl, by decide +kernel, rfl, by decide +kernel, by decide +kernel⟩
/-- built-ins that stand -/
structure Blt (mg : Str → Option Value) : Prop where
  n_isinstance : mg "isinstance" = none
  n_int : mg "int" = none
  n_bool : mg "bool" = none
  n_list : mg "list" = none
  n_len : mg "len" = none
  n_range : mg "range" = none
  n_repr : mg "repr" = none
section
variable {P : Program} {w : World} {K : PySem.W.Frag} {mg : Str → Option Value} {base : Heap}
def spWhole (K : PySem.W.Frag) : Sp := fun vs H Q _ => ∃ v t b1 b2, vs = [v] ∧ TyX K H v t ∧ PySem.W.kitOne K t (.type "int") = some b1 ∧ PySem.W.kitOne K t (.type "bool") = some b2 ∧ Q (.bl (b1 && !b2)) H
/-- a pool: the script's cells at l, and four numbers -/
def poolO (l : Addr) (i c n z : Int) : HO := .lst [.ref l, .int i, .int c, .int n, .int z]
structure PoolAt (K : PySem.W.Frag) (H : Hp) (l p : Addr) : Prop where
  ex : ∃ (xs : List Int) (i c n z : Int), H p = some (poolO l i c n z) ∧ l ≠ p ∧ H l = some (.lst (xs.map V.int)) ∧ 0 ≤ i ∧ 0 ≤ c
def spPool (K : PySem.W.Frag) : Sp := fun vs H Q _ => ∃ (a : Addr) (ns : List Int), vs = [.ref a] ∧ SqL K H a (ns.map V.int) ∧ ns.length ≤ 63 ∧ ∀ l p H', H p = none → Same H H' → PoolAt K H' l p → Q (.ref p) H'
theorem ok_pool {f : Addr} {fd : FuncData} (F : Fun K "_law_pool" "_law_pool" s__law_pool f fd) (T : Blt mg) : FnG P w K mg base (CXe P w) 1 f fd ["script"] (spPool K) := by
  refine F.okG sc__law_pool (fun vs H Q E h => ?_) (fun cdv A outer s H vs Q E hgd hr h => ?_)
  · obtain ⟨a, ns, rfl, _⟩ := h; rfl
  · obtain ⟨a, ns, rfl, hs, hl, k⟩ := h
    refine ⟨_, (pss_one (ps_ret (pe_lstA (pa_cons (pe_callTy call_list_of (by rfl) T.n_list (by decide +kernel) (pa_cons (pv 0) pa_nil)) (pa_cons pe_int (pa_cons pe_int (pa_cons pe_int (pa_cons pe_int pa_nil)))))))), ?_⟩
    refine ⟨_, rfl, _, _, rfl, .inl hs, fun l hl => ?_⟩
    refine And.intro (Nat.le_of_ble_eq_true rfl) (fun p H1 N => ?_)
    have hlp : l ≠ p := ne_of_none upd_same N.free
    have hp0 : H p = none := by rw [← N.free, upd_ne hlp.symm]
    exact k l p _ hp0 ((same_new hl).trans N.same) ⟨ns, 0, 0, 0, 1, N.at_, hlp, N.same _ _ upd_same, Int.le_refl _, Int.le_refl _⟩
def spDraw (K : PySem.W.Frag) : Sp := fun vs H Q _ => ∃ (l p : Addr) (m : Int), vs = [.ref p, .int m] ∧ PoolAt K H l p ∧ 0 < m ∧ m < 1000000 ∧
  ∀ r H', 0 ≤ r → r < m → Off (fun b => b = p) H H' → PoolAt K H' l p → Q (.int r) H'
theorem ok_draw {f : Addr} {fd : FuncData} (F : Fun K "_law_draw" "_law_draw" s__law_draw f fd) (T : Blt mg) : FnG P w K mg base (CXe P w) 1 f fd ["pool", "many"] (spDraw K) := by
  refine F.okG sc__law_draw (fun vs H Q E h => ?_) (fun cdv A outer s H vs Q E hgd hr h => ?_)
  · obtain ⟨l, p, m, rfl, _⟩ := h; rfl
  · obtain ⟨l, p, m, rfl, ⟨xs, i, c, n, z, hp, hlp, hl, hi, hc⟩, hm0, hm1, k⟩ := h
    refine ⟨_, (pss_cons (ps_asg (pe_op op_add (pe_ix ix_list (pv 0) pe_int (fun _ _ => rfl)) pe_int) (pg_sub (pv 0) pe_int set_list))
      (C8.pss_cut (ps_if (PW.pt (pw_and (pt_cmpR op_eq (pe_ix ix_list (pv 0) pe_int (fun _ _ => rfl)) pe_int (nomark _)) (pw_and1 (pt_cmpR op_lt (pe_ix ix_list (pv 0) pe_int (fun _ _ => rfl)) (pe_callB call_len_seq (by rfl) T.n_len (by decide +kernel) (pa_cons (pe_ix ix_list (pv 0) pe_int (fun _ _ => rfl)) pa_nil)) (nomark _))))) (pss_cons (ps_set (i := 2) sc__law_draw.nd rfl (Or.inl rfl) (pe_callTy call_int1 (by rfl) T.n_int (by decide +kernel) (pa_cons (pe_ix ix_list (pe_ix ix_list (pv 0) pe_int (fun _ _ => rfl)) (pe_ix ix_list (pv 0) pe_int (fun _ _ => rfl)) (fun _ _ => rfl)) pa_nil)))
      (pss_cons (ps_asg (pe_op op_add (pe_ix ix_list (pv 0) pe_int (fun _ _ => rfl)) pe_int) (pg_sub (pv 0) pe_int set_list))
      (pss_one (ps_if (pt_cmpR op_ge (pv 2) (pe_op op_pow pe_int pe_int) (nomark _)) (pss_one (ps_asg (pv 2) (pg_sub (pv 0) pe_int set_list))) (pss_one (ps_asg (pe_op op_mod (pe_callTy call_int1 (by rfl) T.n_int (by decide +kernel) (pa_cons (pe_op op_add (pe_op op_add (pe_op op_mul (pe_ix ix_list (pv 0) pe_int (fun _ _ => rfl)) pe_int) (pe_op op_mul (pv 2) pe_int)) pe_int) pa_nil)) pe_int) (pg_sub (pv 0) pe_int set_list))))))) pss_nil)
      (pss_cons (ps_if (pt_cmpR op_gt (pe_ix ix_list (pv 0) pe_int (fun _ _ => rfl)) pe_int (nomark _)) (pss_cons (ps_set (i := 3) sc__law_draw.nd rfl (Or.inl rfl) (pe_op op_mod (pe_callTy call_int1 (by rfl) T.n_int (by decide +kernel) (pa_cons (pe_ix ix_list (pv 0) pe_int (fun _ _ => rfl)) pa_nil)) (pv 1)))
      (pss_cons (ps_asg (pe_op op_fdivN (pe_callTy call_int1 (by rfl) T.n_int (by decide +kernel) (pa_cons (pe_ix ix_list (pv 0) pe_int (fun _ _ => rfl)) pa_nil)) (pv 1)) (pg_sub (pv 0) pe_int set_list))
      (pss_one (ps_ret (pv 3))))) pss_nil)
      (pss_cons (ps_set (i := 4) sc__law_draw.nd rfl (Or.inl rfl) (pe_op op_mod (pe_callTy call_int1 (by rfl) T.n_int (by decide +kernel) (pa_cons (pe_op op_add (pe_op op_add (pe_ix ix_list (pv 0) pe_int (fun _ _ => rfl)) (pe_op op_mul (pe_ix ix_list (pv 0) pe_int (fun _ _ => rfl)) pe_int)) pe_int) pa_nil)) pe_int))
      (pss_cons (ps_set (i := 4) sc__law_draw.nd rfl (Or.inl rfl) (pe_op op_mod (pe_callTy call_int1 (by rfl) T.n_int (by decide +kernel) (pa_cons (pe_op op_mul (pv 4) (pe_op op_add (pe_op op_fdivN (pv 4) pe_int) pe_int)) pa_nil)) pe_int))
      (pss_cons (ps_set (i := 4) sc__law_draw.nd rfl (Or.inl rfl) (pe_op op_mod (pe_callTy call_int1 (by rfl) T.n_int (by decide +kernel) (pa_cons (pe_op op_mul (pv 4) (pe_op op_add (pe_op op_fdivN (pv 4) pe_int) pe_int)) pa_nil)) pe_int))
      (pss_cons (ps_asg (pv 4) (pg_sub (pv 0) pe_int set_list))
      (pss_one (ps_ret (pe_op op_mod (pe_callTy call_int1 (by rfl) T.n_int (by decide +kernel) (pa_cons (pe_op op_fdivN (pv 4) pe_int) pa_nil)) (pv 1))))))))))), ?_⟩
    walk_at "rd"
    refine ⟨fun σ' H' => ∃ (x : Option V) (i' c' n' z' : Int), σ' = [some (.ref p), some (.int m), x, none, none] ∧ H' = upd H p (poolO l i' c' n' z') ∧ 0 ≤ i' ∧ 0 ≤ c', ?_, ?_⟩
    · walk_at "rd"
      refine ite2 (fun h => ?_) (fun h => ?_)
      · walk_at "rd"
        refine ite2 (fun h2 => ?_) (fun h2 => ?_)
        · have hix : i < (xs.map V.int).length := by simpa using h2
          have hg : ∃ v, xs[i.toNat]? = some v := by
            rw [List.length_map] at hix
            exact ⟨_, List.getElem?_eq_getElem (by omega)⟩
          obtain ⟨v, hv⟩ := hg
          walk_at "rd"
          refine ⟨l, xs.map V.int, i, .int v, rfl, rfl, SqL.of (by walk_at "hp"), ?_, ?_⟩
          · have := atI_nat (xs := xs.map V.int) (j := i.toNat) (v := V.int v) (by simp [hv])
            rwa [Int.toNat_of_nonneg hi] at this
          walk_at "rd"
          refine ite2 (fun h3 => ?_) (fun h3 => ?_)
          · walk_at "rd"
            refine ⟨some (.int v), i + 1, v, n + 1, z, rfl, by rw [upd_upd, upd_upd]; rfl, by omega, ?_⟩
            have : (10 : Int) ^ 18 ≤ v := by simpa using h3
            omega
          · walk_at "rd"
            refine ⟨some (.int v), i + 1, c, n + 1, _, rfl, by rw [upd_upd, upd_upd]; rfl, by omega, hc⟩
        · exact ⟨none, i, c, n + 1, z, rfl, rfl, hi, hc⟩
      · exact ⟨none, i, c, n + 1, z, rfl, rfl, hi, hc⟩
    · rintro σ' H' ⟨x, i', c', n', z', rfl, rfl, hi', hc'⟩
      have hl' : ∀ o, upd H p o l = some (.lst (xs.map V.int)) := fun o => by rw [upd_ne hlp]; exact hl
      have fin : ∀ (r i'' c'' n'' z'' : Int), 0 ≤ r → r < m → 0 ≤ i'' → 0 ≤ c'' → Q (.int r) (upd H p (poolO l i'' c'' n'' z'')) := fun r i'' c'' n'' z'' a1 a2 a3 a4 =>
        k r _ a1 a2 (Off.mut rfl) ⟨xs, i'', c'', n'', z'', upd_same, hlp, hl' _, a3, a4⟩
      walk_at "rd"
      refine ite2 (fun h => ?_) (fun h => ?_)
      · walk_at "rd"
        rw [upd_upd]
        refine fin _ i' _ n' z' ?_ ?_ hi' ?_
        · exact Int.emod_nonneg _ (by omega)
        · exact Int.emod_lt_of_pos _ hm0
        · rw [Int.fdiv_eq_ediv_of_nonneg _ (by omega)]
          exact Int.ediv_nonneg hc' (by omega)
      · walk_at "rd"
        rw [upd_upd]
        refine fin _ i' c' n' _ ?_ ?_ hi' hc'
        · exact Int.emod_nonneg _ (by omega)
        · exact Int.emod_lt_of_pos _ hm0
/-! ### a drawn thing of any kind -/
def deepD : Nat → PyData
  | 0 => .tuple [.int 0]
  | n + 1 => .tuple [deepD n]
def oddDs : List (Bool × PyData) := [(true, .none), (true, .bool true), (true, .bool false), (true, .int (-1)), (true, .int 0), (true, .int 3), (true, .int (10 ^ 30)), (true, .str ""), (true, .str "a"), (true, .str "@"),
  (true, .tuple []), (true, .list []), (false, .dict []), (true, .tuple [.int 0]), (true, .tuple [.int 0, .int 0]), (true, .list [.int 0, .int 0]), (true, .tuple [.str "@"]), (true, .list [.str "@"]), (true, deepD 12)]
def Odd (M : Addr → Prop) (H : Hp) (v : V) : Prop := ∃ q ∈ oddDs, Dr q.1 M H v q.2
def OddAll (M : Addr → Prop) (H : Hp) (vs : List V) : Prop := ∀ v ∈ vs, Odd M H v
theorem Odd.keep {M : Addr → Prop} {H H' : Hp} {v : V} (o : Off M H H') (h : Odd M H v) : Odd M H' v := by
  obtain ⟨q, hq, d⟩ := h
  exact ⟨q, hq, d.keep o⟩
theorem OddAll.new {M : Addr → Prop} {H H2 : Hp} {vs : List V} {q : Addr} {o : HO} (hq : New H H2 q o) (O : OddAll M H vs) (h : Odd M H2 (.ref q)) : OddAll M H2 (.ref q :: vs) := by
  intro v hv
  rcases List.mem_cons.mp hv with rfl | hv
  · exact h
  · exact (O v hv).keep hq.off
def spOdd (K : PySem.W.Frag) : Sp := fun vs H Q _ => ∃ (l p : Addr) (M : Addr → Prop), vs = [.ref p] ∧ PoolAt K H l p ∧ M p ∧ (∀ a, M a → H a ≠ none) ∧
  ∀ v H', Off (fun b => b = p) H H' → PoolAt K H' l p → Odd M H' v → Q v H'
theorem sc__law_odd : FnScope ["pool", "deep", "k", "odd"] ["pool"] (defScope s__law_odd) := ⟨rfl, rfl, rfl, by decide +kernel, rfl, by decide +kernel, by decide +kernel⟩
theorem PoolAt.same {H H' : Hp} {l p : Addr} (s : Same H H') (h : PoolAt K H l p) : PoolAt K H' l p := by
  obtain ⟨xs, i, c, n, z, h1, h2, h3, h4, h5⟩ := h
  exact ⟨xs, i, c, n, z, s _ _ h1, h2, s _ _ h3, h4, h5⟩
theorem ok_odd {f : Addr} {fd : FuncData} {k1 : Nat} (F : Fun K "_law_odd" "_law_odd" s__law_odd f fd) (T : Blt mg) (c__law_draw : CalG P w K mg base 1 "_law_draw" (spDraw K)) : FnG P w K mg base (CXe P w) 2 f fd ["pool"] (spOdd K) := by
  refine F.okG sc__law_odd (fun vs H Q E h => ?_) (fun cdv A outer s H vs Q E hgd hr h => ?_)
  · obtain ⟨l, p, M, rfl, _⟩ := h; rfl
  · obtain ⟨l, p, M, rfl, hp, hMp, hM, k⟩ := h
    refine ⟨_, (pss_cons (ps_set (i := 1) sc__law_odd.nd rfl (Or.inl rfl) (pe_tupA (pa_cons pe_int pa_nil)))
      (pss_cons (ps_for (passes_of rfl) rfl (pi_range1 (by rfl) T.n_range (pa_cons pe_int pa_nil)) (pg_name (i := 2) sc__law_odd.nd rfl (Or.inl rfl))
      (pss_one (ps_set (i := 1) sc__law_odd.nd rfl (Or.inl rfl) (pe_tupA (pa_cons (pv 1) pa_nil)))))
      (pss_cons (ps_set (i := 3) sc__law_odd.nd rfl (Or.inl rfl) (pe_lstA (pa_cons pe_non (pa_cons pe_bl (pa_cons pe_bl (pa_cons (pe_un un_neg pe_int) (pa_cons pe_int (pa_cons pe_int (pa_cons (pe_op op_pow pe_int pe_int) (pa_cons pe_str (pa_cons pe_str (pa_cons pe_str (pa_cons (pe_tupA pa_nil) (pa_cons (pe_lstA pa_nil) (pa_cons pe_dnewA (pa_cons (pe_tupA (pa_cons pe_int pa_nil)) (pa_cons (pe_tupA (pa_cons pe_int (pa_cons pe_int pa_nil))) (pa_cons (pe_lstA (pa_cons pe_int (pa_cons pe_int pa_nil))) (pa_cons (pe_tupA (pa_cons pe_str pa_nil)) (pa_cons (pe_lstA (pa_cons pe_str pa_nil)) (pa_cons (pv 1) pa_nil)))))))))))))))))))))
      (pss_one (ps_ret (pe_ix ix_list (pv 3) (pg_c c__law_draw hgd hr (by first | decide | omega) (pa_cons (pv 0) (pa_cons (pe_callB call_len_seq (by rfl) T.n_len (by decide +kernel) (pa_cons (pv 3) pa_nil)) pa_nil))) (fun _ _ => rfl))))))), ?_⟩
    have notM : ∀ {a : Addr}, H a = none → ¬ M a := fun h z => hM _ z h
    walk_at "rd"
    refine And.intro (Nat.le_of_ble_eq_true rfl) (fun t0 H0 n0 => ?_)
    refine ⟨12, rfl, by decide, by decide, for_range (n := 12) (fun i σ H' => ∃ (t : Addr) (x : Option V), σ = [some (.ref p), some (.ref t), x, none] ∧ Same H H' ∧ Dr true M H' (.ref t) (deepD i)) ⟨t0, none, rfl, n0.same, .tup n0.at_ (notM n0.free) (.cons (.int 0) .nil)⟩ ?_ ?_⟩
    · rintro i σ H' hi ⟨t, x, rfl, s5, d⟩
      walk_at "rd"
      refine And.intro (Nat.le_of_ble_eq_true rfl) (fun t1 H1 n1 => ?_)
      exact ⟨t1, _, rfl, s5.trans n1.same, .tup n1.at_ (notM (s5.free n1.free)) (.cons (d.keep n1.off) .nil)⟩
    · rintro σ H' ⟨t, x, rfl, s5, d⟩
      have O0 : OddAll M H' [.ref t] := by
        intro v hv
        cases List.mem_singleton.mp hv
        exact ⟨(true, deepD 12), by simp [oddDs], d⟩
      walk_at "rd"
      refine And.intro (Nat.le_of_ble_eq_true rfl) (fun q1 H1 n1 => ?_)
      have O1 := O0.new n1 ⟨(true, .tuple []), by simp [oddDs], .tup n1.at_ (notM (s5.free n1.free)) .nil⟩
      have s6 := s5.trans n1.same
      refine And.intro (Nat.le_of_ble_eq_true rfl) (fun q2 H2 n2 => ?_)
      have O2 := O1.new n2 ⟨(true, .list []), by simp [oddDs], .lst n2.at_ (notM (s6.free n2.free)) rfl .nil⟩
      have s7 := s6.trans n2.same
      refine fun q3 H3 n3 => ?_
      have O3 := O2.new n3 ⟨(false, .dict []), by simp [oddDs], .dct n3.at_ (notM (s7.free n3.free)) rfl⟩
      have s8 := s7.trans n3.same
      refine And.intro (Nat.le_of_ble_eq_true rfl) (fun q4 H4 n4 => ?_)
      have O4 := O3.new n4 ⟨(true, .tuple [.int 0]), by simp [oddDs], .tup n4.at_ (notM (s8.free n4.free)) (.cons (.int 0) .nil)⟩
      have s9 := s8.trans n4.same
      refine And.intro (Nat.le_of_ble_eq_true rfl) (fun q5 H5 n5 => ?_)
      have O5 := O4.new n5 ⟨(true, .tuple [.int 0, .int 0]), by simp [oddDs], .tup n5.at_ (notM (s9.free n5.free)) (.cons (.int 0) (.cons (.int 0) .nil))⟩
      have s10 := s9.trans n5.same
      refine And.intro (Nat.le_of_ble_eq_true rfl) (fun q6 H6 n6 => ?_)
      have O6 := O5.new n6 ⟨(true, .list [.int 0, .int 0]), by simp [oddDs], .lst n6.at_ (notM (s10.free n6.free)) rfl (.cons (.int 0) (.cons (.int 0) .nil))⟩
      have s11 := s10.trans n6.same
      refine And.intro (Nat.le_of_ble_eq_true rfl) (fun q7 H7 n7 => ?_)
      have O7 := O6.new n7 ⟨(true, .tuple [.str "@"]), by simp [oddDs], .tup n7.at_ (notM (s11.free n7.free)) (.cons (.str "@") .nil)⟩
      have s12 := s11.trans n7.same
      refine And.intro (Nat.le_of_ble_eq_true rfl) (fun q8 H8 n8 => ?_)
      have O8 := O7.new n8 ⟨(true, .list [.str "@"]), by simp [oddDs], .lst n8.at_ (notM (s12.free n8.free)) rfl (.cons (.str "@") .nil)⟩
      have s13 := s12.trans n8.same
      walk_at "rd"
      refine And.intro (Nat.le_of_ble_eq_true rfl) (fun q9 H9 n9 => ?_)
      have s14 := s13.trans n9.same
      -- the list is made; what stands in it
      have O9 : OddAll M H9 _ := fun v hv => (O8 v hv).keep n9.off
      have e9 := n9.at_
      generalize hxs : ([_, _, _, _, _, _, _, _, _, _, _, _, _, _, _, _, _, _, _] : List V) = items at e9
      have hlen : items.length = 19 := by rw [← hxs]; rfl
      have OL : OddAll M H9 items := by
        rw [← hxs]
        intro v hv
        simp only [List.mem_cons, List.not_mem_nil, or_false] at hv
        rcases hv with rfl | rfl | rfl | rfl | rfl | rfl | rfl | rfl | rfl | rfl | rfl | rfl | rfl | rfl | rfl | rfl | rfl | rfl | rfl
        · exact ⟨(true, .none), by simp [oddDs], .non⟩
        · exact ⟨(true, .bool true), by simp [oddDs], .bl _⟩
        · exact ⟨(true, .bool false), by simp [oddDs], .bl _⟩
        · exact ⟨(true, .int (-1)), by simp [oddDs], .int _⟩
        · exact ⟨(true, .int 0), by simp [oddDs], .int _⟩
        · exact ⟨(true, .int 3), by simp [oddDs], .int _⟩
        · exact ⟨(true, .int (10 ^ 30)), by simp [oddDs], .int _⟩
        · exact ⟨(true, .str ""), by simp [oddDs], .str _⟩
        · exact ⟨(true, .str "a"), by simp [oddDs], .str _⟩
        · exact ⟨(true, .str "@"), by simp [oddDs], .str _⟩
        all_goals exact O9 _ (by simp)
      walk_at "rd"
      rw [hlen]
      refine ⟨l, p, 19, rfl, hp.same s14, by decide, by decide, fun r H10 hr0 hr1 off hp10 => ?_⟩
      obtain ⟨v, ho⟩ : ∃ v, items[r.toNat]? = some v := ⟨_, List.getElem?_eq_getElem (by omega)⟩
      have hne : q9 ≠ p := by
        intro z
        obtain ⟨xs, i, c, n, z1, h1, _⟩ := hp
        have := s13 _ _ h1
        rw [← z, n9.free] at this
        cases this
      refine ⟨q9, items, r, v, rfl, rfl, SqL.of (off _ _ hne e9), ?_, ?_⟩
      · have := atI_nat ho
        rwa [Int.toNat_of_nonneg hr0] at this
      · refine k _ H10 ((Off.same s14).trans off) hp10 ((OL _ (List.mem_of_getElem? ho)).keep ?_)
        intro b o hb e
        exact off b o (fun z => hb (by rw [z]; exact hMp)) e
end
end K01
end
section
set_option Elab.async false
set_option linter.all false
set_option maxRecDepth 100000
set_option maxHeartbeats 2000000
namespace K01
open PySem L2
local macro_rules | `(tactic| walk_at "hp") => `(tactic| first | assumption | exact upd_same | (refine (upd_ne (by first | assumption | (apply Ne.symm; assumption))).trans ?_; walk_at "hp"))
local macro_rules | `(tactic| walk_at "rd1") => `(tactic| first
  | (refine ⟨_, rfl, ?_⟩)
  | (refine ⟨_, _, rfl, rfl, ?_⟩)
  | (refine ⟨(rfl : scal _ _ = true), ?_⟩)
  | (refine And.intro (by show (0 : Int) < _; decide) ?_)
  | (refine And.intro (And.intro (by decide) (by decide)) ?_)
  | (refine And.intro (Or.inr (And.intro (by decide) (by decide))) ?_)
  | (refine And.intro (And.intro (by decide) (And.intro (by decide) (by decide))) ?_)
  | (refine And.intro (by assumption) ?_)
  | (refine And.intro (And.intro (by omega) (by omega)) ?_)
  | (refine And.intro (Or.inl (And.intro (by omega) (by omega))) ?_)
  | (refine' ⟨_, _, _, _, rfl, rfl, Or.inl (Or.inl ?h1), ?h2, ?h3⟩; (case h1 => walk_at "hp"); (case h2 => rfl))
  | (refine' ⟨_, _, _, _, rfl, rfl, ?h1, ?h2, ?h3⟩; (case h1 => walk_at "hp"); (case h2 => rfl))
  | (refine' ⟨_, _, rfl, Or.inl (Or.inl (Or.inl ?h1)), ?h3⟩; (case h1 => walk_at "hp"))
  | (refine Or.inl ⟨_, rfl, ?_⟩))
local macro_rules | `(tactic| walk_at "rd") => `(tactic| repeat walk_at "rd1")
theorem sc__law_first_kinds : FnScope ["e", "found"] ["e"] (defScope s__law_first_kinds) := ⟨rfl, rfl, rfl, by decide +kernel, rfl, by decide +kernel, by decide +kernel⟩
theorem sc__law_kinds : FnScope ["e", "found"] ["e"] (defScope s__law_kinds) := ⟨rfl, rfl, rfl, by decide +kernel, rfl, by decide +kernel, by decide +kernel⟩
theorem sc__law_first : FnScope ["thing", "badrules", "badbag", "badroom", "badcell", "badmouth", "badlevel", "badpath", "badplay", "badoutcome", "badtable", "badfrail", "badfull", "errors", "kept"] ["thing"] (defScope s__law_first) := ⟨rfl, rfl, rfl, by decide +kernel, rfl, by decide +kernel, by decide +kernel⟩
theorem sc__law_second : FnScope ["thing", "badgrammar", "badderivation", "badname", "badcount", "badwish", "badprices", "badnumber", "badindex", "badtext", "errors", "kept"] ["thing"] (defScope s__law_second) := ⟨rfl, rfl, rfl, by decide +kernel, rfl, by decide +kernel, by decide +kernel⟩
section
variable {P : Program} {w : World} {K : PySem.W.Frag} {mg : Str → Option Value} {base : Heap} {cls fns : Nat → Addr} {CM : Addr}
theorem gone {H H1 : Hp} {q : Addr} (s : Same H H1) (n : H1 q = none) : H q = none := by
  cases hz : H q with
  | none => rfl
  | some o => rw [s _ _ hz] at n; cases n
/-- the 25 classes of errors, in their order -/
structure CT (P : Program) (K : PySem.W.Frag) (mg : Str → Option Value) (cls fns : Nat → Addr) (CM : Addr) : Prop where
  g_BadRules : mg "BadRules" = some (.ref (cls 0))
  g_BadBag : mg "BadBag" = some (.ref (cls 1))
  g_BadRoom : mg "BadRoom" = some (.ref (cls 2))
  g_BadCell : mg "BadCell" = some (.ref (cls 3))
  g_BadMouth : mg "BadMouth" = some (.ref (cls 4))
  g_BadLevel : mg "BadLevel" = some (.ref (cls 5))
  g_BadPath : mg "BadPath" = some (.ref (cls 6))
  g_BadPlay : mg "BadPlay" = some (.ref (cls 7))
  g_BadOutcome : mg "BadOutcome" = some (.ref (cls 8))
  g_BadTable : mg "BadTable" = some (.ref (cls 9))
  g_BadFrail : mg "BadFrail" = some (.ref (cls 10))
  g_BadFull : mg "BadFull" = some (.ref (cls 11))
  g_BadGrammar : mg "BadGrammar" = some (.ref (cls 12))
  g_BadDerivation : mg "BadDerivation" = some (.ref (cls 13))
  g_BadName : mg "BadName" = some (.ref (cls 14))
  g_BadCount : mg "BadCount" = some (.ref (cls 15))
  g_BadWish : mg "BadWish" = some (.ref (cls 16))
  g_BadPrices : mg "BadPrices" = some (.ref (cls 17))
  g_BadNumber : mg "BadNumber" = some (.ref (cls 18))
  g_BadIndex : mg "BadIndex" = some (.ref (cls 19))
  g_BadText : mg "BadText" = some (.ref (cls 20))
  g_BadPaper : mg "BadPaper" = some (.ref (cls 21))
  g_NoPaper : mg "NoPaper" = some (.ref (cls 22))
  g_NothingDone : mg "NothingDone" = some (.ref (cls 23))
  g_TooMany : mg "TooMany" = some (.ref (cls 24))
  x_BadRules : RX.ErrT P K mg "BadRules" "value" (cls 0) (fns 0)
  x_BadBag : RX.ErrT P K mg "BadBag" "value" (cls 1) (fns 1)
  x_BadRoom : RX.ErrT P K mg "BadRoom" "value" (cls 2) (fns 2)
  x_BadCell : RX.ErrT P K mg "BadCell" "index" (cls 3) (fns 3)
  x_BadMouth : RX.ErrT P K mg "BadMouth" "number" (cls 4) (fns 4)
  x_BadLevel : RX.ErrT P K mg "BadLevel" "value" (cls 5) (fns 5)
  x_BadPath : RX.ErrT P K mg "BadPath" "path" (cls 6) (fns 6)
  x_BadPlay : RX.ErrT P K mg "BadPlay" "at" (cls 7) (fns 7)
  x_BadOutcome : RX.ErrT P K mg "BadOutcome" "value" (cls 8) (fns 8)
  x_BadTable : RX.ErrT P K mg "BadTable" "value" (cls 9) (fns 9)
  x_BadFrail : RX.ErrT P K mg "BadFrail" "value" (cls 10) (fns 10)
  x_BadFull : RX.ErrT P K mg "BadFull" "value" (cls 11) (fns 11)
  x_BadGrammar : RX.ErrT P K mg "BadGrammar" "value" (cls 12) (fns 12)
  x_BadDerivation : RX.ErrT P K mg "BadDerivation" "value" (cls 13) (fns 13)
  x_BadName : RX.ErrT P K mg "BadName" "value" (cls 14) (fns 14)
  x_BadCount : RX.ErrT P K mg "BadCount" "value" (cls 15) (fns 15)
  x_BadWish : RX.ErrT P K mg "BadWish" "value" (cls 16) (fns 16)
  x_BadPrices : RX.ErrT P K mg "BadPrices" "at" (cls 17) (fns 17)
  x_BadNumber : RX.ErrT P K mg "BadNumber" "value" (cls 18) (fns 18)
  x_BadIndex : RX.ErrT P K mg "BadIndex" "at" (cls 19) (fns 19)
  x_BadText : RX.ErrT P K mg "BadText" "at" (cls 20) (fns 20)
  x_BadPaper : ErrN K mg "BadPaper" (cls 21)
  x_NoPaper : ErrN K mg "NoPaper" (cls 22)
  x_NothingDone : ErrN K mg "NothingDone" (cls 23)
  x_TooMany : ErrN K mg "TooMany" (cls 24)
  g_MazeError : mg "MazeError" = some (.ref CM)
  n_isinstance : mg "isinstance" = none
  n_repr : mg "repr" = none
  n_len : mg "len" = none
  n_range : mg "range" = none
  n_all : mg "all" = none
  n_ValueError : mg "ValueError" = none
  ec : ∀ i, i < 25 → ExcC K (cls i)
  kit : ∀ i j, i < 25 → j < 25 → PySem.W.kitOne K (.ref (cls i)) (.ref (cls j)) = some (decide (i = j))
  kM : ∀ i, i < 25 → PySem.W.kitOne K (.ref (cls i)) (.ref CM) = some true
  kV : ∀ i, i < 25 → PySem.W.kitOne K (.ref (cls i)) (.type "ValueError") = some true
theorem szS {n : Nat} (h : n ≤ 1000) : n < sizeLine := by rw [sizeLine_eq]; omega
/-- an error of the j-th class -/
def Er (cls : Nat → Addr) (j : Nat) (H : Hp) (e : Addr) (d : Option Addr) : Prop := H e = some (ErO (cls j) d e) ∧ ∀ dd, d = some dd → ∃ fs, H dd = some (.xd fs)
theorem Er.same {j : Nat} {H H' : Hp} {e : Addr} {d : Option Addr} (s : Same H H') (h : Er cls j H e d) : Er cls j H' e d := ⟨s _ _ h.1, fun dd z => (h.2 dd z).imp fun fs q => s _ _ q⟩
def spKinds (cls : Nat → Addr) (m : Nat) : Sp := fun vs H Q _ => ∃ (e : Addr) (d : Option Addr) (j : Nat), vs = [.ref e] ∧ j < 25 ∧ Er cls j H e d ∧ ∀ q H', Same H H' → H q = none → H' q = some (.lst ((List.range m).map fun i => V.bl (decide (j = i)))) → Q (.ref q) H'
theorem ok_fk {f : Addr} {fd : FuncData} (F : Fun K "_law_first_kinds" "_law_first_kinds" s__law_first_kinds f fd) (T : CT P K mg cls fns CM) : FnG P w K mg base (CXe P w) 1 f fd ["e"] (spKinds cls 13) := by
  refine F.okG sc__law_first_kinds (fun vs H Q E h => ?_) (fun cdv A outer s H vs Q E hgd hr h => ?_)
  · obtain ⟨e, d, j, rfl, _⟩ := h; rfl
  · obtain ⟨e, d, j, rfl, hj, he, k⟩ := h
    refine ⟨_, (pss_cons (ps_set (i := 1) sc__law_first_kinds.nd rfl (Or.inl rfl) (pe_lstA (pa_cons (pe_callB call_isEr (by rfl) T.n_isinstance (by decide +kernel) (pa_cons (pv 0) (pa_cons (pe_glob (v := .ref _) rfl T.g_BadRules rfl) pa_nil))) (pa_cons (pe_callB call_isEr (by rfl) T.n_isinstance (by decide +kernel) (pa_cons (pv 0) (pa_cons (pe_glob (v := .ref _) rfl T.g_BadBag rfl) pa_nil))) (pa_cons (pe_callB call_isEr (by rfl) T.n_isinstance (by decide +kernel) (pa_cons (pv 0) (pa_cons (pe_glob (v := .ref _) rfl T.g_BadRoom rfl) pa_nil))) (pa_cons (pe_callB call_isEr (by rfl) T.n_isinstance (by decide +kernel) (pa_cons (pv 0) (pa_cons (pe_glob (v := .ref _) rfl T.g_BadCell rfl) pa_nil))) pa_nil))))))
      (pss_cons (ps_set (i := 1) sc__law_first_kinds.nd rfl (Or.inl rfl) (pe_op op_cat (pv 1) (pe_lstA (pa_cons (pe_callB call_isEr (by rfl) T.n_isinstance (by decide +kernel) (pa_cons (pv 0) (pa_cons (pe_glob (v := .ref _) rfl T.g_BadMouth rfl) pa_nil))) (pa_cons (pe_callB call_isEr (by rfl) T.n_isinstance (by decide +kernel) (pa_cons (pv 0) (pa_cons (pe_glob (v := .ref _) rfl T.g_BadLevel rfl) pa_nil))) (pa_cons (pe_callB call_isEr (by rfl) T.n_isinstance (by decide +kernel) (pa_cons (pv 0) (pa_cons (pe_glob (v := .ref _) rfl T.g_BadPath rfl) pa_nil))) (pa_cons (pe_callB call_isEr (by rfl) T.n_isinstance (by decide +kernel) (pa_cons (pv 0) (pa_cons (pe_glob (v := .ref _) rfl T.g_BadPlay rfl) pa_nil))) pa_nil)))))))
      (pss_cons (ps_set (i := 1) sc__law_first_kinds.nd rfl (Or.inl rfl) (pe_op op_cat (pv 1) (pe_lstA (pa_cons (pe_callB call_isEr (by rfl) T.n_isinstance (by decide +kernel) (pa_cons (pv 0) (pa_cons (pe_glob (v := .ref _) rfl T.g_BadOutcome rfl) pa_nil))) (pa_cons (pe_callB call_isEr (by rfl) T.n_isinstance (by decide +kernel) (pa_cons (pv 0) (pa_cons (pe_glob (v := .ref _) rfl T.g_BadTable rfl) pa_nil))) pa_nil)))))
      (pss_cons (ps_set (i := 1) sc__law_first_kinds.nd rfl (Or.inl rfl) (pe_op op_cat (pv 1) (pe_lstA (pa_cons (pe_callB call_isEr (by rfl) T.n_isinstance (by decide +kernel) (pa_cons (pv 0) (pa_cons (pe_glob (v := .ref _) rfl T.g_BadFrail rfl) pa_nil))) (pa_cons (pe_callB call_isEr (by rfl) T.n_isinstance (by decide +kernel) (pa_cons (pv 0) (pa_cons (pe_glob (v := .ref _) rfl T.g_BadFull rfl) pa_nil))) pa_nil)))))
      (pss_cons (ps_set (i := 1) sc__law_first_kinds.nd rfl (Or.inl rfl) (pe_op op_cat (pv 1) (pe_lstA (pa_cons (pe_callB call_isEr (by rfl) T.n_isinstance (by decide +kernel) (pa_cons (pv 0) (pa_cons (pe_glob (v := .ref _) rfl T.g_BadGrammar rfl) pa_nil))) pa_nil))))
      (pss_one (ps_ret (pv 1)))))))), ?_⟩
    have s0 : Same H H := Same.refl _
    refine ⟨_, rfl, .ref _, _, decide (j = 0), cls j, e, d, rfl, .own _, T.ec j hj, (he.same s0).1, (he.same s0).2, T.kit j 0 hj (by decide), _, rfl, .ref _, _, decide (j = 1), cls j, e, d, rfl, .own _, T.ec j hj, (he.same s0).1, (he.same s0).2, T.kit j 1 hj (by decide), _, rfl, .ref _, _, decide (j = 2), cls j, e, d, rfl, .own _, T.ec j hj, (he.same s0).1, (he.same s0).2, T.kit j 2 hj (by decide), _, rfl, .ref _, _, decide (j = 3), cls j, e, d, rfl, .own _, T.ec j hj, (he.same s0).1, (he.same s0).2, T.kit j 3 hj (by decide), And.intro (Nat.le_of_ble_eq_true rfl) fun L1 G1 m1 => ?_⟩
    have s1 := s0.trans m1.same
    refine ⟨_, rfl, _, rfl, .ref _, _, decide (j = 4), cls j, e, d, rfl, .own _, T.ec j hj, (he.same s1).1, (he.same s1).2, T.kit j 4 hj (by decide), _, rfl, .ref _, _, decide (j = 5), cls j, e, d, rfl, .own _, T.ec j hj, (he.same s1).1, (he.same s1).2, T.kit j 5 hj (by decide), _, rfl, .ref _, _, decide (j = 6), cls j, e, d, rfl, .own _, T.ec j hj, (he.same s1).1, (he.same s1).2, T.kit j 6 hj (by decide), _, rfl, .ref _, _, decide (j = 7), cls j, e, d, rfl, .own _, T.ec j hj, (he.same s1).1, (he.same s1).2, T.kit j 7 hj (by decide), And.intro (Nat.le_of_ble_eq_true rfl) fun L2 G2 m2 => ?_⟩
    have s2 := s1.trans m2.same
    refine ⟨L1, L2, _, _, rfl, rfl, m2.same _ _ (m1.at_), m2.at_, Nat.le_of_lt (szS (Nat.le_of_ble_eq_true rfl)), fun A2 nA2 => ?_⟩
    have t2 : Same G2 (upd G2 A2 (.lst ([V.bl (decide (j = 0)), V.bl (decide (j = 1)), V.bl (decide (j = 2)), V.bl (decide (j = 3))] ++ [V.bl (decide (j = 4)), V.bl (decide (j = 5)), V.bl (decide (j = 6)), V.bl (decide (j = 7))]))) := same_new nA2
    have h2 : (upd G2 A2 (.lst ([V.bl (decide (j = 0)), V.bl (decide (j = 1)), V.bl (decide (j = 2)), V.bl (decide (j = 3))] ++ [V.bl (decide (j = 4)), V.bl (decide (j = 5)), V.bl (decide (j = 6)), V.bl (decide (j = 7))]))) A2 = some (.lst ([V.bl (decide (j = 0)), V.bl (decide (j = 1)), V.bl (decide (j = 2)), V.bl (decide (j = 3))] ++ [V.bl (decide (j = 4)), V.bl (decide (j = 5)), V.bl (decide (j = 6)), V.bl (decide (j = 7))])) := upd_same
    generalize upd G2 A2 (.lst ([V.bl (decide (j = 0)), V.bl (decide (j = 1)), V.bl (decide (j = 2)), V.bl (decide (j = 3))] ++ [V.bl (decide (j = 4)), V.bl (decide (j = 5)), V.bl (decide (j = 6)), V.bl (decide (j = 7))])) = I2 at t2 h2 ⊢
    have u2 := s2.trans t2
    refine ⟨_, rfl, _, rfl, .ref _, _, decide (j = 8), cls j, e, d, rfl, .own _, T.ec j hj, (he.same u2).1, (he.same u2).2, T.kit j 8 hj (by decide), _, rfl, .ref _, _, decide (j = 9), cls j, e, d, rfl, .own _, T.ec j hj, (he.same u2).1, (he.same u2).2, T.kit j 9 hj (by decide), And.intro (Nat.le_of_ble_eq_true rfl) fun L3 G3 m3 => ?_⟩
    have s3 := u2.trans m3.same
    refine ⟨A2, L3, _, _, rfl, rfl, m3.same _ _ (h2), m3.at_, Nat.le_of_lt (szS (Nat.le_of_ble_eq_true rfl)), fun A3 nA3 => ?_⟩
    have t3 : Same G3 (upd G3 A3 (.lst (([V.bl (decide (j = 0)), V.bl (decide (j = 1)), V.bl (decide (j = 2)), V.bl (decide (j = 3))] ++ [V.bl (decide (j = 4)), V.bl (decide (j = 5)), V.bl (decide (j = 6)), V.bl (decide (j = 7))]) ++ [V.bl (decide (j = 8)), V.bl (decide (j = 9))]))) := same_new nA3
    have h3 : (upd G3 A3 (.lst (([V.bl (decide (j = 0)), V.bl (decide (j = 1)), V.bl (decide (j = 2)), V.bl (decide (j = 3))] ++ [V.bl (decide (j = 4)), V.bl (decide (j = 5)), V.bl (decide (j = 6)), V.bl (decide (j = 7))]) ++ [V.bl (decide (j = 8)), V.bl (decide (j = 9))]))) A3 = some (.lst (([V.bl (decide (j = 0)), V.bl (decide (j = 1)), V.bl (decide (j = 2)), V.bl (decide (j = 3))] ++ [V.bl (decide (j = 4)), V.bl (decide (j = 5)), V.bl (decide (j = 6)), V.bl (decide (j = 7))]) ++ [V.bl (decide (j = 8)), V.bl (decide (j = 9))])) := upd_same
    generalize upd G3 A3 (.lst (([V.bl (decide (j = 0)), V.bl (decide (j = 1)), V.bl (decide (j = 2)), V.bl (decide (j = 3))] ++ [V.bl (decide (j = 4)), V.bl (decide (j = 5)), V.bl (decide (j = 6)), V.bl (decide (j = 7))]) ++ [V.bl (decide (j = 8)), V.bl (decide (j = 9))])) = I3 at t3 h3 ⊢
    have u3 := s3.trans t3
    refine ⟨_, rfl, _, rfl, .ref _, _, decide (j = 10), cls j, e, d, rfl, .own _, T.ec j hj, (he.same u3).1, (he.same u3).2, T.kit j 10 hj (by decide), _, rfl, .ref _, _, decide (j = 11), cls j, e, d, rfl, .own _, T.ec j hj, (he.same u3).1, (he.same u3).2, T.kit j 11 hj (by decide), And.intro (Nat.le_of_ble_eq_true rfl) fun L4 G4 m4 => ?_⟩
    have s4 := u3.trans m4.same
    refine ⟨A3, L4, _, _, rfl, rfl, m4.same _ _ (h3), m4.at_, Nat.le_of_lt (szS (Nat.le_of_ble_eq_true rfl)), fun A4 nA4 => ?_⟩
    have t4 : Same G4 (upd G4 A4 (.lst ((([V.bl (decide (j = 0)), V.bl (decide (j = 1)), V.bl (decide (j = 2)), V.bl (decide (j = 3))] ++ [V.bl (decide (j = 4)), V.bl (decide (j = 5)), V.bl (decide (j = 6)), V.bl (decide (j = 7))]) ++ [V.bl (decide (j = 8)), V.bl (decide (j = 9))]) ++ [V.bl (decide (j = 10)), V.bl (decide (j = 11))]))) := same_new nA4
    have h4 : (upd G4 A4 (.lst ((([V.bl (decide (j = 0)), V.bl (decide (j = 1)), V.bl (decide (j = 2)), V.bl (decide (j = 3))] ++ [V.bl (decide (j = 4)), V.bl (decide (j = 5)), V.bl (decide (j = 6)), V.bl (decide (j = 7))]) ++ [V.bl (decide (j = 8)), V.bl (decide (j = 9))]) ++ [V.bl (decide (j = 10)), V.bl (decide (j = 11))]))) A4 = some (.lst ((([V.bl (decide (j = 0)), V.bl (decide (j = 1)), V.bl (decide (j = 2)), V.bl (decide (j = 3))] ++ [V.bl (decide (j = 4)), V.bl (decide (j = 5)), V.bl (decide (j = 6)), V.bl (decide (j = 7))]) ++ [V.bl (decide (j = 8)), V.bl (decide (j = 9))]) ++ [V.bl (decide (j = 10)), V.bl (decide (j = 11))])) := upd_same
    generalize upd G4 A4 (.lst ((([V.bl (decide (j = 0)), V.bl (decide (j = 1)), V.bl (decide (j = 2)), V.bl (decide (j = 3))] ++ [V.bl (decide (j = 4)), V.bl (decide (j = 5)), V.bl (decide (j = 6)), V.bl (decide (j = 7))]) ++ [V.bl (decide (j = 8)), V.bl (decide (j = 9))]) ++ [V.bl (decide (j = 10)), V.bl (decide (j = 11))])) = I4 at t4 h4 ⊢
    have u4 := s4.trans t4
    refine ⟨_, rfl, _, rfl, .ref _, _, decide (j = 12), cls j, e, d, rfl, .own _, T.ec j hj, (he.same u4).1, (he.same u4).2, T.kit j 12 hj (by decide), And.intro (Nat.le_of_ble_eq_true rfl) fun L5 G5 m5 => ?_⟩
    have s5 := u4.trans m5.same
    refine ⟨A4, L5, _, _, rfl, rfl, m5.same _ _ (h4), m5.at_, Nat.le_of_lt (szS (Nat.le_of_ble_eq_true rfl)), fun A5 nA5 => ?_⟩
    have t5 : Same G5 (upd G5 A5 (.lst (((([V.bl (decide (j = 0)), V.bl (decide (j = 1)), V.bl (decide (j = 2)), V.bl (decide (j = 3))] ++ [V.bl (decide (j = 4)), V.bl (decide (j = 5)), V.bl (decide (j = 6)), V.bl (decide (j = 7))]) ++ [V.bl (decide (j = 8)), V.bl (decide (j = 9))]) ++ [V.bl (decide (j = 10)), V.bl (decide (j = 11))]) ++ [V.bl (decide (j = 12))]))) := same_new nA5
    have h5 : (upd G5 A5 (.lst (((([V.bl (decide (j = 0)), V.bl (decide (j = 1)), V.bl (decide (j = 2)), V.bl (decide (j = 3))] ++ [V.bl (decide (j = 4)), V.bl (decide (j = 5)), V.bl (decide (j = 6)), V.bl (decide (j = 7))]) ++ [V.bl (decide (j = 8)), V.bl (decide (j = 9))]) ++ [V.bl (decide (j = 10)), V.bl (decide (j = 11))]) ++ [V.bl (decide (j = 12))]))) A5 = some (.lst (((([V.bl (decide (j = 0)), V.bl (decide (j = 1)), V.bl (decide (j = 2)), V.bl (decide (j = 3))] ++ [V.bl (decide (j = 4)), V.bl (decide (j = 5)), V.bl (decide (j = 6)), V.bl (decide (j = 7))]) ++ [V.bl (decide (j = 8)), V.bl (decide (j = 9))]) ++ [V.bl (decide (j = 10)), V.bl (decide (j = 11))]) ++ [V.bl (decide (j = 12))])) := upd_same
    generalize upd G5 A5 (.lst (((([V.bl (decide (j = 0)), V.bl (decide (j = 1)), V.bl (decide (j = 2)), V.bl (decide (j = 3))] ++ [V.bl (decide (j = 4)), V.bl (decide (j = 5)), V.bl (decide (j = 6)), V.bl (decide (j = 7))]) ++ [V.bl (decide (j = 8)), V.bl (decide (j = 9))]) ++ [V.bl (decide (j = 10)), V.bl (decide (j = 11))]) ++ [V.bl (decide (j = 12))])) = I5 at t5 h5 ⊢
    have u5 := s5.trans t5
    exact ⟨_, rfl, k _ _ u5 (gone s5 nA5) h5⟩
theorem ok_k {f : Addr} {fd : FuncData} (F : Fun K "_law_kinds" "_law_kinds" s__law_kinds f fd) (T : CT P K mg cls fns CM) (c__law_first_kinds : CalG P w K mg base 1 "_law_first_kinds" (spKinds cls 13)) : FnG P w K mg base (CXe P w) 2 f fd ["e"] (spKinds cls 25) := by
  refine F.okG sc__law_kinds (fun vs H Q E h => ?_) (fun cdv A outer s H vs Q E hgd hr h => ?_)
  · obtain ⟨e, d, j, rfl, _⟩ := h; rfl
  · obtain ⟨e, d, j, rfl, hj, he, k⟩ := h
    refine ⟨_, (pss_cons (ps_set (i := 1) sc__law_kinds.nd rfl (Or.inl rfl) (pe_lstA (pa_cons (pe_callB call_isEr (by rfl) T.n_isinstance (by decide +kernel) (pa_cons (pv 0) (pa_cons (pe_glob (v := .ref _) rfl T.g_BadDerivation rfl) pa_nil))) (pa_cons (pe_callB call_isEr (by rfl) T.n_isinstance (by decide +kernel) (pa_cons (pv 0) (pa_cons (pe_glob (v := .ref _) rfl T.g_BadName rfl) pa_nil))) (pa_cons (pe_callB call_isEr (by rfl) T.n_isinstance (by decide +kernel) (pa_cons (pv 0) (pa_cons (pe_glob (v := .ref _) rfl T.g_BadCount rfl) pa_nil))) (pa_cons (pe_callB call_isEr (by rfl) T.n_isinstance (by decide +kernel) (pa_cons (pv 0) (pa_cons (pe_glob (v := .ref _) rfl T.g_BadWish rfl) pa_nil))) pa_nil))))))
      (pss_cons (ps_set (i := 1) sc__law_kinds.nd rfl (Or.inl rfl) (pe_op op_cat (pv 1) (pe_lstA (pa_cons (pe_callB call_isEr (by rfl) T.n_isinstance (by decide +kernel) (pa_cons (pv 0) (pa_cons (pe_glob (v := .ref _) rfl T.g_BadPrices rfl) pa_nil))) (pa_cons (pe_callB call_isEr (by rfl) T.n_isinstance (by decide +kernel) (pa_cons (pv 0) (pa_cons (pe_glob (v := .ref _) rfl T.g_BadNumber rfl) pa_nil))) pa_nil)))))
      (pss_cons (ps_set (i := 1) sc__law_kinds.nd rfl (Or.inl rfl) (pe_op op_cat (pv 1) (pe_lstA (pa_cons (pe_callB call_isEr (by rfl) T.n_isinstance (by decide +kernel) (pa_cons (pv 0) (pa_cons (pe_glob (v := .ref _) rfl T.g_BadIndex rfl) pa_nil))) (pa_cons (pe_callB call_isEr (by rfl) T.n_isinstance (by decide +kernel) (pa_cons (pv 0) (pa_cons (pe_glob (v := .ref _) rfl T.g_BadText rfl) pa_nil))) pa_nil)))))
      (pss_cons (ps_set (i := 1) sc__law_kinds.nd rfl (Or.inl rfl) (pe_op op_cat (pv 1) (pe_lstA (pa_cons (pe_callB call_isEr (by rfl) T.n_isinstance (by decide +kernel) (pa_cons (pv 0) (pa_cons (pe_glob (v := .ref _) rfl T.g_BadPaper rfl) pa_nil))) (pa_cons (pe_callB call_isEr (by rfl) T.n_isinstance (by decide +kernel) (pa_cons (pv 0) (pa_cons (pe_glob (v := .ref _) rfl T.g_NoPaper rfl) pa_nil))) pa_nil)))))
      (pss_cons (ps_set (i := 1) sc__law_kinds.nd rfl (Or.inl rfl) (pe_op op_cat (pv 1) (pe_lstA (pa_cons (pe_callB call_isEr (by rfl) T.n_isinstance (by decide +kernel) (pa_cons (pv 0) (pa_cons (pe_glob (v := .ref _) rfl T.g_NothingDone rfl) pa_nil))) (pa_cons (pe_callB call_isEr (by rfl) T.n_isinstance (by decide +kernel) (pa_cons (pv 0) (pa_cons (pe_glob (v := .ref _) rfl T.g_TooMany rfl) pa_nil))) pa_nil)))))
      (pss_one (ps_ret (pe_op op_cat (pg_c c__law_first_kinds hgd hr (by first | decide | omega) (pa_cons (pv 0) pa_nil)) (pv 1))))))))), ?_⟩
    have s0 : Same H H := Same.refl _
    refine ⟨_, rfl, .ref _, _, decide (j = 13), cls j, e, d, rfl, .own _, T.ec j hj, (he.same s0).1, (he.same s0).2, T.kit j 13 hj (by decide), _, rfl, .ref _, _, decide (j = 14), cls j, e, d, rfl, .own _, T.ec j hj, (he.same s0).1, (he.same s0).2, T.kit j 14 hj (by decide), _, rfl, .ref _, _, decide (j = 15), cls j, e, d, rfl, .own _, T.ec j hj, (he.same s0).1, (he.same s0).2, T.kit j 15 hj (by decide), _, rfl, .ref _, _, decide (j = 16), cls j, e, d, rfl, .own _, T.ec j hj, (he.same s0).1, (he.same s0).2, T.kit j 16 hj (by decide), And.intro (Nat.le_of_ble_eq_true rfl) fun L1 G1 m1 => ?_⟩
    have s1 := s0.trans m1.same
    refine ⟨_, rfl, _, rfl, .ref _, _, decide (j = 17), cls j, e, d, rfl, .own _, T.ec j hj, (he.same s1).1, (he.same s1).2, T.kit j 17 hj (by decide), _, rfl, .ref _, _, decide (j = 18), cls j, e, d, rfl, .own _, T.ec j hj, (he.same s1).1, (he.same s1).2, T.kit j 18 hj (by decide), And.intro (Nat.le_of_ble_eq_true rfl) fun L2 G2 m2 => ?_⟩
    have s2 := s1.trans m2.same
    refine ⟨L1, L2, _, _, rfl, rfl, m2.same _ _ (m1.at_), m2.at_, Nat.le_of_lt (szS (Nat.le_of_ble_eq_true rfl)), fun A2 nA2 => ?_⟩
    have t2 : Same G2 (upd G2 A2 (.lst ([V.bl (decide (j = 13)), V.bl (decide (j = 14)), V.bl (decide (j = 15)), V.bl (decide (j = 16))] ++ [V.bl (decide (j = 17)), V.bl (decide (j = 18))]))) := same_new nA2
    have h2 : (upd G2 A2 (.lst ([V.bl (decide (j = 13)), V.bl (decide (j = 14)), V.bl (decide (j = 15)), V.bl (decide (j = 16))] ++ [V.bl (decide (j = 17)), V.bl (decide (j = 18))]))) A2 = some (.lst ([V.bl (decide (j = 13)), V.bl (decide (j = 14)), V.bl (decide (j = 15)), V.bl (decide (j = 16))] ++ [V.bl (decide (j = 17)), V.bl (decide (j = 18))])) := upd_same
    generalize upd G2 A2 (.lst ([V.bl (decide (j = 13)), V.bl (decide (j = 14)), V.bl (decide (j = 15)), V.bl (decide (j = 16))] ++ [V.bl (decide (j = 17)), V.bl (decide (j = 18))])) = I2 at t2 h2 ⊢
    have u2 := s2.trans t2
    refine ⟨_, rfl, _, rfl, .ref _, _, decide (j = 19), cls j, e, d, rfl, .own _, T.ec j hj, (he.same u2).1, (he.same u2).2, T.kit j 19 hj (by decide), _, rfl, .ref _, _, decide (j = 20), cls j, e, d, rfl, .own _, T.ec j hj, (he.same u2).1, (he.same u2).2, T.kit j 20 hj (by decide), And.intro (Nat.le_of_ble_eq_true rfl) fun L3 G3 m3 => ?_⟩
    have s3 := u2.trans m3.same
    refine ⟨A2, L3, _, _, rfl, rfl, m3.same _ _ (h2), m3.at_, Nat.le_of_lt (szS (Nat.le_of_ble_eq_true rfl)), fun A3 nA3 => ?_⟩
    have t3 : Same G3 (upd G3 A3 (.lst (([V.bl (decide (j = 13)), V.bl (decide (j = 14)), V.bl (decide (j = 15)), V.bl (decide (j = 16))] ++ [V.bl (decide (j = 17)), V.bl (decide (j = 18))]) ++ [V.bl (decide (j = 19)), V.bl (decide (j = 20))]))) := same_new nA3
    have h3 : (upd G3 A3 (.lst (([V.bl (decide (j = 13)), V.bl (decide (j = 14)), V.bl (decide (j = 15)), V.bl (decide (j = 16))] ++ [V.bl (decide (j = 17)), V.bl (decide (j = 18))]) ++ [V.bl (decide (j = 19)), V.bl (decide (j = 20))]))) A3 = some (.lst (([V.bl (decide (j = 13)), V.bl (decide (j = 14)), V.bl (decide (j = 15)), V.bl (decide (j = 16))] ++ [V.bl (decide (j = 17)), V.bl (decide (j = 18))]) ++ [V.bl (decide (j = 19)), V.bl (decide (j = 20))])) := upd_same
    generalize upd G3 A3 (.lst (([V.bl (decide (j = 13)), V.bl (decide (j = 14)), V.bl (decide (j = 15)), V.bl (decide (j = 16))] ++ [V.bl (decide (j = 17)), V.bl (decide (j = 18))]) ++ [V.bl (decide (j = 19)), V.bl (decide (j = 20))])) = I3 at t3 h3 ⊢
    have u3 := s3.trans t3
    refine ⟨_, rfl, _, rfl, .ref _, _, decide (j = 21), cls j, e, d, rfl, .own _, T.ec j hj, (he.same u3).1, (he.same u3).2, T.kit j 21 hj (by decide), _, rfl, .ref _, _, decide (j = 22), cls j, e, d, rfl, .own _, T.ec j hj, (he.same u3).1, (he.same u3).2, T.kit j 22 hj (by decide), And.intro (Nat.le_of_ble_eq_true rfl) fun L4 G4 m4 => ?_⟩
    have s4 := u3.trans m4.same
    refine ⟨A3, L4, _, _, rfl, rfl, m4.same _ _ (h3), m4.at_, Nat.le_of_lt (szS (Nat.le_of_ble_eq_true rfl)), fun A4 nA4 => ?_⟩
    have t4 : Same G4 (upd G4 A4 (.lst ((([V.bl (decide (j = 13)), V.bl (decide (j = 14)), V.bl (decide (j = 15)), V.bl (decide (j = 16))] ++ [V.bl (decide (j = 17)), V.bl (decide (j = 18))]) ++ [V.bl (decide (j = 19)), V.bl (decide (j = 20))]) ++ [V.bl (decide (j = 21)), V.bl (decide (j = 22))]))) := same_new nA4
    have h4 : (upd G4 A4 (.lst ((([V.bl (decide (j = 13)), V.bl (decide (j = 14)), V.bl (decide (j = 15)), V.bl (decide (j = 16))] ++ [V.bl (decide (j = 17)), V.bl (decide (j = 18))]) ++ [V.bl (decide (j = 19)), V.bl (decide (j = 20))]) ++ [V.bl (decide (j = 21)), V.bl (decide (j = 22))]))) A4 = some (.lst ((([V.bl (decide (j = 13)), V.bl (decide (j = 14)), V.bl (decide (j = 15)), V.bl (decide (j = 16))] ++ [V.bl (decide (j = 17)), V.bl (decide (j = 18))]) ++ [V.bl (decide (j = 19)), V.bl (decide (j = 20))]) ++ [V.bl (decide (j = 21)), V.bl (decide (j = 22))])) := upd_same
    generalize upd G4 A4 (.lst ((([V.bl (decide (j = 13)), V.bl (decide (j = 14)), V.bl (decide (j = 15)), V.bl (decide (j = 16))] ++ [V.bl (decide (j = 17)), V.bl (decide (j = 18))]) ++ [V.bl (decide (j = 19)), V.bl (decide (j = 20))]) ++ [V.bl (decide (j = 21)), V.bl (decide (j = 22))])) = I4 at t4 h4 ⊢
    have u4 := s4.trans t4
    refine ⟨_, rfl, _, rfl, .ref _, _, decide (j = 23), cls j, e, d, rfl, .own _, T.ec j hj, (he.same u4).1, (he.same u4).2, T.kit j 23 hj (by decide), _, rfl, .ref _, _, decide (j = 24), cls j, e, d, rfl, .own _, T.ec j hj, (he.same u4).1, (he.same u4).2, T.kit j 24 hj (by decide), And.intro (Nat.le_of_ble_eq_true rfl) fun L5 G5 m5 => ?_⟩
    have s5 := u4.trans m5.same
    refine ⟨A4, L5, _, _, rfl, rfl, m5.same _ _ (h4), m5.at_, Nat.le_of_lt (szS (Nat.le_of_ble_eq_true rfl)), fun A5 nA5 => ?_⟩
    have t5 : Same G5 (upd G5 A5 (.lst (((([V.bl (decide (j = 13)), V.bl (decide (j = 14)), V.bl (decide (j = 15)), V.bl (decide (j = 16))] ++ [V.bl (decide (j = 17)), V.bl (decide (j = 18))]) ++ [V.bl (decide (j = 19)), V.bl (decide (j = 20))]) ++ [V.bl (decide (j = 21)), V.bl (decide (j = 22))]) ++ [V.bl (decide (j = 23)), V.bl (decide (j = 24))]))) := same_new nA5
    have h5 : (upd G5 A5 (.lst (((([V.bl (decide (j = 13)), V.bl (decide (j = 14)), V.bl (decide (j = 15)), V.bl (decide (j = 16))] ++ [V.bl (decide (j = 17)), V.bl (decide (j = 18))]) ++ [V.bl (decide (j = 19)), V.bl (decide (j = 20))]) ++ [V.bl (decide (j = 21)), V.bl (decide (j = 22))]) ++ [V.bl (decide (j = 23)), V.bl (decide (j = 24))]))) A5 = some (.lst (((([V.bl (decide (j = 13)), V.bl (decide (j = 14)), V.bl (decide (j = 15)), V.bl (decide (j = 16))] ++ [V.bl (decide (j = 17)), V.bl (decide (j = 18))]) ++ [V.bl (decide (j = 19)), V.bl (decide (j = 20))]) ++ [V.bl (decide (j = 21)), V.bl (decide (j = 22))]) ++ [V.bl (decide (j = 23)), V.bl (decide (j = 24))])) := upd_same
    generalize upd G5 A5 (.lst (((([V.bl (decide (j = 13)), V.bl (decide (j = 14)), V.bl (decide (j = 15)), V.bl (decide (j = 16))] ++ [V.bl (decide (j = 17)), V.bl (decide (j = 18))]) ++ [V.bl (decide (j = 19)), V.bl (decide (j = 20))]) ++ [V.bl (decide (j = 21)), V.bl (decide (j = 22))]) ++ [V.bl (decide (j = 23)), V.bl (decide (j = 24))])) = I5 at t5 h5 ⊢
    have u5 := s5.trans t5
    refine ⟨_, rfl, e, d, j, rfl, hj, he.same u5, fun q Hq sq nq hq => ?_⟩
    refine ⟨_, rfl, q, A5, _, _, rfl, rfl, hq, sq _ _ h5, Nat.le_of_lt (szS (Nat.le_of_ble_eq_true rfl)), fun r nr => ?_⟩
    exact k r _ ((u5.trans sq).trans (same_new nr)) (gone (u5.trans sq) nr) upd_same
/-- an error with its field -/
def ErF (C : Addr) (fld : Str) (H : Hp) (e : Addr) (v : V) : Prop := ∃ d, H e = some (ErO C (some d) e) ∧ H d = some (.xd [(fld, v)])
theorem ErF.same {C : Addr} {fld : Str} {H H' : Hp} {e : Addr} {v : V} (s : Same H H') (h : ErF C fld H e v) : ErF C fld H' e v := h.imp fun d z => ⟨s _ _ z.1, s _ _ z.2⟩
theorem lk1 (f : Str) (v : V) : List.lookup f [(f, v)] = some v := by simp [List.lookup]
theorem err_same {C : Addr} {fld : Str} {v : V} {H : Hp} {d e : Addr} (hd : H d = none) (he : H e = none) : Same H (upd (upd H d (.xd [(fld, v)])) e (ErO C (some d) e)) := fun b o z => by rw [upd_ne (ne_of_none z he), upd_ne (ne_of_none z hd)]; exact z
theorem err_at {C : Addr} {fld : Str} {v : V} {H : Hp} {d e : Addr} (ne : d ≠ e) : ErF C fld (upd (upd H d (.xd [(fld, v)])) e (ErO C (some d) e)) e v := ⟨d, upd_same, (upd_ne ne).trans upd_same⟩
def spMade (cls : Nat → Addr) (m i0 : Nat) : Sp := fun vs H Q _ => ∃ (v : V), vs = [v] ∧ ∀ t L K' (es : List Addr) H', Same H H' → H' t = some (.tup [.ref L, .ref K']) → H' L = some (.lst (es.map V.ref)) → es.length = m → (∀ i e, es[i]? = some e → ∃ d, Er cls (i0 + i) H' e d) → H' K' = some (.lst (List.replicate m v)) → Q (.ref t) H'
theorem ok_first {f : Addr} {fd : FuncData} (F : Fun K "_law_first" "_law_first" s__law_first f fd) (T : CT P K mg cls fns CM) : FnG P w K mg base (CXe P w) 1 f fd ["thing"] (spMade cls 12 0) := by
  refine F.okG sc__law_first (fun vs H Q E h => ?_) (fun cdv A outer s H vs Q E hgd hr h => ?_)
  · obtain ⟨v, rfl, _⟩ := h; rfl
  · obtain ⟨v, rfl, k⟩ := h
    refine ⟨_, (pss_cons (ps_set (i := 1) sc__law_first.nd rfl (Or.inl rfl) (pe_err T.x_BadRules hr (pa_cons (pv 0) pa_nil)))
      (pss_cons (ps_set (i := 2) sc__law_first.nd rfl (Or.inl rfl) (pe_err T.x_BadBag hr (pa_cons (pv 0) pa_nil)))
      (C8.pss_cut (ps_set (i := 3) sc__law_first.nd rfl (Or.inl rfl) (pe_err T.x_BadRoom hr (pa_cons (pv 0) pa_nil)))
      (pss_cons (ps_set (i := 4) sc__law_first.nd rfl (Or.inl rfl) (pe_err T.x_BadCell hr (pa_cons (pv 0) pa_nil)))
      (pss_cons (ps_set (i := 5) sc__law_first.nd rfl (Or.inl rfl) (pe_err T.x_BadMouth hr (pa_cons (pv 0) pa_nil)))
      (C8.pss_cut (ps_set (i := 6) sc__law_first.nd rfl (Or.inl rfl) (pe_err T.x_BadLevel hr (pa_cons (pv 0) pa_nil)))
      (pss_cons (ps_set (i := 7) sc__law_first.nd rfl (Or.inl rfl) (pe_err T.x_BadPath hr (pa_cons (pv 0) pa_nil)))
      (pss_cons (ps_set (i := 8) sc__law_first.nd rfl (Or.inl rfl) (pe_err T.x_BadPlay hr (pa_cons (pv 0) pa_nil)))
      (C8.pss_cut (ps_set (i := 9) sc__law_first.nd rfl (Or.inl rfl) (pe_err T.x_BadOutcome hr (pa_cons (pv 0) pa_nil)))
      (pss_cons (ps_set (i := 10) sc__law_first.nd rfl (Or.inl rfl) (pe_err T.x_BadTable hr (pa_cons (pv 0) pa_nil)))
      (pss_cons (ps_set (i := 11) sc__law_first.nd rfl (Or.inl rfl) (pe_err T.x_BadFrail hr (pa_cons (pv 0) pa_nil)))
      (C8.pss_cut (ps_set (i := 12) sc__law_first.nd rfl (Or.inl rfl) (pe_err T.x_BadFull hr (pa_cons (pv 0) pa_nil)))
      (pss_cons (ps_set (i := 13) sc__law_first.nd rfl (Or.inl rfl) (pe_lstA (pa_cons (pv 1) (pa_cons (pv 2) (pa_cons (pv 3) (pa_cons (pv 4) (pa_cons (pv 5) (pa_cons (pv 6) pa_nil))))))))
      (pss_cons (ps_set (i := 13) sc__law_first.nd rfl (Or.inl rfl) (pe_op op_cat (pv 13) (pe_lstA (pa_cons (pv 7) (pa_cons (pv 8) (pa_cons (pv 9) (pa_cons (pv 10) (pa_cons (pv 11) (pa_cons (pv 12) pa_nil)))))))))
      (pss_cons (ps_set (i := 14) sc__law_first.nd rfl (Or.inl rfl) (pe_lstA (pa_cons (pe_erF T.x_BadRules.xf T.x_BadRules.noN (pv 1)) (pa_cons (pe_erF T.x_BadBag.xf T.x_BadBag.noN (pv 2)) (pa_cons (pe_erF T.x_BadRoom.xf T.x_BadRoom.noN (pv 3)) (pa_cons (pe_erF T.x_BadCell.xf T.x_BadCell.noN (pv 4)) (pa_cons (pe_erF T.x_BadMouth.xf T.x_BadMouth.noN (pv 5)) (pa_cons (pe_erF T.x_BadLevel.xf T.x_BadLevel.noN (pv 6)) pa_nil))))))))
      (pss_cons (ps_set (i := 14) sc__law_first.nd rfl (Or.inl rfl) (pe_op op_cat (pv 14) (pe_lstA (pa_cons (pe_erF T.x_BadPath.xf T.x_BadPath.noN (pv 7)) (pa_cons (pe_erF T.x_BadPlay.xf T.x_BadPlay.noN (pv 8)) (pa_cons (pe_erF T.x_BadOutcome.xf T.x_BadOutcome.noN (pv 9)) (pa_cons (pe_erF T.x_BadTable.xf T.x_BadTable.noN (pv 10)) (pa_cons (pe_erF T.x_BadFrail.xf T.x_BadFrail.noN (pv 11)) (pa_cons (pe_erF T.x_BadFull.xf T.x_BadFull.noN (pv 12)) pa_nil)))))))))
      (pss_one (ps_ret (pe_tupA (pa_cons (pv 13) (pa_cons (pv 14) pa_nil))))))))))))))))))))), ?_⟩
    refine ⟨_, rfl, _, rfl, fun d0 e0 nd0 ne0 de0 => ?_⟩
    have s0 : Same H (upd (upd H d0 (.xd [("value", v)])) e0 (ErO (cls 0) (some d0) e0)) := err_same nd0 ne0
    have h0 : ErF (cls 0) "value" (upd (upd H d0 (.xd [("value", v)])) e0 (ErO (cls 0) (some d0) e0)) e0 v := err_at de0
    generalize upd (upd H d0 (.xd [("value", v)])) e0 (ErO (cls 0) (some d0) e0) = H0 at s0 h0 ⊢
    refine ⟨_, rfl, _, rfl, fun d1 e1 nd1 ne1 de1 => ?_⟩
    have s1 : Same H0 (upd (upd H0 d1 (.xd [("value", v)])) e1 (ErO (cls 1) (some d1) e1)) := err_same nd1 ne1
    have h1 : ErF (cls 1) "value" (upd (upd H0 d1 (.xd [("value", v)])) e1 (ErO (cls 1) (some d1) e1)) e1 v := err_at de1
    generalize upd (upd H0 d1 (.xd [("value", v)])) e1 (ErO (cls 1) (some d1) e1) = H1 at s1 h1 ⊢
    refine ⟨fun σ' H' => ∃ e2, σ' = [some v, some (.ref e0), some (.ref e1), some (.ref e2), none, none, none, none, none, none, none, none, none, none, none] ∧ Same H1 H' ∧ ErF (cls 2) "value" H' e2 v, ?_, ?_⟩
    · exact ⟨_, rfl, _, rfl, fun d2 e2 nd2 ne2 de2 => ⟨e2, rfl, err_same nd2 ne2, err_at de2⟩⟩
    rintro σ2 H2 ⟨e2, rfl, s2, h2⟩
    refine ⟨_, rfl, _, rfl, fun d3 e3 nd3 ne3 de3 => ?_⟩
    have s3 : Same H2 (upd (upd H2 d3 (.xd [("index", v)])) e3 (ErO (cls 3) (some d3) e3)) := err_same nd3 ne3
    have h3 : ErF (cls 3) "index" (upd (upd H2 d3 (.xd [("index", v)])) e3 (ErO (cls 3) (some d3) e3)) e3 v := err_at de3
    generalize upd (upd H2 d3 (.xd [("index", v)])) e3 (ErO (cls 3) (some d3) e3) = H3 at s3 h3 ⊢
    refine ⟨_, rfl, _, rfl, fun d4 e4 nd4 ne4 de4 => ?_⟩
    have s4 : Same H3 (upd (upd H3 d4 (.xd [("number", v)])) e4 (ErO (cls 4) (some d4) e4)) := err_same nd4 ne4
    have h4 : ErF (cls 4) "number" (upd (upd H3 d4 (.xd [("number", v)])) e4 (ErO (cls 4) (some d4) e4)) e4 v := err_at de4
    generalize upd (upd H3 d4 (.xd [("number", v)])) e4 (ErO (cls 4) (some d4) e4) = H4 at s4 h4 ⊢
    refine ⟨fun σ' H' => ∃ e5, σ' = [some v, some (.ref e0), some (.ref e1), some (.ref e2), some (.ref e3), some (.ref e4), some (.ref e5), none, none, none, none, none, none, none, none] ∧ Same H4 H' ∧ ErF (cls 5) "value" H' e5 v, ?_, ?_⟩
    · exact ⟨_, rfl, _, rfl, fun d5 e5 nd5 ne5 de5 => ⟨e5, rfl, err_same nd5 ne5, err_at de5⟩⟩
    rintro σ5 H5 ⟨e5, rfl, s5, h5⟩
    refine ⟨_, rfl, _, rfl, fun d6 e6 nd6 ne6 de6 => ?_⟩
    have s6 : Same H5 (upd (upd H5 d6 (.xd [("path", v)])) e6 (ErO (cls 6) (some d6) e6)) := err_same nd6 ne6
    have h6 : ErF (cls 6) "path" (upd (upd H5 d6 (.xd [("path", v)])) e6 (ErO (cls 6) (some d6) e6)) e6 v := err_at de6
    generalize upd (upd H5 d6 (.xd [("path", v)])) e6 (ErO (cls 6) (some d6) e6) = H6 at s6 h6 ⊢
    refine ⟨_, rfl, _, rfl, fun d7 e7 nd7 ne7 de7 => ?_⟩
    have s7 : Same H6 (upd (upd H6 d7 (.xd [("at", v)])) e7 (ErO (cls 7) (some d7) e7)) := err_same nd7 ne7
    have h7 : ErF (cls 7) "at" (upd (upd H6 d7 (.xd [("at", v)])) e7 (ErO (cls 7) (some d7) e7)) e7 v := err_at de7
    generalize upd (upd H6 d7 (.xd [("at", v)])) e7 (ErO (cls 7) (some d7) e7) = H7 at s7 h7 ⊢
    refine ⟨fun σ' H' => ∃ e8, σ' = [some v, some (.ref e0), some (.ref e1), some (.ref e2), some (.ref e3), some (.ref e4), some (.ref e5), some (.ref e6), some (.ref e7), some (.ref e8), none, none, none, none, none] ∧ Same H7 H' ∧ ErF (cls 8) "value" H' e8 v, ?_, ?_⟩
    · exact ⟨_, rfl, _, rfl, fun d8 e8 nd8 ne8 de8 => ⟨e8, rfl, err_same nd8 ne8, err_at de8⟩⟩
    rintro σ8 H8 ⟨e8, rfl, s8, h8⟩
    refine ⟨_, rfl, _, rfl, fun d9 e9 nd9 ne9 de9 => ?_⟩
    have s9 : Same H8 (upd (upd H8 d9 (.xd [("value", v)])) e9 (ErO (cls 9) (some d9) e9)) := err_same nd9 ne9
    have h9 : ErF (cls 9) "value" (upd (upd H8 d9 (.xd [("value", v)])) e9 (ErO (cls 9) (some d9) e9)) e9 v := err_at de9
    generalize upd (upd H8 d9 (.xd [("value", v)])) e9 (ErO (cls 9) (some d9) e9) = H9 at s9 h9 ⊢
    refine ⟨_, rfl, _, rfl, fun d10 e10 nd10 ne10 de10 => ?_⟩
    have s10 : Same H9 (upd (upd H9 d10 (.xd [("value", v)])) e10 (ErO (cls 10) (some d10) e10)) := err_same nd10 ne10
    have h10 : ErF (cls 10) "value" (upd (upd H9 d10 (.xd [("value", v)])) e10 (ErO (cls 10) (some d10) e10)) e10 v := err_at de10
    generalize upd (upd H9 d10 (.xd [("value", v)])) e10 (ErO (cls 10) (some d10) e10) = H10 at s10 h10 ⊢
    refine ⟨fun σ' H' => ∃ e11, σ' = [some v, some (.ref e0), some (.ref e1), some (.ref e2), some (.ref e3), some (.ref e4), some (.ref e5), some (.ref e6), some (.ref e7), some (.ref e8), some (.ref e9), some (.ref e10), some (.ref e11), none, none] ∧ Same H10 H' ∧ ErF (cls 11) "value" H' e11 v, ?_, ?_⟩
    · exact ⟨_, rfl, _, rfl, fun d11 e11 nd11 ne11 de11 => ⟨e11, rfl, err_same nd11 ne11, err_at de11⟩⟩
    rintro σ11 H11 ⟨e11, rfl, s11, h11⟩
    have z11 : Same H11 H11 := Same.refl _
    have z10 : Same H10 H11 := s11.trans z11
    have z9 : Same H9 H11 := s10.trans z10
    have z8 : Same H8 H11 := s9.trans z9
    have z7 : Same H7 H11 := s8.trans z8
    have z6 : Same H6 H11 := s7.trans z7
    have z5 : Same H5 H11 := s6.trans z6
    have z4 : Same H4 H11 := s5.trans z5
    have z3 : Same H3 H11 := s4.trans z4
    have z2 : Same H2 H11 := s3.trans z3
    have z1 : Same H1 H11 := s2.trans z2
    have z0 : Same H0 H11 := s1.trans z1
    obtain ⟨d0, a0, b0⟩ := h0.same z0
    obtain ⟨d1, a1, b1⟩ := h1.same z1
    obtain ⟨d2, a2, b2⟩ := h2.same z2
    obtain ⟨d3, a3, b3⟩ := h3.same z3
    obtain ⟨d4, a4, b4⟩ := h4.same z4
    obtain ⟨d5, a5, b5⟩ := h5.same z5
    obtain ⟨d6, a6, b6⟩ := h6.same z6
    obtain ⟨d7, a7, b7⟩ := h7.same z7
    obtain ⟨d8, a8, b8⟩ := h8.same z8
    obtain ⟨d9, a9, b9⟩ := h9.same z9
    obtain ⟨d10, a10, b10⟩ := h10.same z10
    obtain ⟨d11, a11, b11⟩ := h11.same z11
    have c0 := Same.refl H11
    refine ⟨_, rfl, _, rfl, _, rfl, _, rfl, _, rfl, _, rfl, And.intro (Nat.le_of_ble_eq_true rfl) fun L1 G1 m1 => ?_⟩
    have c1 := m1.same
    refine ⟨_, rfl, _, rfl, _, rfl, _, rfl, _, rfl, _, rfl, _, rfl, And.intro (Nat.le_of_ble_eq_true rfl) fun L2 G2 m2 => ?_⟩
    refine ⟨L1, L2, _, _, rfl, rfl, m2.same _ _ (m1.at_), m2.at_, Nat.le_of_lt (szS (Nat.le_of_ble_eq_true rfl)), fun A2 nA2 => ?_⟩
    have t2 : Same G2 (upd G2 A2 (.lst (([.ref e0, .ref e1, .ref e2, .ref e3, .ref e4, .ref e5] : List V) ++ ([.ref e6, .ref e7, .ref e8, .ref e9, .ref e10, .ref e11] : List V)))) := same_new nA2
    have g2 : (upd G2 A2 (.lst (([.ref e0, .ref e1, .ref e2, .ref e3, .ref e4, .ref e5] : List V) ++ ([.ref e6, .ref e7, .ref e8, .ref e9, .ref e10, .ref e11] : List V)))) A2 = some (.lst (([.ref e0, .ref e1, .ref e2, .ref e3, .ref e4, .ref e5] : List V) ++ ([.ref e6, .ref e7, .ref e8, .ref e9, .ref e10, .ref e11] : List V))) := upd_same
    generalize upd G2 A2 (.lst (([.ref e0, .ref e1, .ref e2, .ref e3, .ref e4, .ref e5] : List V) ++ ([.ref e6, .ref e7, .ref e8, .ref e9, .ref e10, .ref e11] : List V))) = I2 at t2 g2 ⊢
    have c2 := (Same.trans m1.same (Same.trans m2.same t2))
    refine ⟨_, rfl, e0, d0, _, v, rfl, c2 _ _ a0, c2 _ _ b0, lk1 _ _, ?_⟩
    refine ⟨_, rfl, e1, d1, _, v, rfl, c2 _ _ a1, c2 _ _ b1, lk1 _ _, ?_⟩
    refine ⟨_, rfl, e2, d2, _, v, rfl, c2 _ _ a2, c2 _ _ b2, lk1 _ _, ?_⟩
    refine ⟨_, rfl, e3, d3, _, v, rfl, c2 _ _ a3, c2 _ _ b3, lk1 _ _, ?_⟩
    refine ⟨_, rfl, e4, d4, _, v, rfl, c2 _ _ a4, c2 _ _ b4, lk1 _ _, ?_⟩
    refine ⟨_, rfl, e5, d5, _, v, rfl, c2 _ _ a5, c2 _ _ b5, lk1 _ _, ?_⟩
    refine (And.intro (Nat.le_of_ble_eq_true rfl) fun L3 G3 m3 => ?_)
    have c3 := (Same.trans m1.same (Same.trans m2.same (Same.trans t2 m3.same)))
    refine ⟨_, rfl, _, rfl, e6, d6, _, v, rfl, c3 _ _ a6, c3 _ _ b6, lk1 _ _, ?_⟩
    refine ⟨_, rfl, e7, d7, _, v, rfl, c3 _ _ a7, c3 _ _ b7, lk1 _ _, ?_⟩
    refine ⟨_, rfl, e8, d8, _, v, rfl, c3 _ _ a8, c3 _ _ b8, lk1 _ _, ?_⟩
    refine ⟨_, rfl, e9, d9, _, v, rfl, c3 _ _ a9, c3 _ _ b9, lk1 _ _, ?_⟩
    refine ⟨_, rfl, e10, d10, _, v, rfl, c3 _ _ a10, c3 _ _ b10, lk1 _ _, ?_⟩
    refine ⟨_, rfl, e11, d11, _, v, rfl, c3 _ _ a11, c3 _ _ b11, lk1 _ _, ?_⟩
    refine (And.intro (Nat.le_of_ble_eq_true rfl) fun L4 G4 m4 => ?_)
    refine ⟨L3, L4, _, _, rfl, rfl, m4.same _ _ (m3.at_), m4.at_, Nat.le_of_lt (szS (Nat.le_of_ble_eq_true rfl)), fun A4 nA4 => ?_⟩
    have t4 : Same G4 (upd G4 A4 (.lst (([v, v, v, v, v, v] : List V) ++ ([v, v, v, v, v, v] : List V)))) := same_new nA4
    have g4 : (upd G4 A4 (.lst (([v, v, v, v, v, v] : List V) ++ ([v, v, v, v, v, v] : List V)))) A4 = some (.lst (([v, v, v, v, v, v] : List V) ++ ([v, v, v, v, v, v] : List V))) := upd_same
    generalize upd G4 A4 (.lst (([v, v, v, v, v, v] : List V) ++ ([v, v, v, v, v, v] : List V))) = I4 at t4 g4 ⊢
    refine ⟨_, rfl, _, rfl, And.intro (Nat.le_of_ble_eq_true rfl) fun T Gf mf => ?_⟩
    have cf := (Same.trans m1.same (Same.trans m2.same (Same.trans t2 (Same.trans m3.same (Same.trans m4.same (Same.trans t4 mf.same))))))
    refine k T A2 A4 [e0, e1, e2, e3, e4, e5, e6, e7, e8, e9, e10, e11] Gf ((s0.trans z0).trans cf) mf.at_ ((Same.trans m3.same (Same.trans m4.same (Same.trans t4 mf.same))) _ _ g2) rfl (fun i e h => ?_) (mf.same _ _ g4)
    rcases i with _ | _ | _ | _ | _ | _ | _ | _ | _ | _ | _ | _ | i
    · cases h; exact ⟨some d0, cf _ _ a0, fun dd z => by cases z; exact ⟨_, cf _ _ b0⟩⟩
    · cases h; exact ⟨some d1, cf _ _ a1, fun dd z => by cases z; exact ⟨_, cf _ _ b1⟩⟩
    · cases h; exact ⟨some d2, cf _ _ a2, fun dd z => by cases z; exact ⟨_, cf _ _ b2⟩⟩
    · cases h; exact ⟨some d3, cf _ _ a3, fun dd z => by cases z; exact ⟨_, cf _ _ b3⟩⟩
    · cases h; exact ⟨some d4, cf _ _ a4, fun dd z => by cases z; exact ⟨_, cf _ _ b4⟩⟩
    · cases h; exact ⟨some d5, cf _ _ a5, fun dd z => by cases z; exact ⟨_, cf _ _ b5⟩⟩
    · cases h; exact ⟨some d6, cf _ _ a6, fun dd z => by cases z; exact ⟨_, cf _ _ b6⟩⟩
    · cases h; exact ⟨some d7, cf _ _ a7, fun dd z => by cases z; exact ⟨_, cf _ _ b7⟩⟩
    · cases h; exact ⟨some d8, cf _ _ a8, fun dd z => by cases z; exact ⟨_, cf _ _ b8⟩⟩
    · cases h; exact ⟨some d9, cf _ _ a9, fun dd z => by cases z; exact ⟨_, cf _ _ b9⟩⟩
    · cases h; exact ⟨some d10, cf _ _ a10, fun dd z => by cases z; exact ⟨_, cf _ _ b10⟩⟩
    · cases h; exact ⟨some d11, cf _ _ a11, fun dd z => by cases z; exact ⟨_, cf _ _ b11⟩⟩
    · simp at h
theorem ok_second {f : Addr} {fd : FuncData} (F : Fun K "_law_second" "_law_second" s__law_second f fd) (T : CT P K mg cls fns CM) : FnG P w K mg base (CXe P w) 1 f fd ["thing"] (spMade cls 9 12) := by
  refine F.okG sc__law_second (fun vs H Q E h => ?_) (fun cdv A outer s H vs Q E hgd hr h => ?_)
  · obtain ⟨v, rfl, _⟩ := h; rfl
  · obtain ⟨v, rfl, k⟩ := h
    refine ⟨_, (pss_cons (ps_set (i := 1) sc__law_second.nd rfl (Or.inl rfl) (pe_err T.x_BadGrammar hr (pa_cons (pv 0) pa_nil)))
      (pss_cons (ps_set (i := 2) sc__law_second.nd rfl (Or.inl rfl) (pe_err T.x_BadDerivation hr (pa_cons (pv 0) pa_nil)))
      (C8.pss_cut (ps_set (i := 3) sc__law_second.nd rfl (Or.inl rfl) (pe_err T.x_BadName hr (pa_cons (pv 0) pa_nil)))
      (pss_cons (ps_set (i := 4) sc__law_second.nd rfl (Or.inl rfl) (pe_err T.x_BadCount hr (pa_cons (pv 0) pa_nil)))
      (pss_cons (ps_set (i := 5) sc__law_second.nd rfl (Or.inl rfl) (pe_err T.x_BadWish hr (pa_cons (pv 0) pa_nil)))
      (C8.pss_cut (ps_set (i := 6) sc__law_second.nd rfl (Or.inl rfl) (pe_err T.x_BadPrices hr (pa_cons (pv 0) pa_nil)))
      (pss_cons (ps_set (i := 7) sc__law_second.nd rfl (Or.inl rfl) (pe_err T.x_BadNumber hr (pa_cons (pv 0) pa_nil)))
      (pss_cons (ps_set (i := 8) sc__law_second.nd rfl (Or.inl rfl) (pe_err T.x_BadIndex hr (pa_cons (pv 0) pa_nil)))
      (C8.pss_cut (ps_set (i := 9) sc__law_second.nd rfl (Or.inl rfl) (pe_err T.x_BadText hr (pa_cons (pv 0) pa_nil)))
      (pss_cons (ps_set (i := 10) sc__law_second.nd rfl (Or.inl rfl) (pe_lstA (pa_cons (pv 1) (pa_cons (pv 2) (pa_cons (pv 3) (pa_cons (pv 4) (pa_cons (pv 5) pa_nil)))))))
      (pss_cons (ps_set (i := 10) sc__law_second.nd rfl (Or.inl rfl) (pe_op op_cat (pv 10) (pe_lstA (pa_cons (pv 6) (pa_cons (pv 7) (pa_cons (pv 8) (pa_cons (pv 9) pa_nil)))))))
      (pss_cons (ps_set (i := 11) sc__law_second.nd rfl (Or.inl rfl) (pe_lstA (pa_cons (pe_erF T.x_BadGrammar.xf T.x_BadGrammar.noN (pv 1)) (pa_cons (pe_erF T.x_BadDerivation.xf T.x_BadDerivation.noN (pv 2)) (pa_cons (pe_erF T.x_BadName.xf T.x_BadName.noN (pv 3)) (pa_cons (pe_erF T.x_BadCount.xf T.x_BadCount.noN (pv 4)) (pa_cons (pe_erF T.x_BadWish.xf T.x_BadWish.noN (pv 5)) pa_nil)))))))
      (pss_cons (ps_set (i := 11) sc__law_second.nd rfl (Or.inl rfl) (pe_op op_cat (pv 11) (pe_lstA (pa_cons (pe_erF T.x_BadPrices.xf T.x_BadPrices.noN (pv 6)) (pa_cons (pe_erF T.x_BadNumber.xf T.x_BadNumber.noN (pv 7)) (pa_cons (pe_erF T.x_BadIndex.xf T.x_BadIndex.noN (pv 8)) (pa_cons (pe_erF T.x_BadText.xf T.x_BadText.noN (pv 9)) pa_nil)))))))
      (pss_one (ps_ret (pe_tupA (pa_cons (pv 10) (pa_cons (pv 11) pa_nil)))))))))))))))))), ?_⟩
    refine ⟨_, rfl, _, rfl, fun d0 e0 nd0 ne0 de0 => ?_⟩
    have s0 : Same H (upd (upd H d0 (.xd [("value", v)])) e0 (ErO (cls 12) (some d0) e0)) := err_same nd0 ne0
    have h0 : ErF (cls 12) "value" (upd (upd H d0 (.xd [("value", v)])) e0 (ErO (cls 12) (some d0) e0)) e0 v := err_at de0
    generalize upd (upd H d0 (.xd [("value", v)])) e0 (ErO (cls 12) (some d0) e0) = H0 at s0 h0 ⊢
    refine ⟨_, rfl, _, rfl, fun d1 e1 nd1 ne1 de1 => ?_⟩
    have s1 : Same H0 (upd (upd H0 d1 (.xd [("value", v)])) e1 (ErO (cls 13) (some d1) e1)) := err_same nd1 ne1
    have h1 : ErF (cls 13) "value" (upd (upd H0 d1 (.xd [("value", v)])) e1 (ErO (cls 13) (some d1) e1)) e1 v := err_at de1
    generalize upd (upd H0 d1 (.xd [("value", v)])) e1 (ErO (cls 13) (some d1) e1) = H1 at s1 h1 ⊢
    refine ⟨fun σ' H' => ∃ e2, σ' = [some v, some (.ref e0), some (.ref e1), some (.ref e2), none, none, none, none, none, none, none, none] ∧ Same H1 H' ∧ ErF (cls 14) "value" H' e2 v, ?_, ?_⟩
    · exact ⟨_, rfl, _, rfl, fun d2 e2 nd2 ne2 de2 => ⟨e2, rfl, err_same nd2 ne2, err_at de2⟩⟩
    rintro σ2 H2 ⟨e2, rfl, s2, h2⟩
    refine ⟨_, rfl, _, rfl, fun d3 e3 nd3 ne3 de3 => ?_⟩
    have s3 : Same H2 (upd (upd H2 d3 (.xd [("value", v)])) e3 (ErO (cls 15) (some d3) e3)) := err_same nd3 ne3
    have h3 : ErF (cls 15) "value" (upd (upd H2 d3 (.xd [("value", v)])) e3 (ErO (cls 15) (some d3) e3)) e3 v := err_at de3
    generalize upd (upd H2 d3 (.xd [("value", v)])) e3 (ErO (cls 15) (some d3) e3) = H3 at s3 h3 ⊢
    refine ⟨_, rfl, _, rfl, fun d4 e4 nd4 ne4 de4 => ?_⟩
    have s4 : Same H3 (upd (upd H3 d4 (.xd [("value", v)])) e4 (ErO (cls 16) (some d4) e4)) := err_same nd4 ne4
    have h4 : ErF (cls 16) "value" (upd (upd H3 d4 (.xd [("value", v)])) e4 (ErO (cls 16) (some d4) e4)) e4 v := err_at de4
    generalize upd (upd H3 d4 (.xd [("value", v)])) e4 (ErO (cls 16) (some d4) e4) = H4 at s4 h4 ⊢
    refine ⟨fun σ' H' => ∃ e5, σ' = [some v, some (.ref e0), some (.ref e1), some (.ref e2), some (.ref e3), some (.ref e4), some (.ref e5), none, none, none, none, none] ∧ Same H4 H' ∧ ErF (cls 17) "at" H' e5 v, ?_, ?_⟩
    · exact ⟨_, rfl, _, rfl, fun d5 e5 nd5 ne5 de5 => ⟨e5, rfl, err_same nd5 ne5, err_at de5⟩⟩
    rintro σ5 H5 ⟨e5, rfl, s5, h5⟩
    refine ⟨_, rfl, _, rfl, fun d6 e6 nd6 ne6 de6 => ?_⟩
    have s6 : Same H5 (upd (upd H5 d6 (.xd [("value", v)])) e6 (ErO (cls 18) (some d6) e6)) := err_same nd6 ne6
    have h6 : ErF (cls 18) "value" (upd (upd H5 d6 (.xd [("value", v)])) e6 (ErO (cls 18) (some d6) e6)) e6 v := err_at de6
    generalize upd (upd H5 d6 (.xd [("value", v)])) e6 (ErO (cls 18) (some d6) e6) = H6 at s6 h6 ⊢
    refine ⟨_, rfl, _, rfl, fun d7 e7 nd7 ne7 de7 => ?_⟩
    have s7 : Same H6 (upd (upd H6 d7 (.xd [("at", v)])) e7 (ErO (cls 19) (some d7) e7)) := err_same nd7 ne7
    have h7 : ErF (cls 19) "at" (upd (upd H6 d7 (.xd [("at", v)])) e7 (ErO (cls 19) (some d7) e7)) e7 v := err_at de7
    generalize upd (upd H6 d7 (.xd [("at", v)])) e7 (ErO (cls 19) (some d7) e7) = H7 at s7 h7 ⊢
    refine ⟨fun σ' H' => ∃ e8, σ' = [some v, some (.ref e0), some (.ref e1), some (.ref e2), some (.ref e3), some (.ref e4), some (.ref e5), some (.ref e6), some (.ref e7), some (.ref e8), none, none] ∧ Same H7 H' ∧ ErF (cls 20) "at" H' e8 v, ?_, ?_⟩
    · exact ⟨_, rfl, _, rfl, fun d8 e8 nd8 ne8 de8 => ⟨e8, rfl, err_same nd8 ne8, err_at de8⟩⟩
    rintro σ8 H8 ⟨e8, rfl, s8, h8⟩
    have z8 : Same H8 H8 := Same.refl _
    have z7 : Same H7 H8 := s8.trans z8
    have z6 : Same H6 H8 := s7.trans z7
    have z5 : Same H5 H8 := s6.trans z6
    have z4 : Same H4 H8 := s5.trans z5
    have z3 : Same H3 H8 := s4.trans z4
    have z2 : Same H2 H8 := s3.trans z3
    have z1 : Same H1 H8 := s2.trans z2
    have z0 : Same H0 H8 := s1.trans z1
    obtain ⟨d0, a0, b0⟩ := h0.same z0
    obtain ⟨d1, a1, b1⟩ := h1.same z1
    obtain ⟨d2, a2, b2⟩ := h2.same z2
    obtain ⟨d3, a3, b3⟩ := h3.same z3
    obtain ⟨d4, a4, b4⟩ := h4.same z4
    obtain ⟨d5, a5, b5⟩ := h5.same z5
    obtain ⟨d6, a6, b6⟩ := h6.same z6
    obtain ⟨d7, a7, b7⟩ := h7.same z7
    obtain ⟨d8, a8, b8⟩ := h8.same z8
    have c0 := Same.refl H8
    refine ⟨_, rfl, _, rfl, _, rfl, _, rfl, _, rfl, And.intro (Nat.le_of_ble_eq_true rfl) fun L1 G1 m1 => ?_⟩
    have c1 := m1.same
    refine ⟨_, rfl, _, rfl, _, rfl, _, rfl, _, rfl, And.intro (Nat.le_of_ble_eq_true rfl) fun L2 G2 m2 => ?_⟩
    refine ⟨L1, L2, _, _, rfl, rfl, m2.same _ _ (m1.at_), m2.at_, Nat.le_of_lt (szS (Nat.le_of_ble_eq_true rfl)), fun A2 nA2 => ?_⟩
    have t2 : Same G2 (upd G2 A2 (.lst (([.ref e0, .ref e1, .ref e2, .ref e3, .ref e4] : List V) ++ ([.ref e5, .ref e6, .ref e7, .ref e8] : List V)))) := same_new nA2
    have g2 : (upd G2 A2 (.lst (([.ref e0, .ref e1, .ref e2, .ref e3, .ref e4] : List V) ++ ([.ref e5, .ref e6, .ref e7, .ref e8] : List V)))) A2 = some (.lst (([.ref e0, .ref e1, .ref e2, .ref e3, .ref e4] : List V) ++ ([.ref e5, .ref e6, .ref e7, .ref e8] : List V))) := upd_same
    generalize upd G2 A2 (.lst (([.ref e0, .ref e1, .ref e2, .ref e3, .ref e4] : List V) ++ ([.ref e5, .ref e6, .ref e7, .ref e8] : List V))) = I2 at t2 g2 ⊢
    have c2 := (Same.trans m1.same (Same.trans m2.same t2))
    refine ⟨_, rfl, e0, d0, _, v, rfl, c2 _ _ a0, c2 _ _ b0, lk1 _ _, ?_⟩
    refine ⟨_, rfl, e1, d1, _, v, rfl, c2 _ _ a1, c2 _ _ b1, lk1 _ _, ?_⟩
    refine ⟨_, rfl, e2, d2, _, v, rfl, c2 _ _ a2, c2 _ _ b2, lk1 _ _, ?_⟩
    refine ⟨_, rfl, e3, d3, _, v, rfl, c2 _ _ a3, c2 _ _ b3, lk1 _ _, ?_⟩
    refine ⟨_, rfl, e4, d4, _, v, rfl, c2 _ _ a4, c2 _ _ b4, lk1 _ _, ?_⟩
    refine (And.intro (Nat.le_of_ble_eq_true rfl) fun L3 G3 m3 => ?_)
    have c3 := (Same.trans m1.same (Same.trans m2.same (Same.trans t2 m3.same)))
    refine ⟨_, rfl, _, rfl, e5, d5, _, v, rfl, c3 _ _ a5, c3 _ _ b5, lk1 _ _, ?_⟩
    refine ⟨_, rfl, e6, d6, _, v, rfl, c3 _ _ a6, c3 _ _ b6, lk1 _ _, ?_⟩
    refine ⟨_, rfl, e7, d7, _, v, rfl, c3 _ _ a7, c3 _ _ b7, lk1 _ _, ?_⟩
    refine ⟨_, rfl, e8, d8, _, v, rfl, c3 _ _ a8, c3 _ _ b8, lk1 _ _, ?_⟩
    refine (And.intro (Nat.le_of_ble_eq_true rfl) fun L4 G4 m4 => ?_)
    refine ⟨L3, L4, _, _, rfl, rfl, m4.same _ _ (m3.at_), m4.at_, Nat.le_of_lt (szS (Nat.le_of_ble_eq_true rfl)), fun A4 nA4 => ?_⟩
    have t4 : Same G4 (upd G4 A4 (.lst (([v, v, v, v, v] : List V) ++ ([v, v, v, v] : List V)))) := same_new nA4
    have g4 : (upd G4 A4 (.lst (([v, v, v, v, v] : List V) ++ ([v, v, v, v] : List V)))) A4 = some (.lst (([v, v, v, v, v] : List V) ++ ([v, v, v, v] : List V))) := upd_same
    generalize upd G4 A4 (.lst (([v, v, v, v, v] : List V) ++ ([v, v, v, v] : List V))) = I4 at t4 g4 ⊢
    refine ⟨_, rfl, _, rfl, And.intro (Nat.le_of_ble_eq_true rfl) fun T Gf mf => ?_⟩
    have cf := (Same.trans m1.same (Same.trans m2.same (Same.trans t2 (Same.trans m3.same (Same.trans m4.same (Same.trans t4 mf.same))))))
    refine k T A2 A4 [e0, e1, e2, e3, e4, e5, e6, e7, e8] Gf ((s0.trans z0).trans cf) mf.at_ ((Same.trans m3.same (Same.trans m4.same (Same.trans t4 mf.same))) _ _ g2) rfl (fun i e h => ?_) (mf.same _ _ g4)
    rcases i with _ | _ | _ | _ | _ | _ | _ | _ | _ | i
    · cases h; exact ⟨some d0, cf _ _ a0, fun dd z => by cases z; exact ⟨_, cf _ _ b0⟩⟩
    · cases h; exact ⟨some d1, cf _ _ a1, fun dd z => by cases z; exact ⟨_, cf _ _ b1⟩⟩
    · cases h; exact ⟨some d2, cf _ _ a2, fun dd z => by cases z; exact ⟨_, cf _ _ b2⟩⟩
    · cases h; exact ⟨some d3, cf _ _ a3, fun dd z => by cases z; exact ⟨_, cf _ _ b3⟩⟩
    · cases h; exact ⟨some d4, cf _ _ a4, fun dd z => by cases z; exact ⟨_, cf _ _ b4⟩⟩
    · cases h; exact ⟨some d5, cf _ _ a5, fun dd z => by cases z; exact ⟨_, cf _ _ b5⟩⟩
    · cases h; exact ⟨some d6, cf _ _ a6, fun dd z => by cases z; exact ⟨_, cf _ _ b6⟩⟩
    · cases h; exact ⟨some d7, cf _ _ a7, fun dd z => by cases z; exact ⟨_, cf _ _ b7⟩⟩
    · cases h; exact ⟨some d8, cf _ _ a8, fun dd z => by cases z; exact ⟨_, cf _ _ b8⟩⟩
    · simp at h
end
end K01
end
section
set_option Elab.async false
set_option linter.all false
set_option maxRecDepth 100000
set_option maxHeartbeats 2000000
namespace K01
open PySem L2
local macro_rules | `(tactic| walk_at "hp") => `(tactic| first | assumption | exact upd_same | (refine (upd_ne (by first | assumption | (apply Ne.symm; assumption))).trans ?_; walk_at "hp"))
local macro_rules | `(tactic| walk_at "rd1") => `(tactic| first
  | (refine ⟨_, rfl, ?_⟩)
  | (refine ⟨_, _, rfl, rfl, ?_⟩)
  | (refine ⟨(rfl : scal _ _ = true), ?_⟩)
  | (refine And.intro (by show (0 : Int) < _; decide) ?_)
  | (refine And.intro (And.intro (by decide) (by decide)) ?_)
  | (refine And.intro (Or.inr (And.intro (by decide) (by decide))) ?_)
  | (refine And.intro (And.intro (by decide) (And.intro (by decide) (by decide))) ?_)
  | (refine And.intro (by assumption) ?_)
  | (refine And.intro (And.intro (by omega) (by omega)) ?_)
  | (refine And.intro (Or.inl (And.intro (by omega) (by omega))) ?_)
  | (refine' ⟨_, _, _, _, rfl, rfl, Or.inl (Or.inl ?h1), ?h2, ?h3⟩; (case h1 => walk_at "hp"); (case h2 => rfl))
  | (refine' ⟨_, _, _, _, rfl, rfl, ?h1, ?h2, ?h3⟩; (case h1 => walk_at "hp"); (case h2 => rfl))
  | (refine' ⟨_, _, rfl, Or.inl (Or.inl (Or.inl ?h1)), ?h3⟩; (case h1 => walk_at "hp"))
  | (refine Or.inl ⟨_, rfl, ?_⟩))
local macro_rules | `(tactic| walk_at "rd") => `(tactic| repeat walk_at "rd1")
theorem sc_law : FnScope ["script", "pool", "thing", "first", "second", "errors", "at", "kinds", "kept", "k"] ["script"] (defScope s_law) := ⟨rfl, rfl, rfl, by decide +kernel, rfl, by decide +kernel, by decide +kernel⟩
section
variable {P : Program} {w : World} {K : PySem.W.Frag} {mg : Str → Option Value} {base : Heap} {cls fns : Nat → Addr} {CM : Addr}
theorem kitAny_no {K : PySem.W.Frag} {t : Value} : ∀ {cs : List Value}, PySem.W.kitAny K t cs = some false → ∀ c ∈ cs, PySem.W.kitOne K t c = some false
  | [], _, c, hc => by cases hc
  | x :: r, h, c, hc => by
    unfold PySem.W.kitAny at h
    cases hx : PySem.W.kitOne K t x with
    | none => rw [hx] at h; cases h
    | some b =>
      rw [hx] at h
      cases b with
      | true => cases h
      | false =>
        rcases List.mem_cons.mp hc with rfl | hc
        · exact hx
        · exact kitAny_no h c hc
/-- the other items of a list of 25, in their order -/
theorem kit25 {K : PySem.W.Frag} {cs : List Addr} (hl : cs.length = 25) (h : ∀ i, i < 25 → PySem.W.kitAny K (.ref (cs.getD i 0)) ((cs.take i ++ cs.drop (i + 1)).map Value.ref) = some false) {i j : Nat} (hi : i < 25) (hj : j < 25) :
    PySem.W.kitOne K (.ref (cs.getD i 0)) (.ref (cs.getD j 0)) = some (decide (i = j)) := by
  by_cases e : i = j
  · subst e
    rw [decide_eq_true rfl]
    unfold PySem.W.kitOne
    simp
  · rw [decide_eq_false e]
    refine kitAny_no (h i hi) _ (List.mem_map.mpr ⟨cs.getD j 0, ?_, rfl⟩)
    have ej : cs.getD j 0 = cs[j]'(by omega) := by rw [List.getD_eq_getElem?_getD, List.getElem?_eq_getElem (by omega)]; rfl
    rw [ej, List.mem_append]
    by_cases hlt : j < i
    · exact .inl (List.mem_iff_getElem?.mpr ⟨j, by rw [List.getElem?_take_of_lt hlt, List.getElem?_eq_getElem (by omega)]⟩)
    · exact .inr (List.mem_iff_getElem?.mpr ⟨j - (i + 1), by rw [List.getElem?_drop, show i + 1 + (j - (i + 1)) = j by omega, List.getElem?_eq_getElem (by omega)]⟩)
def spLaw (K : PySem.W.Frag) : Sp := fun vs H Q _ => ∃ (a : Addr) (ns : List Int), vs = [.ref a] ∧ SqL K H a (ns.map V.int) ∧ ns.length ≤ 63 ∧ ∀ H', Q (.bl true) H'
theorem yes_of {σ : L2.St} {H : Hp} {R : Bool → Hp → Prop} (h : R true H) : tYes σ H R := h
theorem odd_good : ∀ q ∈ oddDs, q.2.showable = true ∧ q.2.depth ≤ 20 ∧ q.2.shown.length ≤ 200 := by decide +kernel
theorem ok_law {f : Addr} {fd : FuncData} (F : Fun K "law" "law" s_law f fd) (T : CT P K mg cls fns CM) (c__law_pool : CalG P w K mg base 1 "_law_pool" (spPool K)) (c__law_odd : CalG P w K mg base 2 "_law_odd" (spOdd K)) (c__law_first : CalG P w K mg base 1 "_law_first" (spMade cls 12 0)) (c__law_second : CalG P w K mg base 1 "_law_second" (spMade cls 9 12)) (c__law_kinds : CalG P w K mg base 2 "_law_kinds" (spKinds cls 25)) :
    FnG P w K mg base (CXe P w) 8 f fd ["script"] (spLaw K) := by
  refine F.okG sc_law (fun vs H Q E h => ?_) (fun cdv A outer s H vs Q E hgd hr h => ?_)
  · obtain ⟨a, ns, rfl, _⟩ := h; rfl
  · obtain ⟨a, ns, rfl, hs, hl, k⟩ := h
    refine ⟨_, (pss_cons (ps_set (i := 1) sc_law.nd rfl (Or.inl rfl) (pg_c c__law_pool hgd hr (by first | decide | omega) (pa_cons (pv 0) pa_nil)))
      (pss_cons (ps_set (i := 2) sc_law.nd rfl (Or.inr rfl) (pg_c c__law_odd hgd hr (by first | decide | omega) (pa_cons (pv 1) pa_nil)))
      (pss_cons (ps_set (i := 3) sc_law.nd rfl (Or.inl rfl) (pg_c c__law_first hgd hr (by first | decide | omega) (pa_cons (pv 2) pa_nil)))
      (pss_cons (ps_set (i := 4) sc_law.nd rfl (Or.inl rfl) (pg_c c__law_second hgd hr (by first | decide | omega) (pa_cons (pv 2) pa_nil)))
      (pss_cons (ps_set (i := 5) sc_law.nd rfl (Or.inl rfl) (pe_op op_cat (pe_ix ix_tup (pv 3) pe_int (fun _ _ => rfl)) (pe_ix ix_tup (pv 4) pe_int (fun _ _ => rfl))))
      (pss_cons (ps_if (pt_not (pt_val (pe_callB (cr_all rfl) (by rfl) T.n_all (by decide +kernel) (pa_cons (pe_lc (own := [("kept", 8)]) (g := gName 8) (tt := tYes) rfl sc_law.nd (pi_list (pe_op op_cat (pe_ix ix_tup (pv 3) pe_int (fun _ _ => rfl)) (pe_ix ix_tup (pv 4) pe_int (fun _ _ => rfl)))) (blkOk_by (own := [("kept", 8)]) (N := ["script", "pool", "thing", "first", "second", "errors", "at", "kinds", "kept", "k"]) (sc := defScope s_law) (by decide +kernel)) (fun _ _ _ _ _ => pg_name (i := 8) sc_law.nd rfl (Or.inl rfl)) (fun _ _ _ _ _ => pts_nil) (fun _ _ _ _ _ => (pe_cmpR op_eq (pe_callB (call_reprD hgd hr) (by rfl) T.n_repr (by decide +kernel) (pa_cons (pv 8) pa_nil)) (pe_callB (call_reprD hgd hr) (by rfl) T.n_repr (by decide +kernel) (pa_cons (pv 2) pa_nil)) (nomark _)))) pa_nil)))) (pss_one (ps_ret pe_bl)) pss_nil)
      (pss_cons (ps_set (i := 5) sc_law.nd rfl (Or.inl rfl) (pe_op op_cat (pv 5) (pe_lstA (pa_cons (pe_err0 T.x_BadPaper) (pa_cons (pe_err0 T.x_NoPaper) (pa_cons (pe_err0 T.x_NothingDone) (pa_cons (pe_err0 T.x_TooMany) pa_nil)))))))
      (pss_cons (ps_for (passes_of rfl) rfl (pi_range1 (by rfl) T.n_range (pa_cons (pe_callB call_len_seq (by rfl) T.n_len (by decide +kernel) (pa_cons (pv 5) pa_nil)) pa_nil)) (pg_name (i := 6) sc_law.nd rfl (Or.inl rfl))
      (pss_cons (ps_set (i := 7) sc_law.nd rfl (Or.inr rfl) (pg_c c__law_kinds hgd hr (by first | decide | omega) (pa_cons (pe_ix ix_list (pv 5) (pv 6) (fun _ _ => rfl)) pa_nil)))
      (pss_cons (ps_if (PW.pt (pw_or (pt_not (pt_val (pe_callB call_isEr (by rfl) T.n_isinstance (by decide +kernel) (pa_cons (pe_ix ix_list (pv 5) (pv 6) (fun _ _ => rfl)) (pa_cons (pe_glob (v := .ref _) rfl T.g_MazeError rfl) pa_nil))))) (pw_or1 (pt_not (pt_val (pe_callB call_isEr (by rfl) T.n_isinstance (by decide +kernel) (pa_cons (pe_ix ix_list (pv 5) (pv 6) (fun _ _ => rfl)) (pa_cons (pe_bltn (v := .ty "ValueError") (u := .type "ValueError") rfl T.n_ValueError (by decide +kernel) rfl) pa_nil)))))))) (pss_one (ps_ret pe_bl)) pss_nil)
      (pss_one (ps_if (pt_cmpR (op_neD hr.units) (pe_lc (own := [("k", 9)]) (g := gName 9) rfl sc_law.nd (pi_range1 (by rfl) T.n_range (pa_cons (pe_callB call_len_seq (by rfl) T.n_len (by decide +kernel) (pa_cons (pv 7) pa_nil)) pa_nil)) (blkOk_by (own := [("k", 9)]) (N := ["script", "pool", "thing", "first", "second", "errors", "at", "kinds", "kept", "k"]) (sc := defScope s_law) (by decide +kernel)) (fun _ _ _ _ _ => pg_name (i := 9) sc_law.nd rfl (Or.inl rfl)) (fun _ _ _ _ _ => pts_one (pt_val (pe_ix (show IxR _ (rIxL K) from ix_list) (pv 7) (pv 9) (fun _ _ => rfl)))) (fun _ _ _ _ _ => (pv 9))) (pe_lstA (pa_cons (pv 6) pa_nil)) (nomark _)) (pss_one (ps_ret pe_bl)) pss_nil)))))
      (pss_one (ps_ret (pe_cmpR op_eq (pe_callB call_len_seq (by rfl) T.n_len (by decide +kernel) (pa_cons (pv 5) pa_nil)) pe_int (nomark _)))))))))))), ?_⟩
    refine ⟨_, rfl, a, ns, rfl, hs, hl, fun l p H1 np s1 hp1 => ?_⟩
    refine ⟨_, rfl, l, p, (fun b => b = p), rfl, hp1, rfl, fun b hb => ?_, fun v H2 o2 hp2 hv => ?_⟩
    · subst hb
      obtain ⟨xs, i, c, n, z, e, _⟩ := hp1.ex
      rw [e]
      exact fun z => nomatch z
    obtain ⟨qd, hqd, hdr⟩ := hv
    obtain ⟨g1, g2, g3⟩ := odd_good _ hqd
    refine ⟨_, rfl, v, rfl, fun t1 L1 K1 es1 H3 s3 ht1 hL1 hl1 he1 hK1 => ?_⟩
    refine ⟨_, rfl, v, rfl, fun t2 L2 K2 es2 H4 s4 ht2 hL2 hl2 he2 hK2 => ?_⟩
    refine ⟨_, rfl, t1, _, 0, _, rfl, rfl, SqT.of (s4 _ _ ht1), rfl, _, rfl, t2, _, 0, _, rfl, rfl, SqT.of ht2, rfl, ?_⟩
    refine ⟨L1, L2, _, _, rfl, rfl, s4 _ _ hL1, hL2, Nat.le_of_lt (szS (by rw [List.length_map, List.length_map]; omega)), fun L5 nL5 => ?_⟩
    rw [← List.map_append]
    have s5 : Same H4 (upd H4 L5 (.lst ((es1 ++ es2).map V.ref))) := same_new nL5
    have hL5 : (upd H4 L5 (.lst ((es1 ++ es2).map V.ref))) L5 = some (.lst ((es1 ++ es2).map V.ref)) := upd_same
    generalize upd H4 L5 (.lst ((es1 ++ es2).map V.ref)) = H5 at s5 hL5 ⊢
    refine ⟨_, rfl, t1, _, 1, _, rfl, rfl, SqT.of (s5 _ _ (s4 _ _ ht1)), rfl, _, rfl, t2, _, 1, _, rfl, rfl, SqT.of (s5 _ _ ht2), rfl, ?_⟩
    refine ⟨K1, K2, _, _, rfl, rfl, s5 _ _ (s4 _ _ hK1), s5 _ _ hK2, Nat.le_of_lt (szS (by rw [List.length_replicate, List.length_replicate]; omega)), fun L6 nL6 => ?_⟩
    rw [List.replicate_append_replicate]
    have s6 : Same H5 (upd H5 L6 (.lst (List.replicate 21 v))) := same_new nL6
    have hL6 : (upd H5 L6 (.lst (List.replicate 21 v))) L6 = some (.lst (List.replicate 21 v)) := upd_same
    generalize upd H5 L6 (.lst (List.replicate 21 v)) = H6 at s6 hL6 ⊢
    have s26 := s3.trans (s4.trans (s5.trans s6))
    refine ⟨L6, rfl, ⟨_, SqL.of hL6⟩, fun D hD => lc_it (walk_list (xs := List.replicate 21 v)) (fun i H' => H' D = some (.lst ((List.replicate i true).map V.bl)) ∧ Off (fun b => b = D) H6 H') ⟨upd_same, Off.new hD⟩ (fun i H' _ z => SqL.of (z.2 _ _ (ne_of_none hL6 hD) hL6)) ?_ ?_⟩
    · rintro i x Ha Hb hi ⟨hacc, off⟩ ⟨rfl, hx⟩
      obtain rfl : x = v := List.eq_of_mem_replicate (List.mem_of_getElem? hx)
      have sb : Same H6 Hb := fun b o e => off b o (ne_of_none e hD) e
      have hdb := hdr.keep (Off.same (s26.trans sb))
      refine And.intro rfl (yes_of (iteT ?_))
      have hz : qd.2.shown.length ≤ sizeLine := Nat.le_of_lt (szS (by omega))
      refine ⟨_, rfl, x, qd.2, qd.1, _, rfl, hdb, g1, by omega, hz, _, rfl, x, qd.2, qd.1, _, rfl, hdb, g1, by omega, hz, (rfl : scal _ _ = true), ?_⟩
      rw [List.length_replicate] at hi
      refine ⟨_, hacc, szS (by rw [List.length_map, List.length_replicate]; omega), ?_, off.trans (Off.mut rfl)⟩
      rw [upd_same, List.replicate_succ', List.map_append]
      simp
    rintro H7 ⟨hacc, off⟩
    have s67 : Same H6 H7 := fun b o e => off b o (ne_of_none e hD) e
    rw [List.length_replicate] at hacc
    refine ⟨D, _, rfl, SqL.of hacc, _, rfl, iteF' (by simp) ?_⟩
    refine ⟨_, rfl, fun e21 ne21 => ?_⟩
    have w21 : Same H7 (upd H7 e21 (ErO (cls 21) none e21)) := same_new ne21
    have r21 : (upd H7 e21 (ErO (cls 21) none e21)) e21 = some (ErO (cls 21) none e21) := upd_same
    generalize upd H7 e21 (ErO (cls 21) none e21) = J21 at w21 r21 ⊢
    refine fun e22 ne22 => ?_
    have w22 : Same J21 (upd J21 e22 (ErO (cls 22) none e22)) := same_new ne22
    have r22 : (upd J21 e22 (ErO (cls 22) none e22)) e22 = some (ErO (cls 22) none e22) := upd_same
    generalize upd J21 e22 (ErO (cls 22) none e22) = J22 at w22 r22 ⊢
    refine fun e23 ne23 => ?_
    have w23 : Same J22 (upd J22 e23 (ErO (cls 23) none e23)) := same_new ne23
    have r23 : (upd J22 e23 (ErO (cls 23) none e23)) e23 = some (ErO (cls 23) none e23) := upd_same
    generalize upd J22 e23 (ErO (cls 23) none e23) = J23 at w23 r23 ⊢
    refine fun e24 ne24 => ?_
    have w24 : Same J23 (upd J23 e24 (ErO (cls 24) none e24)) := same_new ne24
    have r24 : (upd J23 e24 (ErO (cls 24) none e24)) e24 = some (ErO (cls 24) none e24) := upd_same
    generalize upd J23 e24 (ErO (cls 24) none e24) = J24 at w24 r24 ⊢
    refine And.intro (Nat.le_of_ble_eq_true rfl) fun L8 H8 n8 => ?_
    have v24 := n8.same
    have v23 := w24.trans v24
    have v22 := w23.trans v23
    have v21 := w22.trans v22
    have v7 := w21.trans v21
    have s58 := s6.trans (s67.trans v7)
    refine ⟨L5, L8, _, _, rfl, rfl, s58 _ _ hL5, n8.at_, Nat.le_of_lt (szS (by rw [List.length_map, List.length_append, hl1, hl2]; exact Nat.le_of_ble_eq_true rfl)), fun L9 nL9 => ?_⟩
    have ees : (es1 ++ es2).map V.ref ++ [V.ref e21, .ref e22, .ref e23, .ref e24] = (es1 ++ es2 ++ [e21, e22, e23, e24]).map V.ref := by rw [List.map_append (l₂ := [e21, e22, e23, e24])]; rfl
    rw [ees]
    have s89 : Same H8 (upd H8 L9 (.lst ((es1 ++ es2 ++ [e21, e22, e23, e24]).map V.ref))) := same_new nL9
    have hL9 : (upd H8 L9 (.lst ((es1 ++ es2 ++ [e21, e22, e23, e24]).map V.ref))) L9 = some (.lst ((es1 ++ es2 ++ [e21, e22, e23, e24]).map V.ref)) := upd_same
    generalize upd H8 L9 (.lst ((es1 ++ es2 ++ [e21, e22, e23, e24]).map V.ref)) = H9 at s89 hL9 ⊢
    have hall : ∀ i e, (es1 ++ es2 ++ [e21, e22, e23, e24])[i]? = some e → ∃ d, Er cls i H9 e d := fun i e h => by
      by_cases h12 : i < 12
      · rw [List.append_assoc, List.getElem?_append_left (by omega)] at h
        obtain ⟨d, hd⟩ := he1 i e h
        rw [Nat.zero_add] at hd
        exact ⟨d, hd.same (s4.trans (s5.trans (s58.trans s89)))⟩
      · by_cases h21 : i < 21
        · rw [List.append_assoc, List.getElem?_append_right (by omega), List.getElem?_append_left (by omega)] at h
          obtain ⟨d, hd⟩ := he2 _ e h
          rw [show 12 + (i - es1.length) = i by omega] at hd
          exact ⟨d, hd.same (s5.trans (s58.trans s89))⟩
        · rw [List.getElem?_append_right (by rw [List.length_append]; omega), List.length_append, hl1, hl2] at h
          obtain ⟨c, rfl⟩ : ∃ c, i = 21 + c := ⟨i - 21, by omega⟩
          rw [show 21 + c - (12 + 9) = c by omega] at h
          rcases c with _ | _ | _ | _ | c
          · cases h; exact ⟨none, s89 _ _ (v21 _ _ r21), fun dd z => by cases z⟩
          · cases h; exact ⟨none, s89 _ _ (v22 _ _ r22), fun dd z => by cases z⟩
          · cases h; exact ⟨none, s89 _ _ (v23 _ _ r23), fun dd z => by cases z⟩
          · cases h; exact ⟨none, s89 _ _ (v24 _ _ r24), fun dd z => by cases z⟩
          · simp at h
    have hlen : (es1 ++ es2 ++ [e21, e22, e23, e24]).length = 25 := by rw [List.length_append, List.length_append, hl1, hl2]; rfl
    generalize es1 ++ es2 ++ [e21, e22, e23, e24] = es at hL9 hall hlen
    refine ⟨_, rfl, L9, _, rfl, .inl (SqL.of hL9), _, rfl, by rw [List.length_map]; omega, by rw [List.length_map]; omega, ?_⟩
    rw [Int.toNat_natCast, List.length_map, hlen]
    refine for_it walk_range (fun i σ H' => (∃ o6 o7, σ = [some (.ref a), some (.ref p), some v, some (.ref t1), some (.ref t2), some (.ref L9), o6, o7, none, none]) ∧ Same H9 H') ⟨⟨_, _, rfl⟩, Same.refl _⟩ (fun _ _ _ _ _ => trivial) ?_ ?_
    · rintro i y σ Ha Hb hi ⟨⟨o6, o7, rfl⟩, sb⟩ ⟨rfl, hy⟩
      obtain rfl : y = V.int (i : Nat) := hy.trans (congrArg V.int (Int.zero_add _))
      have ei := List.getElem?_eq_getElem (show i < es.length by omega)
      obtain ⟨d, hd⟩ := hall i _ ei
      generalize es[i] = e at ei hd
      have ei2 : (es.map V.ref)[i]? = some (.ref e) := by rw [List.getElem?_map, ei]; rfl
      have hLb := sb _ _ hL9
      have hdb := hd.same sb
      refine ⟨_, rfl, _, rfl, L9, _, (i : Nat), _, rfl, rfl, SqL.of hLb, atI_nat ei2, e, d, i, rfl, hi, hdb, fun q Hc sc nq hq => ?_⟩
      have hLc := sc _ _ hLb
      have hdc := hdb.same sc
      refine ⟨_, rfl, _, rfl, L9, _, (i : Nat), _, rfl, rfl, SqL.of hLc, atI_nat ei2, .ref _, _, true, cls i, e, d, rfl, .own _, T.ec i hi, hdc.1, hdc.2, T.kM i hi, _, rfl, iteF ?_⟩
      refine ⟨_, rfl, _, rfl, L9, _, (i : Nat), _, rfl, rfl, SqL.of hLc, atI_nat ei2, .ty _, _, true, cls i, e, d, rfl, .ty _, T.ec i hi, hdc.1, hdc.2, T.kV i hi, _, rfl, iteF ?_⟩
      refine ⟨_, rfl, q, _, rfl, .inl (SqL.of hq), _, rfl, by rw [List.length_map]; simp, by rw [List.length_map]; simp, ?_⟩
      rw [Int.toNat_natCast, List.length_map, List.length_range]
      refine fun D hD => lc_it walk_range (fun u H' => H' D = some (.lst (((List.range u).filter fun z => decide (i = z)).map fun z : Nat => V.int z)) ∧ Off (fun b => b = D) Hc H') ⟨upd_same, Off.new hD⟩ (fun _ _ _ _ => trivial) ?_ ?_
      · rintro u y Hd He hu ⟨hacc, off⟩ ⟨rfl, hy⟩
        obtain rfl : y = V.int (u : Nat) := hy.trans (congrArg V.int (Int.zero_add _))
        have sd : Same Hc He := fun b o e => off b o (ne_of_none e hD) e
        have eu : ((List.range 25).map fun z => V.bl (decide (i = z)))[u]? = some (V.bl (decide (i = u))) := by rw [List.getElem?_map, List.getElem?_range hu]; rfl
        refine And.intro rfl ⟨_, rfl, _, rfl, q, _, (u : Nat), _, rfl, rfl, SqL.of (sd _ _ hq), atI_nat eu, _, rfl, ?_⟩
        by_cases hiu : i = u
        · refine iteT' (decide_eq_true hiu) ⟨_, rfl, _, hacc, szS (by rw [List.length_map]; exact Nat.le_trans (List.length_filter_le ..) (by rw [List.length_range]; omega)), ?_, off.trans (Off.mut rfl)⟩
          rw [upd_same, List.range_succ, List.filter_append, List.map_append]
          simp [hiu]
        · refine iteF' (by simpa using hiu) ⟨?_, off⟩
          rw [hacc, List.range_succ, List.filter_append]
          simp [hiu]
      rintro Hd ⟨hacc, off⟩
      have sd : Same Hc Hd := fun b o e => off b o (ne_of_none e hD) e
      have ef : ((List.range 25).filter fun z => decide (i = z)) = [i] := by
        have : ∀ i : Fin 25, ((List.range 25).filter fun z => decide (i.val = z)) = [i.val] := by decide +kernel
        exact this ⟨i, hi⟩
      rw [ef] at hacc
      refine ⟨_, rfl, And.intro (Nat.le_of_ble_eq_true rfl) fun Lz Hz nz => ?_⟩
      have eqi : PyData.eqv (.list [.int (i : Nat)]) (.list [.int (i : Nat)]) = true := by simp [PyData.eqv, PyData.eqvAll]
      refine ⟨.list [.int (i : Nat)], .list [.int (i : Nat)], .lst (SqL.of (nz.same _ _ hacc)) (.cons (.int _) .nil), .lst (SqL.of nz.at_) (.cons (.int _) .nil), rfl, rfl, _, rfl, iteF' (by rw [eqi]; simp) ⟨⟨_, _, rfl⟩, ((sb.trans sc).trans sd).trans nz.same⟩⟩
    rintro σ Ha ⟨⟨o6, o7, rfl⟩, sb⟩
    refine ⟨_, rfl, L9, _, rfl, .inl (SqL.of (sb _ _ hL9)), (rfl : scal _ _ = true), ?_⟩
    rw [List.length_map, hlen]
    exact k _
end
end K01
end
section
set_option Elab.async false
set_option linter.all false
set_option maxRecDepth 100000
set_option maxHeartbeats 2000000
namespace K01
open PySem L2 PyProof.Rows
/-- what the top has left, and the law's promise over it -/
theorem all_mk {P : Program} {w : World} {K : PySem.W.Frag} {h : Heap} {mg : Str → Option Value} {fa f__law_pool f__law_draw f__law_odd f__law_first_kinds f__law_kinds f__law_first f__law_second f_law C0 f0 C1 f1 C2 f2 C3 f3 C4 f4 C5 f5 C6 f6 C7 f7 C8 f8 C9 f9 C10 f10 C11 f11 C12 f12 C13 f13 C14 f14 C15 f15 C16 f16 C17 f17 C18 f18 C19 f19 C20 f20 CM C21 C22 C23 C24 : Addr} {d__law_pool d__law_draw d__law_odd d__law_first_kinds d__law_kinds d__law_first d__law_second d_law : FuncData}  
    (X : K.In h) (G : h.Ns mainGlobals mg) (hfa : mg "law" = some (.ref fa))
    (a__law_pool : PySem.W.nsIn K mainGlobals "_law_pool" = some (some (.ref f__law_pool))) (F__law_pool : Fun K "_law_pool" "_law_pool" s__law_pool f__law_pool d__law_pool)
    (a__law_draw : PySem.W.nsIn K mainGlobals "_law_draw" = some (some (.ref f__law_draw))) (F__law_draw : Fun K "_law_draw" "_law_draw" s__law_draw f__law_draw d__law_draw)
    (a__law_odd : PySem.W.nsIn K mainGlobals "_law_odd" = some (some (.ref f__law_odd))) (F__law_odd : Fun K "_law_odd" "_law_odd" s__law_odd f__law_odd d__law_odd)
    (a__law_first_kinds : PySem.W.nsIn K mainGlobals "_law_first_kinds" = some (some (.ref f__law_first_kinds))) (F__law_first_kinds : Fun K "_law_first_kinds" "_law_first_kinds" s__law_first_kinds f__law_first_kinds d__law_first_kinds)
    (a__law_kinds : PySem.W.nsIn K mainGlobals "_law_kinds" = some (some (.ref f__law_kinds))) (F__law_kinds : Fun K "_law_kinds" "_law_kinds" s__law_kinds f__law_kinds d__law_kinds)
    (a__law_first : PySem.W.nsIn K mainGlobals "_law_first" = some (some (.ref f__law_first))) (F__law_first : Fun K "_law_first" "_law_first" s__law_first f__law_first d__law_first)
    (a__law_second : PySem.W.nsIn K mainGlobals "_law_second" = some (some (.ref f__law_second))) (F__law_second : Fun K "_law_second" "_law_second" s__law_second f__law_second d__law_second)
    (a_law : PySem.W.nsIn K mainGlobals "law" = some (some (.ref f_law))) (F_law : Fun K "law" "law" s_law f_law d_law)
    (x_BadRules : RX.ErrT P K mg "BadRules" "value" C0 f0)
    (x_BadBag : RX.ErrT P K mg "BadBag" "value" C1 f1)
    (x_BadRoom : RX.ErrT P K mg "BadRoom" "value" C2 f2)
    (x_BadCell : RX.ErrT P K mg "BadCell" "index" C3 f3)
    (x_BadMouth : RX.ErrT P K mg "BadMouth" "number" C4 f4)
    (x_BadLevel : RX.ErrT P K mg "BadLevel" "value" C5 f5)
    (x_BadPath : RX.ErrT P K mg "BadPath" "path" C6 f6)
    (x_BadPlay : RX.ErrT P K mg "BadPlay" "at" C7 f7)
    (x_BadOutcome : RX.ErrT P K mg "BadOutcome" "value" C8 f8)
    (x_BadTable : RX.ErrT P K mg "BadTable" "value" C9 f9)
    (x_BadFrail : RX.ErrT P K mg "BadFrail" "value" C10 f10)
    (x_BadFull : RX.ErrT P K mg "BadFull" "value" C11 f11)
    (x_BadGrammar : RX.ErrT P K mg "BadGrammar" "value" C12 f12)
    (x_BadDerivation : RX.ErrT P K mg "BadDerivation" "value" C13 f13)
    (x_BadName : RX.ErrT P K mg "BadName" "value" C14 f14)
    (x_BadCount : RX.ErrT P K mg "BadCount" "value" C15 f15)
    (x_BadWish : RX.ErrT P K mg "BadWish" "value" C16 f16)
    (x_BadPrices : RX.ErrT P K mg "BadPrices" "at" C17 f17)
    (x_BadNumber : RX.ErrT P K mg "BadNumber" "value" C18 f18)
    (x_BadIndex : RX.ErrT P K mg "BadIndex" "at" C19 f19)
    (x_BadText : RX.ErrT P K mg "BadText" "at" C20 f20)
    (z_isinstance : PySem.W.nsIn K mainGlobals "isinstance" = some none)
    (z_int : PySem.W.nsIn K mainGlobals "int" = some none)
    (z_bool : PySem.W.nsIn K mainGlobals "bool" = some none)
    (z_list : PySem.W.nsIn K mainGlobals "list" = some none)
    (z_len : PySem.W.nsIn K mainGlobals "len" = some none)
    (z_range : PySem.W.nsIn K mainGlobals "range" = some none)
    (z_abs : PySem.W.nsIn K mainGlobals "abs" = some none)
    (z_tuple : PySem.W.nsIn K mainGlobals "tuple" = some none)
    (z_str : PySem.W.nsIn K mainGlobals "str" = some none)
    (z_repr : PySem.W.nsIn K mainGlobals "repr" = some none)
    (z_all : PySem.W.nsIn K mainGlobals "all" = some none)
    (z_ValueError : PySem.W.nsIn K mainGlobals "ValueError" = some none)
    (x_BadPaper : L2.ErrN K mg "BadPaper" C21)
    (x_NoPaper : L2.ErrN K mg "NoPaper" C22)
    (x_NothingDone : L2.ErrN K mg "NothingDone" C23)
    (x_TooMany : L2.ErrN K mg "TooMany" C24)
    (gM : PySem.W.nsIn K mainGlobals "MazeError" = some (some (.ref CM)))
    (hn : PySem.W.specialIn K (.builtin "object.__class__") "__get__" = some (some (.builtin "getset_descriptor.__get__")))
    (ht : PySem.W.takesIn K (.builtin "object.__class__") = some true)
    (ha0 : PySem.W.findIn K (.ref C0) "__class__" = some (some (.builtin "object.__class__")))
    (hm0 : PySem.W.mroIn K C0 (.type "object") = some true)
    (ka0 : PySem.W.kitAny K (.ref C0) [.ref C1, .ref C2, .ref C3, .ref C4, .ref C5, .ref C6, .ref C7, .ref C8, .ref C9, .ref C10, .ref C11, .ref C12, .ref C13, .ref C14, .ref C15, .ref C16, .ref C17, .ref C18, .ref C19, .ref C20, .ref C21, .ref C22, .ref C23, .ref C24] = some false)
    (km0 : PySem.W.kitOne K (.ref C0) (.ref CM) = some true)
    (kv0 : PySem.W.kitOne K (.ref C0) (.type "ValueError") = some true)
    (ha1 : PySem.W.findIn K (.ref C1) "__class__" = some (some (.builtin "object.__class__")))
    (hm1 : PySem.W.mroIn K C1 (.type "object") = some true)
    (ka1 : PySem.W.kitAny K (.ref C1) [.ref C0, .ref C2, .ref C3, .ref C4, .ref C5, .ref C6, .ref C7, .ref C8, .ref C9, .ref C10, .ref C11, .ref C12, .ref C13, .ref C14, .ref C15, .ref C16, .ref C17, .ref C18, .ref C19, .ref C20, .ref C21, .ref C22, .ref C23, .ref C24] = some false)
    (km1 : PySem.W.kitOne K (.ref C1) (.ref CM) = some true)
    (kv1 : PySem.W.kitOne K (.ref C1) (.type "ValueError") = some true)
    (ha2 : PySem.W.findIn K (.ref C2) "__class__" = some (some (.builtin "object.__class__")))
    (hm2 : PySem.W.mroIn K C2 (.type "object") = some true)
    (ka2 : PySem.W.kitAny K (.ref C2) [.ref C0, .ref C1, .ref C3, .ref C4, .ref C5, .ref C6, .ref C7, .ref C8, .ref C9, .ref C10, .ref C11, .ref C12, .ref C13, .ref C14, .ref C15, .ref C16, .ref C17, .ref C18, .ref C19, .ref C20, .ref C21, .ref C22, .ref C23, .ref C24] = some false)
    (km2 : PySem.W.kitOne K (.ref C2) (.ref CM) = some true)
    (kv2 : PySem.W.kitOne K (.ref C2) (.type "ValueError") = some true)
    (ha3 : PySem.W.findIn K (.ref C3) "__class__" = some (some (.builtin "object.__class__")))
    (hm3 : PySem.W.mroIn K C3 (.type "object") = some true)
    (ka3 : PySem.W.kitAny K (.ref C3) [.ref C0, .ref C1, .ref C2, .ref C4, .ref C5, .ref C6, .ref C7, .ref C8, .ref C9, .ref C10, .ref C11, .ref C12, .ref C13, .ref C14, .ref C15, .ref C16, .ref C17, .ref C18, .ref C19, .ref C20, .ref C21, .ref C22, .ref C23, .ref C24] = some false)
    (km3 : PySem.W.kitOne K (.ref C3) (.ref CM) = some true)
    (kv3 : PySem.W.kitOne K (.ref C3) (.type "ValueError") = some true)
    (ha4 : PySem.W.findIn K (.ref C4) "__class__" = some (some (.builtin "object.__class__")))
    (hm4 : PySem.W.mroIn K C4 (.type "object") = some true)
    (ka4 : PySem.W.kitAny K (.ref C4) [.ref C0, .ref C1, .ref C2, .ref C3, .ref C5, .ref C6, .ref C7, .ref C8, .ref C9, .ref C10, .ref C11, .ref C12, .ref C13, .ref C14, .ref C15, .ref C16, .ref C17, .ref C18, .ref C19, .ref C20, .ref C21, .ref C22, .ref C23, .ref C24] = some false)
    (km4 : PySem.W.kitOne K (.ref C4) (.ref CM) = some true)
    (kv4 : PySem.W.kitOne K (.ref C4) (.type "ValueError") = some true)
    (ha5 : PySem.W.findIn K (.ref C5) "__class__" = some (some (.builtin "object.__class__")))
    (hm5 : PySem.W.mroIn K C5 (.type "object") = some true)
    (ka5 : PySem.W.kitAny K (.ref C5) [.ref C0, .ref C1, .ref C2, .ref C3, .ref C4, .ref C6, .ref C7, .ref C8, .ref C9, .ref C10, .ref C11, .ref C12, .ref C13, .ref C14, .ref C15, .ref C16, .ref C17, .ref C18, .ref C19, .ref C20, .ref C21, .ref C22, .ref C23, .ref C24] = some false)
    (km5 : PySem.W.kitOne K (.ref C5) (.ref CM) = some true)
    (kv5 : PySem.W.kitOne K (.ref C5) (.type "ValueError") = some true)
    (ha6 : PySem.W.findIn K (.ref C6) "__class__" = some (some (.builtin "object.__class__")))
    (hm6 : PySem.W.mroIn K C6 (.type "object") = some true)
    (ka6 : PySem.W.kitAny K (.ref C6) [.ref C0, .ref C1, .ref C2, .ref C3, .ref C4, .ref C5, .ref C7, .ref C8, .ref C9, .ref C10, .ref C11, .ref C12, .ref C13, .ref C14, .ref C15, .ref C16, .ref C17, .ref C18, .ref C19, .ref C20, .ref C21, .ref C22, .ref C23, .ref C24] = some false)
    (km6 : PySem.W.kitOne K (.ref C6) (.ref CM) = some true)
    (kv6 : PySem.W.kitOne K (.ref C6) (.type "ValueError") = some true)
    (ha7 : PySem.W.findIn K (.ref C7) "__class__" = some (some (.builtin "object.__class__")))
    (hm7 : PySem.W.mroIn K C7 (.type "object") = some true)
    (ka7 : PySem.W.kitAny K (.ref C7) [.ref C0, .ref C1, .ref C2, .ref C3, .ref C4, .ref C5, .ref C6, .ref C8, .ref C9, .ref C10, .ref C11, .ref C12, .ref C13, .ref C14, .ref C15, .ref C16, .ref C17, .ref C18, .ref C19, .ref C20, .ref C21, .ref C22, .ref C23, .ref C24] = some false)
    (km7 : PySem.W.kitOne K (.ref C7) (.ref CM) = some true)
    (kv7 : PySem.W.kitOne K (.ref C7) (.type "ValueError") = some true)
    (ha8 : PySem.W.findIn K (.ref C8) "__class__" = some (some (.builtin "object.__class__")))
    (hm8 : PySem.W.mroIn K C8 (.type "object") = some true)
    (ka8 : PySem.W.kitAny K (.ref C8) [.ref C0, .ref C1, .ref C2, .ref C3, .ref C4, .ref C5, .ref C6, .ref C7, .ref C9, .ref C10, .ref C11, .ref C12, .ref C13, .ref C14, .ref C15, .ref C16, .ref C17, .ref C18, .ref C19, .ref C20, .ref C21, .ref C22, .ref C23, .ref C24] = some false)
    (km8 : PySem.W.kitOne K (.ref C8) (.ref CM) = some true)
    (kv8 : PySem.W.kitOne K (.ref C8) (.type "ValueError") = some true)
    (ha9 : PySem.W.findIn K (.ref C9) "__class__" = some (some (.builtin "object.__class__")))
    (hm9 : PySem.W.mroIn K C9 (.type "object") = some true)
    (ka9 : PySem.W.kitAny K (.ref C9) [.ref C0, .ref C1, .ref C2, .ref C3, .ref C4, .ref C5, .ref C6, .ref C7, .ref C8, .ref C10, .ref C11, .ref C12, .ref C13, .ref C14, .ref C15, .ref C16, .ref C17, .ref C18, .ref C19, .ref C20, .ref C21, .ref C22, .ref C23, .ref C24] = some false)
    (km9 : PySem.W.kitOne K (.ref C9) (.ref CM) = some true)
    (kv9 : PySem.W.kitOne K (.ref C9) (.type "ValueError") = some true)
    (ha10 : PySem.W.findIn K (.ref C10) "__class__" = some (some (.builtin "object.__class__")))
    (hm10 : PySem.W.mroIn K C10 (.type "object") = some true)
    (ka10 : PySem.W.kitAny K (.ref C10) [.ref C0, .ref C1, .ref C2, .ref C3, .ref C4, .ref C5, .ref C6, .ref C7, .ref C8, .ref C9, .ref C11, .ref C12, .ref C13, .ref C14, .ref C15, .ref C16, .ref C17, .ref C18, .ref C19, .ref C20, .ref C21, .ref C22, .ref C23, .ref C24] = some false)
    (km10 : PySem.W.kitOne K (.ref C10) (.ref CM) = some true)
    (kv10 : PySem.W.kitOne K (.ref C10) (.type "ValueError") = some true)
    (ha11 : PySem.W.findIn K (.ref C11) "__class__" = some (some (.builtin "object.__class__")))
    (hm11 : PySem.W.mroIn K C11 (.type "object") = some true)
    (ka11 : PySem.W.kitAny K (.ref C11) [.ref C0, .ref C1, .ref C2, .ref C3, .ref C4, .ref C5, .ref C6, .ref C7, .ref C8, .ref C9, .ref C10, .ref C12, .ref C13, .ref C14, .ref C15, .ref C16, .ref C17, .ref C18, .ref C19, .ref C20, .ref C21, .ref C22, .ref C23, .ref C24] = some false)
    (km11 : PySem.W.kitOne K (.ref C11) (.ref CM) = some true)
    (kv11 : PySem.W.kitOne K (.ref C11) (.type "ValueError") = some true)
    (ha12 : PySem.W.findIn K (.ref C12) "__class__" = some (some (.builtin "object.__class__")))
    (hm12 : PySem.W.mroIn K C12 (.type "object") = some true)
    (ka12 : PySem.W.kitAny K (.ref C12) [.ref C0, .ref C1, .ref C2, .ref C3, .ref C4, .ref C5, .ref C6, .ref C7, .ref C8, .ref C9, .ref C10, .ref C11, .ref C13, .ref C14, .ref C15, .ref C16, .ref C17, .ref C18, .ref C19, .ref C20, .ref C21, .ref C22, .ref C23, .ref C24] = some false)
    (km12 : PySem.W.kitOne K (.ref C12) (.ref CM) = some true)
    (kv12 : PySem.W.kitOne K (.ref C12) (.type "ValueError") = some true)
    (ha13 : PySem.W.findIn K (.ref C13) "__class__" = some (some (.builtin "object.__class__")))
    (hm13 : PySem.W.mroIn K C13 (.type "object") = some true)
    (ka13 : PySem.W.kitAny K (.ref C13) [.ref C0, .ref C1, .ref C2, .ref C3, .ref C4, .ref C5, .ref C6, .ref C7, .ref C8, .ref C9, .ref C10, .ref C11, .ref C12, .ref C14, .ref C15, .ref C16, .ref C17, .ref C18, .ref C19, .ref C20, .ref C21, .ref C22, .ref C23, .ref C24] = some false)
    (km13 : PySem.W.kitOne K (.ref C13) (.ref CM) = some true)
    (kv13 : PySem.W.kitOne K (.ref C13) (.type "ValueError") = some true)
    (ha14 : PySem.W.findIn K (.ref C14) "__class__" = some (some (.builtin "object.__class__")))
    (hm14 : PySem.W.mroIn K C14 (.type "object") = some true)
    (ka14 : PySem.W.kitAny K (.ref C14) [.ref C0, .ref C1, .ref C2, .ref C3, .ref C4, .ref C5, .ref C6, .ref C7, .ref C8, .ref C9, .ref C10, .ref C11, .ref C12, .ref C13, .ref C15, .ref C16, .ref C17, .ref C18, .ref C19, .ref C20, .ref C21, .ref C22, .ref C23, .ref C24] = some false)
    (km14 : PySem.W.kitOne K (.ref C14) (.ref CM) = some true)
    (kv14 : PySem.W.kitOne K (.ref C14) (.type "ValueError") = some true)
    (ha15 : PySem.W.findIn K (.ref C15) "__class__" = some (some (.builtin "object.__class__")))
    (hm15 : PySem.W.mroIn K C15 (.type "object") = some true)
    (ka15 : PySem.W.kitAny K (.ref C15) [.ref C0, .ref C1, .ref C2, .ref C3, .ref C4, .ref C5, .ref C6, .ref C7, .ref C8, .ref C9, .ref C10, .ref C11, .ref C12, .ref C13, .ref C14, .ref C16, .ref C17, .ref C18, .ref C19, .ref C20, .ref C21, .ref C22, .ref C23, .ref C24] = some false)
    (km15 : PySem.W.kitOne K (.ref C15) (.ref CM) = some true)
    (kv15 : PySem.W.kitOne K (.ref C15) (.type "ValueError") = some true)
    (ha16 : PySem.W.findIn K (.ref C16) "__class__" = some (some (.builtin "object.__class__")))
    (hm16 : PySem.W.mroIn K C16 (.type "object") = some true)
    (ka16 : PySem.W.kitAny K (.ref C16) [.ref C0, .ref C1, .ref C2, .ref C3, .ref C4, .ref C5, .ref C6, .ref C7, .ref C8, .ref C9, .ref C10, .ref C11, .ref C12, .ref C13, .ref C14, .ref C15, .ref C17, .ref C18, .ref C19, .ref C20, .ref C21, .ref C22, .ref C23, .ref C24] = some false)
    (km16 : PySem.W.kitOne K (.ref C16) (.ref CM) = some true)
    (kv16 : PySem.W.kitOne K (.ref C16) (.type "ValueError") = some true)
    (ha17 : PySem.W.findIn K (.ref C17) "__class__" = some (some (.builtin "object.__class__")))
    (hm17 : PySem.W.mroIn K C17 (.type "object") = some true)
    (ka17 : PySem.W.kitAny K (.ref C17) [.ref C0, .ref C1, .ref C2, .ref C3, .ref C4, .ref C5, .ref C6, .ref C7, .ref C8, .ref C9, .ref C10, .ref C11, .ref C12, .ref C13, .ref C14, .ref C15, .ref C16, .ref C18, .ref C19, .ref C20, .ref C21, .ref C22, .ref C23, .ref C24] = some false)
    (km17 : PySem.W.kitOne K (.ref C17) (.ref CM) = some true)
    (kv17 : PySem.W.kitOne K (.ref C17) (.type "ValueError") = some true)
    (ha18 : PySem.W.findIn K (.ref C18) "__class__" = some (some (.builtin "object.__class__")))
    (hm18 : PySem.W.mroIn K C18 (.type "object") = some true)
    (ka18 : PySem.W.kitAny K (.ref C18) [.ref C0, .ref C1, .ref C2, .ref C3, .ref C4, .ref C5, .ref C6, .ref C7, .ref C8, .ref C9, .ref C10, .ref C11, .ref C12, .ref C13, .ref C14, .ref C15, .ref C16, .ref C17, .ref C19, .ref C20, .ref C21, .ref C22, .ref C23, .ref C24] = some false)
    (km18 : PySem.W.kitOne K (.ref C18) (.ref CM) = some true)
    (kv18 : PySem.W.kitOne K (.ref C18) (.type "ValueError") = some true)
    (ha19 : PySem.W.findIn K (.ref C19) "__class__" = some (some (.builtin "object.__class__")))
    (hm19 : PySem.W.mroIn K C19 (.type "object") = some true)
    (ka19 : PySem.W.kitAny K (.ref C19) [.ref C0, .ref C1, .ref C2, .ref C3, .ref C4, .ref C5, .ref C6, .ref C7, .ref C8, .ref C9, .ref C10, .ref C11, .ref C12, .ref C13, .ref C14, .ref C15, .ref C16, .ref C17, .ref C18, .ref C20, .ref C21, .ref C22, .ref C23, .ref C24] = some false)
    (km19 : PySem.W.kitOne K (.ref C19) (.ref CM) = some true)
    (kv19 : PySem.W.kitOne K (.ref C19) (.type "ValueError") = some true)
    (ha20 : PySem.W.findIn K (.ref C20) "__class__" = some (some (.builtin "object.__class__")))
    (hm20 : PySem.W.mroIn K C20 (.type "object") = some true)
    (ka20 : PySem.W.kitAny K (.ref C20) [.ref C0, .ref C1, .ref C2, .ref C3, .ref C4, .ref C5, .ref C6, .ref C7, .ref C8, .ref C9, .ref C10, .ref C11, .ref C12, .ref C13, .ref C14, .ref C15, .ref C16, .ref C17, .ref C18, .ref C19, .ref C21, .ref C22, .ref C23, .ref C24] = some false)
    (km20 : PySem.W.kitOne K (.ref C20) (.ref CM) = some true)
    (kv20 : PySem.W.kitOne K (.ref C20) (.type "ValueError") = some true)
    (ha21 : PySem.W.findIn K (.ref C21) "__class__" = some (some (.builtin "object.__class__")))
    (hm21 : PySem.W.mroIn K C21 (.type "object") = some true)
    (ka21 : PySem.W.kitAny K (.ref C21) [.ref C0, .ref C1, .ref C2, .ref C3, .ref C4, .ref C5, .ref C6, .ref C7, .ref C8, .ref C9, .ref C10, .ref C11, .ref C12, .ref C13, .ref C14, .ref C15, .ref C16, .ref C17, .ref C18, .ref C19, .ref C20, .ref C22, .ref C23, .ref C24] = some false)
    (km21 : PySem.W.kitOne K (.ref C21) (.ref CM) = some true)
    (kv21 : PySem.W.kitOne K (.ref C21) (.type "ValueError") = some true)
    (hg21 : PySem.W.findIn K (.ref C21) "__getattribute__" = some (some (.builtin "BaseException.__getattribute__")))
    (hk21 : PySem.W.findIn K (.ref C21) "__getattr__" = some none)
    (hs21 : PySem.W.subIn K (.ref C21) (.type "BaseException") = some true)
    (hd21 : PySem.W.hasDictIn K C21 = true)
    (ha22 : PySem.W.findIn K (.ref C22) "__class__" = some (some (.builtin "object.__class__")))
    (hm22 : PySem.W.mroIn K C22 (.type "object") = some true)
    (ka22 : PySem.W.kitAny K (.ref C22) [.ref C0, .ref C1, .ref C2, .ref C3, .ref C4, .ref C5, .ref C6, .ref C7, .ref C8, .ref C9, .ref C10, .ref C11, .ref C12, .ref C13, .ref C14, .ref C15, .ref C16, .ref C17, .ref C18, .ref C19, .ref C20, .ref C21, .ref C23, .ref C24] = some false)
    (km22 : PySem.W.kitOne K (.ref C22) (.ref CM) = some true)
    (kv22 : PySem.W.kitOne K (.ref C22) (.type "ValueError") = some true)
    (hg22 : PySem.W.findIn K (.ref C22) "__getattribute__" = some (some (.builtin "BaseException.__getattribute__")))
    (hk22 : PySem.W.findIn K (.ref C22) "__getattr__" = some none)
    (hs22 : PySem.W.subIn K (.ref C22) (.type "BaseException") = some true)
    (hd22 : PySem.W.hasDictIn K C22 = true)
    (ha23 : PySem.W.findIn K (.ref C23) "__class__" = some (some (.builtin "object.__class__")))
    (hm23 : PySem.W.mroIn K C23 (.type "object") = some true)
    (ka23 : PySem.W.kitAny K (.ref C23) [.ref C0, .ref C1, .ref C2, .ref C3, .ref C4, .ref C5, .ref C6, .ref C7, .ref C8, .ref C9, .ref C10, .ref C11, .ref C12, .ref C13, .ref C14, .ref C15, .ref C16, .ref C17, .ref C18, .ref C19, .ref C20, .ref C21, .ref C22, .ref C24] = some false)
    (km23 : PySem.W.kitOne K (.ref C23) (.ref CM) = some true)
    (kv23 : PySem.W.kitOne K (.ref C23) (.type "ValueError") = some true)
    (hg23 : PySem.W.findIn K (.ref C23) "__getattribute__" = some (some (.builtin "BaseException.__getattribute__")))
    (hk23 : PySem.W.findIn K (.ref C23) "__getattr__" = some none)
    (hs23 : PySem.W.subIn K (.ref C23) (.type "BaseException") = some true)
    (hd23 : PySem.W.hasDictIn K C23 = true)
    (ha24 : PySem.W.findIn K (.ref C24) "__class__" = some (some (.builtin "object.__class__")))
    (hm24 : PySem.W.mroIn K C24 (.type "object") = some true)
    (ka24 : PySem.W.kitAny K (.ref C24) [.ref C0, .ref C1, .ref C2, .ref C3, .ref C4, .ref C5, .ref C6, .ref C7, .ref C8, .ref C9, .ref C10, .ref C11, .ref C12, .ref C13, .ref C14, .ref C15, .ref C16, .ref C17, .ref C18, .ref C19, .ref C20, .ref C21, .ref C22, .ref C23] = some false)
    (km24 : PySem.W.kitOne K (.ref C24) (.ref CM) = some true)
    (kv24 : PySem.W.kitOne K (.ref C24) (.type "ValueError") = some true)
    (hg24 : PySem.W.findIn K (.ref C24) "__getattribute__" = some (some (.builtin "BaseException.__getattribute__")))
    (hk24 : PySem.W.findIn K (.ref C24) "__getattr__" = some none)
    (hs24 : PySem.W.subIn K (.ref C24) (.type "BaseException") = some true)
    (hd24 : PySem.W.hasDictIn K C24 = true) :
    ∃ fd : FuncData, (∀ (s : Shared) (u : Value), BindsTo s fd ⟨[u], []⟩ [("script", u)]) ∧ ∀ base : Heap, K.In base → base.Ns mainGlobals mg → FnG P w K mg base (CXe P w) 8 fa fd ["script"] (spLaw K) := by
  have e := hfa.symm.trans (PySem.W.mg_of X G a_law)
  cases e
  have B0 : Blt mg := ⟨PySem.W.mg_none_of X G z_isinstance, PySem.W.mg_none_of X G z_int, PySem.W.mg_none_of X G z_bool, PySem.W.mg_none_of X G z_list, PySem.W.mg_none_of X G z_len, PySem.W.mg_none_of X G z_range, PySem.W.mg_none_of X G z_repr⟩
  have EC : ∀ i, i < 25 → ExcC K ((fun i => [C0, C1, C2, C3, C4, C5, C6, C7, C8, C9, C10, C11, C12, C13, C14, C15, C16, C17, C18, C19, C20, C21, C22, C23, C24].getD i 0) i) := fun i hi => match i, hi with
    | 0, _ => ⟨x_BadRules.xf.ga, x_BadRules.xf.gg, x_BadRules.xf.exC, x_BadRules.xf.hdC, ha0, hn, ht, hm0⟩
    | 1, _ => ⟨x_BadBag.xf.ga, x_BadBag.xf.gg, x_BadBag.xf.exC, x_BadBag.xf.hdC, ha1, hn, ht, hm1⟩
    | 2, _ => ⟨x_BadRoom.xf.ga, x_BadRoom.xf.gg, x_BadRoom.xf.exC, x_BadRoom.xf.hdC, ha2, hn, ht, hm2⟩
    | 3, _ => ⟨x_BadCell.xf.ga, x_BadCell.xf.gg, x_BadCell.xf.exC, x_BadCell.xf.hdC, ha3, hn, ht, hm3⟩
    | 4, _ => ⟨x_BadMouth.xf.ga, x_BadMouth.xf.gg, x_BadMouth.xf.exC, x_BadMouth.xf.hdC, ha4, hn, ht, hm4⟩
    | 5, _ => ⟨x_BadLevel.xf.ga, x_BadLevel.xf.gg, x_BadLevel.xf.exC, x_BadLevel.xf.hdC, ha5, hn, ht, hm5⟩
    | 6, _ => ⟨x_BadPath.xf.ga, x_BadPath.xf.gg, x_BadPath.xf.exC, x_BadPath.xf.hdC, ha6, hn, ht, hm6⟩
    | 7, _ => ⟨x_BadPlay.xf.ga, x_BadPlay.xf.gg, x_BadPlay.xf.exC, x_BadPlay.xf.hdC, ha7, hn, ht, hm7⟩
    | 8, _ => ⟨x_BadOutcome.xf.ga, x_BadOutcome.xf.gg, x_BadOutcome.xf.exC, x_BadOutcome.xf.hdC, ha8, hn, ht, hm8⟩
    | 9, _ => ⟨x_BadTable.xf.ga, x_BadTable.xf.gg, x_BadTable.xf.exC, x_BadTable.xf.hdC, ha9, hn, ht, hm9⟩
    | 10, _ => ⟨x_BadFrail.xf.ga, x_BadFrail.xf.gg, x_BadFrail.xf.exC, x_BadFrail.xf.hdC, ha10, hn, ht, hm10⟩
    | 11, _ => ⟨x_BadFull.xf.ga, x_BadFull.xf.gg, x_BadFull.xf.exC, x_BadFull.xf.hdC, ha11, hn, ht, hm11⟩
    | 12, _ => ⟨x_BadGrammar.xf.ga, x_BadGrammar.xf.gg, x_BadGrammar.xf.exC, x_BadGrammar.xf.hdC, ha12, hn, ht, hm12⟩
    | 13, _ => ⟨x_BadDerivation.xf.ga, x_BadDerivation.xf.gg, x_BadDerivation.xf.exC, x_BadDerivation.xf.hdC, ha13, hn, ht, hm13⟩
    | 14, _ => ⟨x_BadName.xf.ga, x_BadName.xf.gg, x_BadName.xf.exC, x_BadName.xf.hdC, ha14, hn, ht, hm14⟩
    | 15, _ => ⟨x_BadCount.xf.ga, x_BadCount.xf.gg, x_BadCount.xf.exC, x_BadCount.xf.hdC, ha15, hn, ht, hm15⟩
    | 16, _ => ⟨x_BadWish.xf.ga, x_BadWish.xf.gg, x_BadWish.xf.exC, x_BadWish.xf.hdC, ha16, hn, ht, hm16⟩
    | 17, _ => ⟨x_BadPrices.xf.ga, x_BadPrices.xf.gg, x_BadPrices.xf.exC, x_BadPrices.xf.hdC, ha17, hn, ht, hm17⟩
    | 18, _ => ⟨x_BadNumber.xf.ga, x_BadNumber.xf.gg, x_BadNumber.xf.exC, x_BadNumber.xf.hdC, ha18, hn, ht, hm18⟩
    | 19, _ => ⟨x_BadIndex.xf.ga, x_BadIndex.xf.gg, x_BadIndex.xf.exC, x_BadIndex.xf.hdC, ha19, hn, ht, hm19⟩
    | 20, _ => ⟨x_BadText.xf.ga, x_BadText.xf.gg, x_BadText.xf.exC, x_BadText.xf.hdC, ha20, hn, ht, hm20⟩
    | 21, _ => ⟨hg21, hk21, hs21, hd21, ha21, hn, ht, hm21⟩
    | 22, _ => ⟨hg22, hk22, hs22, hd22, ha22, hn, ht, hm22⟩
    | 23, _ => ⟨hg23, hk23, hs23, hd23, ha23, hn, ht, hm23⟩
    | 24, _ => ⟨hg24, hk24, hs24, hd24, ha24, hn, ht, hm24⟩
    | n + 25, h => absurd h (by omega)
  have KIT : ∀ i j, i < 25 → j < 25 → PySem.W.kitOne K (.ref ((fun i => [C0, C1, C2, C3, C4, C5, C6, C7, C8, C9, C10, C11, C12, C13, C14, C15, C16, C17, C18, C19, C20, C21, C22, C23, C24].getD i 0) i)) (.ref ((fun i => [C0, C1, C2, C3, C4, C5, C6, C7, C8, C9, C10, C11, C12, C13, C14, C15, C16, C17, C18, C19, C20, C21, C22, C23, C24].getD i 0) j)) = some (decide (i = j)) := fun i j hi hj => kit25 (cs := [C0, C1, C2, C3, C4, C5, C6, C7, C8, C9, C10, C11, C12, C13, C14, C15, C16, C17, C18, C19, C20, C21, C22, C23, C24]) rfl (fun i hi => match i, hi with
    | 0, _ => ka0
    | 1, _ => ka1
    | 2, _ => ka2
    | 3, _ => ka3
    | 4, _ => ka4
    | 5, _ => ka5
    | 6, _ => ka6
    | 7, _ => ka7
    | 8, _ => ka8
    | 9, _ => ka9
    | 10, _ => ka10
    | 11, _ => ka11
    | 12, _ => ka12
    | 13, _ => ka13
    | 14, _ => ka14
    | 15, _ => ka15
    | 16, _ => ka16
    | 17, _ => ka17
    | 18, _ => ka18
    | 19, _ => ka19
    | 20, _ => ka20
    | 21, _ => ka21
    | 22, _ => ka22
    | 23, _ => ka23
    | 24, _ => ka24
    | n + 25, h => absurd h (by omega)) hi hj
  have KM : ∀ i, i < 25 → PySem.W.kitOne K (.ref ((fun i => [C0, C1, C2, C3, C4, C5, C6, C7, C8, C9, C10, C11, C12, C13, C14, C15, C16, C17, C18, C19, C20, C21, C22, C23, C24].getD i 0) i)) (.ref CM) = some true := fun i hi => match i, hi with
    | 0, _ => km0
    | 1, _ => km1
    | 2, _ => km2
    | 3, _ => km3
    | 4, _ => km4
    | 5, _ => km5
    | 6, _ => km6
    | 7, _ => km7
    | 8, _ => km8
    | 9, _ => km9
    | 10, _ => km10
    | 11, _ => km11
    | 12, _ => km12
    | 13, _ => km13
    | 14, _ => km14
    | 15, _ => km15
    | 16, _ => km16
    | 17, _ => km17
    | 18, _ => km18
    | 19, _ => km19
    | 20, _ => km20
    | 21, _ => km21
    | 22, _ => km22
    | 23, _ => km23
    | 24, _ => km24
    | n + 25, h => absurd h (by omega)
  have KV : ∀ i, i < 25 → PySem.W.kitOne K (.ref ((fun i => [C0, C1, C2, C3, C4, C5, C6, C7, C8, C9, C10, C11, C12, C13, C14, C15, C16, C17, C18, C19, C20, C21, C22, C23, C24].getD i 0) i)) (.type "ValueError") = some true := fun i hi => match i, hi with
    | 0, _ => kv0
    | 1, _ => kv1
    | 2, _ => kv2
    | 3, _ => kv3
    | 4, _ => kv4
    | 5, _ => kv5
    | 6, _ => kv6
    | 7, _ => kv7
    | 8, _ => kv8
    | 9, _ => kv9
    | 10, _ => kv10
    | 11, _ => kv11
    | 12, _ => kv12
    | 13, _ => kv13
    | 14, _ => kv14
    | 15, _ => kv15
    | 16, _ => kv16
    | 17, _ => kv17
    | 18, _ => kv18
    | 19, _ => kv19
    | 20, _ => kv20
    | 21, _ => kv21
    | 22, _ => kv22
    | 23, _ => kv23
    | 24, _ => kv24
    | n + 25, h => absurd h (by omega)
  have CTX : CT P K mg (fun i => [C0, C1, C2, C3, C4, C5, C6, C7, C8, C9, C10, C11, C12, C13, C14, C15, C16, C17, C18, C19, C20, C21, C22, C23, C24].getD i 0) (fun i => [f0, f1, f2, f3, f4, f5, f6, f7, f8, f9, f10, f11, f12, f13, f14, f15, f16, f17, f18, f19, f20].getD i 0) CM := { g_BadRules := x_BadRules.gC, g_BadBag := x_BadBag.gC, g_BadRoom := x_BadRoom.gC, g_BadCell := x_BadCell.gC, g_BadMouth := x_BadMouth.gC, g_BadLevel := x_BadLevel.gC, g_BadPath := x_BadPath.gC, g_BadPlay := x_BadPlay.gC, g_BadOutcome := x_BadOutcome.gC, g_BadTable := x_BadTable.gC, g_BadFrail := x_BadFrail.gC, g_BadFull := x_BadFull.gC, g_BadGrammar := x_BadGrammar.gC, g_BadDerivation := x_BadDerivation.gC, g_BadName := x_BadName.gC, g_BadCount := x_BadCount.gC, g_BadWish := x_BadWish.gC, g_BadPrices := x_BadPrices.gC, g_BadNumber := x_BadNumber.gC, g_BadIndex := x_BadIndex.gC, g_BadText := x_BadText.gC, g_BadPaper := x_BadPaper.gC, g_NoPaper := x_NoPaper.gC, g_NothingDone := x_NothingDone.gC, g_TooMany := x_TooMany.gC, x_BadRules := x_BadRules, x_BadBag := x_BadBag, x_BadRoom := x_BadRoom, x_BadCell := x_BadCell, x_BadMouth := x_BadMouth, x_BadLevel := x_BadLevel, x_BadPath := x_BadPath, x_BadPlay := x_BadPlay, x_BadOutcome := x_BadOutcome, x_BadTable := x_BadTable, x_BadFrail := x_BadFrail, x_BadFull := x_BadFull, x_BadGrammar := x_BadGrammar, x_BadDerivation := x_BadDerivation, x_BadName := x_BadName, x_BadCount := x_BadCount, x_BadWish := x_BadWish, x_BadPrices := x_BadPrices, x_BadNumber := x_BadNumber, x_BadIndex := x_BadIndex, x_BadText := x_BadText, x_BadPaper := x_BadPaper, x_NoPaper := x_NoPaper, x_NothingDone := x_NothingDone, x_TooMany := x_TooMany, g_MazeError := PySem.W.mg_of X G gM, n_isinstance := PySem.W.mg_none_of X G z_isinstance, n_repr := PySem.W.mg_none_of X G z_repr, n_len := PySem.W.mg_none_of X G z_len, n_range := PySem.W.mg_none_of X G z_range, n_all := PySem.W.mg_none_of X G z_all, n_ValueError := PySem.W.mg_none_of X G z_ValueError, ec := EC, kit := KIT, kM := KM, kV := KV }
  refine ⟨d_law, ?_, fun base _ _ => ?_⟩
  · obtain ⟨oc, od, kV, doc, pm, an, cdv, ct, osl, rfl, lk, hcd⟩ := F_law.ex
    exact fun s v => .of_eq rfl
  have b__law_pool := F__law_pool.binds (ps := ["script"]) fun _ _ _ _ _ _ us hl => match us, hl with | [_], _ => rfl
  have b__law_draw := F__law_draw.binds (ps := ["pool", "many"]) fun _ _ _ _ _ _ us hl => match us, hl with | [_, _], _ => rfl
  have b__law_odd := F__law_odd.binds (ps := ["pool"]) fun _ _ _ _ _ _ us hl => match us, hl with | [_], _ => rfl
  have b__law_first_kinds := F__law_first_kinds.binds (ps := ["e"]) fun _ _ _ _ _ _ us hl => match us, hl with | [_], _ => rfl
  have b__law_kinds := F__law_kinds.binds (ps := ["e"]) fun _ _ _ _ _ _ us hl => match us, hl with | [_], _ => rfl
  have b__law_first := F__law_first.binds (ps := ["thing"]) fun _ _ _ _ _ _ us hl => match us, hl with | [_], _ => rfl
  have b__law_second := F__law_second.binds (ps := ["thing"]) fun _ _ _ _ _ _ us hl => match us, hl with | [_], _ => rfl
  have c__law_pool : CalG P w K mg base 1 "_law_pool" (spPool K) := ⟨f__law_pool, d__law_pool, _, ok_pool F__law_pool B0, PySem.W.mg_of X G a__law_pool, F__law_pool.kp, b__law_pool⟩
  have c__law_draw : CalG P w K mg base 1 "_law_draw" (spDraw K) := ⟨f__law_draw, d__law_draw, _, ok_draw F__law_draw B0, PySem.W.mg_of X G a__law_draw, F__law_draw.kp, b__law_draw⟩
  have c__law_odd : CalG P w K mg base 2 "_law_odd" (spOdd K) := ⟨f__law_odd, d__law_odd, _, ok_odd (k1 := 0) F__law_odd B0 c__law_draw, PySem.W.mg_of X G a__law_odd, F__law_odd.kp, b__law_odd⟩
  have c__law_first_kinds : CalG P w K mg base 1 "_law_first_kinds" (spKinds (fun i => [C0, C1, C2, C3, C4, C5, C6, C7, C8, C9, C10, C11, C12, C13, C14, C15, C16, C17, C18, C19, C20, C21, C22, C23, C24].getD i 0) 13) := ⟨f__law_first_kinds, d__law_first_kinds, _, ok_fk F__law_first_kinds CTX, PySem.W.mg_of X G a__law_first_kinds, F__law_first_kinds.kp, b__law_first_kinds⟩
  have c__law_kinds : CalG P w K mg base 2 "_law_kinds" (spKinds (fun i => [C0, C1, C2, C3, C4, C5, C6, C7, C8, C9, C10, C11, C12, C13, C14, C15, C16, C17, C18, C19, C20, C21, C22, C23, C24].getD i 0) 25) := ⟨f__law_kinds, d__law_kinds, _, ok_k F__law_kinds CTX c__law_first_kinds, PySem.W.mg_of X G a__law_kinds, F__law_kinds.kp, b__law_kinds⟩
  have c__law_first : CalG P w K mg base 1 "_law_first" (spMade (fun i => [C0, C1, C2, C3, C4, C5, C6, C7, C8, C9, C10, C11, C12, C13, C14, C15, C16, C17, C18, C19, C20, C21, C22, C23, C24].getD i 0) 12 0) := ⟨f__law_first, d__law_first, _, ok_first F__law_first CTX, PySem.W.mg_of X G a__law_first, F__law_first.kp, b__law_first⟩
  have c__law_second : CalG P w K mg base 1 "_law_second" (spMade (fun i => [C0, C1, C2, C3, C4, C5, C6, C7, C8, C9, C10, C11, C12, C13, C14, C15, C16, C17, C18, C19, C20, C21, C22, C23, C24].getD i 0) 9 12) := ⟨f__law_second, d__law_second, _, ok_second F__law_second CTX, PySem.W.mg_of X G a__law_second, F__law_second.kp, b__law_second⟩
  exact ok_law F_law CTX c__law_pool c__law_odd c__law_first c__law_second c__law_kinds
theorem walk {l : PySem.W.OpenLaw} {q : Program} {loose : List Str} {XP : (Str → Option Value) → Heap → Prop} {YP : World → Heap → Prop} {d : DefRec} {K : Params → PySem.W.Frag} (hn : l.most = some 63) (hdf : d.params.defaults = [])
    (hY : ∀ (w : World) (h : Heap), YP w h → (K w.params).In h)
    (F : ∀ (w : World) (mg : Str → Option Value) (fa : Addr) (h : Heap), (K w.params).In h → h.Ns mainGlobals mg → mg d.name = some (.ref fa) →
      ∃ fd : FuncData, (∀ (s : Shared) (u : Value), BindsTo s fd ⟨[u], []⟩ [("script", u)]) ∧ ∀ base : Heap, (K w.params).In base → base.Ns mainGlobals mg → FnG l.prog w (K w.params) mg base (CXe l.prog w) 8 fa fd ["script"] (spLaw (K w.params))) :
    PySem.W.WalkO q loose XP YP l.row.toRowW d [] (fun f vs => PySem.call f vs) :=
  L2.walk_ofG (n := 63) (k := 8) (x := "script") (CX := fun w => CXe l.prog w) (sp := fun w => spLaw (K w.params)) hn (by decide) hdf ⟨rfl, by decide, by decide⟩ hY F (fun _ _ a ns hl _ hS => ⟨a, ns, rfl, hS, hl, fun _ => rfl⟩) fun w H s e s' z => by
    obtain ⟨_, _, _, _, _, _, _, _, _, _, _, _, hE⟩ := z
    exact hE
end K01
end
section
set_option Elab.async false
set_option maxRecDepth 100000
open PySem PySem.W PyProof.Rows
set_option maxRecDepth 100000 in
set_option maxHeartbeats 0 in
theorem PySem.Challenge.cw_roomsthrough_k01_errors_of_the_package_holds : PySem.Challenge.rw_roomsthrough_k01_errors_of_the_package.Holds := by
  w_on; o_law; k_head; (case hw => w_witness2)
  k_fill
  refine K01.walk (l := PySem.Challenge.rw_roomsthrough_k01_errors_of_the_package) rfl rfl (fun w h Y => PySem.W.kIn_of Y) ?F
  case F =>
    intro w mg fa h KX G hmg
    refine' K01.all_mk KX G hmg ?a__law_pool ?F__law_pool ?a__law_draw ?F__law_draw ?a__law_odd ?F__law_odd ?a__law_first_kinds ?F__law_first_kinds ?a__law_kinds ?F__law_kinds ?a__law_first ?F__law_first ?a__law_second ?F__law_second ?a_law ?F_law ?x_BadRules ?x_BadBag ?x_BadRoom ?x_BadCell ?x_BadMouth ?x_BadLevel ?x_BadPath ?x_BadPlay ?x_BadOutcome ?x_BadTable ?x_BadFrail ?x_BadFull ?x_BadGrammar ?x_BadDerivation ?x_BadName ?x_BadCount ?x_BadWish ?x_BadPrices ?x_BadNumber ?x_BadIndex ?x_BadText ?z_isinstance ?z_int ?z_bool ?z_list ?z_len ?z_range ?z_abs ?z_tuple ?z_str ?z_repr ?z_all ?z_ValueError ?x_BadPaper ?x_NoPaper ?x_NothingDone ?x_TooMany ?gM ?hn ?ht ?ha0 ?hm0 ?ka0 ?km0 ?kv0 ?ha1 ?hm1 ?ka1 ?km1 ?kv1 ?ha2 ?hm2 ?ka2 ?km2 ?kv2 ?ha3 ?hm3 ?ka3 ?km3 ?kv3 ?ha4 ?hm4 ?ka4 ?km4 ?kv4 ?ha5 ?hm5 ?ka5 ?km5 ?kv5 ?ha6 ?hm6 ?ka6 ?km6 ?kv6 ?ha7 ?hm7 ?ka7 ?km7 ?kv7 ?ha8 ?hm8 ?ka8 ?km8 ?kv8 ?ha9 ?hm9 ?ka9 ?km9 ?kv9 ?ha10 ?hm10 ?ka10 ?km10 ?kv10 ?ha11 ?hm11 ?ka11 ?km11 ?kv11 ?ha12 ?hm12 ?ka12 ?km12 ?kv12 ?ha13 ?hm13 ?ka13 ?km13 ?kv13 ?ha14 ?hm14 ?ka14 ?km14 ?kv14 ?ha15 ?hm15 ?ka15 ?km15 ?kv15 ?ha16 ?hm16 ?ka16 ?km16 ?kv16 ?ha17 ?hm17 ?ka17 ?km17 ?kv17 ?ha18 ?hm18 ?ka18 ?km18 ?kv18 ?ha19 ?hm19 ?ka19 ?km19 ?kv19 ?ha20 ?hm20 ?ka20 ?km20 ?kv20 ?ha21 ?hm21 ?ka21 ?km21 ?kv21 ?hg21 ?hk21 ?hs21 ?hd21 ?ha22 ?hm22 ?ka22 ?km22 ?kv22 ?hg22 ?hk22 ?hs22 ?hd22 ?ha23 ?hm23 ?ka23 ?km23 ?kv23 ?hg23 ?hk23 ?hs23 ?hd23 ?ha24 ?hm24 ?ka24 ?km24 ?kv24 ?hg24 ?hk24 ?hs24 ?hd24
    (case a__law_pool => k_is)
    (case F__law_pool => (refine' L2.fun_mk ?l__law_pool ?c__law_pool ?q__law_pool; (case l__law_pool => k_is); (case c__law_pool => k_is); (case q__law_pool => k_is)))
    (case a__law_draw => k_is)
    (case F__law_draw => (refine' L2.fun_mk ?l__law_draw ?c__law_draw ?q__law_draw; (case l__law_draw => k_is); (case c__law_draw => k_is); (case q__law_draw => k_is)))
    (case a__law_odd => k_is)
    (case F__law_odd => (refine' L2.fun_mk ?l__law_odd ?c__law_odd ?q__law_odd; (case l__law_odd => k_is); (case c__law_odd => k_is); (case q__law_odd => k_is)))
    (case a__law_first_kinds => k_is)
    (case F__law_first_kinds => (refine' L2.fun_mk ?l__law_first_kinds ?c__law_first_kinds ?q__law_first_kinds; (case l__law_first_kinds => k_is); (case c__law_first_kinds => k_is); (case q__law_first_kinds => k_is)))
    (case a__law_kinds => k_is)
    (case F__law_kinds => (refine' L2.fun_mk ?l__law_kinds ?c__law_kinds ?q__law_kinds; (case l__law_kinds => k_is); (case c__law_kinds => k_is); (case q__law_kinds => k_is)))
    (case a__law_first => k_is)
    (case F__law_first => (refine' L2.fun_mk ?l__law_first ?c__law_first ?q__law_first; (case l__law_first => k_is); (case c__law_first => k_is); (case q__law_first => k_is)))
    (case a__law_second => k_is)
    (case F__law_second => (refine' L2.fun_mk ?l__law_second ?c__law_second ?q__law_second; (case l__law_second => k_is); (case c__law_second => k_is); (case q__law_second => k_is)))
    (case a_law => k_is)
    (case F_law => (refine' L2.fun_mk ?l_law ?c_law ?q_law; (case l_law => k_is); (case c_law => k_is); (case q_law => k_is)))
    (case x_BadRules =>
      refine' RX.errT_mk KX G ?y_BadRules_gC ?y_BadRules_cls ?y_BadRules_rv ?y_BadRules_sa ?y_BadRules_ga ?y_BadRules_gg ?y_BadRules_noN ?y_BadRules_iC ?y_BadRules_tC ?y_BadRules_kC ?y_BadRules_exC ?y_BadRules_tyC ?y_BadRules_hdC ?y_BadRules_icC ?y_BadRules_sC ?y_BadRules_veC ?y_BadRules_selfM ?y_BadRules_up ?y_BadRules_third ?y_BadRules_noS ?y_BadRules_top ?y_BadRules_fl ?y_BadRules_bd ?y_BadRules_l ?y_BadRules_cd ?y_BadRules_lc ?y_BadRules_v2 ?y_BadRules_vf ?y_BadRules_lcc ?y_BadRules_ln
      (case y_BadRules_gC => k_is); (case y_BadRules_cls => k_is); (case y_BadRules_rv => decide +kernel); (case y_BadRules_sa => k_is); (case y_BadRules_ga => k_is); (case y_BadRules_gg => k_is); (case y_BadRules_noN => k_is); (case y_BadRules_iC => k_is); (case y_BadRules_tC => k_is); (case y_BadRules_kC => k_is); (case y_BadRules_exC => k_is); (case y_BadRules_tyC => k_is); (case y_BadRules_hdC => k_is); (case y_BadRules_icC => k_is); (case y_BadRules_sC => first | rfl | k_is); (case y_BadRules_veC => k_is); (case y_BadRules_selfM => k_is); (case y_BadRules_up => ks_is); (case y_BadRules_third => k_is); (case y_BadRules_noS => k_is); (case y_BadRules_top => decide +kernel); (case y_BadRules_fl => decide +kernel); (case y_BadRules_bd => intros; rfl); (case y_BadRules_l => k_is); (case y_BadRules_cd => k_is); (case y_BadRules_lc => k_is); (case y_BadRules_v2 => rfl); (case y_BadRules_vf => decide +kernel); (case y_BadRules_lcc => k_is); (case y_BadRules_ln => rfl))
    (case x_BadBag =>
      refine' RX.errT_mk KX G ?y_BadBag_gC ?y_BadBag_cls ?y_BadBag_rv ?y_BadBag_sa ?y_BadBag_ga ?y_BadBag_gg ?y_BadBag_noN ?y_BadBag_iC ?y_BadBag_tC ?y_BadBag_kC ?y_BadBag_exC ?y_BadBag_tyC ?y_BadBag_hdC ?y_BadBag_icC ?y_BadBag_sC ?y_BadBag_veC ?y_BadBag_selfM ?y_BadBag_up ?y_BadBag_third ?y_BadBag_noS ?y_BadBag_top ?y_BadBag_fl ?y_BadBag_bd ?y_BadBag_l ?y_BadBag_cd ?y_BadBag_lc ?y_BadBag_v2 ?y_BadBag_vf ?y_BadBag_lcc ?y_BadBag_ln
      (case y_BadBag_gC => k_is); (case y_BadBag_cls => k_is); (case y_BadBag_rv => decide +kernel); (case y_BadBag_sa => k_is); (case y_BadBag_ga => k_is); (case y_BadBag_gg => k_is); (case y_BadBag_noN => k_is); (case y_BadBag_iC => k_is); (case y_BadBag_tC => k_is); (case y_BadBag_kC => k_is); (case y_BadBag_exC => k_is); (case y_BadBag_tyC => k_is); (case y_BadBag_hdC => k_is); (case y_BadBag_icC => k_is); (case y_BadBag_sC => first | rfl | k_is); (case y_BadBag_veC => k_is); (case y_BadBag_selfM => k_is); (case y_BadBag_up => ks_is); (case y_BadBag_third => k_is); (case y_BadBag_noS => k_is); (case y_BadBag_top => decide +kernel); (case y_BadBag_fl => decide +kernel); (case y_BadBag_bd => intros; rfl); (case y_BadBag_l => k_is); (case y_BadBag_cd => k_is); (case y_BadBag_lc => k_is); (case y_BadBag_v2 => rfl); (case y_BadBag_vf => decide +kernel); (case y_BadBag_lcc => k_is); (case y_BadBag_ln => rfl))
    (case x_BadRoom =>
      refine' RX.errT_mk KX G ?y_BadRoom_gC ?y_BadRoom_cls ?y_BadRoom_rv ?y_BadRoom_sa ?y_BadRoom_ga ?y_BadRoom_gg ?y_BadRoom_noN ?y_BadRoom_iC ?y_BadRoom_tC ?y_BadRoom_kC ?y_BadRoom_exC ?y_BadRoom_tyC ?y_BadRoom_hdC ?y_BadRoom_icC ?y_BadRoom_sC ?y_BadRoom_veC ?y_BadRoom_selfM ?y_BadRoom_up ?y_BadRoom_third ?y_BadRoom_noS ?y_BadRoom_top ?y_BadRoom_fl ?y_BadRoom_bd ?y_BadRoom_l ?y_BadRoom_cd ?y_BadRoom_lc ?y_BadRoom_v2 ?y_BadRoom_vf ?y_BadRoom_lcc ?y_BadRoom_ln
      (case y_BadRoom_gC => k_is); (case y_BadRoom_cls => k_is); (case y_BadRoom_rv => decide +kernel); (case y_BadRoom_sa => k_is); (case y_BadRoom_ga => k_is); (case y_BadRoom_gg => k_is); (case y_BadRoom_noN => k_is); (case y_BadRoom_iC => k_is); (case y_BadRoom_tC => k_is); (case y_BadRoom_kC => k_is); (case y_BadRoom_exC => k_is); (case y_BadRoom_tyC => k_is); (case y_BadRoom_hdC => k_is); (case y_BadRoom_icC => k_is); (case y_BadRoom_sC => first | rfl | k_is); (case y_BadRoom_veC => k_is); (case y_BadRoom_selfM => k_is); (case y_BadRoom_up => ks_is); (case y_BadRoom_third => k_is); (case y_BadRoom_noS => k_is); (case y_BadRoom_top => decide +kernel); (case y_BadRoom_fl => decide +kernel); (case y_BadRoom_bd => intros; rfl); (case y_BadRoom_l => k_is); (case y_BadRoom_cd => k_is); (case y_BadRoom_lc => k_is); (case y_BadRoom_v2 => rfl); (case y_BadRoom_vf => decide +kernel); (case y_BadRoom_lcc => k_is); (case y_BadRoom_ln => rfl))
    (case x_BadCell =>
      refine' RX.errT_mk KX G ?y_BadCell_gC ?y_BadCell_cls ?y_BadCell_rv ?y_BadCell_sa ?y_BadCell_ga ?y_BadCell_gg ?y_BadCell_noN ?y_BadCell_iC ?y_BadCell_tC ?y_BadCell_kC ?y_BadCell_exC ?y_BadCell_tyC ?y_BadCell_hdC ?y_BadCell_icC ?y_BadCell_sC ?y_BadCell_veC ?y_BadCell_selfM ?y_BadCell_up ?y_BadCell_third ?y_BadCell_noS ?y_BadCell_top ?y_BadCell_fl ?y_BadCell_bd ?y_BadCell_l ?y_BadCell_cd ?y_BadCell_lc ?y_BadCell_v2 ?y_BadCell_vf ?y_BadCell_lcc ?y_BadCell_ln
      (case y_BadCell_gC => k_is); (case y_BadCell_cls => k_is); (case y_BadCell_rv => decide +kernel); (case y_BadCell_sa => k_is); (case y_BadCell_ga => k_is); (case y_BadCell_gg => k_is); (case y_BadCell_noN => k_is); (case y_BadCell_iC => k_is); (case y_BadCell_tC => k_is); (case y_BadCell_kC => k_is); (case y_BadCell_exC => k_is); (case y_BadCell_tyC => k_is); (case y_BadCell_hdC => k_is); (case y_BadCell_icC => k_is); (case y_BadCell_sC => first | rfl | k_is); (case y_BadCell_veC => k_is); (case y_BadCell_selfM => k_is); (case y_BadCell_up => ks_is); (case y_BadCell_third => k_is); (case y_BadCell_noS => k_is); (case y_BadCell_top => decide +kernel); (case y_BadCell_fl => decide +kernel); (case y_BadCell_bd => intros; rfl); (case y_BadCell_l => k_is); (case y_BadCell_cd => k_is); (case y_BadCell_lc => k_is); (case y_BadCell_v2 => rfl); (case y_BadCell_vf => decide +kernel); (case y_BadCell_lcc => k_is); (case y_BadCell_ln => rfl))
    (case x_BadMouth =>
      refine' RX.errT_mk KX G ?y_BadMouth_gC ?y_BadMouth_cls ?y_BadMouth_rv ?y_BadMouth_sa ?y_BadMouth_ga ?y_BadMouth_gg ?y_BadMouth_noN ?y_BadMouth_iC ?y_BadMouth_tC ?y_BadMouth_kC ?y_BadMouth_exC ?y_BadMouth_tyC ?y_BadMouth_hdC ?y_BadMouth_icC ?y_BadMouth_sC ?y_BadMouth_veC ?y_BadMouth_selfM ?y_BadMouth_up ?y_BadMouth_third ?y_BadMouth_noS ?y_BadMouth_top ?y_BadMouth_fl ?y_BadMouth_bd ?y_BadMouth_l ?y_BadMouth_cd ?y_BadMouth_lc ?y_BadMouth_v2 ?y_BadMouth_vf ?y_BadMouth_lcc ?y_BadMouth_ln
      (case y_BadMouth_gC => k_is); (case y_BadMouth_cls => k_is); (case y_BadMouth_rv => decide +kernel); (case y_BadMouth_sa => k_is); (case y_BadMouth_ga => k_is); (case y_BadMouth_gg => k_is); (case y_BadMouth_noN => k_is); (case y_BadMouth_iC => k_is); (case y_BadMouth_tC => k_is); (case y_BadMouth_kC => k_is); (case y_BadMouth_exC => k_is); (case y_BadMouth_tyC => k_is); (case y_BadMouth_hdC => k_is); (case y_BadMouth_icC => k_is); (case y_BadMouth_sC => first | rfl | k_is); (case y_BadMouth_veC => k_is); (case y_BadMouth_selfM => k_is); (case y_BadMouth_up => ks_is); (case y_BadMouth_third => k_is); (case y_BadMouth_noS => k_is); (case y_BadMouth_top => decide +kernel); (case y_BadMouth_fl => decide +kernel); (case y_BadMouth_bd => intros; rfl); (case y_BadMouth_l => k_is); (case y_BadMouth_cd => k_is); (case y_BadMouth_lc => k_is); (case y_BadMouth_v2 => rfl); (case y_BadMouth_vf => decide +kernel); (case y_BadMouth_lcc => k_is); (case y_BadMouth_ln => rfl))
    (case x_BadLevel =>
      refine' RX.errT_mk KX G ?y_BadLevel_gC ?y_BadLevel_cls ?y_BadLevel_rv ?y_BadLevel_sa ?y_BadLevel_ga ?y_BadLevel_gg ?y_BadLevel_noN ?y_BadLevel_iC ?y_BadLevel_tC ?y_BadLevel_kC ?y_BadLevel_exC ?y_BadLevel_tyC ?y_BadLevel_hdC ?y_BadLevel_icC ?y_BadLevel_sC ?y_BadLevel_veC ?y_BadLevel_selfM ?y_BadLevel_up ?y_BadLevel_third ?y_BadLevel_noS ?y_BadLevel_top ?y_BadLevel_fl ?y_BadLevel_bd ?y_BadLevel_l ?y_BadLevel_cd ?y_BadLevel_lc ?y_BadLevel_v2 ?y_BadLevel_vf ?y_BadLevel_lcc ?y_BadLevel_ln
      (case y_BadLevel_gC => k_is); (case y_BadLevel_cls => k_is); (case y_BadLevel_rv => decide +kernel); (case y_BadLevel_sa => k_is); (case y_BadLevel_ga => k_is); (case y_BadLevel_gg => k_is); (case y_BadLevel_noN => k_is); (case y_BadLevel_iC => k_is); (case y_BadLevel_tC => k_is); (case y_BadLevel_kC => k_is); (case y_BadLevel_exC => k_is); (case y_BadLevel_tyC => k_is); (case y_BadLevel_hdC => k_is); (case y_BadLevel_icC => k_is); (case y_BadLevel_sC => first | rfl | k_is); (case y_BadLevel_veC => k_is); (case y_BadLevel_selfM => k_is); (case y_BadLevel_up => ks_is); (case y_BadLevel_third => k_is); (case y_BadLevel_noS => k_is); (case y_BadLevel_top => decide +kernel); (case y_BadLevel_fl => decide +kernel); (case y_BadLevel_bd => intros; rfl); (case y_BadLevel_l => k_is); (case y_BadLevel_cd => k_is); (case y_BadLevel_lc => k_is); (case y_BadLevel_v2 => rfl); (case y_BadLevel_vf => decide +kernel); (case y_BadLevel_lcc => k_is); (case y_BadLevel_ln => rfl))
    (case x_BadPath =>
      refine' RX.errT_mk KX G ?y_BadPath_gC ?y_BadPath_cls ?y_BadPath_rv ?y_BadPath_sa ?y_BadPath_ga ?y_BadPath_gg ?y_BadPath_noN ?y_BadPath_iC ?y_BadPath_tC ?y_BadPath_kC ?y_BadPath_exC ?y_BadPath_tyC ?y_BadPath_hdC ?y_BadPath_icC ?y_BadPath_sC ?y_BadPath_veC ?y_BadPath_selfM ?y_BadPath_up ?y_BadPath_third ?y_BadPath_noS ?y_BadPath_top ?y_BadPath_fl ?y_BadPath_bd ?y_BadPath_l ?y_BadPath_cd ?y_BadPath_lc ?y_BadPath_v2 ?y_BadPath_vf ?y_BadPath_lcc ?y_BadPath_ln
      (case y_BadPath_gC => k_is); (case y_BadPath_cls => k_is); (case y_BadPath_rv => decide +kernel); (case y_BadPath_sa => k_is); (case y_BadPath_ga => k_is); (case y_BadPath_gg => k_is); (case y_BadPath_noN => k_is); (case y_BadPath_iC => k_is); (case y_BadPath_tC => k_is); (case y_BadPath_kC => k_is); (case y_BadPath_exC => k_is); (case y_BadPath_tyC => k_is); (case y_BadPath_hdC => k_is); (case y_BadPath_icC => k_is); (case y_BadPath_sC => first | rfl | k_is); (case y_BadPath_veC => k_is); (case y_BadPath_selfM => k_is); (case y_BadPath_up => ks_is); (case y_BadPath_third => k_is); (case y_BadPath_noS => k_is); (case y_BadPath_top => decide +kernel); (case y_BadPath_fl => decide +kernel); (case y_BadPath_bd => intros; rfl); (case y_BadPath_l => k_is); (case y_BadPath_cd => k_is); (case y_BadPath_lc => k_is); (case y_BadPath_v2 => rfl); (case y_BadPath_vf => decide +kernel); (case y_BadPath_lcc => k_is); (case y_BadPath_ln => rfl))
    (case x_BadPlay =>
      refine' RX.errT_mk KX G ?y_BadPlay_gC ?y_BadPlay_cls ?y_BadPlay_rv ?y_BadPlay_sa ?y_BadPlay_ga ?y_BadPlay_gg ?y_BadPlay_noN ?y_BadPlay_iC ?y_BadPlay_tC ?y_BadPlay_kC ?y_BadPlay_exC ?y_BadPlay_tyC ?y_BadPlay_hdC ?y_BadPlay_icC ?y_BadPlay_sC ?y_BadPlay_veC ?y_BadPlay_selfM ?y_BadPlay_up ?y_BadPlay_third ?y_BadPlay_noS ?y_BadPlay_top ?y_BadPlay_fl ?y_BadPlay_bd ?y_BadPlay_l ?y_BadPlay_cd ?y_BadPlay_lc ?y_BadPlay_v2 ?y_BadPlay_vf ?y_BadPlay_lcc ?y_BadPlay_ln
      (case y_BadPlay_gC => k_is); (case y_BadPlay_cls => k_is); (case y_BadPlay_rv => decide +kernel); (case y_BadPlay_sa => k_is); (case y_BadPlay_ga => k_is); (case y_BadPlay_gg => k_is); (case y_BadPlay_noN => k_is); (case y_BadPlay_iC => k_is); (case y_BadPlay_tC => k_is); (case y_BadPlay_kC => k_is); (case y_BadPlay_exC => k_is); (case y_BadPlay_tyC => k_is); (case y_BadPlay_hdC => k_is); (case y_BadPlay_icC => k_is); (case y_BadPlay_sC => first | rfl | k_is); (case y_BadPlay_veC => k_is); (case y_BadPlay_selfM => k_is); (case y_BadPlay_up => ks_is); (case y_BadPlay_third => k_is); (case y_BadPlay_noS => k_is); (case y_BadPlay_top => decide +kernel); (case y_BadPlay_fl => decide +kernel); (case y_BadPlay_bd => intros; rfl); (case y_BadPlay_l => k_is); (case y_BadPlay_cd => k_is); (case y_BadPlay_lc => k_is); (case y_BadPlay_v2 => rfl); (case y_BadPlay_vf => decide +kernel); (case y_BadPlay_lcc => k_is); (case y_BadPlay_ln => rfl))
    (case x_BadOutcome =>
      refine' RX.errT_mk KX G ?y_BadOutcome_gC ?y_BadOutcome_cls ?y_BadOutcome_rv ?y_BadOutcome_sa ?y_BadOutcome_ga ?y_BadOutcome_gg ?y_BadOutcome_noN ?y_BadOutcome_iC ?y_BadOutcome_tC ?y_BadOutcome_kC ?y_BadOutcome_exC ?y_BadOutcome_tyC ?y_BadOutcome_hdC ?y_BadOutcome_icC ?y_BadOutcome_sC ?y_BadOutcome_veC ?y_BadOutcome_selfM ?y_BadOutcome_up ?y_BadOutcome_third ?y_BadOutcome_noS ?y_BadOutcome_top ?y_BadOutcome_fl ?y_BadOutcome_bd ?y_BadOutcome_l ?y_BadOutcome_cd ?y_BadOutcome_lc ?y_BadOutcome_v2 ?y_BadOutcome_vf ?y_BadOutcome_lcc ?y_BadOutcome_ln
      (case y_BadOutcome_gC => k_is); (case y_BadOutcome_cls => k_is); (case y_BadOutcome_rv => decide +kernel); (case y_BadOutcome_sa => k_is); (case y_BadOutcome_ga => k_is); (case y_BadOutcome_gg => k_is); (case y_BadOutcome_noN => k_is); (case y_BadOutcome_iC => k_is); (case y_BadOutcome_tC => k_is); (case y_BadOutcome_kC => k_is); (case y_BadOutcome_exC => k_is); (case y_BadOutcome_tyC => k_is); (case y_BadOutcome_hdC => k_is); (case y_BadOutcome_icC => k_is); (case y_BadOutcome_sC => first | rfl | k_is); (case y_BadOutcome_veC => k_is); (case y_BadOutcome_selfM => k_is); (case y_BadOutcome_up => ks_is); (case y_BadOutcome_third => k_is); (case y_BadOutcome_noS => k_is); (case y_BadOutcome_top => decide +kernel); (case y_BadOutcome_fl => decide +kernel); (case y_BadOutcome_bd => intros; rfl); (case y_BadOutcome_l => k_is); (case y_BadOutcome_cd => k_is); (case y_BadOutcome_lc => k_is); (case y_BadOutcome_v2 => rfl); (case y_BadOutcome_vf => decide +kernel); (case y_BadOutcome_lcc => k_is); (case y_BadOutcome_ln => rfl))
    (case x_BadTable =>
      refine' RX.errT_mk KX G ?y_BadTable_gC ?y_BadTable_cls ?y_BadTable_rv ?y_BadTable_sa ?y_BadTable_ga ?y_BadTable_gg ?y_BadTable_noN ?y_BadTable_iC ?y_BadTable_tC ?y_BadTable_kC ?y_BadTable_exC ?y_BadTable_tyC ?y_BadTable_hdC ?y_BadTable_icC ?y_BadTable_sC ?y_BadTable_veC ?y_BadTable_selfM ?y_BadTable_up ?y_BadTable_third ?y_BadTable_noS ?y_BadTable_top ?y_BadTable_fl ?y_BadTable_bd ?y_BadTable_l ?y_BadTable_cd ?y_BadTable_lc ?y_BadTable_v2 ?y_BadTable_vf ?y_BadTable_lcc ?y_BadTable_ln
      (case y_BadTable_gC => k_is); (case y_BadTable_cls => k_is); (case y_BadTable_rv => decide +kernel); (case y_BadTable_sa => k_is); (case y_BadTable_ga => k_is); (case y_BadTable_gg => k_is); (case y_BadTable_noN => k_is); (case y_BadTable_iC => k_is); (case y_BadTable_tC => k_is); (case y_BadTable_kC => k_is); (case y_BadTable_exC => k_is); (case y_BadTable_tyC => k_is); (case y_BadTable_hdC => k_is); (case y_BadTable_icC => k_is); (case y_BadTable_sC => first | rfl | k_is); (case y_BadTable_veC => k_is); (case y_BadTable_selfM => k_is); (case y_BadTable_up => ks_is); (case y_BadTable_third => k_is); (case y_BadTable_noS => k_is); (case y_BadTable_top => decide +kernel); (case y_BadTable_fl => decide +kernel); (case y_BadTable_bd => intros; rfl); (case y_BadTable_l => k_is); (case y_BadTable_cd => k_is); (case y_BadTable_lc => k_is); (case y_BadTable_v2 => rfl); (case y_BadTable_vf => decide +kernel); (case y_BadTable_lcc => k_is); (case y_BadTable_ln => rfl))
    (case x_BadFrail =>
      refine' RX.errT_mk KX G ?y_BadFrail_gC ?y_BadFrail_cls ?y_BadFrail_rv ?y_BadFrail_sa ?y_BadFrail_ga ?y_BadFrail_gg ?y_BadFrail_noN ?y_BadFrail_iC ?y_BadFrail_tC ?y_BadFrail_kC ?y_BadFrail_exC ?y_BadFrail_tyC ?y_BadFrail_hdC ?y_BadFrail_icC ?y_BadFrail_sC ?y_BadFrail_veC ?y_BadFrail_selfM ?y_BadFrail_up ?y_BadFrail_third ?y_BadFrail_noS ?y_BadFrail_top ?y_BadFrail_fl ?y_BadFrail_bd ?y_BadFrail_l ?y_BadFrail_cd ?y_BadFrail_lc ?y_BadFrail_v2 ?y_BadFrail_vf ?y_BadFrail_lcc ?y_BadFrail_ln
      (case y_BadFrail_gC => k_is); (case y_BadFrail_cls => k_is); (case y_BadFrail_rv => decide +kernel); (case y_BadFrail_sa => k_is); (case y_BadFrail_ga => k_is); (case y_BadFrail_gg => k_is); (case y_BadFrail_noN => k_is); (case y_BadFrail_iC => k_is); (case y_BadFrail_tC => k_is); (case y_BadFrail_kC => k_is); (case y_BadFrail_exC => k_is); (case y_BadFrail_tyC => k_is); (case y_BadFrail_hdC => k_is); (case y_BadFrail_icC => k_is); (case y_BadFrail_sC => first | rfl | k_is); (case y_BadFrail_veC => k_is); (case y_BadFrail_selfM => k_is); (case y_BadFrail_up => ks_is); (case y_BadFrail_third => k_is); (case y_BadFrail_noS => k_is); (case y_BadFrail_top => decide +kernel); (case y_BadFrail_fl => decide +kernel); (case y_BadFrail_bd => intros; rfl); (case y_BadFrail_l => k_is); (case y_BadFrail_cd => k_is); (case y_BadFrail_lc => k_is); (case y_BadFrail_v2 => rfl); (case y_BadFrail_vf => decide +kernel); (case y_BadFrail_lcc => k_is); (case y_BadFrail_ln => rfl))
    (case x_BadFull =>
      refine' RX.errT_mk KX G ?y_BadFull_gC ?y_BadFull_cls ?y_BadFull_rv ?y_BadFull_sa ?y_BadFull_ga ?y_BadFull_gg ?y_BadFull_noN ?y_BadFull_iC ?y_BadFull_tC ?y_BadFull_kC ?y_BadFull_exC ?y_BadFull_tyC ?y_BadFull_hdC ?y_BadFull_icC ?y_BadFull_sC ?y_BadFull_veC ?y_BadFull_selfM ?y_BadFull_up ?y_BadFull_third ?y_BadFull_noS ?y_BadFull_top ?y_BadFull_fl ?y_BadFull_bd ?y_BadFull_l ?y_BadFull_cd ?y_BadFull_lc ?y_BadFull_v2 ?y_BadFull_vf ?y_BadFull_lcc ?y_BadFull_ln
      (case y_BadFull_gC => k_is); (case y_BadFull_cls => k_is); (case y_BadFull_rv => decide +kernel); (case y_BadFull_sa => k_is); (case y_BadFull_ga => k_is); (case y_BadFull_gg => k_is); (case y_BadFull_noN => k_is); (case y_BadFull_iC => k_is); (case y_BadFull_tC => k_is); (case y_BadFull_kC => k_is); (case y_BadFull_exC => k_is); (case y_BadFull_tyC => k_is); (case y_BadFull_hdC => k_is); (case y_BadFull_icC => k_is); (case y_BadFull_sC => first | rfl | k_is); (case y_BadFull_veC => k_is); (case y_BadFull_selfM => k_is); (case y_BadFull_up => ks_is); (case y_BadFull_third => k_is); (case y_BadFull_noS => k_is); (case y_BadFull_top => decide +kernel); (case y_BadFull_fl => decide +kernel); (case y_BadFull_bd => intros; rfl); (case y_BadFull_l => k_is); (case y_BadFull_cd => k_is); (case y_BadFull_lc => k_is); (case y_BadFull_v2 => rfl); (case y_BadFull_vf => decide +kernel); (case y_BadFull_lcc => k_is); (case y_BadFull_ln => rfl))
    (case x_BadGrammar =>
      refine' RX.errT_mk KX G ?y_BadGrammar_gC ?y_BadGrammar_cls ?y_BadGrammar_rv ?y_BadGrammar_sa ?y_BadGrammar_ga ?y_BadGrammar_gg ?y_BadGrammar_noN ?y_BadGrammar_iC ?y_BadGrammar_tC ?y_BadGrammar_kC ?y_BadGrammar_exC ?y_BadGrammar_tyC ?y_BadGrammar_hdC ?y_BadGrammar_icC ?y_BadGrammar_sC ?y_BadGrammar_veC ?y_BadGrammar_selfM ?y_BadGrammar_up ?y_BadGrammar_third ?y_BadGrammar_noS ?y_BadGrammar_top ?y_BadGrammar_fl ?y_BadGrammar_bd ?y_BadGrammar_l ?y_BadGrammar_cd ?y_BadGrammar_lc ?y_BadGrammar_v2 ?y_BadGrammar_vf ?y_BadGrammar_lcc ?y_BadGrammar_ln
      (case y_BadGrammar_gC => k_is); (case y_BadGrammar_cls => k_is); (case y_BadGrammar_rv => decide +kernel); (case y_BadGrammar_sa => k_is); (case y_BadGrammar_ga => k_is); (case y_BadGrammar_gg => k_is); (case y_BadGrammar_noN => k_is); (case y_BadGrammar_iC => k_is); (case y_BadGrammar_tC => k_is); (case y_BadGrammar_kC => k_is); (case y_BadGrammar_exC => k_is); (case y_BadGrammar_tyC => k_is); (case y_BadGrammar_hdC => k_is); (case y_BadGrammar_icC => k_is); (case y_BadGrammar_sC => first | rfl | k_is); (case y_BadGrammar_veC => k_is); (case y_BadGrammar_selfM => k_is); (case y_BadGrammar_up => ks_is); (case y_BadGrammar_third => k_is); (case y_BadGrammar_noS => k_is); (case y_BadGrammar_top => decide +kernel); (case y_BadGrammar_fl => decide +kernel); (case y_BadGrammar_bd => intros; rfl); (case y_BadGrammar_l => k_is); (case y_BadGrammar_cd => k_is); (case y_BadGrammar_lc => k_is); (case y_BadGrammar_v2 => rfl); (case y_BadGrammar_vf => decide +kernel); (case y_BadGrammar_lcc => k_is); (case y_BadGrammar_ln => rfl))
    (case x_BadDerivation =>
      refine' RX.errT_mk KX G ?y_BadDerivation_gC ?y_BadDerivation_cls ?y_BadDerivation_rv ?y_BadDerivation_sa ?y_BadDerivation_ga ?y_BadDerivation_gg ?y_BadDerivation_noN ?y_BadDerivation_iC ?y_BadDerivation_tC ?y_BadDerivation_kC ?y_BadDerivation_exC ?y_BadDerivation_tyC ?y_BadDerivation_hdC ?y_BadDerivation_icC ?y_BadDerivation_sC ?y_BadDerivation_veC ?y_BadDerivation_selfM ?y_BadDerivation_up ?y_BadDerivation_third ?y_BadDerivation_noS ?y_BadDerivation_top ?y_BadDerivation_fl ?y_BadDerivation_bd ?y_BadDerivation_l ?y_BadDerivation_cd ?y_BadDerivation_lc ?y_BadDerivation_v2 ?y_BadDerivation_vf ?y_BadDerivation_lcc ?y_BadDerivation_ln
      (case y_BadDerivation_gC => k_is); (case y_BadDerivation_cls => k_is); (case y_BadDerivation_rv => decide +kernel); (case y_BadDerivation_sa => k_is); (case y_BadDerivation_ga => k_is); (case y_BadDerivation_gg => k_is); (case y_BadDerivation_noN => k_is); (case y_BadDerivation_iC => k_is); (case y_BadDerivation_tC => k_is); (case y_BadDerivation_kC => k_is); (case y_BadDerivation_exC => k_is); (case y_BadDerivation_tyC => k_is); (case y_BadDerivation_hdC => k_is); (case y_BadDerivation_icC => k_is); (case y_BadDerivation_sC => first | rfl | k_is); (case y_BadDerivation_veC => k_is); (case y_BadDerivation_selfM => k_is); (case y_BadDerivation_up => ks_is); (case y_BadDerivation_third => k_is); (case y_BadDerivation_noS => k_is); (case y_BadDerivation_top => decide +kernel); (case y_BadDerivation_fl => decide +kernel); (case y_BadDerivation_bd => intros; rfl); (case y_BadDerivation_l => k_is); (case y_BadDerivation_cd => k_is); (case y_BadDerivation_lc => k_is); (case y_BadDerivation_v2 => rfl); (case y_BadDerivation_vf => decide +kernel); (case y_BadDerivation_lcc => k_is); (case y_BadDerivation_ln => rfl))
    (case x_BadName =>
      refine' RX.errT_mk KX G ?y_BadName_gC ?y_BadName_cls ?y_BadName_rv ?y_BadName_sa ?y_BadName_ga ?y_BadName_gg ?y_BadName_noN ?y_BadName_iC ?y_BadName_tC ?y_BadName_kC ?y_BadName_exC ?y_BadName_tyC ?y_BadName_hdC ?y_BadName_icC ?y_BadName_sC ?y_BadName_veC ?y_BadName_selfM ?y_BadName_up ?y_BadName_third ?y_BadName_noS ?y_BadName_top ?y_BadName_fl ?y_BadName_bd ?y_BadName_l ?y_BadName_cd ?y_BadName_lc ?y_BadName_v2 ?y_BadName_vf ?y_BadName_lcc ?y_BadName_ln
      (case y_BadName_gC => k_is); (case y_BadName_cls => k_is); (case y_BadName_rv => decide +kernel); (case y_BadName_sa => k_is); (case y_BadName_ga => k_is); (case y_BadName_gg => k_is); (case y_BadName_noN => k_is); (case y_BadName_iC => k_is); (case y_BadName_tC => k_is); (case y_BadName_kC => k_is); (case y_BadName_exC => k_is); (case y_BadName_tyC => k_is); (case y_BadName_hdC => k_is); (case y_BadName_icC => k_is); (case y_BadName_sC => first | rfl | k_is); (case y_BadName_veC => k_is); (case y_BadName_selfM => k_is); (case y_BadName_up => ks_is); (case y_BadName_third => k_is); (case y_BadName_noS => k_is); (case y_BadName_top => decide +kernel); (case y_BadName_fl => decide +kernel); (case y_BadName_bd => intros; rfl); (case y_BadName_l => k_is); (case y_BadName_cd => k_is); (case y_BadName_lc => k_is); (case y_BadName_v2 => rfl); (case y_BadName_vf => decide +kernel); (case y_BadName_lcc => k_is); (case y_BadName_ln => rfl))
    (case x_BadCount =>
      refine' RX.errT_mk KX G ?y_BadCount_gC ?y_BadCount_cls ?y_BadCount_rv ?y_BadCount_sa ?y_BadCount_ga ?y_BadCount_gg ?y_BadCount_noN ?y_BadCount_iC ?y_BadCount_tC ?y_BadCount_kC ?y_BadCount_exC ?y_BadCount_tyC ?y_BadCount_hdC ?y_BadCount_icC ?y_BadCount_sC ?y_BadCount_veC ?y_BadCount_selfM ?y_BadCount_up ?y_BadCount_third ?y_BadCount_noS ?y_BadCount_top ?y_BadCount_fl ?y_BadCount_bd ?y_BadCount_l ?y_BadCount_cd ?y_BadCount_lc ?y_BadCount_v2 ?y_BadCount_vf ?y_BadCount_lcc ?y_BadCount_ln
      (case y_BadCount_gC => k_is); (case y_BadCount_cls => k_is); (case y_BadCount_rv => decide +kernel); (case y_BadCount_sa => k_is); (case y_BadCount_ga => k_is); (case y_BadCount_gg => k_is); (case y_BadCount_noN => k_is); (case y_BadCount_iC => k_is); (case y_BadCount_tC => k_is); (case y_BadCount_kC => k_is); (case y_BadCount_exC => k_is); (case y_BadCount_tyC => k_is); (case y_BadCount_hdC => k_is); (case y_BadCount_icC => k_is); (case y_BadCount_sC => first | rfl | k_is); (case y_BadCount_veC => k_is); (case y_BadCount_selfM => k_is); (case y_BadCount_up => ks_is); (case y_BadCount_third => k_is); (case y_BadCount_noS => k_is); (case y_BadCount_top => decide +kernel); (case y_BadCount_fl => decide +kernel); (case y_BadCount_bd => intros; rfl); (case y_BadCount_l => k_is); (case y_BadCount_cd => k_is); (case y_BadCount_lc => k_is); (case y_BadCount_v2 => rfl); (case y_BadCount_vf => decide +kernel); (case y_BadCount_lcc => k_is); (case y_BadCount_ln => rfl))
    (case x_BadWish =>
      refine' RX.errT_mk KX G ?y_BadWish_gC ?y_BadWish_cls ?y_BadWish_rv ?y_BadWish_sa ?y_BadWish_ga ?y_BadWish_gg ?y_BadWish_noN ?y_BadWish_iC ?y_BadWish_tC ?y_BadWish_kC ?y_BadWish_exC ?y_BadWish_tyC ?y_BadWish_hdC ?y_BadWish_icC ?y_BadWish_sC ?y_BadWish_veC ?y_BadWish_selfM ?y_BadWish_up ?y_BadWish_third ?y_BadWish_noS ?y_BadWish_top ?y_BadWish_fl ?y_BadWish_bd ?y_BadWish_l ?y_BadWish_cd ?y_BadWish_lc ?y_BadWish_v2 ?y_BadWish_vf ?y_BadWish_lcc ?y_BadWish_ln
      (case y_BadWish_gC => k_is); (case y_BadWish_cls => k_is); (case y_BadWish_rv => decide +kernel); (case y_BadWish_sa => k_is); (case y_BadWish_ga => k_is); (case y_BadWish_gg => k_is); (case y_BadWish_noN => k_is); (case y_BadWish_iC => k_is); (case y_BadWish_tC => k_is); (case y_BadWish_kC => k_is); (case y_BadWish_exC => k_is); (case y_BadWish_tyC => k_is); (case y_BadWish_hdC => k_is); (case y_BadWish_icC => k_is); (case y_BadWish_sC => first | rfl | k_is); (case y_BadWish_veC => k_is); (case y_BadWish_selfM => k_is); (case y_BadWish_up => ks_is); (case y_BadWish_third => k_is); (case y_BadWish_noS => k_is); (case y_BadWish_top => decide +kernel); (case y_BadWish_fl => decide +kernel); (case y_BadWish_bd => intros; rfl); (case y_BadWish_l => k_is); (case y_BadWish_cd => k_is); (case y_BadWish_lc => k_is); (case y_BadWish_v2 => rfl); (case y_BadWish_vf => decide +kernel); (case y_BadWish_lcc => k_is); (case y_BadWish_ln => rfl))
    (case x_BadPrices =>
      refine' RX.errT_mk KX G ?y_BadPrices_gC ?y_BadPrices_cls ?y_BadPrices_rv ?y_BadPrices_sa ?y_BadPrices_ga ?y_BadPrices_gg ?y_BadPrices_noN ?y_BadPrices_iC ?y_BadPrices_tC ?y_BadPrices_kC ?y_BadPrices_exC ?y_BadPrices_tyC ?y_BadPrices_hdC ?y_BadPrices_icC ?y_BadPrices_sC ?y_BadPrices_veC ?y_BadPrices_selfM ?y_BadPrices_up ?y_BadPrices_third ?y_BadPrices_noS ?y_BadPrices_top ?y_BadPrices_fl ?y_BadPrices_bd ?y_BadPrices_l ?y_BadPrices_cd ?y_BadPrices_lc ?y_BadPrices_v2 ?y_BadPrices_vf ?y_BadPrices_lcc ?y_BadPrices_ln
      (case y_BadPrices_gC => k_is); (case y_BadPrices_cls => k_is); (case y_BadPrices_rv => decide +kernel); (case y_BadPrices_sa => k_is); (case y_BadPrices_ga => k_is); (case y_BadPrices_gg => k_is); (case y_BadPrices_noN => k_is); (case y_BadPrices_iC => k_is); (case y_BadPrices_tC => k_is); (case y_BadPrices_kC => k_is); (case y_BadPrices_exC => k_is); (case y_BadPrices_tyC => k_is); (case y_BadPrices_hdC => k_is); (case y_BadPrices_icC => k_is); (case y_BadPrices_sC => first | rfl | k_is); (case y_BadPrices_veC => k_is); (case y_BadPrices_selfM => k_is); (case y_BadPrices_up => ks_is); (case y_BadPrices_third => k_is); (case y_BadPrices_noS => k_is); (case y_BadPrices_top => decide +kernel); (case y_BadPrices_fl => decide +kernel); (case y_BadPrices_bd => intros; rfl); (case y_BadPrices_l => k_is); (case y_BadPrices_cd => k_is); (case y_BadPrices_lc => k_is); (case y_BadPrices_v2 => rfl); (case y_BadPrices_vf => decide +kernel); (case y_BadPrices_lcc => k_is); (case y_BadPrices_ln => rfl))
    (case x_BadNumber =>
      refine' RX.errT_mk KX G ?y_BadNumber_gC ?y_BadNumber_cls ?y_BadNumber_rv ?y_BadNumber_sa ?y_BadNumber_ga ?y_BadNumber_gg ?y_BadNumber_noN ?y_BadNumber_iC ?y_BadNumber_tC ?y_BadNumber_kC ?y_BadNumber_exC ?y_BadNumber_tyC ?y_BadNumber_hdC ?y_BadNumber_icC ?y_BadNumber_sC ?y_BadNumber_veC ?y_BadNumber_selfM ?y_BadNumber_up ?y_BadNumber_third ?y_BadNumber_noS ?y_BadNumber_top ?y_BadNumber_fl ?y_BadNumber_bd ?y_BadNumber_l ?y_BadNumber_cd ?y_BadNumber_lc ?y_BadNumber_v2 ?y_BadNumber_vf ?y_BadNumber_lcc ?y_BadNumber_ln
      (case y_BadNumber_gC => k_is); (case y_BadNumber_cls => k_is); (case y_BadNumber_rv => decide +kernel); (case y_BadNumber_sa => k_is); (case y_BadNumber_ga => k_is); (case y_BadNumber_gg => k_is); (case y_BadNumber_noN => k_is); (case y_BadNumber_iC => k_is); (case y_BadNumber_tC => k_is); (case y_BadNumber_kC => k_is); (case y_BadNumber_exC => k_is); (case y_BadNumber_tyC => k_is); (case y_BadNumber_hdC => k_is); (case y_BadNumber_icC => k_is); (case y_BadNumber_sC => first | rfl | k_is); (case y_BadNumber_veC => k_is); (case y_BadNumber_selfM => k_is); (case y_BadNumber_up => ks_is); (case y_BadNumber_third => k_is); (case y_BadNumber_noS => k_is); (case y_BadNumber_top => decide +kernel); (case y_BadNumber_fl => decide +kernel); (case y_BadNumber_bd => intros; rfl); (case y_BadNumber_l => k_is); (case y_BadNumber_cd => k_is); (case y_BadNumber_lc => k_is); (case y_BadNumber_v2 => rfl); (case y_BadNumber_vf => decide +kernel); (case y_BadNumber_lcc => k_is); (case y_BadNumber_ln => rfl))
    (case x_BadIndex =>
      refine' RX.errT_mk KX G ?y_BadIndex_gC ?y_BadIndex_cls ?y_BadIndex_rv ?y_BadIndex_sa ?y_BadIndex_ga ?y_BadIndex_gg ?y_BadIndex_noN ?y_BadIndex_iC ?y_BadIndex_tC ?y_BadIndex_kC ?y_BadIndex_exC ?y_BadIndex_tyC ?y_BadIndex_hdC ?y_BadIndex_icC ?y_BadIndex_sC ?y_BadIndex_veC ?y_BadIndex_selfM ?y_BadIndex_up ?y_BadIndex_third ?y_BadIndex_noS ?y_BadIndex_top ?y_BadIndex_fl ?y_BadIndex_bd ?y_BadIndex_l ?y_BadIndex_cd ?y_BadIndex_lc ?y_BadIndex_v2 ?y_BadIndex_vf ?y_BadIndex_lcc ?y_BadIndex_ln
      (case y_BadIndex_gC => k_is); (case y_BadIndex_cls => k_is); (case y_BadIndex_rv => decide +kernel); (case y_BadIndex_sa => k_is); (case y_BadIndex_ga => k_is); (case y_BadIndex_gg => k_is); (case y_BadIndex_noN => k_is); (case y_BadIndex_iC => k_is); (case y_BadIndex_tC => k_is); (case y_BadIndex_kC => k_is); (case y_BadIndex_exC => k_is); (case y_BadIndex_tyC => k_is); (case y_BadIndex_hdC => k_is); (case y_BadIndex_icC => k_is); (case y_BadIndex_sC => first | rfl | k_is); (case y_BadIndex_veC => k_is); (case y_BadIndex_selfM => k_is); (case y_BadIndex_up => ks_is); (case y_BadIndex_third => k_is); (case y_BadIndex_noS => k_is); (case y_BadIndex_top => decide +kernel); (case y_BadIndex_fl => decide +kernel); (case y_BadIndex_bd => intros; rfl); (case y_BadIndex_l => k_is); (case y_BadIndex_cd => k_is); (case y_BadIndex_lc => k_is); (case y_BadIndex_v2 => rfl); (case y_BadIndex_vf => decide +kernel); (case y_BadIndex_lcc => k_is); (case y_BadIndex_ln => rfl))
    (case x_BadText =>
      refine' RX.errT_mk KX G ?y_BadText_gC ?y_BadText_cls ?y_BadText_rv ?y_BadText_sa ?y_BadText_ga ?y_BadText_gg ?y_BadText_noN ?y_BadText_iC ?y_BadText_tC ?y_BadText_kC ?y_BadText_exC ?y_BadText_tyC ?y_BadText_hdC ?y_BadText_icC ?y_BadText_sC ?y_BadText_veC ?y_BadText_selfM ?y_BadText_up ?y_BadText_third ?y_BadText_noS ?y_BadText_top ?y_BadText_fl ?y_BadText_bd ?y_BadText_l ?y_BadText_cd ?y_BadText_lc ?y_BadText_v2 ?y_BadText_vf ?y_BadText_lcc ?y_BadText_ln
      (case y_BadText_gC => k_is); (case y_BadText_cls => k_is); (case y_BadText_rv => decide +kernel); (case y_BadText_sa => k_is); (case y_BadText_ga => k_is); (case y_BadText_gg => k_is); (case y_BadText_noN => k_is); (case y_BadText_iC => k_is); (case y_BadText_tC => k_is); (case y_BadText_kC => k_is); (case y_BadText_exC => k_is); (case y_BadText_tyC => k_is); (case y_BadText_hdC => k_is); (case y_BadText_icC => k_is); (case y_BadText_sC => first | rfl | k_is); (case y_BadText_veC => k_is); (case y_BadText_selfM => k_is); (case y_BadText_up => ks_is); (case y_BadText_third => k_is); (case y_BadText_noS => k_is); (case y_BadText_top => decide +kernel); (case y_BadText_fl => decide +kernel); (case y_BadText_bd => intros; rfl); (case y_BadText_l => k_is); (case y_BadText_cd => k_is); (case y_BadText_lc => k_is); (case y_BadText_v2 => rfl); (case y_BadText_vf => decide +kernel); (case y_BadText_lcc => k_is); (case y_BadText_ln => rfl))
    (case z_isinstance => k_is)
    (case z_int => k_is)
    (case z_bool => k_is)
    (case z_list => k_is)
    (case z_len => k_is)
    (case z_range => k_is)
    (case z_abs => k_is)
    (case z_tuple => k_is)
    (case z_str => k_is)
    (case z_repr => k_is)
    (case z_all => k_is)
    (case z_ValueError => k_is)
    (case x_BadPaper =>
      refine' L2.errN_mk KX G ?en1_BadPaper ?en2_BadPaper ?en3_BadPaper ?en4_BadPaper ?en5_BadPaper ?en6_BadPaper ?en7_BadPaper
      (case en1_BadPaper => k_is); (case en2_BadPaper => k_exc); (case en3_BadPaper => k_is); (case en4_BadPaper => k_is); (case en5_BadPaper => k_is); (case en6_BadPaper => k_is); (case en7_BadPaper => k_is))
    (case x_NoPaper =>
      refine' L2.errN_mk KX G ?en1_NoPaper ?en2_NoPaper ?en3_NoPaper ?en4_NoPaper ?en5_NoPaper ?en6_NoPaper ?en7_NoPaper
      (case en1_NoPaper => k_is); (case en2_NoPaper => k_exc); (case en3_NoPaper => k_is); (case en4_NoPaper => k_is); (case en5_NoPaper => k_is); (case en6_NoPaper => k_is); (case en7_NoPaper => k_is))
    (case x_NothingDone =>
      refine' L2.errN_mk KX G ?en1_NothingDone ?en2_NothingDone ?en3_NothingDone ?en4_NothingDone ?en5_NothingDone ?en6_NothingDone ?en7_NothingDone
      (case en1_NothingDone => k_is); (case en2_NothingDone => k_exc); (case en3_NothingDone => k_is); (case en4_NothingDone => k_is); (case en5_NothingDone => k_is); (case en6_NothingDone => k_is); (case en7_NothingDone => k_is))
    (case x_TooMany =>
      refine' L2.errN_mk KX G ?en1_TooMany ?en2_TooMany ?en3_TooMany ?en4_TooMany ?en5_TooMany ?en6_TooMany ?en7_TooMany
      (case en1_TooMany => k_is); (case en2_TooMany => k_exc); (case en3_TooMany => k_is); (case en4_TooMany => k_is); (case en5_TooMany => k_is); (case en6_TooMany => k_is); (case en7_TooMany => k_is))
    (case gM => k_is)
    (case hn => k_is)
    (case ht => k_is)
    (case ha0 => k_is)
    (case hm0 => k_is)
    (case ka0 => kit_is)
    (case km0 => kit_is)
    (case kv0 => kit_is)
    (case ha1 => k_is)
    (case hm1 => k_is)
    (case ka1 => kit_is)
    (case km1 => kit_is)
    (case kv1 => kit_is)
    (case ha2 => k_is)
    (case hm2 => k_is)
    (case ka2 => kit_is)
    (case km2 => kit_is)
    (case kv2 => kit_is)
    (case ha3 => k_is)
    (case hm3 => k_is)
    (case ka3 => kit_is)
    (case km3 => kit_is)
    (case kv3 => kit_is)
    (case ha4 => k_is)
    (case hm4 => k_is)
    (case ka4 => kit_is)
    (case km4 => kit_is)
    (case kv4 => kit_is)
    (case ha5 => k_is)
    (case hm5 => k_is)
    (case ka5 => kit_is)
    (case km5 => kit_is)
    (case kv5 => kit_is)
    (case ha6 => k_is)
    (case hm6 => k_is)
    (case ka6 => kit_is)
    (case km6 => kit_is)
    (case kv6 => kit_is)
    (case ha7 => k_is)
    (case hm7 => k_is)
    (case ka7 => kit_is)
    (case km7 => kit_is)
    (case kv7 => kit_is)
    (case ha8 => k_is)
    (case hm8 => k_is)
    (case ka8 => kit_is)
    (case km8 => kit_is)
    (case kv8 => kit_is)
    (case ha9 => k_is)
    (case hm9 => k_is)
    (case ka9 => kit_is)
    (case km9 => kit_is)
    (case kv9 => kit_is)
    (case ha10 => k_is)
    (case hm10 => k_is)
    (case ka10 => kit_is)
    (case km10 => kit_is)
    (case kv10 => kit_is)
    (case ha11 => k_is)
    (case hm11 => k_is)
    (case ka11 => kit_is)
    (case km11 => kit_is)
    (case kv11 => kit_is)
    (case ha12 => k_is)
    (case hm12 => k_is)
    (case ka12 => kit_is)
    (case km12 => kit_is)
    (case kv12 => kit_is)
    (case ha13 => k_is)
    (case hm13 => k_is)
    (case ka13 => kit_is)
    (case km13 => kit_is)
    (case kv13 => kit_is)
    (case ha14 => k_is)
    (case hm14 => k_is)
    (case ka14 => kit_is)
    (case km14 => kit_is)
    (case kv14 => kit_is)
    (case ha15 => k_is)
    (case hm15 => k_is)
    (case ka15 => kit_is)
    (case km15 => kit_is)
    (case kv15 => kit_is)
    (case ha16 => k_is)
    (case hm16 => k_is)
    (case ka16 => kit_is)
    (case km16 => kit_is)
    (case kv16 => kit_is)
    (case ha17 => k_is)
    (case hm17 => k_is)
    (case ka17 => kit_is)
    (case km17 => kit_is)
    (case kv17 => kit_is)
    (case ha18 => k_is)
    (case hm18 => k_is)
    (case ka18 => kit_is)
    (case km18 => kit_is)
    (case kv18 => kit_is)
    (case ha19 => k_is)
    (case hm19 => k_is)
    (case ka19 => kit_is)
    (case km19 => kit_is)
    (case kv19 => kit_is)
    (case ha20 => k_is)
    (case hm20 => k_is)
    (case ka20 => kit_is)
    (case km20 => kit_is)
    (case kv20 => kit_is)
    (case ha21 => k_is)
    (case hm21 => k_is)
    (case ka21 => kit_is)
    (case km21 => kit_is)
    (case kv21 => kit_is)
    (case hg21 => k_is)
    (case hk21 => k_is)
    (case hs21 => k_is)
    (case hd21 => k_is)
    (case ha22 => k_is)
    (case hm22 => k_is)
    (case ka22 => kit_is)
    (case km22 => kit_is)
    (case kv22 => kit_is)
    (case hg22 => k_is)
    (case hk22 => k_is)
    (case hs22 => k_is)
    (case hd22 => k_is)
    (case ha23 => k_is)
    (case hm23 => k_is)
    (case ka23 => kit_is)
    (case km23 => kit_is)
    (case kv23 => kit_is)
    (case hg23 => k_is)
    (case hk23 => k_is)
    (case hs23 => k_is)
    (case hd23 => k_is)
    (case ha24 => k_is)
    (case hm24 => k_is)
    (case ka24 => kit_is)
    (case km24 => kit_is)
    (case kv24 => kit_is)
    (case hg24 => k_is)
    (case hk24 => k_is)
    (case hs24 => k_is)
    (case hd24 => k_is)
end
