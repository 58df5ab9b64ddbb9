import PyProof.Rows.All
import Wide.All
import OpenK.AllK
import Wide.FinOn
import PyProof.EqAt
import PyProof.EqKinds
import PyProof.TupleCall
import HandS.ForMost
import HandS.ForExc
import HandS.ExcField
import HandS.ExcInit
import HandS.IsInst
import HandS.Defaults
import HandS.Small
import KE.KExcSuper
import KE.KExcMake
import HandS.Codes
import HandS.Evl
import HandS.Walk
import KE.GoesEnum
import HandS.Zip0
import HandS.Translate
import HandS.Replace
import PyProof.Rows.StrRev
import KE.KEqDict
import HandS.More
import HandS.TupAny
import HandS.Style
import HandS.Star
import HandS.SortInts
import HandS.Conv
import PyProof.ListStr
import HandS.Exc
import KE.KEqSeq
import HandS.DeepEq
import KE.KRevSl
import KE.KDictKeyed
import PyProof.Rows.TupDisplay
import HandS.SetFor
import HandS.SortKw
import HandS.RaiseMore
import PyProof.ExcBaseAll.ValueError
import HandS.TryOnly
import HandS.OwnEq
import PyProof.NeKinds
import HandS.TupMul
import PyProof.StrBlock2
import HandS.Zip
import KE.KDictZip
import HandS.ListItems
import PyProof.ListNew
import KE.SortData
import HandS.ExcIs
import HandS.ExcValue
import KE.KExcIs
import KE.DataMinMax
import HandS.TupSets
import PyProof.AssignAttr
import HandS.Words
import PySem.Challenge.RW_roomsthrough_k88_whole_level_texts
section
set_option Elab.async false
set_option linter.all false
set_option maxRecDepth 100000
set_option maxHeartbeats 2000000
/-! # The errors of the package: each with an __init__ that says super().__init__(text) and keeps one value. -/
namespace RX
open PySem PySem.W PySem.Calls PyProof.Rows PySem.HandSPX
/-! ### the text of such an __init__, its field a letter -/
def eA (fld : Str) (p1 p2 : Pos) : Arguments := { posonlyargs := [], args := [{ arg := "self", annotation := none, pos := p1 }, { arg := fld, annotation := none, pos := p2 }], vararg := none, kwonlyargs := [], kw_defaults := [], kwarg := none, defaults := [] }
def eB (fld msg : Str) (q1 q2 q3 q4 q5 q6 q7 q8 q9 q10 : Pos) : List Stmt :=
  [.Expr (.Call (.Attribute (.Call (.Name "super" q1) [] [] q2) "__init__" q3) [.Constant (.str msg) 0 q4] [] q5) q6,
   .Assign [.Attribute (.Name "self" q7) fld q8] (.Name fld q9) q10]
def eS (fld : Str) : Scope := { kind := .function, names := [("self", .local), (fld, .local), ("__class__", .free), ("super", .globalImplicit)], isGenerator := false, isCoroutine := false, more := [] }
/-- what the top says of the class at C, whose __init__ stands at fI and sees the class by the cell at cc -/
structure ErrT (prog : Program) (K : Frag) (mg : Str → Option Value) (cn fld : Str) (C fI : Addr) : Prop where
  gC : mg cn = some (.ref C)
  cls : ∃ nm q N bs bm sn sub ab col dd k0 k1 k2 k3 k5, K.lookup C = some (excClassObj nm q C N bs bm true sn sub ab col dd k0 k1 k2 k3 k5 "ValueError.__new__") ∧ refsVE bm = true
  sa : findIn K (.ref C) "__setattr__" = some (some (.builtin "object.__setattr__"))
  xf : L2.XfC K C
  noN : findIn K (.ref C) fld = some none
  iC : findIn K (.ref C) "__init__" = some (some (.ref fI))
  tC : typeIn K (.ref fI) = some (.type "function")
  kC : keepIn K (.ref C) = true
  exC : subIn K (.ref C) (.type "BaseException") = some true
  tyC : typeIn K (.ref C) = some (.type "type")
  hdC : hasDictIn K C = true
  te : exmOne K (.ref C) (.ref C) = some true
  veC : subIn K (.ref C) (.type "ValueError") = some true
  selfM : mroIn K C (.ref C) = some true
  up : ks_superIn K C C "__init__" = some (some (.builtin "ValueError.__init__"))
  third : nsIn K cStatics "thirdparty.any" = some none
  noS : nsIn K mainGlobals "super" = some none
  top : (prog.main.scope.names.lookup ("super" : Str)).isSome = false
  fl : (eS fld).names.lookup fld = some .local ∧ (fld == ("self" : Str)) = false ∧ (eS fld).names.lookup ("super" : Str) = some .globalImplicit ∧ (eS fld).names.lookup ("__class__" : Str) = some .free ∧ (fld == ("__debug__" : Str)) = false
  bd : ∀ (qual : Str) (body : List Stmt) (doc pm : Value) (an : Option Addr) (cd ct : Value) (cc : Addr) (p1 p2 : Pos) (a b : Value), bindArgs (ksFn "__init__" qual (eA fld p1 p2) body (eS fld) .none .none doc pm an cd ct cc) ⟨[a, b], []⟩ = pure [(("self" : Str), a), (fld, b)]
  fn : ∃ (oc : Value) (od : Option Addr) (doc pm : Value) (an : Option Addr) (cda cc : Addr) (ct : Value) (osl : Array (Option Value)) (msg : Str) (qual : Str) (p1 p2 q1 q2 q3 q4 q5 q6 q7 q8 q9 q10 : Pos)
    (ccl cl : Value) (cdd cld : Option Addr) (ccs csl : Array (Option Value)) (vs : Array Value) (file : Str) (tf : Tok),
    K.lookup fI = some ⟨oc, od, .func (ksFn "__init__" qual (eA fld p1 p2) (eB fld msg q1 q2 q3 q4 q5 q6 q7 q8 q9 q10) (eS fld) .none .none doc pm an (.ref cda) ct cc), osl⟩ ∧ codeIn K (.ref cda) qual = true ∧
    K.lookup cda = some ⟨ccl, cdd, .fields vs, ccs⟩ ∧ vs[2]? = some (.str file tf) ∧ ((prog.main.file : Str) == file) = true ∧ K.lookup cc = some ⟨cl, cld, .cell (some (.ref C)), csl⟩ ∧ (q3.endLine == q5.line) = true
/-- what such an __init__ leaves of a fresh exception at x -/
structure ErrEnd (h h' : Heap) (fld : Str) (x C dx : Addr) (v : Value) : Prop where
  keep : ∀ b o, b ≠ x → h.get? b = some o → h'.get? b = some o
  obj : ∃ t1, h'.get? x = some { cls := .ref C, dict := some dx, data := .fields #[.ref t1, .none, .none, .none, .bool false, .none] }
  dbig : h.objs.size ≤ dx
  dne : dx ≠ x
  ns : h'.Ns1 dx (fun y => if y = fld then some v else none)
theorem size1 (v : Value) : [v].length ≤ sizeLine := by
  rw [sizeLine_eq]; exact (by decide : 1 ≤ 16777216)
section
variable {prog : Program} {w : World} {A : Around} {E : Value → Shared → Prop} {R : Result → Shared → Prop} {s : Shared} {K : Frag} {mg : Str → Option Value} {g : Heap} {cn fld : Str} {C fI : Addr}
theorem err_init (T : ErrT prog K mg cn fld C fI) {x t0 : Addr} {v : Value} (M : L2.Mod K mg g) (hg : ∀ b o, g.get? b = some o → s.heap.get? b = some o) (hx : s.heap.get? x = some (excO C t0)) (hnx : K.lookup x = none) (hroom : A.depth < recursionLimit)
    (hq : ∀ h' tk dx, ErrEnd s.heap h' fld x C dx v → R (.ok (.ret .none)) { s with heap := h', toks := tk }) :
    codeAny (model prog w) A (.call (.ref fI) ⟨[.ref x, v], []⟩) R s := by
  obtain ⟨oc, od, doc, pm, an, cda, cc, ct, osl, msg, qual, p1, p2, q1, q2, q3, q4, q5, q6, q7, q8, q9, q10, ccl, cl, cdd, cld, ccs, csl, vs, file, tf, ho, hcd, hcode, hvs, hfile, hcell, hpos⟩ := T.fn
  obtain ⟨nm, q, N, bs, bm, sn, sub, ab, col, dd, k0, k1, k2, k3, k5, hC, hbm⟩ := T.cls
  obtain ⟨hfl, hfs, hsu, hcs, hfd⟩ := T.fl
  have X : K.In s.heap := M.kin.keeps hg
  have hcl : clsIn K C = some { name := nm, bases := bs, mro := .ref C :: bm, ns := N, qualname := q, hasDict := true, slotNames := sn, subclasses := sub, abstract := ab, collection := col, hasDel := false } := by unfold clsIn; rw [hC] <;> rfl
  have hfs' : ("self" == fld) = false := by
    have : ¬ fld = ("self" : Str) := by simpa using hfs
    simpa using fun z => this z.symm
  refine ks_codeAny_call_defAt (fd := ksFn "__init__" qual (eA fld p1 p2) (eB fld msg q1 q2 q3 q4 q5 q6 q7 q8 q9 q10) (eS fld) .none .none doc pm an (.ref cda) ct cc) (binds := [("self", .ref x), (fld, v)])
    hroom (X _ _ ho) rfl (M.nolimit.keeps hg) (codeRec_of X hcd) rfl ?hb ?hc ?hl (fun h1 hns k => ?_) rfl rfl rfl
  case hb => exact BindsTo.of_eq (T.bd _ _ _ _ _ _ _ _ _ _ _ _)
  case hc => 
    intro y hy
    simp only [ksFn, eS, List.mem_cons, List.not_mem_nil, or_false] at hy
    rcases hy with rfl | rfl | rfl | rfl <;> (intro z; cases z)
  case hl =>
    intro y hy
    simp only [List.mem_cons, List.not_mem_nil, or_false] at hy
    rcases hy with rfl | rfl
    · rfl
    · exact hfl
  have k : ∀ b o, s.heap.get? b = some o → h1.get? b = some o := k
  have X1 : K.In h1 := X.keeps k
  have hx1 := k _ _ hx
  have M1 : ∀ b o, g.get? b = some o → h1.get? b = some o := fun b o e => k b o (hg b o e)
  have mself : (fun y => List.lookup y ([("self", .ref x), (fld, v)] : List (Str × Value)).reverse) "self" = some (.ref x) := by
    simp only [List.reverse_cons, List.reverse_nil, List.nil_append, List.cons_append, List.lookup]
    rw [hfs']
    rfl
  have mfld : (fun y => List.lookup y ([("self", .ref x), (fld, v)] : List (Str × Value)).reverse) fld = some v := by
    simp [List.reverse_cons, List.lookup]
  refine ks_wpAt_execs_cons (ks_wpAt_Expr_any (ks_wpAt_MethodCall (pl := (do return (← importBound (.Call (.Name "super" q1) [] [] q2) (callEnv (ksFn "__init__" qual (eA fld p1 p2) (eB fld msg q1 q2 q3 q4 q5 q6 q7 q8 q9 q10) (eS fld) .none .none doc pm an (.ref cda) ct cc) s.heap.objs.size fI)).getD true)) ?_ ?he))
  case he =>
    show (do let ov ← _; standAt q3.atName; methodCall _ _ _ _ _ ov _ _ _) = _
    unfold methodCall methodCallPos
    rw [hpos]
    rfl
  have hD : ∃ oD, h1.get? C = some oD ∧ oD.data = .cls { name := nm, bases := bs, mro := .ref C :: bm, ns := N, qualname := q, hasDict := true, slotNames := sn, subclasses := sub, abstract := ab, collection := col, hasDel := false } := ⟨_, X1 _ _ hC, rfl⟩
  obtain ⟨oD, hD1, hD2⟩ := hD
  refine ks_wpAt_super_base hsu hcs rfl rfl (X1 _ _ ho) rfl rfl rfl (X1 _ _ hcode) rfl hvs hfile T.top ?_
  obtain ⟨mb, hmb, hmb2⟩ := M.blt
  refine ks_loadName_global rfl hsu (loadGlobal_builtin (mg := mg) (mb := mb) (M.glob.keeps M1) (mg_none_of M.kin M.glob T.noS) (hmb.keeps M1) ((hmb2 _ (by decide)).trans (by decide +kernel)) ⟨rfl, ?_⟩)
  refine wpAny_loadName_free rfl hcs rfl ⟨_, X1 _ _ hcell, rfl⟩ ?_
  refine wpAny_loadName_local rfl rfl hns mself ?_
  refine ks_wpAny_isType_cls hD1 hD2 ⟨rfl, ?_⟩
  refine ks_wpAny_call_super hD1 hD2 hx1 rfl (fun c z => by cases z) (looks_mroIn X1 T.selfM) (fun h2 e2 k2 => ?_)
  have X2 : K.In h2 := X1.keeps k2
  have hx2 := k2 _ _ hx1
  have I2 : InstAt h2 x (excO C t0) C none := ⟨hx2, rfl, rfl, trivial⟩
  have hf2 : alongIn K "__init__" (((.ref C :: bm : List Value).dropWhile (· != .ref C)).drop 1) = some (some (.builtin "ValueError.__init__")) := by
    have := T.up
    unfold ks_superIn at this
    rw [hcl] at this
    exact this
  refine kxs_getMethod kxs_ValueError e2 (looks_opaque X2 T.third) (l₀ := .ref C :: bm) (fun A Q E s k q => wpAny_bind ((looks_clsIn X2 hcl) A _ E s k (wpAny_pure q))) rfl X2 hf2 (I2.type.andThen (looks_subIn X2 T.veC)) (ks_ne X2 I2 hcl) rfl ?_
  -- the wrapper is called with the text
  have hu3 : (h2.push (kxs_mw "ValueError.__init__" x)).get? h2.objs.size = some (kxs_mw "ValueError.__init__" x) := Heap.get?_push_at rfl rfl
  have k3 : ∀ b o, h2.get? b = some o → (h2.push (kxs_mw "ValueError.__init__" x)).get? b = some o := fun b o e => Heap.get?_push_of_some _ e
  refine kxs_callWith (i := "ValueError.__init__") (x := x) rfl (evalArgs_plain ?_)
  refine spliced_more (Calls.Constant_str ?_)
  refine spliced_none ?_
  refine ⟨hu3, ?_⟩
  have hx3 := k3 _ _ hx2
  have hC3 := k3 _ _ (X2 _ _ hC)
  show wpAny (model prog w) (A.deeper _) (call (.ref h2.objs.size) [.str msg _]) _ _ _
  refine wpAny_call (codeAny_of_tree ?_)
  show wpAny _ (A.deeper _).in1 (callAny (.ref h2.objs.size) ⟨[.str msg _], []⟩) _ _ _
  simp only [callAny]
  refine wpAny_bind (wpAny_load hu3 ?_)
  simp only [kxs_mw, show (Value.type "method-wrapper" == Value.type "method" || Value.type "method-wrapper" == Value.type "builtin_function_or_method" || Value.type "method-wrapper" == Value.type "method-wrapper") = true by decide, if_true]
  refine KFB.if_so (by decide) ?_
  refine wpAny_bind (check_bound_init F.excBase_ValueError.toExcCallFacts hC3 hx3 rfl ?_)
  refine wpAny_bind (wpAny_pure (wpAny_pure ?_))
  refine ⟨plainId_quiet F.excBase_ValueError.init.plain _, codeAny_builtin F.excBase_ValueError.initEntry ?_⟩
  refine exc_init_tree (cls := .ref C) (t0 := t0) (dv := none) (c2 := .none) (c3 := .none) (b4 := .bool false) hx3 (size1 _) (fun h4 k4 hx4 ht4 => ?_)
  -- self.field = value
  have k14 : ∀ b o, b ≠ x → h1.get? b = some o → h4.get? b = some o := fun b o hb e => k4 b o hb (k3 _ _ (k2 _ _ e))
  have X4 : K.In h4 := fun a o e => k14 a o (fun z => by rw [z, hnx] at e; cases e) (X1 a o e)
  have hL : s.heap.objs.size ≠ x := Nat.ne_of_gt (Heap.lt_size hx)
  have hn4 : h4.Ns s.heap.objs.size (fun y => List.lookup y ([("self", .ref x), (fld, v)] : List (Str × Value)).reverse) := hns.at (fun o e => k14 _ _ hL e)
  show PySem.wpAt _ _ _ (execs _ _) _ _ _
  refine ks_wpAt_execs_cons (ks_wpAt_Assign_Attr ?_)
  have hfl' : (callEnv (ksFn "__init__" qual (eA fld p1 p2) (eB fld msg q1 q2 q3 q4 q5 q6 q7 q8 q9 q10) (eS fld) .none .none doc pm an (.ref cda) ct cc) s.heap.objs.size fI).kindOf fld = some .local := hfl
  refine wpAt_of_wpAny (wpAny_Name ?_ hfd)
  refine wpAny_loadName_local (m := fun y => List.lookup y ([("self", .ref x), (fld, v)] : List (Str × Value)).reverse) (v := v) rfl hfl' hn4 mfld ?_
  refine wpAny_Name ?_
  refine wpAny_loadName_local (m := fun y => List.lookup y ([("self", .ref x), (fld, v)] : List (Str × Value)).reverse) (v := .ref x) rfl rfl hn4 mself ?_
  have hx5 : h4.get? x = some (excO C _) := hx4
  refine set_plain X4 (ox := excO C _) (od := none) ⟨hx5, rfl, rfl, trivial⟩ T.sa ?_
  refine exc_osa X4 hx5 hcl (show refsVE (.ref C :: bm) = true from hbm) rfl T.noN (fun h5 tk5 dx k5' dn dne hx6 hn5 => ?_)
  show PySem.wpAt _ _ _ (execs _ _) _ _ _
  have big : s.heap.objs.size ≤ dx := Nat.le_trans (Nat.le_of_lt hn4.lt) dn
  refine wpAt_of_wpAny (wpAny_execs_nil (hq h5 tk5 dx ⟨fun b o hb e => k5' b o hb (k14 b o hb (k b o e)), ⟨_, hx6⟩, big, dne, hn5⟩))
/-- a made error -/
structure ErrMade (h h' : Heap) (fld : Str) (e C d : Addr) (v : Value) : Prop where
  keep : ∀ b o, h.get? b = some o → h'.get? b = some o
  new : h.objs.size ≤ e
  obj : ∃ oe vs, h'.get? e = some oe ∧ oe.cls = .ref C ∧ oe.dict = some d ∧ oe.data = .fields vs ∧ vs[1]? = some .none
  dbig : h.objs.size ≤ d
  dne : d ≠ e
  ns : h'.Ns1 d (fun y => if y = fld then some v else none)
theorem err_made (T : ErrT prog K mg cn fld C fI) {v : Value} (M : L2.Mod K mg g) (hg : ∀ b o, g.get? b = some o → s.heap.get? b = some o) (hroom : A.depth + 1 < recursionLimit)
    (hq : ∀ h' tk e d, ErrMade s.heap h' fld e C d v → R (.ok (.ret (.ref e))) { s with heap := h', toks := tk }) :
    codeAny (model prog w) A (.call (.ref C) ⟨[v], []⟩) R s := by
  obtain ⟨nm, q, N, bs, bm, sn, sub, ab, col, dd, k0, k1, k2, k3, k5, hC, hbm⟩ := T.cls
  have X : K.In s.heap := M.kin.keeps hg
  obtain ⟨hp, gs, dr, tk, os⟩ := s
  have k : ∀ b o, hp.get? b = some o → ((hp.push (kdv_tup [v])).push (excO C hp.objs.size)).get? b = some o := fun b o e => Heap.get?_push_of_some _ (Heap.get?_push_of_some _ e)
  have hget : ((hp.push (kdv_tup [v])).push (excO C hp.objs.size)).get? (hp.objs.size + 1) = some (excO C hp.objs.size) := by heap_get
  have hnx : K.lookup (hp.objs.size + 1) = none := by
    cases e : K.lookup (hp.objs.size + 1) with
    | none => rfl
    | some o =>
      have z : hp.get? (hp.objs.size + 1) = some o := X _ _ e
      exact absurd (Nat.lt_of_succ_lt (Heap.lt_size z)) (Nat.lt_irrefl _)
  refine call_own F.excBase_ValueError (fun X => refsVE_contains X bm hbm) (X _ _ hC) (looks_findIn X T.iC) (fun self => bind_fn X self T.tC) (size1 v) ?_
  refine err_init (s := ⟨(hp.push (kdv_tup [v])).push (excO C hp.objs.size), gs, dr, tk, os⟩) (g := g) T M (fun b o e => k b o (hg b o e)) hget hnx ?_ fun h' tk' dx ⟨k', hx, dn, dne, hns⟩ => ?_
  · show A.depth + 1 < recursionLimit
    exact hroom
  · obtain ⟨t1, hx⟩ := hx
    have old : ∀ b o, hp.get? b = some o → h'.get? b = some o := fun b o e => k' b o (Nat.ne_of_lt (Nat.lt_succ_of_lt (Heap.lt_size e))) (k b o e)
    have z : hp.objs.size + 1 + 1 ≤ dx := by
      first
        | (simpa only [Heap.size_push] using dn)
        | exact dn
        | (have q := dn; rw [Heap.size_push, Heap.size_push] at q; exact q)
    exact ⟨rfl, hq h' tk' (hp.objs.size + 1) dx ⟨old, Nat.le_succ _, ⟨_, _, hx, rfl, rfl, rfl, rfl⟩, Nat.le_trans (Nat.le_trans (Nat.le_succ _) (Nat.le_succ _)) z, dne, hns⟩⟩
end
end RX
namespace L2
open PySem PySem.Spec PyProof.Rows
theorem relO_one {fld : Str} {v : V} {v' : Value} (r : RelV v v') (f : Str) : RelO (List.lookup f [(fld, v)]) (if f = fld then some v' else none) := by
  by_cases hw : f = fld
  · subst hw
    rw [if_pos rfl]
    have q : List.lookup f [(f, v)] = some v := by simp [List.lookup]
    rw [q]; exact r
  · rw [if_neg hw]
    have qw : (f == fld) = false := by simpa using hw
    have q2 : List.lookup f [(fld, v)] = none := by simp [List.lookup, qw]
    rw [q2]; trivial
section
variable {X : Cx} {C fI : Addr} {cn fld : Str}
/-- Err(e): its own dict d is new and holds the field -/
def tMkErr (fld : Str) (C : Addr) (ta : TA) : St → Hp → XK → Prop := fun σ H Q => ta σ H fun vs H1 => ∃ v, vs = [v] ∧ ∀ d, H1 d = none → Q (.ref C) (some d) (upd H1 d (.xd [(fld, v)]))
theorem pmk_err {a : Expr} {ta : TA} {p pos : Pos} {k : Nat} (T : RX.ErrT X.prog X.K X.mg cn fld C fI) (hr : Room k X.A) (ha : PA X [a] ta) (hg : Gl X cn := by rfl) (hdb : (cn == ("__debug__" : Str)) = false := by decide)
    (he : starEach (a :: []) X.env = (false, eval a X.env) :: starEach [] X.env := by rfl) (hpl : (backTo pos (starEach [] X.env)).any (·.1) = false := by rfl) :
    PMk X (.Call (.Name cn p) [a] [] pos) (tMkErr fld C ta) := by
  intro pins s σ H Q I h
  refine wpAny_Call_Name_kw (ld_glob I hg T.gC ?_ hdb)
  refine PySem.W.callWith_K (h₀ := X.base) I.ok.mod.kin T.kC (thn (ha.run pos pins s σ H _ I h) fun us s1 hh => ?_) he hpl
  obtain ⟨vs, H1, I1, r1, v, ev, q1⟩ := hh
  subst ev
  refine ⟨I1.kIn, ?_⟩
  cases r1 with
  | cons rv rn =>
    rename_i v' us'
    cases rn
    show wpAny _ _ (call (.ref C) [v']) _ _ _
    have hbk := I1.bk
    obtain ⟨hp, g, dr, tk, os⟩ := s1
    refine wpAny_call (RX.err_made T I1.mod hbk (by have := hr.dp; omega) fun h' tk' e d M => ?_)
    show MkP X pins σ Q (.ref e) ⟨h', g, dr, tk', os⟩
    obtain ⟨oe, fv, hoe, hc, hd, hdat, h1⟩ := M.obj
    have hns := M.ns
    obtain ⟨G', g1, g2⟩ := restrict h' fun b => decide (b ≠ e)
    have gk : ∀ b, b ≠ e → G'.get? b = h'.get? b := fun b hb => g1 b (decide_eq_true hb)
    have ge : G'.get? e = none := g2 e (by simp)
    have old : ∀ b o, hp.get? b = some o → G'.get? b = some o := fun b o q => (gk b (Nat.ne_of_lt (Nat.lt_of_lt_of_le (Heap.lt_size q) M.new))).trans (M.keep b o q)
    have ob : ObjOk X.prog X.w (upd H1 d (.xd [(fld, v)])) G' d (.xd [(fld, v)]) :=
      ⟨_, hns.at (fun o q => (gk d M.dne).trans q), fun f => relO_one rv f⟩
    have J : Inv X pins σ (upd H1 d (.xd [(fld, v)])) ⟨G', g, dr, tk', os⟩ := I1.laid (t' := tk') old M.dbig ob
    refine ⟨e, oe, fv, ⟨G', g, dr, tk', os⟩, _, .ref C, some d, rfl, J, fun b o q => ?_, ge, hoe, ⟨hc, hd⟩, hdat, h1, ?_, rfl, I1.bare, raises_own T.exC T.tyC, q1 d (I1.hok.fresh M.dbig)⟩
    · by_cases hb : b = e
      · have q' : G'.get? b = some o := q
        rw [hb, ge] at q'; cases q'
      · exact (gk b hb).symm.trans q
    · rw [upd_ne (Ne.symm M.dne)]
      exact I1.hok.fresh M.new
/-- raise Err(e) -/
def tRaiseErr (fld : Str) (C : Addr) (W : WX) (ta : TA) : TS := fun _ σ H => tMkErr fld C ta σ H fun cls d H' => W cls d σ H'
theorem ps_raiseErr {a : Expr} {ta : TA} {W : WX} {p pos pos2 : Pos} {k : Nat} (hc : X.calm = true) (T : RX.ErrT X.prog X.K X.mg cn fld C fI) (hr : Room k X.A) (tk : Takes X W) (ha : PA X [a] ta) (hg : Gl X cn := by rfl) (hdb : (cn == ("__debug__" : Str)) = false := by decide)
    (he : starEach (a :: []) X.env = (false, eval a X.env) :: starEach [] X.env := by rfl) (hpl : (backTo pos (starEach [] X.env)).any (·.1) = false := by rfl) :
    PS X (.Raise (some (.Call (.Name cn p) [a] [] pos)) none pos2) (tRaiseErr fld C W ta) := ps_raise hc tk (pmk_err T hr ha hg hdb he hpl)
end
end L2
end
section
set_option Elab.async false
set_option linter.all false
set_option maxRecDepth 100000
set_option maxHeartbeats 2000000
/-! # Calls within which nothing is being shown: what repr needs to be told. -/
namespace L2
open PySem PySem.Spec PyProof.Rows
/-- as FnOk, but only where no repr is under way around the call -/
structure FnG (P : Program) (w : World) (K : PySem.W.Frag) (mg : Str → Option Value) (base : Heap)
    (CX : CXT) (k : Nat) (f : Addr) (fd : FuncData) (ps : List Str) (sp : Sp) : Prop where
  len : ∀ vs H Q E, sp vs H Q E → vs.length = ps.length
  run : ∀ (A : Around) (outer : List Env) (s : Shared) (H : Hp) (args : Args) (us : List Value)
    (vs : List V) (Q : VK) (E : XK), A.guards = some [] → Room k A → Env0 P w K mg base A outer s H →
    BindsTo s fd args (ps.zip us) → Vals vs us → sp vs H Q E →
    codeAny (model P w) A (.call (.ref f) args) (CR CX outer P w H s Q E) s
section
variable {P : Program} {w : World} {K : PySem.W.Frag} {mg : Str → Option Value} {base : Heap}
  {CX : CXT} {k j : Nat} {f : Addr} {fd : FuncData} {ps : List Str} {sp sp' : Sp}
theorem FnOk.g (F : FnOk P w K mg base CX k f fd ps sp) : FnG P w K mg base CX k f fd ps sp :=
  ⟨F.len, fun A o s H a us vs Q E _ => F.run A o s H a us vs Q E⟩
theorem FnG.mono (F : FnG P w K mg base CX j f fd ps sp) (h : j ≤ k) : FnG P w K mg base CX k f fd ps sp :=
  ⟨F.len, fun A o s H a us vs Q E hg hr => F.run A o s H a us vs Q E hg (hr.mono h)⟩
theorem FnG.imp (F : FnG P w K mg base CX k f fd ps sp) (h : ∀ vs H Q E, sp' vs H Q E → sp vs H Q E) :
    FnG P w K mg base CX k f fd ps sp' :=
  ⟨fun vs H Q E q => F.len vs H Q E (h _ _ _ _ q),
   fun A o s H a us vs Q E hg hr he hb hv hs => F.run A o s H a us vs Q E hg hr he hb hv (h _ _ _ _ hs)⟩
end
/-- a def by its body, where nothing is being shown -/
theorem fn_ofG {CX : CXT} {P : Program} {w : World} {K : PySem.W.Frag} {mg : Str → Option Value} {base : Heap}
    {k : Nat} {f : Addr} {name qual : Str} {params : Arguments} {body : List Stmt} {scope : Scope}
    {dV kV doc pm cdv ct oc : Value} {an od : Option Addr} {osl : Array (Option Value)} {N ps : List Str} {sp : Sp}
    (lk : K.lookup f = some ⟨oc, od, .func (PySem.W.fnOf name qual params body scope dV kV doc pm an cdv ct), osl⟩)
    (hcd : PySem.W.codeIn K cdv qual = true) (S : FnScope N ps scope)
    (len : ∀ vs H Q E, sp vs H Q E → vs.length = ps.length)
    (hbody : ∀ (A : Around) (outer : List Env) (s : Shared) (H : Hp) (vs : List V) (Q : VK) (E : XK),
      A.guards = some [] → Room k (A.deeper (envOfC qual scope s.heap.objs.size f cdv)) → sp vs H Q E →
      ∃ t, PSs (cxOf CX P w K mg base N qual scope f cdv A outer s H E) body t ∧
        t { nx := fun _ H' => Q .non H', rt := Q } (start N vs) H) :
    FnG P w K mg base CX (k + 1) f (PySem.W.fnOf name qual params body scope dV kV doc pm an cdv ct) ps sp := by
  constructor
  · exact len
  intro A outer s H args us vs Q E hgd hr e0 hb r hsp
  have lenV := len _ _ _ _ hsp
  have kept : ∀ b o, base.get? b = some o → s.heap.get? b = some o := fun b o e => (e0.bs b o e).1
  have KX : K.In s.heap := e0.mod.kin.keeps kept
  have noLim : s.heap.NoLimit := e0.mod.nolimit.keeps kept
  have kinds : ∀ y ∈ ps.zip us, scope.names.lookup y.1 = some .local ∨
      (scope.names.lookup y.1 = some .cell ∧ ((cellsFrom (s.heap.objs.size + 1) scope.names []).lookup y.1).isSome = true) := by
    rintro ⟨n, v⟩ hy
    have hn : n ∈ ps := (List.of_mem_zip hy).1
    rcases S.par n hn with z | z
    · exact Or.inl z
    · exact Or.inr ⟨z, PySem.W.cellsFrom_some _ _ _ (Or.inl z)⟩
  refine codeAny_call_function hr.depth (KX _ _ lk) rfl S.co S.gen rfl (PySem.W.codeRec_of KX hcd) ?_
  apply hb
  refine wpAny_newFunctionEnv_cells S.kind kinds ?_
  rintro env rfl s1 x
  refine ⟨noLim.keeps x.toInCall.keep, codeAny_func ?_⟩
  obtain ⟨t, ht, hq⟩ := hbody A outer s H vs Q E hgd (hr.deeper _) hsp
  have I := inv_start (CX := CX) (E := E) S hr.hd e0 lenV r x
  refine wpAny_mono (ht.run [] s1 (start N vs) H _ I hq) ?_ (fun _ _ z => z)
  intro fl s' hs
  have done : ∀ {σ' : St} {H' : Hp} {v : V} {u : Value},
      Inv (cxOf CX P w K mg base N qual scope f cdv A outer s H E) [] σ' H' s' → RelV v u → Q v H' →
      CE outer P w H s Q u s' := by
    intro σ' H' v u J rv q
    exact ⟨v, H', J.os, J.bare, J.base, J.hok, rv, q⟩
  match fl, hs with
  | .ret u, hs => obtain ⟨v, σ', H', J, rv, q⟩ := hs; exact done J rv q
  | .next, hs => obtain ⟨σ', H', J, q⟩ := hs; exact done (v := .non) (u := .none) J rfl q
  | .brk, hs => obtain ⟨_, _, _, q⟩ := hs; exact q.elim
  | .cont, hs => obtain ⟨_, _, _, q⟩ := hs; exact q.elim
section
variable {X : Cx} {CX : CXT} {k : Nat} {f C : Addr} {fd : FuncData} {ps : List Str} {sp : Sp} {dvs : List V} {ds : List Value} {E : XK} {x m : Str} {p pos apos : Pos} {e o : Expr} {es : List Expr} {ta : TE} {t : TA}
theorem run_fnG {pins : List (Addr × Obj)} {σ : St} {H : Hp} {s : Shared} {Q : VK} {us : List Value} {vs : List V}
    (F : FnG X.prog X.w X.K X.mg X.base CX k f fd ps sp) (hgd : X.A.guards = some []) (hr : Room k X.A) (hb : Binds X.K fd ps ds) (hd : Vals dvs ds)
    (hx : Passes CX X E) (I : Inv X pins σ H s) (r : Vals vs us) (h : sp (vs ++ dvs) H Q E) :
    wpAny (model X.prog X.w) X.A (call (.ref f) us) (EP X pins σ Q) X.xe s := by
  have r2 := r.append hd
  have hl : (us ++ ds).length = ps.length := r2.length.symm.trans (F.len _ _ _ _ h)
  apply wpAny_call
  refine codeAny_mono (F.run X.A X.stack s H ⟨us, []⟩ (us ++ ds) (vs ++ dvs) Q E hgd hr I.env0 (hb s us I.kIn hl) r2 h) ?_
  intro r s' hq
  match r, hq with
  | .error e, hq => exact hx pins σ H s e s' I hq
  | .ok (.ret u), hq => exact I.after hq
  | .ok .next, hq => exact False.elim hq
  | .ok .brk, hq => exact False.elim hq
  | .ok .cont, hq => exact False.elim hq
theorem pg_call (F : FnG X.prog X.w X.K X.mg X.base CX k f fd ps sp) (hgd : X.A.guards = some []) (hr : Room k X.A) (hg : Gl X x) (hm : X.mg x = some (.ref f))
    (hk : PySem.W.keepIn X.K (.ref f) = true) (hb : Binds X.K fd ps ds) (hd : Vals dvs ds) (hx : Passes CX X E)
    (ha : PA X (e :: es) t) (hdb : (x == ("__debug__" : Str)) = false := by decide)
    (he : starEach (e :: es) X.env = (false, eval e X.env) :: starEach es X.env := by rfl)
    (hpl : (backTo pos (starEach es X.env)).any (·.1) = false := by rfl) :
    PE X (.Call (.Name x p) (e :: es) [] pos) (tCall sp dvs E t) := by
  constructor
  intro pins s σ H Q I h
  refine wpAny_Call_Name_kw (ld_glob I hg hm ?_ hdb)
  refine PySem.W.callWith_K (h₀ := X.base) I.ok.mod.kin hk (thn (ha.run pos pins s σ H _ I h) ?_) he hpl
  rintro us s1 ⟨vs, H1, I1, r, q⟩
  exact ⟨I1.kIn, run_fnG F hgd hr hb hd hx I1 r q⟩
theorem pg_meth {pl : Sem Bool} (he : PE X o ta) (c : Cls X.K C) (hm : Meth X.K C m f) (F : FnG X.prog X.w X.K X.mg X.base CX k f fd ps sp)
    (hgd : X.A.guards = some []) (hr : Room k X.A) (hb : Binds X.K fd ps ds) (hd : Vals dvs ds) (hx : Passes CX X E) (ha : PA X (e :: es) t)
    (hst : starEach (e :: es) X.env = (false, eval e X.env) :: starEach es X.env := by rfl)
    (hpl : (backTo pos (starEach es X.env)).any (·.1) = false := by rfl)
    (ht : eval (.Call (.Attribute o m apos) (e :: es) [] pos) X.env =
      (do let ov ← eval o X.env; standAt apos.atName; let (f, first) ← holding [ov] (getMethod ov m pl); callWith pos f first (backTo pos (starEach (e :: es) X.env)) (backToKw pos (keywordEach [] X.env))) := by rfl) :
    PE X (.Call (.Attribute o m apos) (e :: es) [] pos) (tMeth C m sp dvs E ta t) := by
  constructor
  intro pins s σ H Q I h
  refine PySem.W.methodCall_KW (pl := pl) (thn (he.run pins s σ H _ I h) ?_) ht
  rintro u s1 ⟨x, H1, I1, rx, a, dx, fs, ex, ea, l, q⟩
  subst ex
  cases (show u = Value.ref a from rx)
  refine getmeth_ok I1 ea c hm l ?_
  refine PySem.W.callWith_K (first := [.ref a]) (h₀ := X.base) I.ok.mod.kin hm.kp (thn (ha.run pos pins s1 σ H1 _ I1 q) ?_) hst hpl
  rintro us s2 ⟨vs, H2, I2, r, q2⟩
  exact ⟨I2.kIn, run_fnG (us := .ref a :: us) (vs := .ref a :: vs) F hgd hr hb hd hx I2 (.cons rfl r) q2⟩
end
/-- the law's own call, at the heap behind the top -/
theorem law_callG {P : Program} {w : World} {K : PySem.W.Frag} {mg mb : Str → Option Value} {CX : CXT} {k : Nat} {fa a : Addr} {fd : FuncData} {x : Str} {sp : Sp} {s₁ : Shared} {vs : List Value} {ns : List Int}
    (KX : K.In s₁.heap) (hns : s₁.heap.Ns mainGlobals mg) (hb : s₁.heap.Ns builtinsNs mb) (hbb : ∀ x : Str, x ≠ "__name__" → mb x = bootBuiltins x)
    (hlim : s₁.heap.NoLimit) (hg : s₁.gens = #[]) (ha : s₁.heap.get? a = some { cls := .type "list", data := .seq vs.toArray })
    (hi : IntsAre vs ns) (hl : ns.length ≤ sizeLine) (hr : Room k callerA)
    (F : ∀ base : Heap, K.In base → base.Ns mainGlobals mg → FnG P w K mg base CX k fa fd [x] sp)
    (hbind : ∀ (s : Shared) (u : Value), BindsTo s fd ⟨[u], []⟩ [(x, u)])
    (hsp : ∀ H : Hp, Only H → SqL K H a (ns.map V.int) → sp [.ref a] H (fun v _ => v = .bl true) fun _ _ _ => False)
    (hCX : ∀ H e s', CX [] H s₁ (fun _ _ _ => False) e s' → False) :
    codeAny (model P w) callerA (.call (.ref fa) ⟨[.ref a], []⟩)
      (fun r s' => r = .ok (.ret (.bool true)) ∧ OldK s₁.heap s'.heap ∧ s'.os = s₁.os ∧ AllBare s'.gens) s₁ := by
  have rv := vals_ints hi
  have lenV := hi.length
  have core : ∀ H : Hp, Only H → SqL K H a (ns.map V.int) → HOk P w H s₁.heap → (∀ b, H b ≠ none → b = a) → (H a ≠ none → K.lookup a = none) →
      codeAny (model P w) callerA (.call (.ref fa) ⟨[.ref a], []⟩)
        (fun r s' => r = .ok (.ret (.bool true)) ∧ OldK s₁.heap s'.heap ∧ s'.os = s₁.os ∧ AllBare s'.gens) s₁ := by
    intro H hO hS hok hA hK
    have toB : ∀ {b : Addr} {o : Obj}, s₁.heap.get? b = some o → H b = none → (hidT s₁.heap H).get? b = some o := hidT_get
    have notA : ∀ {b : Addr} {o : Obj} {es : Array DictEntry} {ep : Nat}, s₁.heap.get? b = some o → o.data = .dict es ep → H b = none := by
      intro b o es ep e d
      cases q : H b with
      | none => rfl
      | some u =>
        cases (hA b (by rw [q]; simp))
        rw [ha] at e
        cases e
        exact nomatch (show Data.seq vs.toArray _ = Data.dict es ep from d)
    have toNs : ∀ {b : Addr} {m : Str → Option Value}, s₁.heap.Ns b m → (hidT s₁.heap H).Ns b m := by
      rintro b m ⟨o, es, ep, e, d, r⟩
      exact ⟨o, es, ep, toB e (notA e d), d, r⟩
    have inB : K.In (hidT s₁.heap H) := by
      intro b o e
      refine toB (KX b o e) ?_
      cases q : H b with
      | none => rfl
      | some u =>
        cases (hA b (by rw [q]; simp))
        have z := hK (by rw [q]; simp)
        rw [z] at e
        cases e
    have hM : Mod K mg (hidT s₁.heap H) := by
      obtain ⟨mc, h1, h2⟩ := hlim
      exact ⟨inB, toNs hns, ⟨mb, toNs hb, hbb⟩, ⟨mc, toNs h1, h2⟩⟩
    have e0 : Env0 P w K mg (hidT s₁.heap H) callerA [] s₁ H :=
      { frames := rfl, mod := hM, bs := fun b o e => of_hidT e, bsz := Nat.le_of_eq (hidT_size _ _), funs := trivial,
        frf := fun b hb => absurd (show b ∈ ([] : List Addr) from hb) (by simp), hok := hok, bare := .of_eq hg }
    have run := (F _ inB (toNs hns)).run callerA [] s₁ H ⟨[.ref a], []⟩ [.ref a] [.ref a] _ _ rfl hr e0 (hbind s₁ (.ref a)) (.cons rfl .nil) (hsp H hO hS)
    refine codeAny_mono run ?_
    intro r s' h
    match r, h with
    | .error e, h => exact (hCX H e s' h).elim
    | .ok .next, h => exact False.elim h
    | .ok .brk, h => exact False.elim h
    | .ok .cont, h => exact False.elim h
    | .ok (.ret u), h =>
      obtain ⟨v, H', os, bare, un, hok', r', q⟩ := h
      cases (show v = V.bl true from q)
      cases (show u = Value.bool true from r')
      refine ⟨rfl, OldK.of_keep ?_, os, bare⟩
      intro b o e
      cases q2 : H b with
      | none => exact un.keep b o e q2 (by intro z; exact absurd (show b ∈ ([] : List Addr) from z) (by simp)) (by simp)
      | some u2 =>
        rcases hO b with z | ⟨ob, xs, z⟩
        · rw [q2] at z
          cases z
        · obtain ⟨e1, _⟩ := hok b _ z
          obtain ⟨e2, _⟩ := hok' b _ (un.frzs b ob _ z)
          rw [e] at e1
          cases e1
          exact e2
  cases hk : K.lookup a with
  | some o =>
    have e := KX a o hk
    rw [ha] at e
    cases e
    refine core (fun _ => none) (fun _ => Or.inl rfl) (Or.inr ⟨_, vs.toArray, _, hk, rfl, rfl, rfl, ?_, ?_⟩) ?_ (fun b z => absurd rfl z) (fun z => absurd rfl z)
    · rw [List.size_toArray, lenV]
      exact hl
    · simpa using rv
    · intro b u z
      exact nomatch (show (none : Option HO) = some u from z)
  | none =>
    have hif : ∀ b, b ≠ a → (fun b => if b = a then some (HO.frz { cls := .type "list", data := .seq vs.toArray } (.lst (ns.map V.int))) else none) b = none := fun b h => if_neg h
    refine core (fun b => if b = a then some (.frz { cls := .type "list", data := .seq vs.toArray } (.lst (ns.map V.int))) else none) ?_ (Or.inl (Or.inr ⟨_, if_pos rfl⟩)) ?_ ?_ (fun _ => hk)
    · intro b
      by_cases h : b = a
      · exact Or.inr ⟨_, _, if_pos h⟩
      · exact Or.inl (hif b h)
    · intro b u z
      by_cases h : b = a
      · subst h
        cases (if_pos rfl).symm.trans z
        refine ⟨ha, ?_, vs, _, rv, ha⟩
        rw [List.length_map]
        exact hl
      · cases (hif b h).symm.trans z
    · intro b z
      by_cases h : b = a
      · exact h
      · exact absurd (hif b h) z
theorem walk_ofG {l : PySem.W.OpenLaw} {n k : Nat} {q : Program} {loose : List Str} {XP : (Str → Option Value) → Heap → Prop} {YP : World → Heap → Prop} {d : DefRec} {K : Params → PySem.W.Frag} {CX : World → CXT} {sp : World → Sp} {x : Str}
    (hn : l.most = some n) (hn2 : n ≤ sizeLine) (hdf : d.params.defaults = []) (hr : Room k callerA) (hY : ∀ (w : World) (h : Heap), YP w h → (K w.params).In h)
    (F : ∀ (w : World) (mg : Str → Option Value) (fa : Addr) (h : Heap), (K w.params).In h → h.Ns mainGlobals mg → mg d.name = some (.ref fa) →
      ∃ fd : FuncData, (∀ (s : Shared) (u : Value), BindsTo s fd ⟨[u], []⟩ [(x, u)]) ∧ ∀ base : Heap, (K w.params).In base → base.Ns mainGlobals mg → FnG l.prog w (K w.params) mg base (CX w) k fa fd [x] (sp w))
    (hsp : ∀ (w : World) (H : Hp) (a : Addr) (ns : List Int), ns.length ≤ n → Only H → SqL (K w.params) H a (ns.map V.int) → sp w [.ref a] H (fun v _ => v = .bl true) fun _ _ _ => False)
    (hCX : ∀ (w : World) (H : Hp) (s : Shared) (e : Value) (s' : Shared), CX w [] H s (fun _ _ _ => False) e s' → False) :
    PySem.W.WalkO q loose XP YP l.row.toRowW d [] (fun f vs => PySem.call f vs) := by
  refine Att.attach_call hn hdf ?_
  intro w s₀ s₁ mg mb fa o pm cd doc a vs ns G Y ho hd hcd hmg hobj hints hlen hg
  have KX := hY w _ Y
  obtain ⟨fd, hb, hF⟩ := F w mg fa _ KX G.T.g hmg
  exact law_callG KX G.T.g G.T.b G.T.builtins G.T.nolimit hg hobj hints (Nat.le_trans hlen hn2) hr hF hb
    (fun H hO hS => hsp w H a ns hlen hO hS) (fun H e s' => hCX w H s₁ e s')
end L2
end
section
set_option Elab.async false
set_option linter.all false
set_option maxRecDepth 100000
set_option maxHeartbeats 2000000
/-! # Data that stands still: what a value shows, and repr of it. -/
namespace L2
open PySem PySem.Spec PyProof.Rows
-- the value v is the datum d at the heap H; its lists and dicts stand at no address of M. L: lists may be in it, but no dict; else the empty dict, but no list
mutual
inductive Dr (L : Bool) (M : Addr → Prop) (H : Hp) : V → PyData → Prop
  | non : Dr L M H .non .none
  | bl (b : Bool) : Dr L M H (.bl b) (.bool b)
  | int (i : Int) : Dr L M H (.int i) (.int i)
  | str (x : Str) : Dr L M H (.str x) (.str x)
  | lst {a : Addr} {xs : List V} {ds : List PyData} (e : H a = some (.lst xs)) (n : ¬ M a) (l : L = true) (t : DrAll L M H xs ds) : Dr L M H (.ref a) (.list ds)
  | tup {a : Addr} {xs : List V} {ds : List PyData} (e : H a = some (.tup xs)) (n : ¬ M a) (t : DrAll L M H xs ds) : Dr L M H (.ref a) (.tuple ds)
  | dct {a : Addr} (e : H a = some (.dK [])) (n : ¬ M a) (l : L = false) : Dr L M H (.ref a) (.dict [])
inductive DrAll (L : Bool) (M : Addr → Prop) (H : Hp) : List V → List PyData → Prop
  | nil : DrAll L M H [] []
  | cons {v : V} {vs : List V} {d : PyData} {ds : List PyData} (h : Dr L M H v d) (t : DrAll L M H vs ds) : DrAll L M H (v :: vs) (d :: ds)
end
/-- what is tracked off M stays -/
def Off (M : Addr → Prop) (H H' : Hp) : Prop := ∀ b o, ¬ M b → H b = some o → H' b = some o
theorem Off.refl {M : Addr → Prop} (H : Hp) : Off M H H := fun _ _ _ e => e
theorem Off.trans {M : Addr → Prop} {H H1 H2 : Hp} (a : Off M H H1) (b : Off M H1 H2) : Off M H H2 := fun c o n e => b c o n (a c o n e)
theorem Off.new {M : Addr → Prop} {H : Hp} {p : Addr} {o : HO} (h : H p = none) : Off M H (upd H p o) := fun b u _ e => by
  rw [upd_ne (ne_of_none e h)]; exact e
theorem Off.mut {M : Addr → Prop} {H : Hp} {p : Addr} {o : HO} (h : M p) : Off M H (upd H p o) := fun b u n e => by
  rw [upd_ne (fun z => n (by rw [z]; exact h))]; exact e
theorem Off.same {M : Addr → Prop} {H H' : Hp} (h : Same H H') : Off M H H' := fun b o _ e => h b o e
section
variable {L : Bool} {M M' : Addr → Prop} {H H' : Hp}
mutual
theorem Dr.keep (h : Off M H H') : ∀ {v : V} {d : PyData}, Dr L M H v d → Dr L M H' v d
  | _, _, .non => .non
  | _, _, .bl b => .bl b
  | _, _, .int i => .int i
  | _, _, .str x => .str x
  | _, _, .lst e n l t => .lst (h _ _ n e) n l (DrAll.keep h t)
  | _, _, .tup e n t => .tup (h _ _ n e) n (DrAll.keep h t)
  | _, _, .dct e n l => .dct (h _ _ n e) n l
theorem DrAll.keep (h : Off M H H') : ∀ {vs : List V} {ds : List PyData}, DrAll L M H vs ds → DrAll L M H' vs ds
  | _, _, .nil => .nil
  | _, _, .cons a t => .cons (Dr.keep h a) (DrAll.keep h t)
end
mutual
/-- more may move, if it is nothing that is tracked -/
theorem Dr.wide (h : ∀ a, M' a → M a ∨ H a = none) : ∀ {v : V} {d : PyData}, Dr L M H v d → Dr L M' H v d
  | _, _, .non => .non
  | _, _, .bl b => .bl b
  | _, _, .int i => .int i
  | _, _, .str x => .str x
  | _, _, .lst e n l t => .lst e (fun z => (h _ z).elim n fun q => by rw [q] at e; cases e) l (DrAll.wide h t)
  | _, _, .tup e n t => .tup e (fun z => (h _ z).elim n fun q => by rw [q] at e; cases e) (DrAll.wide h t)
  | _, _, .dct e n l => .dct e (fun z => (h _ z).elim n fun q => by rw [q] at e; cases e) l
theorem DrAll.wide (h : ∀ a, M' a → M a ∨ H a = none) : ∀ {vs : List V} {ds : List PyData}, DrAll L M H vs ds → DrAll L M' H vs ds
  | _, _, .nil => .nil
  | _, _, .cons a t => .cons (Dr.wide h a) (DrAll.wide h t)
end
mutual
theorem Dr.noDict : ∀ {v : V} {d : PyData}, Dr true M H v d → d.hasDict = false
  | _, _, .non => rfl
  | _, _, .bl _ => rfl
  | _, _, .int _ => rfl
  | _, _, .str _ => rfl
  | _, _, .lst _ _ _ t => by simpa [PyData.hasDict] using DrAll.noDict t
  | _, _, .tup _ _ t => by simpa [PyData.hasDict] using DrAll.noDict t
  | _, _, .dct _ _ l => by cases l
theorem DrAll.noDict : ∀ {vs : List V} {ds : List PyData}, DrAll true M H vs ds → PyData.hasDictAll ds = false
  | _, _, .nil => rfl
  | _, _, .cons a t => by simp [PyData.hasDictAll, Dr.noDict a, DrAll.noDict t]
end
mutual
theorem Dr.reads {P : Program} {w : World} {h : Heap} (ok : HOk P w H h) : ∀ {v : V} {d : PyData} {u : Value}, Dr L M H v d → RelV v u → ∃ as, Reads h u d as ∧ (L = false → sysModules ∉ as)
  | _, _, _, .non, r => by
    cases (show _ = Value.none from r)
    exact ⟨[], .none, fun _ => by simp⟩
  | _, _, _, .bl b, r => by
    cases (show _ = Value.bool b from r)
    exact ⟨[], .bool b, fun _ => by simp⟩
  | _, _, _, .int i, r => by
    obtain ⟨t, rfl⟩ := (show ∃ t, _ = Value.int i t from r)
    exact ⟨[], .int i t, fun _ => by simp⟩
  | _, _, _, .str x, r => by
    obtain ⟨t, rfl⟩ := (show ∃ t, _ = Value.str x t from r)
    exact ⟨[], .str x t, fun _ => by simp⟩
  | _, _, _, .lst (a := a) e n l t, r => by
    cases (show _ = Value.ref a from r)
    obtain ⟨_, its, m, rv, ho⟩ := ok a _ e
    obtain ⟨as, hr, _⟩ := DrAll.reads ok t rv
    exact ⟨a :: as, .list ho rfl rfl (by simpa using hr), fun z => by rw [l] at z; cases z⟩
  | _, _, _, .tup (a := a) e n t, r => by
    cases (show _ = Value.ref a from r)
    obtain ⟨_, its, rv, o, ho, hc, m, hd⟩ := ok a _ e
    obtain ⟨as, hr, hs⟩ := DrAll.reads ok t rv
    exact ⟨as, .tuple ho hc hd (by simpa using hr), hs⟩
  | _, _, _, .dct (a := a) e n l, r => by
    cases (show _ = Value.ref a from r)
    obtain ⟨_, hn, vs, kv, o, es, ep, ho, hc, hd, hrest⟩ := ok a _ e
    cases kv
    obtain ⟨_, hp, _⟩ := hrest
    have hes : es.toList = [] := by
      generalize es.toList = l at hp
      cases hp
      rfl
    refine ⟨[a], ?_, fun _ z => ?_⟩
    · have q : Reads h (.ref a) (.dict []) (a :: [] ++ []) := .dict ho hc.1 hd (by rw [hes]; exact .nil) (by rw [hes]; exact .nil)
      simpa using q
    · simp only [List.mem_singleton] at z
      rw [← z] at hn
      simp at hn
theorem DrAll.reads {P : Program} {w : World} {h : Heap} (ok : HOk P w H h) : ∀ {vs : List V} {ds : List PyData} {us : List Value}, DrAll L M H vs ds → Vals vs us → ∃ as, ReadsAll h us ds as ∧ (L = false → sysModules ∉ as)
  | _, _, _, .nil, .nil => ⟨[], .nil, fun _ => by simp⟩
  | _, _, _, .cons a t, .cons r rs => by
    obtain ⟨as, h1, s1⟩ := Dr.reads ok a r
    obtain ⟨bs, h2, s2⟩ := DrAll.reads ok t rs
    exact ⟨as ++ bs, .cons h1 h2, fun z y => (List.mem_append.mp y).elim (s1 z) (s2 z)⟩
end
end
/-- repr(x), x a datum, where nothing is being shown -/
def rRepr : List V → Hp → VK → Prop := fun xs H Q => ∃ (v : V) (d : PyData) (L : Bool) (M : Addr → Prop), xs = [v] ∧ Dr L M H v d ∧ d.showable = true ∧ d.depth ≤ 60 ∧ d.shown.length ≤ sizeLine ∧ Q (.str d.shown) H
theorem call_reprD {X : Cx} {k : Nat} (hgd : X.A.guards = some []) (hr : Room k X.A) : CallR X (.builtin "repr") rRepr := by
  intro pins s σ H xs us Q I r h
  obtain ⟨v, d, L, M, rfl, hd, hs, hdep, hz, q⟩ := h
  obtain ⟨u, rfl, ru⟩ : ∃ u, us = [u] ∧ RelV v u := by
    cases r with
    | cons r1 r2 => cases r2; exact ⟨_, rfl, r1⟩
  have hu := hr.un
  obtain ⟨as, hreads, hsys⟩ := hd.reads I.hok ru
  have hsm : d.hasDict = true → sysModules ∉ as := by
    intro z
    cases L with
    | false => exact hsys rfl
    | true => rw [hd.noDict] at z; cases z
  cases hd with
  | non =>
    cases (show u = Value.none from ru)
    exact PySem.P.repr_of_none ⟨.str _, H, I.tok _, ⟨_, rfl⟩, q⟩
  | bl b =>
    cases (show u = Value.bool b from ru)
    exact PySem.P.repr_of_bool ⟨.str _, H, I.tok _, ⟨_, rfl⟩, by simpa [PyData.shown] using q⟩
  | int i =>
    obtain ⟨t, rfl⟩ := (show ∃ t, u = Value.int i t from ru)
    exact PySem.P.repr_of_int (by simpa [PyData.showable] using hs) ⟨.str _, H, I.tok _, ⟨_, rfl⟩, by simpa [PyData.shown] using q⟩
  | str x =>
    obtain ⟨t, rfl⟩ := (show ∃ t, u = Value.str x t from ru)
    exact PySem.P.repr_of_str ⟨.str _, H, I.tok _, ⟨_, rfl⟩, by simpa [PyData.shown] using q⟩ (by simpa [PyData.shown] using hz)
  | @lst a xs ds e n l t =>
    cases (show u = Value.ref a from ru)
    exact repr_of_reads' hreads hs hsm hgd (by omega) (fun _ _ z => z) (fun h' u' tk hk => ⟨.str _, H, I.kept (t' := tk) hk, ⟨u', rfl⟩, q⟩) hz
  | @tup a xs ds e n t =>
    cases (show u = Value.ref a from ru)
    exact repr_of_reads' hreads hs hsm hgd (by omega) (fun _ _ z => z) (fun h' u' tk hk => ⟨.str _, H, I.kept (t' := tk) hk, ⟨u', rfl⟩, q⟩) hz
  | @dct a e n l =>
    cases (show u = Value.ref a from ru)
    exact repr_of_reads' hreads hs hsm hgd (by omega) (fun _ _ z => z) (fun h' u' tk hk => ⟨.str _, H, I.kept (t' := tk) hk, ⟨u', rfl⟩, q⟩) hz
end L2
end
section
set_option Elab.async false
set_option linter.all false
set_option maxRecDepth 100000
set_option maxHeartbeats 2000000
/-! # == and != of an instance whose class has an __eq__ of its own, with anything. -/
namespace L2
open PySem PySem.Spec PyProof.Rows
section
variable {X : Cx} {pins : List (Addr × Obj)} {σ : St} {H : Hp} {s : Shared}
theorem tyOf_looks {M : Model} {x : V} {u t : Value} (I : Inv X pins σ H s) (rx : RelV x u) (ty : TyOf X.K H x t) : PySem.W.Looks M s.heap (typeOf u) t := by
  have viaRef : ∀ {a : Addr} {o : Obj} {T : String}, s.heap.get? a = some o → o.cls = .type T → PySem.W.Looks M s.heap (typeOf (.ref a)) (.type T) := by
    intro a o T ho hc A Q E s' k q
    exact wpAny_typeOf ⟨o, k _ _ ho, hc⟩ q
  cases ty with
  | non => cases (show u = Value.none from rx); exact fun A Q E s' k q => wpAny_typeOf (PySem.typeIs_none s') q
  | bl b => cases (show u = Value.bool b from rx); exact fun A Q E s' k q => wpAny_typeOf (PySem.typeIs_bool s' b) q
  | int i => obtain ⟨t, rfl⟩ := (show ∃ t, u = Value.int i t from rx); exact fun A Q E s' k q => wpAny_typeOf (typeIs_int s' i t) q
  | str y => obtain ⟨t, rfl⟩ := (show ∃ t, u = Value.str y t from rx); exact fun A Q E s' k q => wpAny_typeOf (typeIs_str s' y t) q
  | flt y => obtain ⟨t, rfl⟩ := (show ∃ t, u = Value.float y t from rx); exact fun A Q E s' k q => wpAny_typeOf (PySem.typeIs_float s' y t) q
  | @lst a xs e =>
    cases (show u = Value.ref a from rx)
    obtain ⟨_, its, m, _, ho⟩ := I.hok a _ e
    exact viaRef ho rfl
  | @frz a o xs e =>
    cases (show u = Value.ref a from rx)
    obtain ⟨_, _, its, m, _, ho⟩ := I.hok a _ e
    exact viaRef ho rfl
  | @tup a xs e =>
    cases (show u = Value.ref a from rx)
    obtain ⟨_, its, _, o, ho, hc, _⟩ := I.hok a _ e
    exact viaRef ho hc
  | @dK a kvs e =>
    cases (show u = Value.ref a from rx)
    obtain ⟨_, _, vs, _, o, es, ep, ho, hc, _⟩ := I.hok a _ e
    exact viaRef ho hc.1
  | @dT a kvs e =>
    cases (show u = Value.ref a from rx)
    obtain ⟨_, _, xs, _, o, es, ep, ho, hc, _⟩ := I.hok a _ e
    exact viaRef ho hc.1
  | @ins a C dx fs e cl ha hn htk hm =>
    cases (show u = Value.ref a from rx)
    obtain ⟨mA, O, _⟩ := ins_get I.hok e
    obtain ⟨od, J, _⟩ := O.look
    exact J.type
end
section
variable {X : Cx} {CX : CXT} {C f : Addr} {fd : FuncData} {ps : List Str} {sp : Sp} {n : Nat} {E : XK}
/-- what the top says of a class with an __eq__ of its own, at f -/
structure EqC (K : PySem.W.Frag) (C f : Addr) : Prop where
  eq : PySem.W.findIn K (.ref C) "__eq__" = some (some (.ref f))
  ne : PySem.W.findIn K (.ref C) "__ne__" = some (some (.builtin "object.__ne__"))
  fn : PySem.W.isFn K (.ref f) = true
  ob : PySem.W.mroIn K C (.type "object") = some true
def rEqO (K : PySem.W.Frag) (C : Addr) (sp : Sp) (E : XK) : R2 := fun x y H Q => ∃ a dx fs t, x = .ref a ∧ H a = some (.ins C dx fs) ∧ TyOf K H y t ∧ PySem.W.notFirst K C t = true ∧ sp [x, y] H (fun v H' => ∃ b, v = .bl b ∧ Q (.bl b) H') E
def rNeO (K : PySem.W.Frag) (C : Addr) (sp : Sp) (E : XK) : R2 := fun x y H Q => ∃ a dx fs t, x = .ref a ∧ H a = some (.ins C dx fs) ∧ TyOf K H y t ∧ PySem.W.notFirst K C t = true ∧ sp [x, y] H (fun v H' => ∃ b, v = .bl b ∧ Q (.bl (!b)) H') E
theorem op_eqO (T : EqC X.K C f) (F : FnG X.prog X.w X.K X.mg X.base CX n f fd ps sp) (hgd : X.A.guards = some []) (hr : Room n X.A) (hb : Binds X.K fd ps []) (hx : Passes CX X E) : OpR X (compareOp .Eq) (rEqO X.K C sp E) := by
  intro pins s σ H x y v u Q I rx ry h
  obtain ⟨a, dx, fs, t, rfl, ha, ty, hn, q⟩ := h
  cases (show v = Value.ref a from rx)
  obtain ⟨mA, O, _⟩ := ins_get I.hok ha
  obtain ⟨od, J, _⟩ := O.look
  obtain ⟨m, hF⟩ := I.fr
  show wpAny (model X.prog X.w) X.A (richCompare .Eq (.ref a) u) (EP X pins σ Q) X.xe s
  refine PySem.W.cmp_K (op := .Eq) (tb := t) hr.units0 hF I.ok.mod.kin J (tyOf_looks I ry ty) hn T.eq T.fn ?_
  refine wpAny_mono (run_fnG (us := [.ref a, u]) (vs := [.ref a, y]) F hgd hr hb .nil hx I (.cons rfl (.cons ry .nil)) q) ?_ (fun _ _ z => z)
  rintro w s' ⟨v', H', I', rv, b, rfl, q'⟩
  cases (show w = Value.bool b from rv)
  exact ⟨.bl b, H', I', rfl, q'⟩
theorem ne_body {A : Around} {M : Model} {a : Addr} {b : Value} {Q : Fin → Shared → Prop} {E' : Value → Shared → Prop} {s : Shared} (hu : A.units < cLine)
    (h : wpAny M A (callSpecialIfBound? (.ref a) "__eq__" [b]) (fun r s' => ∃ k, r = some (.bool k) ∧ Q (.done (.ret (.bool (!k)))) s') E' s) :
    wpAny M A (Builtin.«object.__ne__» ⟨[.ref a, b], []⟩) Q E' s := by
  unfold Builtin.«object.__ne__»
  repeat (first | with_reducible refine wpAny_cRoomFor hu ?_ | (with_reducible refine wpAny_bind (wpAny_mono h ?_ fun _ _ z => z)) | wp_step)
  rintro r s' ⟨k, rfl, hq⟩
  exact wpAny_bind (wpAny_of_eq (show truthy (.bool k) = pure k from rfl) (wpAny_pure hq))
theorem op_neO (T : EqC X.K C f) (F : FnG X.prog X.w X.K X.mg X.base CX n f fd ps sp) (hgd : X.A.guards = some []) (hr : Room (n + 1) X.A) (hb : Binds X.K fd ps []) (hx : Passes CX X E) : OpR X (compareOp .NotEq) (rNeO X.K C sp E) := by
  intro pins s σ H x y v u Q I rx ry h
  obtain ⟨a, dx, fs, t, rfl, ha, ty, hn, q⟩ := h
  cases (show v = Value.ref a from rx)
  obtain ⟨mA, O, _⟩ := ins_get I.hok ha
  obtain ⟨od, J, _⟩ := O.look
  have X0 : X.K.In s.heap := I.kIn
  have hb2 := tyOf_looks (M := model X.prog X.w) I ry ty
  -- the method called within object.__ne__
  have inner : wpAny (model X.prog X.w) X.A.in1 (call (.ref f) [.ref a, u]) (fun w s' => ∃ k, w = .bool k ∧ EP X pins σ Q (.bool (!k)) s') X.xe s := by
    have r2 : Vals [V.ref a, y] [Value.ref a, u] := .cons rfl (.cons ry .nil)
    have hl : ([Value.ref a, u] ++ ([] : List Value)).length = ps.length := r2.length.symm.trans (F.len _ _ _ _ q)
    apply wpAny_call
    refine codeAny_mono (F.run X.A.in1 X.stack s H ⟨[.ref a, u], []⟩ ([.ref a, u] ++ []) [.ref a, y] _ E hgd hr.in1 I.env0.in1 (hb s [.ref a, u] X0 hl) (by simpa using r2) q) ?_
    intro r s' hq
    match r, hq with
    | .error e, hq => exact hx pins σ H s e s' I hq
    | .ok (.ret w), hq =>
      obtain ⟨v', H', I', rv, b, rfl, q'⟩ := I.after hq
      cases (show w = Value.bool b from rv)
      exact ⟨b, rfl, .bl (!b), H', I', rfl, q'⟩
    | .ok .next, hq => exact False.elim hq
    | .ok .brk, hq => exact False.elim hq
    | .ok .cont, hq => exact False.elim hq
  have one : wpAny (model X.prog X.w) X.A (tryCompare (.ref a) "__ne__" u) (fun r s' => ∃ k, r = some (.bool k) ∧ EP X pins σ Q (.bool k) s') X.xe s := by
    unfold tryCompare
    refine wpAny_bind ?_
    simp only [callSpecialIfBound?, bindSpecialIfBound?]
    refine wpAny_holding (wpAny_bind (wpAny_bind (wpAny_bind (J.type.here ((PySem.W.looks_findIn X0 T.ne).here ?_)))))
    refine wpAny_bind (wpAny_askSetting (wpAny_ite ?_))
    have sub : PySem.W.Looks (model X.prog X.w) s.heap (isInstance (.ref a) (.type "object")) true := J.type.andThen (PySem.W.looks_mroIn X0 T.ob)
    have called : wpAny (model X.prog X.w) X.A (call (.builtin "object.__ne__") [.ref a, u]) (fun w s' => ∃ k, w = .bool k ∧ EP X pins σ Q (.bool k) s') X.xe s := by
      refine wpAny_call (codeAny_call_builtin PySem.F.cmp_object.ne.plain PySem.F.cmpEntry_ne (PySem.W.check_slot PySem.F.cmpKind_ne PySem.F.cmpSplit_ne sub (PySem.F.cmpArgs_ne _ _) ?_))
      refine ne_body (by have := hr.un; show X.A.units + 1 < cLine; omega) ?_
      refine PySem.W.ifBound_K X0 J T.eq T.fn (wpAny_mono inner ?_ fun _ _ z => z)
      rintro w s' ⟨k, rfl, z⟩
      exact ⟨k, rfl, !k, rfl, z⟩
    have fin : wpAny (model X.prog X.w) X.A (call (.builtin "object.__ne__") ([.ref a] ++ [u]) >>= fun v => pure (some v)) (fun r s' => wpAny (model X.prog X.w) X.A (match r with
        | some .notImplemented => pure none
        | none => pure none
        | some v => pure (some v)) (fun r s' => ∃ k, r = some (.bool k) ∧ EP X pins σ Q (.bool k) s') X.xe s') X.xe s := by
      refine wpAny_bind (wpAny_mono called ?_ fun _ _ z => z)
      rintro w s' ⟨k, rfl, z⟩
      exact wpAny_pure (wpAny_pure ⟨k, rfl, z⟩)
    split
    · exact wpAny_bind (wpAny_of_eq (PySem.F.cmp_object.ne.bind _) (wpAny_pure fin))
    · exact wpAny_tryCatch (wpAny_bind (wpAny_of_eq (PySem.F.cmp_object.ne.bind _) (wpAny_pure fin)))
  show wpAny (model X.prog X.w) X.A (richCompare .NotEq (.ref a) u) (EP X pins σ Q) X.xe s
  unfold richCompare
  simp only [PySem.oneThing_ref]
  refine wpAny_holding (wpAny_bind (wpAny_cRoomFor hr.units0 ?_))
  refine wpAny_bind (J.type.here (wpAny_bind (hb2.here ?_)))
  split
  · rename_i z
    have e : PySem.W.subIn X.K t (.ref C) = some false := by
      rcases Bool.or_eq_true_iff.mp hn with e | e
      · rw [beq_iff_eq.mp e] at z
        simp at z
      · exact beq_iff_eq.mp e
    refine wpAny_bind ((PySem.W.looks_subIn X0 e).here ?_)
    simp only [Bool.false_eq_true, if_false]
    refine wpAny_bind (wpAny_mono one ?_ fun _ _ z => z)
    rintro r s' ⟨k, rfl, z⟩
    exact wpAny_pure z
  · refine wpAny_bind (wpAny_pure ?_)
    simp only [Bool.false_eq_true, if_false]
    refine wpAny_bind (wpAny_mono one ?_ fun _ _ z => z)
    rintro r s' ⟨k, rfl, z⟩
    exact wpAny_pure z
end
end L2
end
section
set_option Elab.async false
set_option linter.all false
set_option maxRecDepth 100000
set_option maxHeartbeats 2000000
/-! # range(n) as a value, walked later. -/
namespace L2
open PySem PySem.Spec PyProof.Rows
section
variable {X : Cx}
theorem cr_rangeOne : CallR X (.type "range") (fun vs H Q => ∃ j, vs = [V.int j] ∧ ∀ p, H p = none → Q (.ref p) (upd H p (.rng 0 j))) := by
  intro pins s σ H vs us Q I r h
  obtain ⟨j, rfl, q⟩ := h
  obtain ⟨u, rfl, t, rfl⟩ : ∃ u, us = [u] ∧ ∃ t, u = Value.int j t := by
    cases r with
    | cons r1 r2 => cases r2; exact ⟨_, rfl, r1⟩
  have hf : H s.heap.objs.size = none := I.hok.fresh (Nat.le_refl _)
  refine call_range_1 ⟨.ref s.heap.objs.size, upd H s.heap.objs.size (.rng 0 j), ?_, rfl, q _ hf⟩
  exact I.laid (fun b o e => Heap.get?_push_of_some _ e) (Nat.le_refl _) ⟨_, t, _, Heap.get?_push_size _ rfl⟩
/-- for .. in r, r a range object that is tracked -/
def iRngV (te : TE) : TI := fun σ H R => te σ H fun x H1 => ∃ a lo hi, x = .ref a ∧ H1 a = some (.rng lo hi) ∧ -(2 ^ 62) ≤ lo ∧ lo < 2 ^ 62 ∧ -(2 ^ 62) ≤ hi ∧ hi < 2 ^ 62 ∧ R (Itr lo (hi - lo).toNat) H1
theorem pi_rngV {tg e : Expr} {te : TE} (he : PE X e te) : PI X tg e (iRngV te) := by
  constructor
  intro pins s σ H R I h
  refine thn (he.run pins s σ H _ I h) ?_
  rintro v s1 ⟨x, H1, I1, r1, a, lo, hi, rfl, ha, h1, h2, h3, h4, q⟩
  cases (show v = Value.ref a from r1)
  obtain ⟨t, u, w, ho⟩ := (show ObjOk X.prog X.w H1 s1.heap a (.rng lo hi) from I1.hok a _ ha)
  refine wpAny_pyIter_range (show IsRange s1.heap a lo hi 1 t u w from ho) (small_one h1 h2 h3 h4) ?_
  refine ⟨s1.heap.objs.size, [s1.heap.objs.size], _, _, H1, rfl, I1.kept (t' := s1.toks) (fun b o e => Heap.get?_push_of_some _ e), turn_range _ lo (hi - lo).toNat, ?_, ?_, q⟩
  · have e1 : lo + ((0 : Nat) : Int) * 1 = lo := by simp
    have e2 : (((hi - lo).toNat : Nat) : Int) - ((0 : Nat) : Int) = Builtin.Range.rangeSize lo hi 1 := by
      rw [rangeSize_one]
      split <;> omega
    show IsRangeIter _ _ (lo + ((0 : Nat) : Int) * 1) ((((hi - lo).toNat : Nat) : Int) - ((0 : Nat) : Int)) 1
    rw [e1, e2]
    exact Heap.get?_push_size _ rfl
  · intro b hb
    cases (by simpa using hb : b = s1.heap.objs.size)
    exact I1.fpOk (Nat.le_refl _) (I1.hok.fresh (Nat.le_refl _))
end
end L2
end
section
set_option Elab.async false
set_option linter.all false
set_option maxRecDepth 100000
set_option maxHeartbeats 2000000
/-! # Defs, classes and methods as one fact each. -/
namespace L2
open PySem PySem.Spec PyProof.Rows
abbrev CXe (P : Program) (w : World) : CXT := L2.CX P w
/-- a def of the module, called by its name -/
structure CalG (P : Program) (w : World) (K : PySem.W.Frag) (mg : Str → Option Value) (base : Heap) (k : Nat) (x : Str) (sp : Sp) : Prop where
  ex : ∃ (f : Addr) (fd : FuncData) (ps : List Str), FnG P w K mg base (CXe P w) k f fd ps sp ∧ mg x = some (.ref f) ∧ PySem.W.keepIn K (.ref f) = true ∧ Binds K fd ps []
/-- a class, called: its __init__ at sp, dvs its last defaults -/
structure MakG (P : Program) (w : World) (K : PySem.W.Frag) (mg : Str → Option Value) (base : Heap) (k : Nat) (x : Str) (C : Addr) (sp : Sp) (dvs : List V) : Prop where
  ex : ∃ (f : Addr) (fd : FuncData) (ps : List Str) (ds : List Value), FnG P w K mg base (CXe P w) k f fd ps sp ∧ Mk K C f ∧ mg x = some (.ref C) ∧ Binds K fd ps ds ∧ Vals dvs ds
/-- a method -/
structure MetG (P : Program) (w : World) (K : PySem.W.Frag) (mg : Str → Option Value) (base : Heap) (k : Nat) (C : Addr) (m : Str) (sp : Sp) : Prop where
  ex : ∃ (f : Addr) (fd : FuncData) (ps : List Str), FnG P w K mg base (CXe P w) k f fd ps sp ∧ Cls K C ∧ Meth K C m f ∧ Binds K fd ps []
section
variable {X : Cx} {k j : Nat} {x m : Str} {C : Addr} {sp : Sp} {dvs : List V} {e o : Expr} {es : List Expr} {ta : TE} {t : TA} {p pos apos : Pos} {E : St → XK}
theorem run_fnGS {pins : List (Addr × Obj)} {σ : St} {H : Hp} {s : Shared} {Q : VK} {us : List Value} {vs : List V} {CX : CXT} {f : Addr} {fd : FuncData} {ps : List Str} {E : XK}
    (F : FnG X.prog X.w X.K X.mg X.base CX k f fd ps sp) (hgd : X.A.guards = some []) (hr : Room k X.A) (hb : Binds X.K fd ps [])
    (hx : PassesAt CX X σ E) (I : Inv X pins σ H s) (r : Vals vs us) (h : sp vs H Q E) :
    wpAny (model X.prog X.w) X.A (call (.ref f) us) (EP X pins σ Q) X.xe s := by
  have hl : (us ++ []).length = ps.length := by
    rw [List.append_nil]
    exact r.length.symm.trans (F.len _ _ _ _ h)
  have hbb := hb s us I.kIn hl
  rw [List.append_nil] at hbb
  apply wpAny_call
  refine codeAny_mono (F.run X.A X.stack s H ⟨us, []⟩ us vs Q E hgd hr I.env0 hbb r h) ?_
  intro r s' hq
  match r, hq with
  | .error e, hq => exact hx pins H s e s' I hq
  | .ok (.ret u), hq => exact I.after hq
  | .ok .next, hq => exact False.elim hq
  | .ok .brk, hq => exact False.elim hq
  | .ok .cont, hq => exact False.elim hq
/-- f(e, ..): E says by the slots what is wanted of an exception -/
theorem pg_cS (c : CalG X.prog X.w X.K X.mg X.base k x sp) (hgd : X.A.guards = some []) (hr : Room j X.A) (hk : k ≤ j) (hx : ∀ σ, PassesAt (CXe X.prog X.w) X σ (E σ))
    (ha : PA X (e :: es) t) (hg : Gl X x := by rfl) (hdb : (x == ("__debug__" : Str)) = false := by decide)
    (he : starEach (e :: es) X.env = (false, eval e X.env) :: starEach es X.env := by rfl)
    (hpl : (backTo pos (starEach es X.env)).any (·.1) = false := by rfl) :
    PE X (.Call (.Name x p) (e :: es) [] pos) (tCallS sp E t) := by
  obtain ⟨f, fd, ps, F, hm, kp, hb⟩ := c.ex
  constructor
  intro pins s σ H Q I h
  refine wpAny_Call_Name_kw (ld_glob I hg hm ?_ hdb)
  refine PySem.W.callWith_K (h₀ := X.base) I.ok.mod.kin kp (thn (ha.run pos pins s σ H _ I h) ?_) he hpl
  rintro us s1 ⟨vs, H1, I1, r, q⟩
  exact ⟨I1.kIn, run_fnGS F hgd (hr.mono hk) hb (hx σ) I1 r q⟩
/-- where no exception leaves -/
theorem pg_c (c : CalG X.prog X.w X.K X.mg X.base k x sp) (hgd : X.A.guards = some []) (hr : Room j X.A) (hk : k ≤ j)
    (ha : PA X (e :: es) t) (hg : Gl X x := by rfl) (hdb : (x == ("__debug__" : Str)) = false := by decide)
    (he : starEach (e :: es) X.env = (false, eval e X.env) :: starEach es X.env := by rfl)
    (hpl : (backTo pos (starEach es X.env)).any (·.1) = false := by rfl) :
    PE X (.Call (.Name x p) (e :: es) [] pos) (tCallS sp (fun _ => E0) t) :=
  pg_cS c hgd hr hk (fun σ pins H s e s' I c => passL pins σ H s e s' I c) ha hg hdb he hpl
def tMakeS (C : Addr) (sp : Sp) (dvs : List V) (E : St → XK) (t : TA) : TE := fun σ H Q => t σ H fun vs H1 => ∀ x dx, H1 x = none → H1 dx = none → dx ≠ x →
  sp (.ref x :: (vs ++ dvs)) (upd (upd H1 dx (.own x)) x (.ins C dx [])) (fun v H2 => v = .non ∧ Q (.ref x) H2) (E σ)
theorem run_makeGS {pins : List (Addr × Obj)} {σ : St} {H : Hp} {s : Shared} {Q : VK} {us ds : List Value} {vs : List V} {CX : CXT} {f : Addr} {fd : FuncData} {ps : List Str} {E : XK}
    (M : Mk X.K C f) (F : FnG X.prog X.w X.K X.mg X.base CX k f fd ps sp) (hgd : X.A.guards = some []) (hr : Room (k + 1) X.A) (hb : Binds X.K fd ps ds) (hd : Vals dvs ds)
    (hx : PassesAt CX X σ E) (I : Inv X pins σ H s) (r : Vals vs us)
    (h : ∀ x dx, H x = none → H dx = none → dx ≠ x → sp (.ref x :: (vs ++ dvs)) (upd (upd H dx (.own x)) x (.ins C dx [])) (fun v H2 => v = .non ∧ Q (.ref x) H2) E) :
    wpAny (model X.prog X.w) X.A (call (.ref C) us) (EP X pins σ Q) X.xe s := by
  have q0 := h (s.heap.objs.size + 1) s.heap.objs.size (I.hok.fresh (Nat.le_succ _)) (I.hok.fresh (Nat.le_refl _)) (Nat.ne_of_lt (Nat.lt_succ_self _))
  have I2 := Inv.made (C := C) I
  have r2 : Vals (V.ref (s.heap.objs.size + 1) :: (vs ++ dvs)) (Value.ref (s.heap.objs.size + 1) :: (us ++ ds)) := Paired.cons rfl (r.append hd)
  have hl : (Value.ref (s.heap.objs.size + 1) :: us ++ ds).length = ps.length := r2.length.symm.trans (F.len _ _ _ _ q0)
  have gd : (X.A.under (.builtin "type.__call__" ⟨.ref C :: us, []⟩)).guards = some [] := by
    have z : (X.A.under (.builtin "type.__call__" ⟨.ref C :: us, []⟩)).guards = X.A.guards := by
      first | rfl | simp [Around.under, Code.guards, pushGuards, guardIds]
    rw [z, hgd]
  apply wpAny_call
  refine make_map (f := f) I.kIn M.makes M.init (beq_iff_eq.mp M.fn) ?_
  refine codeAny_mono (F.run _ X.stack _ _ ⟨Value.ref (s.heap.objs.size + 1) :: us, []⟩ (Value.ref (s.heap.objs.size + 1) :: (us ++ ds)) _ _ E gd (hr.make C us []) (I2.env0.make C us []) (hb _ (Value.ref (s.heap.objs.size + 1) :: us) I2.kIn hl) r2 q0) ?_
  intro r s' hq
  match r, hq with
  | .error e, hq => exact hx pins _ _ e s' I2 hq
  | .ok (.ret u), hq =>
    obtain ⟨v, H', I3, rv, ev, q3⟩ := I2.after hq
    subst ev
    exact ⟨rv, ⟨V.ref (s.heap.objs.size + 1), H', I3, rfl, q3⟩⟩
  | .ok .next, hq => exact False.elim hq
  | .ok .brk, hq => exact False.elim hq
  | .ok .cont, hq => exact False.elim hq
theorem pg_mkS (c : MakG X.prog X.w X.K X.mg X.base k x C sp dvs) (hgd : X.A.guards = some []) (hr : Room j X.A) (hk : k + 1 ≤ j) (hx : ∀ σ, PassesAt (CXe X.prog X.w) X σ (E σ))
    (ha : PA X (e :: es) t) (hg : Gl X x := by rfl) (hdb : (x == ("__debug__" : Str)) = false := by decide)
    (he : starEach (e :: es) X.env = (false, eval e X.env) :: starEach es X.env := by rfl)
    (hpl : (backTo pos (starEach es X.env)).any (·.1) = false := by rfl) :
    PE X (.Call (.Name x p) (e :: es) [] pos) (tMakeS C sp dvs E t) := by
  obtain ⟨f, fd, ps, ds, F, M, hm, hb, hd⟩ := c.ex
  constructor
  intro pins s σ H Q I h
  refine wpAny_Call_Name_kw (ld_glob I hg hm ?_ hdb)
  refine PySem.W.callWith_K (h₀ := X.base) I.ok.mod.kin M.kp (thn (ha.run pos pins s σ H _ I h) ?_) he hpl
  rintro us s1 ⟨vs, H1, I1, r, q⟩
  exact ⟨I1.kIn, run_makeGS M F hgd (hr.mono hk) hb hd (hx σ) I1 r q⟩
theorem pg_mk (c : MakG X.prog X.w X.K X.mg X.base k x C sp dvs) (hgd : X.A.guards = some []) (hr : Room j X.A) (hk : k + 1 ≤ j)
    (ha : PA X (e :: es) t) (hg : Gl X x := by rfl) (hdb : (x == ("__debug__" : Str)) = false := by decide)
    (he : starEach (e :: es) X.env = (false, eval e X.env) :: starEach es X.env := by rfl)
    (hpl : (backTo pos (starEach es X.env)).any (·.1) = false := by rfl) :
    PE X (.Call (.Name x p) (e :: es) [] pos) (tMakeS C sp dvs (fun _ => E0) t) :=
  pg_mkS c hgd hr hk (fun σ pins H s e s' I c => passL pins σ H s e s' I c) ha hg hdb he hpl
theorem pg_mk0 (c : MakG X.prog X.w X.K X.mg X.base k x C sp dvs) (hgd : X.A.guards = some []) (hr : Room j X.A) (hk : k + 1 ≤ j)
    (hg : Gl X x := by rfl) (hdb : (x == ("__debug__" : Str)) = false := by decide) :
    PE X (.Call (.Name x p) [] [] pos) (tMakeS C sp dvs (fun _ => E0) tNil) := by
  obtain ⟨f, fd, ps, ds, F, M, hm, hb, hd⟩ := c.ex
  constructor
  intro pins s σ H Q I h
  refine wpAny_Call_Name_kw (ld_glob I hg hm ?_ hdb)
  exact PySem.W.callWith_K0 I.kIn M.kp (run_makeGS (us := []) M F hgd (hr.mono hk) hb hd (fun pins H s e s' I c => passL pins σ H s e s' I c) I .nil h)
def tMethX6 (C : Addr) (m : Str) (sp : Sp) (E : St → XK) (ta : TE) (t : TA) : TE := fun σ H Q => ta σ H fun x H1 => ∃ a dx fs, x = .ref a ∧ H1 a = some (.ins C dx fs) ∧ fs.lookup m = none ∧
  t σ H1 fun vs H2 => sp (x :: vs) H2 Q (E σ)
theorem pg_mtS {pl : Sem Bool} (c : MetG X.prog X.w X.K X.mg X.base k C m sp) (hgd : X.A.guards = some []) (hr : Room j X.A) (hk : k ≤ j) (hx : ∀ σ, PassesAt (CXe X.prog X.w) X σ (E σ)) (ho : PE X o ta) (ha : PA X (e :: es) t)
    (hst : starEach (e :: es) X.env = (false, eval e X.env) :: starEach es X.env := by rfl)
    (hpl : (backTo pos (starEach es X.env)).any (·.1) = false := by rfl)
    (ht : eval (.Call (.Attribute o m apos) (e :: es) [] pos) X.env =
      (do let ov ← eval o X.env; standAt apos.atName; let (f, first) ← holding [ov] (getMethod ov m pl); callWith pos f first (backTo pos (starEach (e :: es) X.env)) (backToKw pos (keywordEach [] X.env))) := by rfl) :
    PE X (.Call (.Attribute o m apos) (e :: es) [] pos) (tMethX6 C m sp E ta t) := by
  obtain ⟨f, fd, ps, F, cl, hm, hb⟩ := c.ex
  constructor
  intro pins s σ H Q I h
  refine PySem.W.methodCall_KW (pl := pl) (thn (ho.run pins s σ H _ I h) ?_) ht
  rintro u s1 ⟨x, H1, I1, rx, a, dx, fs, ex, ea, l, q⟩
  subst ex
  cases (show u = Value.ref a from rx)
  refine getmeth_ok I1 ea cl hm l ?_
  refine PySem.W.callWith_K (first := [.ref a]) (h₀ := X.base) I.ok.mod.kin hm.kp (thn (ha.run pos pins s1 σ H1 _ I1 q) ?_) hst hpl
  rintro us s2 ⟨vs, H2, I2, r, q2⟩
  exact ⟨I2.kIn, run_fnGS (us := .ref a :: us) (vs := .ref a :: vs) F hgd (hr.mono hk) hb (hx σ) I2 (.cons rfl r) q2⟩
theorem pg_mt {pl : Sem Bool} (c : MetG X.prog X.w X.K X.mg X.base k C m sp) (hgd : X.A.guards = some []) (hr : Room j X.A) (hk : k ≤ j) (ho : PE X o ta) (ha : PA X (e :: es) t)
    (hst : starEach (e :: es) X.env = (false, eval e X.env) :: starEach es X.env := by rfl)
    (hpl : (backTo pos (starEach es X.env)).any (·.1) = false := by rfl)
    (ht : eval (.Call (.Attribute o m apos) (e :: es) [] pos) X.env =
      (do let ov ← eval o X.env; standAt apos.atName; let (f, first) ← holding [ov] (getMethod ov m pl); callWith pos f first (backTo pos (starEach (e :: es) X.env)) (backToKw pos (keywordEach [] X.env))) := by rfl) :
    PE X (.Call (.Attribute o m apos) (e :: es) [] pos) (tMethX6 C m sp (fun _ => E0) ta t) :=
  pg_mtS c hgd hr hk (fun σ pins H s e s' I c => passL pins σ H s e s' I c) ho ha hst hpl ht
theorem pg_mt0 {pl : Sem Bool} (c : MetG X.prog X.w X.K X.mg X.base k C m sp) (hgd : X.A.guards = some []) (hr : Room j X.A) (hk : k ≤ j) (ho : PE X o ta)
    (ht : eval (.Call (.Attribute o m apos) [] [] pos) X.env =
      (do let ov ← eval o X.env; standAt apos.atName; let (f, first) ← holding [ov] (getMethod ov m pl); callWith pos f first (backTo pos (starEach [] X.env)) (backToKw pos (keywordEach [] X.env))) := by rfl) :
    PE X (.Call (.Attribute o m apos) [] [] pos) (tMethX6 C m sp (fun _ => E0) ta tNil) := by
  obtain ⟨f, fd, ps, F, cl, hm, hb⟩ := c.ex
  constructor
  intro pins s σ H Q I h
  refine PySem.W.methodCall_KW (pl := pl) (thn (ho.run pins s σ H _ I h) ?_) ht
  rintro u s1 ⟨x, H1, I1, rx, a, dx, fs, ex, ea, l, q⟩
  subst ex
  cases (show u = Value.ref a from rx)
  refine getmeth_ok I1 ea cl hm l ?_
  exact PySem.W.callWith_K0 (first := [.ref a]) I1.kIn hm.kp (run_fnGS (us := [.ref a]) (vs := [.ref a]) F hgd (hr.mono hk) hb (fun pins H s e s' I c => passL pins σ H s e s' I c) I1 (.cons rfl .nil) q)
end
section
variable {P : Program} {w : World} {K : PySem.W.Frag} {mg : Str → Option Value} {base : Heap} {x qual : Str} {f : Addr} {fd : FuncData} {N ps : List Str} {k : Nat} {sp : Sp}
/-- a def by its body: it may raise, and nothing is being shown around it -/
theorem Fun.okG {st : Stmt} (F : Fun K x qual st f fd) (S : FnScope N ps (defScope st)) (len : ∀ vs H Q E, sp vs H Q E → vs.length = ps.length)
    (hbody : ∀ (cdv : Value) (A : Around) (outer : List Env) (s : Shared) (H : Hp) (vs : List V) (Q : VK) (E : XK), (A.deeper (envOfC qual (defScope st) s.heap.objs.size f cdv)).guards = some [] →
      Room k (A.deeper (envOfC qual (defScope st) s.heap.objs.size f cdv)) → sp vs H Q E →
      ∃ t, PSs (cxOf (CXe P w) P w K mg base N qual (defScope st) f cdv A outer s H E) (defBody st) t ∧ t { nx := fun _ H' => Q .non H', rt := Q } (start N vs) H) :
    FnG P w K mg base (CXe P w) (k + 1) f fd ps sp := by
  obtain ⟨oc, od, kV, doc, pm, an, cdv, ct, osl, rfl, lk, hcd⟩ := F.ex
  exact fn_ofG lk hcd S len fun A outer s H vs Q E hg hr hsp => hbody cdv A outer s H vs Q E hg hr hsp
theorem FunD.okG {params : Arguments} {body : List Stmt} {scope : Scope} {dvs : List V} {kws : List (Str × V)} (F : FunD K x qual params body scope dvs kws f fd) (S : FnScope N ps scope) (len : ∀ vs H Q E, sp vs H Q E → vs.length = ps.length)
    (hbody : ∀ (cdv : Value) (A : Around) (outer : List Env) (s : Shared) (H : Hp) (vs : List V) (Q : VK) (E : XK), (A.deeper (envOfC qual scope s.heap.objs.size f cdv)).guards = some [] →
      Room k (A.deeper (envOfC qual scope s.heap.objs.size f cdv)) → sp vs H Q E →
      ∃ t, PSs (cxOf (CXe P w) P w K mg base N qual scope f cdv A outer s H E) body t ∧ t { nx := fun _ H' => Q .non H', rt := Q } (start N vs) H) :
    FnG P w K mg base (CXe P w) (k + 1) f fd ps sp := by
  obtain ⟨oc, od, dV, kV, doc, pm, an, cdv, ct, osl, rfl, lk, hcd, _, _⟩ := F.ex
  exact fn_ofG lk hcd S len fun A outer s H vs Q E hg hr hsp => hbody cdv A outer s H vs Q E hg hr hsp
end
/-- the type of a tracked value, where it is one of the common ones -/
def tyN (H : Hp) : V → Option String
  | .non => some "NoneType"
  | .bl _ => some "bool"
  | .int _ => some "int"
  | .str _ => some "str"
  | .ref a => match H a with
    | some (.lst _) => some "list"
    | some (.tup _) => some "tuple"
    | some (.dK _) => some "dict"
    | some (.dT _) => some "dict"
    | _ => none
  | _ => none
theorem tyN_of {K : PySem.W.Frag} {H : Hp} {v : V} {n : String} (h : tyN H v = some n) : TyOf K H v (.type n) := by
  cases v with
  | non => cases h; exact .non
  | bl b => cases h; exact .bl b
  | int i => cases h; exact .int i
  | str x => cases h; exact .str x
  | byt b => cases h
  | flt b => cases h
  | ty t => cases h
  | ref a =>
    simp only [tyN] at h
    cases e : H a with
    | none => rw [e] at h; cases h
    | some o =>
      rw [e] at h
      cases o <;> simp only at h <;> first | (cases h; done) | skip
      all_goals first
        | (cases h; exact .lst e)
        | (cases h; exact .tup e)
        | (cases h; exact .dK e)
        | (cases h; exact .dT e)
end L2
end
section
set_option Elab.async false
set_option linter.all false
set_option maxRecDepth 100000
set_option maxHeartbeats 2000000
/-! # New objects, the heap behind them a letter. -/
namespace L2
open PySem PySem.Spec PyProof.Rows
theorem same_new {H : Hp} {p : Addr} {o : HO} (h : H p = none) : Same H (upd H p o) := fun b u e => by
  rw [upd_ne (ne_of_none e h)]; exact e
/-- o stands at p, new, in H2; else H2 is H -/
structure New (H H2 : Hp) (p : Addr) (o : HO) : Prop where
  free : H p = none
  at_ : H2 p = some o
  same : Same H H2
  rest : ∀ b, b ≠ p → H2 b = H b
theorem New.mk' {H : Hp} {p : Addr} {o : HO} (h : H p = none) : New H (upd H p o) p o := ⟨h, upd_same, same_new h, fun _ hb => upd_ne hb⟩
theorem New.off {M : Addr → Prop} {H H2 : Hp} {p : Addr} {o : HO} (n : New H H2 p o) : Off M H H2 := Off.same n.same
section
variable {X : Cx} {es : List Expr} {t : TA} {pos : Pos}
def tTupA (t : TA) : TE := fun σ H Q => t σ H fun xs H1 => xs.length ≤ sizeLine ∧ ∀ p H2, New H1 H2 p (.tup xs) → Q (.ref p) H2
def tLstA (t : TA) : TE := fun σ H Q => t σ H fun xs H1 => xs.length ≤ sizeLine ∧ ∀ p H2, New H1 H2 p (.lst xs) → Q (.ref p) H2
theorem pe_tupA {x1} (h : PA X es t) : PE X (.Tuple es x1 pos) (tTupA t) := by
  constructor
  intro pins s σ H Q I hq
  refine wpAny_Tuple_spliced (thn (h.run pos pins s σ H _ I hq) ?_)
  rintro us s1 ⟨xs, H1, I1, r, z, q⟩
  refine ⟨by rw [← r.length]; exact z, ?_⟩
  have hf : H1 s1.heap.objs.size = none := I1.hok.fresh (Nat.le_refl _)
  refine ⟨.ref s1.heap.objs.size, upd H1 s1.heap.objs.size (.tup xs), ?_, rfl, q _ _ (New.mk' hf)⟩
  exact I1.laid (t' := s1.toks) (fun b u e => Heap.get?_push_of_some _ e) (Nat.le_refl _) ⟨z, us, r, _, Heap.get?_push_size _ rfl, rfl, _, rfl⟩
theorem pe_lstA (h : PA X es t) : PE X (.List es pos) (tLstA t) := by
  constructor
  intro pins s σ H Q I hq
  refine wpAny_List_spliced (thn (h.run pos pins s σ H _ I hq) ?_)
  rintro us s1 ⟨xs, H1, I1, r, z, q⟩
  refine ⟨by rw [← r.length]; exact z, ?_⟩
  have hf : H1 s1.heap.objs.size = none := I1.hok.fresh (Nat.le_refl _)
  refine ⟨.ref s1.heap.objs.size, upd H1 s1.heap.objs.size (.lst xs), ?_, rfl, q _ _ (New.mk' hf)⟩
  exact I1.laid (t' := s1.toks) (fun b u e => Heap.get?_push_of_some _ e) (Nat.le_refl _) ⟨z, us, 0, r, Heap.get?_push_size _ rfl⟩
def tDNewA : TE := fun _ H Q => ∀ p H2, New H H2 p (.dK []) → Q (.ref p) H2
theorem pe_dnewA : PE X (.Dict [] [] pos) tDNewA := by
  constructor
  intro pins s σ H Q I hq
  exact pe_dnewK.run pins s σ H Q I fun p hp => hq p _ (New.mk' hp)
end
end L2
end
section
set_option Elab.async false
set_option linter.all false
set_option maxRecDepth 100000
set_option maxHeartbeats 2000000
/-! # What the top leaves, each fact from facts that are looked up. -/
namespace L2
open PySem PySem.Spec PyProof.Rows
theorem funD_mk {K : PySem.W.Frag} {x qual : Str} {params : Arguments} {body : List Stmt} {scope : Scope} {dvs : List V} {f T : Addr} {oc : Value} {od an : Option Addr} {osl : Array (Option Value)} {kV doc pm cdv ct : Value} {o : Obj} {its : List Value} {n : Nat}
    (l : K.lookup f = some ⟨oc, od, .func (PySem.W.fnOf x qual params body scope (.ref T) kV doc pm an cdv ct), osl⟩) (c : PySem.W.codeIn K cdv qual = true) (k : PySem.W.keepIn K (.ref f) = true)
    (t : K.lookup T = some o) (u : o.data = .seq its.toArray n) (v : Vals dvs its) (ne : dvs ≠ []) : FunD K x qual params body scope dvs [] f (PySem.W.fnOf x qual params body scope (.ref T) kV doc pm an cdv ct) :=
  ⟨⟨oc, od, _, kV, doc, pm, an, cdv, ct, osl, rfl, l, c, .inr ⟨ne, T, o, its, n, rfl, t, u, v⟩, .inl rfl⟩, k⟩
end L2
namespace RX
open PySem PySem.W PySem.Calls PyProof.Rows PySem.HandSPX
theorem te_of {K : Frag} {S : Addr} (a : subIn K (.ref S) (.type "BaseException") = some true) (b : isClsIn K S = true) (c : typeIn K (.ref S) = some (.type "type")) (d : subIn K (.ref S) (.ref S) = some true) : exmOne K (.ref S) (.ref S) = some true := by
  have b' : (clsIn K S).isSome = true := b
  simp [exmOne, kitCls, a, b', c, d]
/-- an error of the package, from facts that are looked up -/
theorem errT_mk {prog : Program} {K : Frag} {mg : Str → Option Value} {h : Heap} {cn fld : Str} {C fI : Addr} (X : K.In h) (G : h.Ns mainGlobals mg)
    {nm q : Str} {N : Addr} {bs bm : List Value} {sn : List Str} {sub : List Value} {ab : Bool} {col : Option Bool} {dd : Option Addr} {k0 k1 k2 k3 k5 : Option Value}
    {oc : Value} {od : Option Addr} {doc pm : Value} {an : Option Addr} {cda cc : Addr} {ct : Value} {osl : Array (Option Value)} {msg : Str} {qual : Str} {p1 p2 q1 q2 q3 q4 q5 q6 q7 q8 q9 q10 : Pos}
    {ccl cl : Value} {cdd cld : Option Addr} {ccs csl : Array (Option Value)} {vs : Array Value} {file : Str} {tf : Tok}
    (gC : nsIn K mainGlobals cn = some (some (.ref C)))
    (cls : K.lookup C = some (excClassObj nm q C N bs bm true sn sub ab col dd k0 k1 k2 k3 k5 "ValueError.__new__")) (rv : refsVE bm = true)
    (sa : findIn K (.ref C) "__setattr__" = some (some (.builtin "object.__setattr__")))
    (ga : findIn K (.ref C) "__getattribute__" = some (some (.builtin "BaseException.__getattribute__"))) (gg : findIn K (.ref C) "__getattr__" = some none)
    (noN : findIn K (.ref C) fld = some none) (iC : findIn K (.ref C) "__init__" = some (some (.ref fI))) (tC : typeIn K (.ref fI) = some (.type "function")) (kC : keepIn K (.ref C) = true)
    (exC : subIn K (.ref C) (.type "BaseException") = some true) (tyC : typeIn K (.ref C) = some (.type "type")) (hdC : hasDictIn K C = true)
    (icC : isClsIn K C = true) (sC : subIn K (.ref C) (.ref C) = some true)
    (veC : subIn K (.ref C) (.type "ValueError") = some true) (selfM : mroIn K C (.ref C) = some true) (up : ks_superIn K C C "__init__" = some (some (.builtin "ValueError.__init__")))
    (third : nsIn K cStatics "thirdparty.any" = some none) (noS : nsIn K mainGlobals "super" = some none) (top : (prog.main.scope.names.lookup ("super" : Str)).isSome = false)
    (fl : (eS fld).names.lookup fld = some .local ∧ (fld == ("self" : Str)) = false ∧ (eS fld).names.lookup ("super" : Str) = some .globalImplicit ∧ (eS fld).names.lookup ("__class__" : Str) = some .free ∧ (fld == ("__debug__" : Str)) = false)
    (bd : ∀ (qual : Str) (body : List Stmt) (doc pm : Value) (an : Option Addr) (cd ct : Value) (cc : Addr) (p1 p2 : Pos) (a b : Value), bindArgs (ksFn "__init__" qual (eA fld p1 p2) body (eS fld) .none .none doc pm an cd ct cc) ⟨[a, b], []⟩ = pure [(("self" : Str), a), (fld, b)])
    (l : K.lookup fI = some ⟨oc, od, .func (ksFn "__init__" qual (eA fld p1 p2) (eB fld msg q1 q2 q3 q4 q5 q6 q7 q8 q9 q10) (eS fld) .none .none doc pm an (.ref cda) ct cc), osl⟩) (cd : codeIn K (.ref cda) qual = true)
    (lc : K.lookup cda = some ⟨ccl, cdd, .fields vs, ccs⟩) (v2 : vs[2]? = some (.str file tf)) (vf : ((prog.main.file : Str) == file) = true) (lcc : K.lookup cc = some ⟨cl, cld, .cell (some (.ref C)), csl⟩) (ln : (q3.endLine == q5.line) = true) :
    ErrT prog K mg cn fld C fI :=
  { gC := mg_of X G gC, cls := ⟨nm, q, N, bs, bm, sn, sub, ab, col, dd, k0, k1, k2, k3, k5, cls, rv⟩, sa := sa, xf := ⟨ga, gg, exC, hdC⟩, noN := noN, iC := iC, tC := tC, kC := kC, exC := exC, tyC := tyC, hdC := hdC, te := te_of exC icC tyC sC, veC := veC, selfM := selfM, up := up, third := third,
    noS := noS, top := top, fl := fl, bd := bd, fn := ⟨oc, od, doc, pm, an, cda, cc, ct, osl, msg, qual, p1, p2, q1, q2, q3, q4, q5, q6, q7, q8, q9, q10, ccl, cl, cdd, cld, ccs, csl, vs, file, tf, l, cd, lc, v2, vf, lcc, ln⟩ }
end RX
end
section
set_option Elab.async false
set_option linter.all false
set_option maxRecDepth 100000
set_option maxHeartbeats 2000000
/-! # enumerate of a tuple, and of a list or a tuple. -/
namespace L2
open PySem PySem.Spec PyProof.Rows
theorem meets_en1 {v : Value} {o : Obj} {Z : Heap → Prop} (B : Begins v o Z) :
    Meets (Builtin.«enumerate.__new__» ⟨[.type "enumerate", v], []⟩) (fun _ R s => Z s.heap ∧ R (.ok (.ret (.ref (s.heap.push o).objs.size)))
      { s with heap := (s.heap.push o).push { cls := .type "enumerate", data := .fields #[.none, .bool false, .ref s.heap.objs.size, rawInt 0, .none, .none] } }) :=
  .of_wp fun prog w A R s q => by
    obtain ⟨hp, ge, dr, tk, os⟩ := s
    obtain ⟨z1, q⟩ := q
    have hs := sub_enumerate
    have step : ∀ {A' : Around} {E : Value → Shared → Prop} {Q : Value → Shared → Prop}, Q (.ref hp.objs.size) ⟨hp.push o, ge, dr, tk, os⟩ → wpAny (model prog w) A' (pyIter v) Q E ⟨hp, ge, dr, tk, os⟩ := fun u => B.iter prog w _ _ ⟨hp, ge, dr, tk, os⟩ _ z1 u
    wp_walk using step
    refine wpAny_stack_any fun sk => wpAny_pure ?_
    split
    · rename_i c _ _ _ _ _
      cases (c == Value.type "enumerate") <;> (wp_walk using step; exact ⟨_, rfl, q⟩)
    · wp_walk using step
      exact ⟨_, rfl, q⟩
section
variable {prog : Program} {w : World} {A : Around} {E : Value → Shared → Prop} {s : Shared}
/-- enumerate(v): its two new cells -/
theorem call_en {v : Value} {o : Obj} {Z : Heap → Prop} {Q : Value → Shared → Prop} (B : Begins v o Z) (z1 : Z s.heap)
    (q : ∀ h', IsEnum h' (s.heap.objs.size + 1) s.heap.objs.size 0 .none → h'.get? s.heap.objs.size = some o → h'.objs.size = s.heap.objs.size + 2 → (∀ b u, s.heap.get? b = some u → h'.get? b = some u) → Q (.ref (s.heap.objs.size + 1)) { s with heap := h' }) :
    wpAny (model prog w) A (call (.type "enumerate") [v]) Q E s := by
  refine callType_new F.called_enumerate (by decide) (F.typeCall_enumerate_1 _) (F.newCall_enumerate_1 _) (fun obj => F.args_object_init_2 obj _) F.entry_enumerate_new (meets_en1 B) ⟨z1, ?_⟩
  have e1 : (s.heap.push o).objs.size = s.heap.objs.size + 1 := Heap.size_push ..
  show _ ∧ _
  rw [e1]
  have he : IsEnum ((s.heap.push o).push { cls := .type "enumerate", data := .fields #[.none, .bool false, .ref s.heap.objs.size, rawInt 0, .none, .none] }) (s.heap.objs.size + 1) s.heap.objs.size 0 .none := by
    have u := Heap.get?_push_size (s.heap.push o) (o := { cls := .type "enumerate", data := .fields #[.none, .bool false, .ref s.heap.objs.size, rawInt 0, .none, .none] }) rfl
    rwa [e1] at u
  exact ⟨⟨_, he, rfl⟩, q _ he (Heap.get?_push_of_some _ (Heap.get?_push_size _ B.free)) (by rw [Heap.size_push, e1]) fun b u x => Heap.get?_push_of_some _ (Heap.get?_push_of_some _ x)⟩
end
/-- the tuple at a, each item in a new pair -/
def IteT (K : PySem.W.Frag) (a : Addr) : It :=
  ⟨fun i H => ∃ (xs : List V) (x : V), SqT K H a xs ∧ xs[i]? = some x, fun i H v H' => ∃ T x, v = .ref T ∧ H T = none ∧ H' = upd H T (.tup [.int (i : Nat), x]) ∧ ∀ xs, SqT K H a xs → xs[i]? = some x, fun i H => ∃ xs : List V, SqT K H a xs ∧ xs.length ≤ i⟩
theorem turn_enT {P : Program} {w : World} {K : PySem.W.Frag} {elts : List Expr} {kk : Nat} {tpos : Pos} (a e it : Addr) :
    Turn P w K (.Tuple elts kk tpos) (IteT K a) [e, it] e (fun i h => (∃ old, IsEnum h e it ((i : Nat) : Int) old) ∧ h.IsTupleIter it a i ∧ e ≠ it) where
  mem := by simp
  obj := fun i h st b hb => by
    obtain ⟨⟨old, he⟩, ⟨o, ho, hc, hd⟩, _⟩ := st
    rcases (by simpa using hb : b = e ∨ b = it) with z | z
    · exact z ▸ ⟨_, he, fun v q => nomatch q⟩
    · exact z ▸ ⟨o, ho, fun v q => by rw [hd] at q; cases q⟩
  keep := fun i h h' st k => ⟨let ⟨old, he⟩ := st.1; ⟨old, k e (by simp) _ he⟩, st.2.1.at fun o q => k it (by simp) o q, st.2.2⟩
  item := by
    intro X hP hw hK hc i pins s σ H E I hf st hg
    subst hP hw hK
    obtain ⟨⟨old, he⟩, hit, hne⟩ := st
    obtain ⟨xs, x, hq, hx⟩ := hg
    obtain ⟨its, rv, p, hz⟩ := I.tuple hq
    obtain ⟨u, hu, ru⟩ := rv.get hx
    have hel : e < s.heap.objs.size := Heap.lt_size he
    have hil : it < s.heap.objs.size := by obtain ⟨_, q, _⟩ := hit; exact Heap.lt_size q
    have ht : s.heap.IsTuple a its.toArray := p
    have hai : a ≠ it := by
      rintro rfl
      obtain ⟨o1, q1, c1, _⟩ := hit
      obtain ⟨o2, q2, c2, _⟩ := ht
      rw [q1] at q2
      cases q2
      exact absurd (Value.type.inj (c1.symm.trans c2)) (by decide)
    have hea : e ≠ a := by
      rintro rfl
      obtain ⟨o2, q2, c2, _⟩ := ht
      rw [he] at q2
      cases q2
      exact absurd (Value.type.inj (c2 : Value.type "enumerate" = .type "tuple")) (by decide)
    have hlt : i < its.toArray.size := by
      have := (List.getElem?_eq_some_iff.mp (by simpa using hu : its[i]? = some u)).1
      simpa using this
    refine wpAny_pyNext_enum_itemD (Draws.tuple (A := X.A.in1) (I.ok.hd hc) it a hai its.toArray) he ⟨hit, ht⟩ hlt hne (by simp [hne, hea]) fun x' h' tk hx' ho hst hT hsz hk => ?_
    have eu : x' = u := by
      have : its.toArray[i]? = some u := by simpa using hu
      exact Option.some.inj (hx'.symm.trans this)
    subst eu
    refine ⟨_, rfl, wpAny_letOwnedTupleGo_enum (s := { s with heap := h', toks := tk + 1 }) ho fun h'' he' sb => ?_⟩
    have hT2 : h''.get? s.heap.objs.size = some { cls := .type "tuple", data := .seq #[.int i tk, x'] } := (sb.2 _ (Nat.ne_of_gt hel)).trans hT
    have nw : ObjOk X.prog X.w (upd H s.heap.objs.size (.tup [.int (i : Nat), x])) h'' s.heap.objs.size (.tup [.int (i : Nat), x]) :=
      ⟨by show 2 ≤ sizeLine; decide, [.int i tk, x'], .cons ⟨_, rfl⟩ (.cons ru .nil), ⟨_, hT2, rfl, _, rfl⟩⟩
    have I1 : Inv X pins σ (upd H s.heap.objs.size (.tup [.int (i : Nat), x])) { s with heap := h'', toks := tk + 1 } :=
      I.turnedNew (ch := [e, it]) (fun b ob hb q => (sb.2 b (fun z => hb (by simp [z]))).trans (hk b ob (fun z => hb (by simp [z])) (fun z => hb (by simp [z])) q)) hf (Nat.le_refl _) nw
    refine ⟨.ref s.heap.objs.size, _, I1, rfl, ⟨_, x, rfl, I.hok.fresh (Nat.le_refl _), rfl, fun ys hy => by rw [I.tuple_inj hy hq]; exact hx⟩, ⟨⟨x', ?_⟩, hst.1.at fun o q => (sb.2 it (Ne.symm hne)).trans q, hne⟩, fun b hb => ?_⟩
    · rw [show ((i + 1 : Nat) : Int) = (i : Int) + 1 by omega]
      exact he'
    · have hb' : b < s.heap.objs.size := by
        rcases (by simpa using hb : b = e ∨ b = it) with z | z
        · exact z ▸ hel
        · exact z ▸ hil
      rw [upd_ne (Nat.ne_of_lt hb')]
      exact (hf b hb).1
  done := by
    intro X hP hw hK hc i pins s σ H E I hf st hg
    subst hP hw hK
    obtain ⟨⟨old, he⟩, hit, hne⟩ := st
    obtain ⟨xs, hq, hx⟩ := hg
    obtain ⟨its, rv, p, hz⟩ := I.tuple hq
    have ht : s.heap.IsTuple a its.toArray := p
    have hl := rv.length
    obtain ⟨f0, f1, f2, f3, f4, f5⟩ := hf it (by simp)
    have hT : s.TypeIs (.ref e) "enumerate" := ⟨_, he, rfl⟩
    have nn : its.toArray[i]? = none := by simp; omega
    unfold pyNext
    refine wpAny_bind (wpAny_attempt (wpAny_callSpecial?_slot (name := Str.ofString "__next__") hT F.slot_enumerate_next (wpAny_call_entry F.slot_enumerate_next hT F.entry_enumerate_next ?_ (F.args_enumerate_next_1 _))))
    show wpAny _ X.A.in1 (field (.ref e) 2 >>= _) _ _ s
    refine wpAny_bind (wpAny_field he rfl (x := .ref it) rfl (wpAny_bind (RZ.nextOf_tuple_end (A := X.A.in1) (I.ok.hd hc) hit ht nn fun h' y hy ht' => ?_)))
    obtain ⟨o, q1, q2⟩ := ht'
    refine wpAny_bind (wpAny_isInstance (T := "StopIteration") (b := true) ⟨o, q1, q2⟩ isSubtype_stop (wpAny_pure ⟨rfl, ?_⟩))
    exact I.turned (t' := s.toks) (fun b o hb q => hy b o hb q) f0 f1 f3 f4 f5
  self := fun A i s Q E st h => let ⟨⟨_, he⟩, _⟩ := st; wpAny_pyIter_enum he h
theorem walk_enT {K : PySem.W.Frag} {a : Addr} {xs : List V} : Walk (IteT K a) xs.length (fun H => SqT K H a xs) (YPair (fun i => some (.int (i : Nat))) (fun i => xs[i]?)) :=
  ⟨fun i _ hi q => ⟨xs, xs[i], q, by simp [hi]⟩, fun _ q => ⟨xs, q, Nat.le_refl _⟩, fun i H v H' _ q ⟨T, x, h1, h2, h3, h4⟩ => ⟨T, .int (i : Nat), x, h1, h2, h3, rfl, h4 xs q⟩⟩
section
variable {X : Cx} {e : Expr} {ta : TA} {p pos tpos : Pos} {elts : List Expr} {kk : Nat}
/-- enumerate(v), v a list or a tuple -/
def iEnum2 (K : PySem.W.Frag) (ta : TA) : TI := fun σ H R => ta σ H fun vs H1 => ∃ a xs, vs = [.ref a] ∧ (SqL K H1 a xs ∨ SqT K H1 a xs) ∧
  ∀ (J : It) (G : Hp → Prop), Walk J xs.length G (YPair (fun i => some (.int (i : Nat))) (fun i => xs[i]?)) → (∀ H', Same H1 H' → G H') → R J H1
theorem pi_enum2 (hg : Gl X "enumerate") (hm : X.mg "enumerate" = none) (ha : PA X [e] ta) (hs : starEach [e] X.env = [(false, eval e X.env)] := by rfl) : PI X (.Tuple elts kk tpos) (.Call (.Name "enumerate" p) [e] [] pos) (iEnum2 X.K ta) := by
  refine ⟨fun pins s σ H R I h => ?_⟩
  refine Call_ (ld_blt I hg hm boot_enumerate (PyProof.Rows.callWith_type1 (thn (ha.run pos pins s σ H _ I h) fun us s1 ⟨vs, H1, I1, r1, q1⟩ => ?_) hs rfl))
  obtain ⟨a, xs, ex, q1, q2⟩ := q1
  subst ex
  cases r1 with
  | cons r rr =>
    cases rr
    cases r
    have big : ∀ (b : Addr), b ∈ [s1.heap.objs.size + 1, s1.heap.objs.size] → FpOk X pins H1 b := fun b hb => by
      have hle : s1.heap.objs.size ≤ b := by
        rcases (by simpa using hb : b = s1.heap.objs.size + 1 ∨ b = s1.heap.objs.size) with z | z
        · exact z ▸ Nat.le_succ _
        · exact z ▸ Nat.le_refl _
      exact I1.fpOk hle (I1.hok.fresh hle)
    rcases q1 with hq | hq
    · have q := q2 _ _ walk_enum fun H' s' => s'.seq hq
      obtain ⟨its, rv, p', hz⟩ := I1.list hq
      refine call_en (begins_list a its.toArray) p'.isList fun h' he ho hsz hk => wpAny_pyIter_enum he ?_
      exact ⟨s1.heap.objs.size + 1, [s1.heap.objs.size + 1, s1.heap.objs.size], _, _, H1, rfl, I1.kept (t' := s1.toks) hk, turn_enum a (s1.heap.objs.size + 1) s1.heap.objs.size, ⟨⟨.none, he⟩, ⟨_, ho, rfl, rfl⟩, Nat.succ_ne_self _⟩, big, q⟩
    · have q := q2 _ _ walk_enT fun H' s' => hq.imp (fun z => z.imp (fun e => s' _ _ e) (fun ⟨o, e⟩ => ⟨o, s' _ _ e⟩)) id
      obtain ⟨its, rv, p', hz⟩ := I1.tuple hq
      refine call_en (begins_tuple a its.toArray) (show s1.heap.IsTuple a its.toArray from p') fun h' he ho hsz hk => wpAny_pyIter_enum he ?_
      exact ⟨s1.heap.objs.size + 1, [s1.heap.objs.size + 1, s1.heap.objs.size], _, _, H1, rfl, I1.kept (t' := s1.toks) hk, turn_enT a (s1.heap.objs.size + 1) s1.heap.objs.size, ⟨⟨.none, he⟩, ⟨_, ho, rfl, rfl⟩, Nat.succ_ne_self _⟩, big, q⟩
end
section
variable {X : Cx}
/-- tuple(v), v a list or a tuple that stands: a tuple of the same things stands then, the old one or a new one -/
def rTup2 : List V → Hp → VK → Prop := fun xs H Q => ∃ a ys, xs = [.ref a] ∧ (H a = some (.lst ys) ∨ H a = some (.tup ys)) ∧ ∀ t H', Same H H' → H' t = some (.tup ys) → (H t = none ∨ t = a) → Q (.ref t) H'
theorem cr_tup2 : CallR X (.type "tuple") rTup2 := fun pins s σ H xs us Q I rv h => by
  obtain ⟨a, ys, rfl, h1, k⟩ := h
  refine call_tuple_of pins s σ H [.ref a] us Q I rv ⟨a, ys, rfl, ?_⟩
  rcases h1 with e | e
  · exact .inl ⟨SqL.of e, fun l hl => k l _ (same_new hl) upd_same (.inl hl)⟩
  · exact .inr ⟨SqT.of e, k a H (Same.refl _) e (.inr rfl)⟩
end
end L2
end
section
set_option Elab.async false
set_option linter.all false
set_option maxRecDepth 100000
set_option maxHeartbeats 2000000
/-! # text.translate(a dict of signs for signs), text[::-1], text.index(a sign that is there) -/
namespace L2
open PySem PySem.Spec PyProof.Rows PySem.Builtin PySem.Builtin.Str
/-- what the dict tells of each sign: one ASCII sign, or nothing -/
def Swaps (f : Key → Option Value) (one : Nat → Nat) : Prop := ∀ c : Nat, (∃ (e : Nat) (t : Tok), f (.inl (c : Int)) = some (.str ⟨#[e]⟩ t) ∧ e < 128 ∧ one c = e) ∨ (f (.inl (c : Int)) = none ∧ one c = c)
section
variable {P : Program} {w : World} {A : Around} {E : Value → Shared → Prop} {s : Shared} {d : Addr} {c : Nat} {one : Nat → Nat}
theorem sw_mapOf {h h' : Heap} {f : Key → Option Value} (m : h.MapOf (mixKind P w) d f) (k : ∀ b o, h.get? b = some o → h'.get? b = some o) : h'.MapOf (mixKind P w) d f := by
  obtain ⟨ob, es, ep, q, rest⟩ := m
  exact ⟨ob, es, ep, k _ _ q, rest⟩
theorem sw_look {f : Key → Option Value} {Q : Mapped → Shared → Prop} (quiet : A.handled = none) (low : (d == sysModules) = false) (m : s.heap.MapOf (mixKind P w) d f) (sw : Swaps f one)
    (hit : one c < 128 → ∀ h1 k1, (∀ b o, s.heap.get? b = some o → h1.get? b = some o) → Q (.text ⟨#[one c]⟩) { s with heap := h1, toks := k1 })
    (miss : one c = c → ∀ h1 k1, (∀ b o, s.heap.get? b = some o → h1.get? b = some o) → Q .keep { s with heap := h1, toks := k1 }) : wpAny (model P w) A (tableLookup (.ref d) c) Q E s := by
  unfold tableLookup
  refine wpAny_bind (wpAny_attempt (wpAny_bind (wpAny_mkInt ?_)))
  rcases sw c with ⟨e, t, q1, q2, q3⟩ | ⟨q1, q3⟩
  · refine wpAny_getItem_of (knd := mixKind P w) (k := Sum.inl (c : Int)) (kV_is (k := Sum.inl (c : Int)) ⟨_, rfl⟩) m q1 ?_
    show wpAny _ _ (do let o ← asInt? (Value.str ⟨#[e]⟩ t); _) _ _ _
    refine wpAny_bind (wpAny_of_eq (a := none) rfl ?_)
    refine wpAny_bind (wpAny_of_eq (a := some ⟨#[e]⟩) rfl ?_)
    rw [← q3]
    exact wpAny_pure (hit (q3 ▸ q2) s.heap _ fun _ _ z => z)
  · refine wpAny_getItem_missing_of (knd := mixKind P w) (k := Sum.inl (c : Int)) (kV_is (k := Sum.inl (c : Int)) ⟨_, rfl⟩) low quiet m q1 fun h1 x new => ?_
    show wpAny _ _ (do let b ← isInstance (.ref x) (.type "LookupError"); _) _ _ _
    obtain ⟨ob, t, o1, o2, _⟩ := new.there
    refine wpAny_bind (wpAny_isInstance (T := "KeyError") (b := true) ⟨ob, o1, o2⟩ key_is_lookup ?_)
    rw [if_pos rfl]
    exact wpAny_bind (wpAny_rule (wpAny_pure (miss q3 h1 _ new.keeps)))
end
theorem sw_fold (one : Nat → Nat) : ∀ (l : List Nat) (acc : Array Nat), List.foldl (fun r (p : Str) => r ++ p.cps) acc (l.map fun c => (⟨#[one c]⟩ : Str)) = acc ++ (l.map one).toArray
  | [], acc => by simp
  | a :: l, acc => by
    rw [List.map_cons, List.foldl_cons, sw_fold one l]
    apply Array.toList_inj.mp
    simp
/-- what stands ahead of each turn -/
def SwAt (one : Nat → Nat) (x : List Nat) (ascii : Bool) (s : Shared) (rest : List Nat) (st : List Str × Nat × Bool × List (Nat × Option Nat) × Bool) (s1 : Shared) : Prop :=
  ∃ (done : List Nat) (ps : List Str) (kn : List (Nat × Option Nat)) (h1 : Heap) (k1 : Nat), x = done ++ rest ∧ st = (ps, done.length, ascii, kn, false) ∧ ps.reverse = done.map (fun c => (⟨#[one c]⟩ : Str)) ∧
    (∀ c a, List.lookup c kn = some a → a = some (one c)) ∧ s1 = { s with heap := h1, toks := k1 } ∧ ∀ b o, s.heap.get? b = some o → h1.get? b = some o
theorem SwAt.step {one : Nat → Nat} {x : List Nat} {ascii : Bool} {s : Shared} {rest done : List Nat} {c : Nat} {ps : List Str} {kn : List (Nat × Option Nat)} {h1 : Heap} {k1 : Nat} (q1 : x = done ++ c :: rest)
    (q2 : ps.reverse = done.map (fun c => (⟨#[one c]⟩ : Str))) (q3 : ∀ c a, List.lookup c kn = some a → a = some (one c)) (q4 : ∀ b o, s.heap.get? b = some o → h1.get? b = some o) :
    SwAt one x ascii s rest (⟨#[one c]⟩ :: ps, done.length + 1, ascii, kn, false) { s with heap := h1, toks := k1 } :=
  ⟨done ++ [c], _, kn, h1, k1, by rw [q1, List.append_assoc]; rfl, by rw [List.length_append]; rfl, by rw [List.reverse_cons, q2, List.map_append]; rfl, q3, rfl, q4⟩
theorem sw_meets {P : Program} {w : World} (one : Nat → Nat) (x : List Nat) (t : Tok) (d : Addr) (low : (d == sysModules) = false) (short : x.length ≤ 16000000) : MeetsIn P w («str.translate» ⟨[.str (SX.S x) t, .ref d], []⟩) (fun A R s =>
    A.handled = none ∧ (∃ f, s.heap.MapOf (mixKind P w) d f ∧ Swaps f one) ∧ ∀ (v : Value) (h1 : Heap) (k1 : Nat), (∀ b o, s.heap.get? b = some o → h1.get? b = some o) → (∃ t1, v = .str (SX.S (x.map one)) t1) → R (.ok (.ret v)) { s with heap := h1, toks := k1 }) := by
  refine .of_wp fun A R s hyp => ?_
  obtain ⟨quiet, ⟨f, m, sw⟩, fin⟩ := hyp
  have quiet1 : A.in1.handled = none := quiet
  show wpAny _ _ (if ((SX.S x).length == 0) = true then (do rule "str.translate.empty"; ret (.str (SX.S x) t)) else (do
    let st ← forIn (SX.S x).cps (([], 0, (SX.S x).cps.all fun y => decide (y < 128), [], false) : List Str × Nat × Bool × List (Nat × Option Nat) × Bool) _
    _)) _ _ s
  by_cases none0 : ((SX.S x).length == 0) = true
  · rw [if_pos none0]
    have hx : x = [] := by
      rw [beq_iff_eq, SX.S_len] at none0
      exact List.eq_nil_of_length_eq_zero none0
    subst hx
    exact wpAny_bind (wpAny_rule (wpAny_pure ⟨_, rfl, fin _ s.heap s.toks (fun _ _ z => z) ⟨t, rfl⟩⟩))
  rw [if_neg none0]
  generalize ((SX.S x).cps.all fun y => decide (y < 128)) = ascii
  refine wpAny_bind (MeetsSeq2.wpAny_forIn_array _ (SwAt one x ascii s) _ (fun c rest st s1 I => ?turn) (fun st s1 I => ?last) (SX.S x).cps ([], 0, ascii, [], false) ?first)
  case first => exact ⟨[], [], [], s.heap, s.toks, by show x = [] ++ x.toArray.toList; simp, rfl, rfl, fun c a z => (by rw [List.lookup_nil] at z; cases z), rfl, fun _ _ z => z⟩
  case turn =>
    obtain ⟨done, ps, kn, h1, k1, e1, e2, e3, e4, e5, e6⟩ := I
    subst e2
    subst e5
    have few : done.length ≤ 16000000 := by
      have := congrArg List.length e1
      rw [List.length_append] at this
      omega
    have m1 : ({ s with heap := h1, toks := k1 } : Shared).heap.MapOf (mixKind P w) d f := sw_mapOf m e6
    have known1 : ∀ c' a, List.lookup c' ((c, some (one c)) :: kn) = some a → a = some (one c') := fun c' a z => by
      rcases lookup_new z with ⟨y1, y2⟩ | y
      · rw [y2, y1]
      · exact e4 c' a y
    show wpAny _ _ (if tooLong done.length = true then _ else (if ascii = true then _ else _)) _ _ _
    rw [show tooLong done.length = false from PyProof.Rows.short24 (by omega), if_neg Bool.false_ne_true]
    cases ascii with
    | true =>
      rw [if_pos rfl]
      cases lk : List.lookup c kn with
      | some a =>
        have ea := e4 c a lk
        subst ea
        exact wpAny_bind (wpAny_pure (wpAny_pure (SwAt.step e1 e3 e4 e6)))
      | none =>
        refine wpAny_bind (sw_look (one := one) quiet1 low m1 sw (fun lt h2 k2 k3 => ?_) (fun eq h2 k2 k3 => ?_))
        · have q := SwAt.step (ascii := true) (k1 := k2) (kn := (c, some (one c)) :: kn) e1 e3 known1 (fun b o z => k3 b o (e6 b o z))
          have cond : (((⟨#[one c]⟩ : Str).length == 1) && ((⟨#[one c]⟩ : Str).cps.all fun y => decide (y < 128))) = true := by
            have : decide (one c < 128) = true := decide_eq_true lt
            simp [Str.length, this]
          simp only [cond, if_true]
          refine wpAny_bind (wpAny_pure ?_)
          exact wpAny_pure q
        · have q := SwAt.step (ascii := true) (k1 := k2) (kn := (c, some (one c)) :: kn) e1 e3 known1 (fun b o z => k3 b o (e6 b o z))
          rw [eq] at q
          refine wpAny_bind (wpAny_pure ?_)
          exact wpAny_pure q
    | false =>
      rw [if_neg Bool.false_ne_true]
      show wpAny _ _ (if false = true then _ else _) _ _ _
      rw [if_neg Bool.false_ne_true]
      refine wpAny_bind (sw_look (one := one) quiet1 low m1 sw (fun lt h2 k2 k3 => ?_) (fun eq h2 k2 k3 => ?_))
      · exact wpAny_pure (SwAt.step (ascii := false) (k1 := k2) e1 e3 e4 (fun b o z => k3 b o (e6 b o z)))
      · have q := SwAt.step (ascii := false) (k1 := k2) e1 e3 e4 (fun b o z => k3 b o (e6 b o z))
        rw [eq] at q
        exact wpAny_pure q
  case last =>
    obtain ⟨done, ps, kn, h1, k1, e1, e2, e3, e4, e5, e6⟩ := I
    subst e2
    subst e5
    have all : x = done := by rw [e1, List.append_nil]
    show wpAny _ _ (if tooLong done.length = true then _ else retStr { cps := List.foldl (fun acc (p : Str) => acc ++ p.cps) #[] ps.reverse }) _ _ _
    rw [show tooLong done.length = false from PyProof.Rows.short24 (by rw [← all]; omega), if_neg Bool.false_ne_true, e3, sw_fold, ← all]
    have ev : (⟨#[] ++ (x.map one).toArray⟩ : Str) = SX.S (x.map one) := by rw [Array.empty_append]
    rw [ev]
    exact wpAny_bind (wpAny_mkStr (wpAny_pure ⟨_, rfl, fin _ h1 _ e6 ⟨_, rfl⟩⟩) (by rw [SX.S_len, List.length_map, sizeLine_eq]; omega))
/-- the same of a dict at a tracked address -/
def SwapsK (kvs : List (Key × V)) (one : Nat → Nat) : Prop := ∀ c : Nat, (∃ e : Nat, valV kvs (.inl (c : Int)) = some (.str ⟨#[e]⟩) ∧ e < 128 ∧ one c = e) ∨ (valV kvs (.inl (c : Int)) = none ∧ one c = c)
section
variable {X : Cx}
theorem mt_swaps (one : Nat → Nat) (hc : X.calm = true) : MtR X "str.translate" (fun x xs H Q => ∃ (z : Str) (d : Addr) (kvs : List (Key × V)), x = .str z ∧ xs = [.ref d] ∧ H d = some (.dK kvs) ∧ SwapsK kvs one ∧ z.length ≤ 16000000 ∧ Q (.str ⟨(z.cps.toList.map one).toArray⟩) H) := by
  intro pins s σ H x xs v us Q I rx rs h
  obtain ⟨z, d, kvs, rfl, rfl, hd, sw, hl, q⟩ := h
  obtain ⟨t, rfl⟩ := rx
  cases rs with
  | cons r1 rs =>
    cases rs
    cases r1
    obtain ⟨_, low, vs, rel, dd⟩ := dk_of I.hok hd
    have ez : z = SX.S z.cps.toList := by cases z with | mk c => show (⟨c⟩ : Str) = ⟨c.toList.toArray⟩; simp
    have sw1 : Swaps (valueAt vs) one := fun c => by
      have rv := rel.val (.inl (c : Int))
      rcases sw c with ⟨e, q1, q2, q3⟩ | ⟨q1, q3⟩
      · rw [q1] at rv
        obtain ⟨u, hu, ru⟩ := RelO.some_of (v := .str ⟨#[e]⟩) (o := valueAt vs (.inl (c : Int))) rv
        obtain ⟨t2, rfl⟩ := ru
        exact .inl ⟨e, t2, hu, q2, q3⟩
      · rw [q1] at rv
        refine .inr ⟨?_, q3⟩
        cases hv : valueAt vs (.inl (c : Int)) with
        | none => rfl
        | some y => rw [hv] at rv; exact False.elim rv
    have hl2 : z.cps.toList.length ≤ 16000000 := by simpa [Str.length] using hl
    rw [ez]
    refine call_meetsIn F.slot_str_translate (typeIs_str _ _ _) F.entry_str_translate (F.args_str_translate_2 _ _) (sw_meets one z.cps.toList t d low hl2) ⟨I.ok.hd hc, ⟨valueAt vs, dd.mapOf, sw1⟩, ?_⟩
    intro v h1 k1 keep ⟨t1, e⟩
    subst e
    exact ⟨.str _, H, I.kept (t' := k1) keep, ⟨t1, rfl⟩, q⟩
/-- text.index(sign), where it is -/
theorem mt_signAt : MtR X "str.index" (fun x xs H Q => ∃ (z : Str) (c : Nat), x = .str z ∧ xs = [.str ⟨#[c]⟩] ∧ c ∈ z.cps.toList ∧ Q (.int (Txt.find z ⟨#[c]⟩)) H) := by
  intro pins s σ H x xs v us Q I rx rs h
  obtain ⟨z, c, rfl, rfl, hm, q⟩ := h
  have f := PySem.StrLaws.found_one z c
  rw [decide_eq_true hm] at f
  cases ho : Builtin.Str.occurrences z ⟨#[c]⟩ 0 z.length 1 with
  | nil => rw [ho] at f; cases f
  | cons i rest =>
    refine mt_sindex pins s σ H _ _ v us Q I rx rs ⟨z, _, i, rest, rfl, rfl, ho, ?_⟩
    have e : Txt.find z ⟨#[c]⟩ = (i : Int) := by
      unfold Txt.find
      rw [ho]
    rw [← e]
    exact q
/-- text[::-1] -/
def revS (z : Str) : Str := ⟨z.cps.toList.reverse.toArray⟩
theorem sliceBy_rev (z : Str) (u : Tok) : Txt.sliceBy z none none (-1, u) = revS z := by
  have h := step_rev_list z u
  have e : (List.range z.length).map (fun k => z.cps.getD (z.length - 1 - k) 0) = z.cps.toList.reverse := by
    refine List.ext_getElem (by simp [Str.length]) fun i h1 h2 => ?_
    rw [List.length_map, List.length_range] at h1
    have h3 : z.length - 1 - i < z.cps.size := by
      have : z.length = z.cps.size := rfl
      omega
    rw [List.getElem_map, List.getElem_range, List.getElem_reverse]
    simp [Array.getD, h3]
    rfl
  rw [e] at h
  generalize Txt.sliceBy z none none (-1, u) = y at h
  cases y with
  | mk c =>
    show (⟨c⟩ : Str) = ⟨z.cps.toList.reverse.toArray⟩
    have : c.toList = z.cps.toList.reverse := h
    rw [← this]
def tRevS (te : TE) : TE := fun σ H Q => te σ H fun x H1 => ∃ z, x = .str z ∧ z.length ≤ sizeLine ∧ Q (.str (revS z)) H1
theorem pe_revS {e : Expr} {te : TE} {k : Nat} {p1 p2 p3 pos : Pos} (he : PE X e te) : PE X (.Subscript e (.Slice none none (some (.UnaryOp .USub (.Constant (.int 1) k p1) p2)) p3) pos) (tRevS te) := by
  refine ⟨fun pins s σ H Q I hyp => ?_⟩
  refine Subscript_ (thn (he.run pins s σ H _ I hyp) fun v s1 ⟨x, H1, I1, r1, z, ex, hz, q⟩ => ?_)
  subst ex
  obtain ⟨t, rfl⟩ := r1
  have neg : PO X (some (.UnaryOp .USub (.Constant (.int 1) k p1) p2)) (tPart (tUn (rU fun i => .int (-i)) (tC (.int 1)))) := po_some (pe_un un_neg pe_int)
  refine wpAny_Slice (thn (po_none.run pins s1 σ H1 (fun o H2 => o = none ∧ H2 = H1) I1 ⟨rfl, rfl⟩) fun vl s2 ⟨l, H2, I2, pl, el, e2⟩ => ?_)
  subst el
  subst e2
  refine thn (po_none.run pins s2 σ H2 (fun o H3 => o = none ∧ H3 = H2) I2 ⟨rfl, rfl⟩) fun vu s3 ⟨u, H3, I3, pu, eu, e3⟩ => ?_
  subst eu
  subst e3
  refine thn (neg.run pins s3 σ H3 (fun o H4 => o = some (-1) ∧ H4 = H3) I3 ⟨1, rfl, -1, rfl, rfl, rfl⟩) fun vs s4 ⟨o, H4, I4, ps, eo, e4⟩ => ?_
  subst eo
  subst e4
  have I5 : Inv X pins σ H4 { s4 with heap := s4.heap.push { cls := .type "slice", data := .fields #[vl, vu, vs] } } := I4.kept (t' := s4.toks) fun b ob q => Heap.get?_push_of_some _ q
  obtain ⟨l1, rfl, el1⟩ := IsPart.raw pl
  obtain ⟨u1, rfl, eu1⟩ := IsPart.raw pu
  obtain ⟨st1, rfl, es1⟩ := IsPart.raw ps
  have l0 : l1 = none := by cases l1 with | none => rfl | some y => cases el1
  have u0 : u1 = none := by cases u1 with | none => rfl | some y => cases eu1
  subst l0
  subst u0
  obtain ⟨tk, rfl⟩ : ∃ tk, st1 = some (-1, tk) := by
    cases st1 with
    | none => cases es1
    | some y =>
      obtain ⟨y1, y2⟩ := y
      have : y1 = -1 := Option.some.inj es1
      subst this
      exact ⟨y2, rfl⟩
  show wpAny (model X.prog X.w) X.A (subscriptTail e (.Slice none none (some (.UnaryOp .USub (.Constant (.int 1) k p1) p2)) p3) (.str z t) (.ref s4.heap.objs.size)) (EP X pins σ Q) X.xe { s4 with heap := s4.heap.push { cls := .type "slice", data := .fields #[_, _, _] } }
  refine tail_any (ops := [.str z t, .ref s4.heap.objs.size]) (typeIs_str _ _ _) F.slot_str_getitem.lookup ?_ (by with_unfolding_all rfl)
  refine wpAny_getItem_str_slice (l := none) (u := none) (st := some (-1, tk)) ⟨_, Heap.get?_push_size _ rfl, rfl, rfl⟩ rfl ?_
  have hl : (revS z).length ≤ sizeLine := by
    have : (revS z).length = z.length := by simp [revS, Str.length]
    rw [this]
    exact hz
  have em : ∀ st : Str, Txt.sliceBy z none none (-1, tk) = st → sliceMade z t none none (some (-1, tk)) = .str st := fun st h => by
    unfold Txt.sliceBy at h
    unfold sliceMade
    have no : ¬ ((((some ((-1 : Int), tk)).map (·.1)).getD 1 == 1 && (slicePicked z none none (some (-1, tk))).length == z.length) = true) := by
      have : ((((some ((-1 : Int), tk)).map (·.1)).getD 1 == 1)) = false := rfl
      rw [this, Bool.false_and]
      exact Bool.false_ne_true
    rw [if_neg no] at h ⊢
    rw [h]
  rw [em _ (sliceBy_rev z tk)]
  exact ⟨hl, .str _, _, I5.tok _, ⟨_, rfl⟩, q⟩
end
end L2
end
section
set_option Elab.async false
set_option linter.all false
set_option maxRecDepth 100000
set_option maxHeartbeats 2000000
/-! # A written dict asked for texts; == of data; a def that calls itself. -/
namespace L2
open PySem PySem.Spec PyProof.Rows
/-- what the written dict at a has for a text -/
structure KD (K : PySem.W.Frag) (w : World) (a : Addr) (x : Str) (r : Option Value) : Prop where
  ex : ∃ es n, K.lookup a = some ⟨.type "dict", none, .dict es n, #[]⟩ ∧ PySem.W.KeysLit w.params es.toList ∧ (a == sysModules) = false ∧ PySem.W.nsIn K a x = some r
theorem KD.get {K : PySem.W.Frag} {w : World} {a : Addr} {x : Str} {u : Value} {v : V} (h : KD K w a x (some u)) (r : RelV v u) : KDct K w a x v := by
  obtain ⟨es, n, h1, h2, _, h4⟩ := h.ex
  exact ⟨es, n, u, h1, h2, h4, r⟩
/-- t not in d, d a written dict -/
theorem op_notIn_w {X : Cx} : OpR X (compareOp .NotIn) (fun x y H Q => ∃ (p : Addr) (z : Str) (r : Option Value), x = .str z ∧ y = .ref p ∧ KD X.K X.w p z r ∧ Q (.bl (!r.isSome)) H) := by
  intro pins s σ H x y v u Q I rx ry h
  obtain ⟨p, z, r, rfl, rfl, ⟨es, n, hl, hk, low, hm⟩, q⟩ := h
  obtain rfl : u = Value.ref p := ry
  obtain ⟨t, rfl⟩ := (show ∃ t, v = Value.str z t from rx)
  have hm' := PySem.W.mapOf_K (prog := X.prog) (w := X.w) I.kIn hl hk
  refine wpAny_notIn_of (strKind_is X.prog X.w z t) low hm' ?_
  rw [PySem.W.find_K hl hm]
  exact ⟨.bl _, H, I.tok _, rfl, q⟩
theorem iteT' {c : Prop} [Decidable c] {A B : Prop} (h : c) (a : A) : if c then A else B := by rw [if_pos h]; exact a
theorem iteF' {c : Prop} [Decidable c] {A B : Prop} (h : ¬ c) (b : B) : if c then A else B := by rw [if_neg h]; exact b
/-- one of two readings -/
theorem op_either {X : Cx} {f : Value → Value → Sem Value} {r1 r2 : R2} (h1 : OpR X f r1) (h2 : OpR X f r2) : OpR X f (fun x y H Q => r1 x y H Q ∨ r2 x y H Q) := by
  intro pins s σ H x y v u Q I rx ry h
  rcases h with h | h
  · exact h1 pins s σ H x y v u Q I rx ry h
  · exact h2 pins s σ H x y v u Q I rx ry h
def rEqDr : R2 := fun x y H Q => ∃ (d e : PyData) (L L' : Bool) (M M' : Addr → Prop), Dr L M H x d ∧ Dr L' M' H y e ∧ SeqAt.shaped d = true ∧ SeqAt.shaped e = true ∧ Q (.bl (PyData.eqv d e)) H
theorem op_eqDr {X : Cx} (hu : X.A.units + 64 < cLine) : OpR X (compareOp .Eq) rEqDr := by
  intro pins s σ H x y v u Q I rx ry h
  obtain ⟨d, e, L, L', M, M', hd, he, sd, se, q⟩ := h
  obtain ⟨as, r1, _⟩ := Dr.reads I.hok hd rx
  obtain ⟨bs, r2, _⟩ := Dr.reads I.hok he ry
  exact SeqAt.compareEq_shaped r1 r2 sd se hu ⟨.bl _, H, I, rfl, q⟩
def rEqNil : R2 := fun x y H Q => ∃ a b, x = .ref a ∧ y = .ref b ∧ H a = some (.dK []) ∧ H b = some (.dK []) ∧ Q (.bl true) H
theorem op_eqNil {X : Cx} (hu : X.A.units < cLine) : OpR X (compareOp .Eq) rEqNil := by
  intro pins s σ H x y v u Q I rx ry h
  obtain ⟨a, b, rfl, rfl, ha, hb, q⟩ := h
  obtain rfl : v = Value.ref a := rx
  obtain rfl : u = Value.ref b := ry
  obtain ⟨_, na, va, ka, da⟩ := dk_of I.hok ha
  obtain ⟨_, nb, vb, kb, db⟩ := dk_of I.hok hb
  cases ka
  cases kb
  exact PySem.W.keq_eq (r := true) na nb da db hu (fun _ => .nil) ⟨.bl true, H, I, rfl, q⟩
/-- data of any kind but dicts, or two empty dicts -/
theorem op_eqAny {X : Cx} (hu : X.A.units + 64 < cLine) : OpR X (compareOp .Eq) (fun x y H Q => rEqDr x y H Q ∨ rEqNil x y H Q) := op_either (op_eqDr hu) (op_eqNil (Nat.lt_of_le_of_lt (Nat.le_add_right _ 64) hu))
/-- t + u of tuples that are tracked: a tuple of both stands then, new or one of the two -/
def rCatU : R2 := fun x y H Q => ∃ a b xs ys, x = .ref a ∧ y = .ref b ∧ H a = some (.tup xs) ∧ H b = some (.tup ys) ∧ xs.length + ys.length ≤ sizeLine ∧ ∀ t H', Same H H' → H' t = some (.tup (xs ++ ys)) → (H t = none ∨ t = a ∨ t = b) → Q (.ref t) H'
theorem op_catU {X : Cx} : OpR X (binaryOp .Add) rCatU := by
  intro pins s σ H x y v u Q I rx ry h
  obtain ⟨a, b, xs, ys, rfl, rfl, ha, hb, hz, k⟩ := h
  refine op_catA pins s σ H _ _ v u Q I rx ry ⟨a, b, xs, ys, rfl, rfl, SqT.of ha, SqT.of hb, hz, fun e => ?_, fun _ e => ?_, fun _ _ p hp => k p _ (same_new hp) upd_same (.inl hp)⟩
  · subst e; exact k b H (Same.refl _) hb (.inr (.inr rfl))
  · subst e; exact k a H (Same.refl _) (by rw [List.append_nil]; exact ha) (.inr (.inl rfl))
/-- t[lo:hi] of a tracked tuple -/
def rSlU : V → Option Int → Option Int → Hp → VK → Prop := fun x lo hi H Q => ∃ a xs, x = .ref a ∧ H a = some (.tup xs) ∧ ∀ t H', Same H H' → H' t = some (.tup (cutV xs lo hi)) → (H t = none ∨ t = a) → Q (.ref t) H'
theorem cutV_whole {xs : List V} {lo hi : Option Int} (h : HT.sIx xs.length 0 lo = 0 ∧ HT.sIx xs.length xs.length hi = xs.length) : cutV xs lo hi = xs := by
  unfold cutV
  rw [h.1, h.2]
  simp
theorem sl_tupU {X : Cx} : SlR X rSlU := by
  intro pins s σ H x v vl vu lo hi sl Q I rx hs pl pu h
  obtain ⟨a, xs, rfl, ha, k⟩ := h
  exact sl_tupA pins s σ H _ v vl vu lo hi sl Q I rx hs pl pu ⟨a, xs, rfl, SqT.of ha, fun z => k a H (Same.refl _) (by rw [cutV_whole z]; exact ha) (.inr rfl), fun _ p hp => k p _ (same_new hp) upd_same (.inl hp)⟩
/-- a promise that is never asked for -/
theorem FnG.void {P : Program} {w : World} {K : PySem.W.Frag} {mg : Str → Option Value} {base : Heap} {CX : CXT} {k : Nat} {f : Addr} {fd : FuncData} {ps : List Str} : FnG P w K mg base CX k f fd ps (fun _ _ _ _ => False) :=
  ⟨fun _ _ _ _ h => h.elim, fun _ _ _ _ _ _ _ _ _ _ _ _ _ _ h => h.elim⟩
/-- a def that calls itself: by the depth -/
theorem fnG_rec {P : Program} {w : World} {K : PySem.W.Frag} {mg : Str → Option Value} {base : Heap} {k : Nat} {x : Str} {f : Addr} {fd : FuncData} {ps : List Str} {sp : Nat → Sp}
    (hm : mg x = some (.ref f)) (kp : PySem.W.keepIn K (.ref f) = true) (hb : Binds K fd ps [])
    (step : ∀ n, CalG P w K mg base (k + n) x (fun vs H Q E => ∃ m, n = m + 1 ∧ sp m vs H Q E) → FnG P w K mg base (CXe P w) (k + n + 1) f fd ps (sp n)) : ∀ n, FnG P w K mg base (CXe P w) (k + n + 1) f fd ps (sp n) := by
  intro n
  induction n with
  | zero => 
    refine step 0 ⟨f, fd, ps, FnG.imp FnG.void ?_, hm, kp, hb⟩
    rintro vs H Q E ⟨m, e, _⟩
    exact absurd e (by omega)
  | succ n ih =>
    refine step (n + 1) ⟨f, fd, ps, FnG.imp ih ?_, hm, kp, hb⟩
    rintro vs H Q E ⟨m, e, h⟩
    obtain rfl : n = m := by omega
    exact h
theorem calG_rec {P : Program} {w : World} {K : PySem.W.Frag} {mg : Str → Option Value} {base : Heap} {k : Nat} {x : Str} {f : Addr} {fd : FuncData} {ps : List Str} {sp : Nat → Sp}
    (hm : mg x = some (.ref f)) (kp : PySem.W.keepIn K (.ref f) = true) (hb : Binds K fd ps [])
    (step : ∀ n, CalG P w K mg base (k + n) x (fun vs H Q E => ∃ m, n = m + 1 ∧ sp m vs H Q E) → FnG P w K mg base (CXe P w) (k + n + 1) f fd ps (sp n)) (n : Nat) : CalG P w K mg base (k + n + 1) x (sp n) :=
  ⟨f, fd, ps, fnG_rec hm kp hb step n, hm, kp, hb⟩
/-- called with any depth up to N -/
theorem calG_upto {P : Program} {w : World} {K : PySem.W.Frag} {mg : Str → Option Value} {base : Heap} {k : Nat} {x : Str} {f : Addr} {fd : FuncData} {ps : List Str} {sp : Nat → Sp}
    (hm : mg x = some (.ref f)) (kp : PySem.W.keepIn K (.ref f) = true) (hb : Binds K fd ps [])
    (step : ∀ n, CalG P w K mg base (k + n) x (fun vs H Q E => ∃ m, n = m + 1 ∧ sp m vs H Q E) → FnG P w K mg base (CXe P w) (k + n + 1) f fd ps (sp n)) (N : Nat) : CalG P w K mg base (k + N + 1) x (fun vs H Q E => ∃ n, n ≤ N ∧ sp n vs H Q E) := by
  refine ⟨f, fd, ps, ⟨?_, ?_⟩, hm, kp, hb⟩
  · rintro vs H Q E ⟨n, _, h⟩
    exact (fnG_rec hm kp hb step n).len vs H Q E h
  · rintro A o s H a us vs Q E hg hr he hb' hv ⟨n, hn, hs⟩
    exact (fnG_rec hm kp hb step n).run A o s H a us vs Q E hg (hr.mono (by omega)) he hb' hv hs
end L2
end
section
set_option Elab.async false
set_option linter.all false
set_option maxRecDepth 100000
set_option maxHeartbeats 2000000
/-! # d.get(k, x) of a written dict; stars in a list; sorted ints. -/
namespace L2
open PySem PySem.Spec PyProof.Rows
/-- a written dict stands at a -/
structure KIsD (K : PySem.W.Frag) (w : World) (a : Addr) : Prop where
  ex : ∃ es n, K.lookup a = some ⟨.type "dict", none, .dict es n, #[]⟩ ∧ PySem.W.KeysLit w.params es.toList ∧ (a == sysModules) = false
theorem KD.is {K : PySem.W.Frag} {w : World} {a : Addr} {x : Str} {r : Option Value} (h : KD K w a x r) : KIsD K w a := by
  obtain ⟨es, n, h1, h2, h3, _⟩ := h.ex
  exact ⟨es, n, h1, h2, h3⟩
def tKGet2 (K : PySem.W.Frag) (w : World) (td ty tx : TE) : TE := fun σ H Q => td σ H fun x H1 => ∃ a, x = .ref a ∧ KIsD K w a ∧ ty σ H1 fun y H2 => tx σ H2 fun z H3 => ∃ (k : Str) (r : Option Value) (v : V), y = .str k ∧ KD K w a k r ∧ (r = none → v = z) ∧ (∀ u, r = some u → RelV v u) ∧ Q v H3
section
variable {X : Cx} {o e f : Expr} {apos cpos : Pos} {td ty tx : TE}
theorem pe_kget2 (ho : PE X o td) (he : PE X e ty) (hf : PE X f tx) (m : M2 X o "get" apos e f cpos) : PE X (.Call (.Attribute o "get" apos) [e, f] [] cpos) (tKGet2 X.K X.w td ty tx) := by
  refine ⟨fun pins s σ H Q I h => ?_⟩
  refine wpAny_Call_method m.base m.few m.line PySem.F.plainAttrs_dict PySem.F.slot_dict_get PySem.F.type_dict_get (thn (ho.run pins s σ H _ I h) fun u s1 ⟨x, H1, I1, rx, a, ex, d, q1⟩ => ?_)
  subst ex
  obtain rfl : u = Value.ref a := rx
  obtain ⟨es, n, hl, hk, low⟩ := d.ex
  refine ⟨(PySem.W.mapOf_K (prog := X.prog) (w := X.w) I1.kIn hl hk).typeIs, fun b q => by cases q; exact ⟨_, I1.kIn _ _ hl, rfl⟩, ?_⟩
  rw [m.trees]
  refine Calls.callWith_builtin rfl (Calls.evalArgs_plain (Calls.spliced_cons (thn (he.run pins s1 σ H1 _ I1 q1) fun iv s2 ⟨y, H2, I2, ry, q2⟩ =>
    Calls.spliced_cons (thn (hf.run pins s2 σ H2 _ I2 q2) fun fv s3 ⟨z, H3, I3, rz, k, r, v, ey, kd, h1, h2, q3⟩ => Calls.spliced_nil ?_))))
  subst ey
  obtain ⟨t, rfl⟩ := (show ∃ t, iv = Value.str k t from ry)
  obtain ⟨es', n', hl', hk', low', hn⟩ := kd.ex
  have dm := PySem.W.mapOf_K (prog := X.prog) (w := X.w) I3.kIn hl' hk'
  refine call_meetsIn PySem.F.slot_dict_get dm.typeIs PySem.F.entry_dict_get (PySem.F.args_dict_get_3 _ _ _) (meets_dict_get_default (strKind X.prog X.w) a (strKind_is X.prog X.w k t) low' fv) ⟨_, dm, ?_⟩
  rw [PySem.W.find_K hl' hn]
  cases r with
  | none =>
    rw [h1 rfl] at q3
    exact ⟨z, H3, I3.tok _, rz, q3⟩
  | some u => exact ⟨v, H3, I3.tok _, h2 u rfl, q3⟩
end
end L2
end
section
set_option Elab.async false
set_option linter.all false
set_option maxRecDepth 100000
set_option maxHeartbeats 2000000
/-! # What is shown of data, bounded -/
namespace L2
open PySem PySem.Spec PyProof.Rows
/-- d can be shown, so deep and so long at most -/
structure Sh (d : PyData) (n l : Nat) : Prop where
  ok : d.showable = true
  deep : d.depth ≤ n
  len : d.shown.length ≤ l
theorem Sh.mono {d : PyData} {n l n' l' : Nat} (h : Sh d n l) (h1 : n ≤ n') (h2 : l ≤ l') : Sh d n' l' := ⟨h.ok, Nat.le_trans h.deep h1, Nat.le_trans h.len h2⟩
theorem sh_all {n : Nat} : ∀ {ds : List PyData}, (∀ d ∈ ds, d.showable = true ∧ d.depth ≤ n) → PyData.showableAll ds = true ∧ PyData.depthAll ds ≤ n
  | [], _ => ⟨rfl, Nat.zero_le _⟩
  | d :: r, h => by
    obtain ⟨a, b⟩ := sh_all (ds := r) fun x hx => h x (List.mem_cons_of_mem _ hx)
    obtain ⟨c, e⟩ := h d (List.mem_cons_self ..)
    constructor
    · simp only [PyData.showableAll, a, c, Bool.and_self]
    · simp only [PyData.depthAll]
      omega
theorem sum_shown {l : Nat} : ∀ {ds : List PyData}, (∀ d ∈ ds, d.shown.length ≤ l) → (ds.map fun d => d.shown.length + 2).sum ≤ ds.length * (l + 2)
  | [], _ => by simp
  | d :: r, h => by
    have a := sum_shown (ds := r) fun x hx => h x (List.mem_cons_of_mem _ hx)
    have b := h d (List.mem_cons_self ..)
    simp only [List.map_cons, List.sum_cons, List.length_cons, Nat.succ_mul]
    omega
theorem piled_shown (d : PyData) (r : List PyData) : piled (PyData.shownAll (d :: r)) = ((d :: r).map fun d => d.shown.length + 2).sum := by
  unfold piled
  rw [PyProof.Rows.shownAll_eq_map, List.map_map]
  rfl
theorem tuple_len (ds : List PyData) : (PyData.tuple ds).shown.length ≤ (ds.map fun d => d.shown.length + 2).sum + 3 := by
  rw [PyData.shown_tuple, strLen_append, strLen_append]
  have x : ("(" : Str).length = 1 := rfl
  have y : ((if (ds.length == 1) = true then ",)" else ")" : String) : Str).length ≤ 2 := by
    split <;> decide +kernel
  rw [x]
  cases ds with
  | nil =>
    have : (Str.join ", " (PyData.shownAll [])).length = 0 := rfl
    rw [this]
    simp only [List.map_nil, List.sum_nil]
    omega
  | cons d r =>
    have j := join_length_add (PyData.shownAll (d :: r)) (by simp [PyData.shownAll])
    rw [piled_shown] at j
    omega
theorem list_len (ds : List PyData) : (PyData.list ds).shown.length ≤ (ds.map fun d => d.shown.length + 2).sum + 3 := by
  rw [PyData.shown_list, strLen_append, strLen_append]
  have x : ("[" : Str).length = 1 := rfl
  have y : ("]" : Str).length = 1 := rfl
  rw [x, y]
  cases ds with
  | nil =>
    have : (Str.join ", " (PyData.shownAll [])).length = 0 := rfl
    rw [this]
    simp only [List.map_nil, List.sum_nil]
    omega
  | cons d r =>
    have j := join_length_add (PyData.shownAll (d :: r)) (by simp [PyData.shownAll])
    rw [piled_shown] at j
    omega
theorem Sh.tuple {ds : List PyData} {n l m : Nat} (h : ∀ d ∈ ds, Sh d n l) (hm : ds.length ≤ m) : Sh (.tuple ds) (n + 1) (m * (l + 2) + 3) := by
  obtain ⟨a, b⟩ := sh_all (n := n) (ds := ds) fun d hd => ⟨(h d hd).ok, (h d hd).deep⟩
  refine ⟨a, ?_, ?_⟩
  · simp only [PyData.depth]; omega
  · have c := tuple_len ds
    have d := sum_shown (l := l) (ds := ds) fun d hd => (h d hd).len
    have e : ds.length * (l + 2) ≤ m * (l + 2) := Nat.mul_le_mul_right _ hm
    omega
theorem Sh.list {ds : List PyData} {n l m : Nat} (h : ∀ d ∈ ds, Sh d n l) (hm : ds.length ≤ m) : Sh (.list ds) (n + 1) (m * (l + 2) + 3) := by
  obtain ⟨a, b⟩ := sh_all (n := n) (ds := ds) fun d hd => ⟨(h d hd).ok, (h d hd).deep⟩
  refine ⟨a, ?_, ?_⟩
  · simp only [PyData.depth]; omega
  · have c := list_len ds
    have d := sum_shown (l := l) (ds := ds) fun d hd => (h d hd).len
    have e : ds.length * (l + 2) ≤ m * (l + 2) := Nat.mul_le_mul_right _ hm
    omega
theorem small_int : ∀ n : Fin 1000, (PyData.int (n.val : Int)).shown.length ≤ 3 ∧ (PyData.int (n.val : Int)).showable = true := by decide +kernel
theorem Sh.int {i : Int} (h0 : 0 ≤ i) (h1 : i < 1000) : Sh (.int i) 0 3 := by
  obtain ⟨k, rfl⟩ := Int.eq_ofNat_of_zero_le h0
  obtain ⟨a, b⟩ := small_int ⟨k, by omega⟩
  exact ⟨b, Nat.le_refl _, a⟩
theorem Sh.ints {xs : List Int} {m : Nat} (h : ∀ x ∈ xs, 0 ≤ x ∧ x < 1000) (hm : xs.length ≤ m) : Sh (.tuple (xs.map .int)) 1 (m * 5 + 3) := by
  refine Sh.tuple (n := 0) (l := 3) (fun d hd => ?_) (by simpa using hm)
  obtain ⟨x, hx, rfl⟩ := List.mem_map.mp hd
  exact Sh.int (h x hx).1 (h x hx).2
theorem Sh.non : Sh .none 0 4 := ⟨rfl, Nat.le_refl _, by decide +kernel⟩
theorem Sh.fit {d : PyData} {n l : Nat} (h : Sh d n l) (h1 : n ≤ 60) (h2 : l ≤ 1000000) : d.showable = true ∧ d.depth ≤ 60 ∧ d.shown.length ≤ sizeLine :=
  ⟨h.ok, Nat.le_trans h.deep h1, Nat.le_trans h.len (Nat.le_trans h2 (by decide +kernel))⟩
end L2
end
section
set_option Elab.async false
set_option linter.all false
set_option maxRecDepth 100000
set_option maxHeartbeats 2000000
/-! # list(text) -/
namespace L2
open PySem PySem.Spec PyProof.Rows
def signsV (z : Str) : List V := z.cps.toList.map fun c => V.str ⟨#[c]⟩
theorem call_list_text {X : Cx} (hcalm : X.calm = true) : CallR X (.type "list") (fun xs H Q => ∃ z : Str, xs = [.str z] ∧ z.length ≤ 16000000 ∧ ∀ l, H l = none → Q (.ref l) (upd H l (.lst (signsV z)))) := by
  intro pins s σ H xs us Q I r h
  obtain ⟨z, rfl, hz, q⟩ := h
  obtain ⟨u, rfl, t, rfl⟩ := vals1 r
  have hz2 : z.cps.size ≤ 16000000 := hz
  have hle : z.cps.size ≤ sizeLine := Nat.le_trans hz2 (by decide +kernel)
  refine call_list_str (I.ok.hd hcalm) z t (fun h' tk acc' c' kp e it => ?_) hle
  obtain ⟨hsz, hit⟩ := it
  have hv : Vals ((List.range acc'.toList.length).map fun j => V.str ⟨#[z.cps.getD j 0]⟩) acc'.toList := vals_of_get _ _ fun j u hj => by
    rw [Array.getElem?_toList] at hj
    obtain ⟨c, tk2, hc, rfl⟩ := hit j u hj
    refine ⟨tk2, ?_⟩
    have hlt : j < z.cps.size := (Array.getElem?_eq_some_iff.mp hc).1
    rw [Array.getElem?_eq_getElem hlt] at hc
    simp [Array.getD, hlt, Option.some.inj hc]
  have he : ((List.range acc'.toList.length).map fun j => V.str ⟨#[z.cps.getD j 0]⟩) = signsV z := by
    unfold signsV
    apply List.ext_getElem?
    intro j
    rw [List.getElem?_map, List.getElem?_map, Array.length_toList, hsz]
    by_cases hj : j < z.cps.size
    · rw [List.getElem?_range hj, Array.getElem?_toList, Array.getElem?_eq_getElem hj]
      simp [Array.getD, hj]
    · rw [List.getElem?_eq_none (by simpa using hj), Array.getElem?_toList, Array.getElem?_eq_none (by simpa using hj)]
      rfl
  rw [he] at hv
  have hl : (signsV z).length ≤ sizeLine := by
    unfold signsV
    rw [List.length_map, Array.length_toList]
    exact Nat.le_trans hz2 (by decide +kernel)
  exact ⟨.ref s.heap.objs.size, _, I.laid (t' := tk) kp (Nat.le_refl _) (show ObjOk X.prog X.w _ h' _ (.lst (signsV z)) from ⟨hl, acc'.toList, c', hv, e⟩), rfl, q _ (I.hok.fresh (Nat.le_refl _))⟩
end L2
end
section
set_option Elab.async false
set_option linter.all false
set_option maxRecDepth 100000
set_option maxHeartbeats 2000000
/-! # a try with several clauses 'except X as e' -/
namespace L2
open PySem PySem.Spec PyProof.Rows
/-- the clauses of a try, and what they want of an exception of the body -/
inductive Clauses (X : Cx) (Wout : WX) : List ExceptHandler → (Ends → WX) → Prop
  | nil : Clauses X Wout [] fun _ => Wout
  | cons {x n : Str} {c : Value} {i : Nat} {suite : List Stmt} {b₀ : Stmt} {np pos : Pos} {ts : Addr → Value → Option Addr → TS} {hds : List ExceptHandler} {W : Ends → WX}
      (hi : X.N[i]? = some n) (hl : X.env.kindOf n = some .local) (hc : Names X x c)
      (hs : ∀ (a : Addr) (oe : Obj) (cls : Value) (d : Option Addr) (pn : List (Addr × Obj)), Zc cls d oe → (∃ vs, oe.data = .fields vs) → PSs (X.suite a ((a, oe) :: pn)) (b₀ :: suite) (ts a cls d))
      (r : Clauses X Wout hds W) : Clauses X Wout (.ExceptHandler (some (.Name x np)) (some n) (b₀ :: suite) pos :: hds) fun D => wAs X.K c i ts (W D) D
section
variable {X : Cx} {Wout : WX} {a : Addr} {B : Heap} {sI s' : Shared} {pins : List (Addr × Obj)} {cls : Value} {d : Option Addr}
/-- no frame is an exception's object -/
theorem notFrame {h : Heap} {o : Obj} {vs : Array Value} (ff : h.FunFrames B (X.env :: X.outer)) (e : h.get? a = some o) (dd : o.data = .fields vs) : a ∉ frs (X.env :: X.outer) := fun hm => by
  obtain ⟨_, o', e', nf⟩ := ff.mem hm
  rw [e] at e'
  cases e'
  exact nf _ dd
/-- the clauses, one behind another, where the exception has landed -/
theorem cls_land (hs : X.stack = X.env :: X.outer) (hf : X.env.frame = some X.env.locals) (hN : X.N.Nodup) (tk : Takes X Wout) {D : Ends} {σ : St} {H : Hp} (J : Inv X pins σ H sI)
    (nb : ∀ b o, sI.heap.get? b = some o → b ∉ frs X.stack → B.get? b = some o) (na : H a = none) (os : s'.os = sI.os) (ag : AllBare s'.gens) :
    ∀ {hds : List ExceptHandler} {W : Ends → WX}, Clauses X Wout hds W → ∀ {h : Heap}, HandSPX.FlyingZ B (X.env :: X.outer) a (Zc cls d) h → sI.heap.UpToSlots h → W D cls d σ H →
      wpAny (model X.prog X.w) X.A (handleBy (.ref a) X.env hds) (SP X pins D) X.xe { s' with heap := h } := by
  have ok := J.ok
  have hfr : X.A.frames = some (X.env :: X.outer) := by rw [ok.frames, hs]
  intro hds W q
  induction q with
  | nil =>
    intro h fl up wish
    refine wpAny_handleBy_nil ?_
    obtain ⟨k1, k2, k3, oe, vs, T, oT, ts', he, hz, hd, h1, hr⟩ := id fl
    have go : wpAny (model X.prog X.w) X.A (setFlight (.ref a) X.env.frame) (fun _ s4 => wpAny (model X.prog X.w) X.A (throw (.ref a) : Sem Flow) (SP X pins D) X.xe s4) X.xe { s' with heap := h } := by
      rw [hf]
      refine HandSPX.setFlight_upZ fl fun h4 hh4 up4 => wpAny_throw (tk _ _ ?_)
      exact ⟨a, B, sI, pins, σ, H, cls, d, rfl, J, nb, up.trans up4, .inr (.inr (by rw [hs]; exact hh4)), na, os, ag, wish⟩
    unfold PySem.passOn
    refine wpAny_bind (wpAny_field he hd h1 ?_)
    rw [if_neg (show ¬ ((Value.ref T == Value.none) = true) from by simp)]
    first
      | exact wpAny_bind (wpAny_pure (wpAny_bind go))
      | exact wpAny_bind go
  | @cons x n c i suite b₀ np pos ts hds W hi hl hc hsu r ih =>
    intro h fl up wish
    obtain ⟨b, hb, yes, no⟩ := wish
    have land : ∀ {h4 : Heap}, HandSPX.FlyingZ B (X.env :: X.outer) a (Zc cls d) h4 → sI.heap.UpToSlots h4 →
        ∃ oe vs, h4.get? a = some oe ∧ Zc cls d oe ∧ oe.data = .fields vs ∧ Inv X pins σ H { s' with heap := h4 } ∧ Inv (X.suite a ((a, oe) :: (X.pn ++ pins))) [] σ H { s' with heap := h4 } := by
      intro h4 f4 u4
      have J4 : Inv X pins σ H { s' with heap := h4 } := J.landed nb f4.1 u4 os ag
      obtain ⟨oe, vs, e, hz, hd⟩ := f4.there
      have nf := notFrame (X := X) f4.2.2.1 e hd
      refine ⟨oe, vs, e, hz, hd, J4, J4.suite e hd na (fun z => nf ?_) fun hm => ?_⟩
      · exact List.mem_filterMap.mpr ⟨X.env, List.mem_cons_self, by rw [hf, z]⟩
      · obtain ⟨v, hv, q⟩ := List.mem_filterMap.mp hm
        exact nf (List.mem_filterMap.mpr ⟨v, List.mem_cons_of_mem _ hv, q⟩)
    obtain ⟨oe, vs, he, hz, hd, J3, S3⟩ := land fl up
    refine wpAny_handleBy_cons (codeAny_handlers_test ?_) (by intro q; cases q)
    have look : PySem.W.Looks (model X.prog X.w) h (typeOf (.ref a)) cls := fun A Q E s k q => wpAny_typeOf_ref (k _ _ he) (by rw [hz.1]; exact q)
    have match_ := PySem.W.exm_one (M := model X.prog X.w) J3.kIn look hb
    have named : ∀ {Q : Value → Shared → Prop} {E : Value → Shared → Prop}, Q c { s' with heap := h } → wpAny (model X.prog X.w) (X.A.mark (some (.ref a))) (eval (.Name x np) X.env) Q E { s' with heap := h } := fun {Q E} q => by
      obtain ⟨hg, nd, hm | ⟨hm, hv, hne⟩⟩ := hc
      · exact ld_glob (X := X.suite a ((a, oe) :: (X.pn ++ pins))) S3 hg hm q nd
      · exact ld_blt (X := X.suite a ((a, oe) :: (X.pn ++ pins))) S3 hg hm hv q hne nd
    refine named (match_.here ?_)
    cases b with
    | false => exact ih fl up (no rfl)
    | true =>
      refine codeAny_handlers_suite_as ?_
      refine HandSPX.lands_againZ fl fun h4 fl4 up4 => ?_
      obtain ⟨oe4, vs4, he4, hz4, hd4, J4, S4⟩ := land fl4 (up.trans up4)
      refine store_ok (X := X.suite a ((a, oe4) :: (X.pn ++ pins))) (v := .ref a) S4 hN hi (.inl hl) rfl (fun s5 S5 => ?_) (.inr hl)
      refine wpAny_mono ((hsu a oe4 cls d (X.pn ++ pins) hz4 ⟨_, hd4⟩).run [] s5 _ H _ S5 (yes rfl a na)) (fun f s6 out => ?_) (fun _ _ z => False.elim z)
      have drop : ∀ {σ6 : St} {H6 : Hp} {Q : Shared → Prop}, Inv (X.suite a ((a, oe4) :: (X.pn ++ pins))) [] σ6 H6 s6 → (∀ s7, Inv X pins (σ6.set i none) H6 s7 → Q s7) →
          wpAny (model X.prog X.w) X.A (do bindName X.env n .none; unbindBehindTheSuite X.env n pos) (fun _ s7 => Q s7) X.xe s6 := fun {σ6 H6 Q} S6 k => gone_ok (S6.unsuite ok) hN hi hl k
      cases f with
      | ret u =>
        obtain ⟨v6, σ6, H6, S6, r6, q6⟩ := out
        exact drop S6 fun s7 J7 => ⟨_, _, _, J7, r6, q6⟩
      | next =>
        obtain ⟨σ6, H6, S6, q6⟩ := out
        exact drop S6 fun s7 J7 => ⟨_, _, J7, q6⟩
      | brk =>
        obtain ⟨σ6, H6, S6, q6⟩ := out
        exact drop S6 fun s7 J7 => ⟨_, _, J7, q6⟩
      | cont =>
        obtain ⟨σ6, H6, S6, q6⟩ := out
        exact drop S6 fun s7 J7 => ⟨_, _, J7, q6⟩
end
section
variable {X : Cx} {body : List Stmt} {h₀ : ExceptHandler} {hds : List ExceptHandler} {pos : Pos} {tb : WX → TS} {Wout : WX} {W : Ends → WX}
theorem ps_try_cls (hs : X.stack = X.env :: X.outer) (hf : X.env.frame = some X.env.locals) (hN : X.N.Nodup) (tk : Takes X Wout) (q : Clauses X Wout (h₀ :: hds) W)
    (hb : ∀ (W' : WX) (pn : List (Addr × Obj)) (xe : Value → Shared → Prop), Takes (X.tr pn xe) W' → PassesOwn (model X.prog X.w) X.A X.env xe → PSs (X.tr pn xe) body (tb W')) :
    PS X (.Try body (h₀ :: hds) [] [] pos) (fun D σ H => tb (W D) D σ H) := by
  refine ⟨fun pins s σ H D I h => ?_⟩
  have hfr : X.A.frames = some (X.env :: X.outer) := by rw [I.ok.frames, hs]
  refine wpAny_Try_except ?_
  refine wpAny_mono ((hb (W D) (X.pn ++ pins) (fun e s₁ => wpAny (model X.prog X.w) X.A (noteFrame e X.env) (fun _ s₂ => wpAny (model X.prog X.w) X.A (setFlight e none) (fun _ s₃ =>
    wpAny (model X.prog X.w) X.A (handleBy e X.env (h₀ :: hds)) (SP X pins D) X.xe s₃) X.xe s₂) X.xe s₁) (fun u s' xx => ?_) PassesOwn.looking).run [] s σ H D (I.toTry _) h) (fun f s1 out => ?_) (fun e s1 z => z)
  · obtain ⟨a, B, sI, pins', σ', H', cls, d, rfl, J, nb, up, sky, na, os, ag, wish⟩ := xx
    refine Sky.land Zc.steady hfr hf (by rw [← hs]; exact sky) fun h3 fl3 up3 => ?_
    exact cls_land hs hf hN tk (J.ofTry I.ok) nb na os ag q fl3 (up.trans up3) wish
  · cases f with
    | ret u =>
      obtain ⟨v, σ', H', J, r, z⟩ := out
      exact ⟨v, σ', H', J.ofTry I.ok, r, z⟩
    | next =>
      obtain ⟨σ', H', J, z⟩ := out
      exact wpAny_execs_nil ⟨σ', H', J.ofTry I.ok, z⟩
    | brk =>
      obtain ⟨σ', H', J, z⟩ := out
      exact ⟨σ', H', J.ofTry I.ok, z⟩
    | cont =>
      obtain ⟨σ', H', J, z⟩ := out
      exact ⟨σ', H', J.ofTry I.ok, z⟩
end
end L2
end
section
set_option Elab.async false
set_option linter.all false
set_option maxRecDepth 100000
set_option maxHeartbeats 2000000
/-! # {} != {} -/
namespace L2
open PySem PySem.Spec PyProof.Rows
section
variable {X : Cx}
def rNeE : R2 := fun x y H Q => ∃ a b, x = .ref a ∧ y = .ref b ∧ H a = some (.dK []) ∧ H b = some (.dK []) ∧ Q (.bl false) H
theorem op_neE (hu : X.A.units + 64 < cLine) : OpR X (compareOp .NotEq) rNeE := by
  intro pins s σ H x y v u Q I rx ry h
  obtain ⟨a, b, rfl, rfl, ha, hb, q⟩ := h
  cases (show v = Value.ref a from rx)
  cases (show u = Value.ref b from ry)
  obtain ⟨_, ya, va, ra, da⟩ := (show ObjOk X.prog X.w H s.heap a (.dK []) from I.hok a _ ha)
  obtain ⟨_, yb, vb, rb, db⟩ := (show ObjOk X.prog X.w H s.heap b (.dK []) from I.hok b _ hb)
  show wpAny (model X.prog X.w) X.A (richCompare .NotEq (.ref a) (.ref b)) (EP X pins σ Q) X.xe s
  have hn : va = [] := by cases ra; rfl
  have hm : vb = [] := by cases rb; rfl
  subst hn hm
  refine wpAny_richCompare_same_room (op := .NotEq) da.typeIs db.typeIs PySem.F.slot_dict_ne (wpAny_call_entry PySem.F.slot_dict_ne da.typeIs PySem.F.entry_dict_ne ?_ (PySem.F.args_dict_ne_2 _ _)) (by omega)
  show wpAny _ _ (Builtin.Dict.dictSlotArgs "__ne__" ⟨[.ref a, .ref b], []⟩ >>= _) _ _ s
  refine wpAny_bind ?_
  unfold Builtin.Dict.dictSlotArgs
  refine wpAny_bind (wpAny_notOrdered_dict da.typeIs ?_)
  show wpAny _ _ (pure (Value.ref a, Value.ref b)) _ _ s
  refine wpAny_pure ?_
  refine wpAny_bind (wpAny_isInstance (T := "dict") db.typeIs PySem.F.sub_dict_dict ?_)
  simp only [Bool.not_true, Bool.false_eq_true, if_false]
  refine wpAny_bind (wpAny_pure (wpAny_bind (wpAny_pure ?_)))
  refine wpAny_bind (PySem.W.samePairsP ya yb da db (r := true) (fun _ => .nil) ?_)
  refine wpAny_pure ⟨_, rfl, fun x => (nomatch x), ?_⟩
  exact ⟨.bl false, H, I, rfl, q⟩
end
end L2
end
section
set_option Elab.async false
set_option linter.all false
set_option maxRecDepth 100000
set_option maxHeartbeats 2000000
/-! # a tuple, read from behind: t[::-1] -/
namespace HT
open PySem PySem.Spec PyProof.Rows
section
variable {prog : Program} {w : World} {A : Around} {E : Value → Shared → Prop} {s : Shared}
theorem adjust_rev (n : Nat) : Builtin.Slice.sliceAdjust none none (-1) (n : Int) = ((n : Int) - 1, -1) := by
  unfold Builtin.Slice.sliceAdjust
  rfl
theorem places_rev (n : Nat) : Builtin.Slice.slicePlaces ((n : Int) - 1) (-1) (-1) = n := by
  unfold Builtin.Slice.slicePlaces
  have h1 : ¬ ((-1 : Int) > 0) := by omega
  simp only [h1, if_false]
  have e : (-(-1 : Int)) = 1 := by decide
  rw [e, Int.ediv_one]
  split <;> omega
theorem fm_congr {α β : Type} {f g : α → Option β} : ∀ {l : List α}, (∀ x ∈ l, f x = g x) → l.filterMap f = l.filterMap g
  | [], _ => rfl
  | x :: r, h => by rw [List.filterMap_cons, List.filterMap_cons, h x (List.mem_cons_self ..), fm_congr fun y hy => h y (List.mem_cons_of_mem _ hy)]
theorem pick_rev (xs : Array Value) : ((List.range xs.size).filterMap fun (k : Nat) => xs[(((xs.size : Int) - 1) + (k : Int) * (-1)).toNat]?).toArray = xs.toList.reverse.toArray := by
  have e : (List.range xs.size).filterMap (fun (k : Nat) => xs[(((xs.size : Int) - 1) + (k : Int) * (-1)).toNat]?) = ((List.range xs.size).map fun k => xs.size - 1 - k).filterMap (xs[·]?) := by
    rw [List.filterMap_map]
    refine fm_congr fun k hk => ?_
    have := List.mem_range.mp hk
    have e2 : (((xs.size : Int) - 1) + (k : Int) * (-1)).toNat = xs.size - 1 - k := by omega
    show xs[_]? = xs[_]?
    rw [e2]
  rw [e, PySem.W.krv_range, List.filterMap_reverse, PySem.W.krv_all]
theorem sliceApplied_rev {sl : Addr} {vl vu vs : Value} {n : Nat} {Q : Int × Int × Nat → Shared → Prop} (hs : s.heap.IsSliceOf sl vl vu vs) (pl : IsPart vl none) (pu : IsPart vu none) (ps : IsPart vs (some (-1)))
    (h : Q ((n : Int) - 1, -1, n) s) : wpAny (model prog w) A (Builtin.Slice.sliceApplied (.ref sl) (pure (n : Int))) Q E s := by
  obtain ⟨os, hos, hcs, hds⟩ := id hs
  unfold Builtin.Slice.sliceApplied Builtin.Slice.sliceFields
  refine wpAny_bind (wpAny_bind (wpAny_field hos hds (x := vl) rfl (wpAny_bind (wpAny_field hos hds (x := vu) rfl (wpAny_bind (wpAny_field hos hds (x := vs) rfl (wpAny_pure ?_)))))))
  refine wpAny_bind (slicePart_ ps ?_)
  show wpAny _ _ (if ((-1 : Int) == 0) = true then _ else _) _ _ s
  rw [if_neg (by decide)]
  refine wpAny_bind (slicePart_ pl (wpAny_bind (slicePart_ pu (wpAny_bind (wpAny_pure ?_)))))
  show wpAny _ _ (match Builtin.Slice.sliceAdjust none none (-1) (n : Int) with | (lo, hi) => pure (lo, (-1 : Int), Builtin.Slice.slicePlaces lo hi (-1))) _ _ s
  rw [adjust_rev n]
  show wpAny _ _ (pure ((n : Int) - 1, (-1 : Int), Builtin.Slice.slicePlaces ((n : Int) - 1) (-1) (-1))) _ _ s
  rw [places_rev]
  exact wpAny_pure h
theorem getItem_tuple_rev {t sl : Addr} {items : Array Value} {vl vu vs : Value} {Q : Value → Shared → Prop} (ht : IsTup s.heap t items) (hs : s.heap.IsSliceOf sl vl vu vs) (pl : IsPart vl none) (pu : IsPart vu none) (ps : IsPart vs (some (-1)))
    (h : Q (.ref s.heap.objs.size) { s with heap := s.heap.push { cls := .type "tuple", data := .seq items.toList.reverse.toArray } })
    (hsz : items.size ≤ sizeLine) : wpAny (model prog w) A (getItem (.ref t) (.ref sl)) Q E s := by
  have htake : sizeOk (.seq items.toList.reverse.toArray) := by
    show items.toList.reverse.toArray.size ≤ sizeLine
    rw [List.size_toArray, List.length_reverse, Array.length_toList]
    omega
  obtain ⟨os, hos, hcs, hds⟩ := id hs
  have hTs : s.TypeIs (.ref sl) "slice" := ⟨os, hos, hcs⟩
  unfold getItem
  try with_reducible refine wpAny_holding ?_
  first | refine wpAny_bind (wpAny_pure ?_) | skip
  refine wpAny_bind (wpAny_sequenceKey ht.typeIs (by decide) ?_)
  refine wpAny_bind (wpAny_callSpecial?_slot (name := Str.ofString "__getitem__") ht.typeIs PyProof.Rows.slot_tuple_getitem
    (wpAny_call_entry PyProof.Rows.slot_tuple_getitem ht.typeIs entry_tuple_getitem ?_ (args_tuple_getitem _ _)))
  show wpAny _ _ (Builtin.Tuple.tupleItemsOf (.ref t) >>= _) _ _ s
  refine wpAny_bind (tupleItemsOf_ ht ?_)
  refine wpAny_bind (wpAny_typeOf hTs ?_)
  rw [if_pos (by decide)]
  refine wpAny_bind (sliceApplied_rev hs pl pu ps ?_)
  have hno : ¬ (((items.size : Int) - 1 == 0 && (-1 : Int) == 1 && items.size == items.size) = true) := by
    intro q
    rw [Bool.and_eq_true, Bool.and_eq_true] at q
    exact absurd q.1.2 (by decide)
  show wpAny _ _ (if ((items.size : Int) - 1 == 0 && (-1 : Int) == 1 && items.size == items.size) = true then _ else _) _ _ s
  rw [if_neg hno, pick_rev]
  first
    | exact wpAny_bind (m := Builtin.Tuple.tupleExact _) (wpAny_newObj_type (wpAny_pure ⟨_, rfl, wpAny_pure h⟩) htake)
    | exact wpAny_bind (m := Builtin.Tuple.tupleExact _) (wpAny_newObj_type (wpAny_bind (wpAny_pure (wpAny_pure ⟨_, rfl, wpAny_pure h⟩))) htake)
    | exact wpAny_bind (wpAny_bind (m := Builtin.Tuple.tupleExact _) (wpAny_newObj_type (wpAny_pure (wpAny_pure ⟨_, rfl, wpAny_pure h⟩)) htake))
    | exact wpAny_bind (wpAny_bind (m := Builtin.Tuple.tupleExact _) (wpAny_newObj_type (wpAny_pure ⟨_, rfl, wpAny_pure h⟩) htake))
end
end HT
namespace L2
open PySem PySem.Spec PyProof.Rows
section
variable {X : Cx}
/-- t[::-1] -/
def tRevT (te : TE) : TE := fun σ H Q => te σ H fun x H1 => ∃ a xs, x = .ref a ∧ H1 a = some (.tup xs) ∧ ∀ p, H1 p = none → Q (.ref p) (upd H1 p (.tup xs.reverse))
theorem pe_revT {e : Expr} {te : TE} {k : Nat} {p1 p2 p3 pos : Pos} (he : PE X e te) : PE X (.Subscript e (.Slice none none (some (.UnaryOp .USub (.Constant (.int 1) k p1) p2)) p3) pos) (tRevT te) := by
  refine ⟨fun pins s σ H Q I h => ?_⟩
  refine Subscript_ (thn (he.run pins s σ H _ I h) fun v s1 ⟨x, H1, I1, r1, q1⟩ => ?_)
  obtain ⟨a, xs, ex, hx, q⟩ := q1
  subst ex
  cases r1
  have hst : PO X (some (.UnaryOp .USub (.Constant (.int 1) k p1) p2)) (tPart (tUn (rU fun i => .int (-i)) (tC (.int 1)))) := po_some (pe_un un_neg pe_int)
  refine wpAny_Slice (thn (po_none.run pins s1 σ H1 (fun o H2 => o = none ∧ H2 = H1) I1 ⟨rfl, rfl⟩) fun vl s2 ⟨l, H2, I2, pl, el, e2⟩ => ?_)
  subst el e2
  refine thn (po_none.run pins s2 σ H2 (fun o H3 => o = none ∧ H3 = H2) I2 ⟨rfl, rfl⟩) fun vu s3 ⟨u, H3, I3, pu, eu, e3⟩ => ?_
  subst eu e3
  refine thn (hst.run pins s3 σ H3 (fun o H4 => o = some (-1) ∧ H4 = H3) I3 ⟨1, rfl, -1, rfl, rfl, rfl⟩) fun vs s4 ⟨o, H4, I4, ps, eo, e4⟩ => ?_
  subst eo e4
  have I5 : Inv X pins σ H4 { s4 with heap := s4.heap.push { cls := .type "slice", data := .fields #[vl, vu, vs] } } := I4.kept (t' := s4.toks) fun b ob q => Heap.get?_push_of_some _ q
  obtain ⟨its, r, ht, hz⟩ := I5.tuple (SqT.of hx)
  have hlen := r.length
  show wpAny (model X.prog X.w) X.A (subscriptTail e (.Slice none none (some (.UnaryOp .USub (.Constant (.int 1) k p1) p2)) p3) (.ref a) (.ref s4.heap.objs.size)) (EP X pins σ Q) X.xe { s4 with heap := s4.heap.push { cls := .type "slice", data := .fields #[vl, vu, vs] } }
  refine tail_any (ops := [.ref a, .ref s4.heap.objs.size]) ht.typeIs (PyProof.Rows.slot_tuple_getitem.lookup) ?_ (by with_unfolding_all rfl)
  refine HT.getItem_tuple_rev ht (Heap.IsSliceOf.new _ vl vu vs) pl pu ps ?_ (by rw [List.size_toArray]; omega)
  refine ⟨.ref _, _, I5.laid (t' := s4.toks) (o := .tup xs.reverse) (fun b ob q => Heap.get?_push_of_some _ q) (Nat.le_refl _) ?_, rfl, q _ (I5.hok.fresh (Nat.le_refl _))⟩
  exact ⟨by rw [List.length_reverse]; omega, _, r.reverse, IsTup.new _ _⟩
end
end L2
end
section
set_option Elab.async false
set_option linter.all false
set_option maxRecDepth 100000
set_option maxHeartbeats 2000000
/-! # Dicts whose keys are tuples of any depth (ints, texts, such tuples); their values are flags. -/
namespace L2
open PySem PySem.Spec PyProof.Rows
mutual
/-- the value v is this key -/
inductive NkIs (H : Hp) : NestedKey → V → Prop
  | int (i : Int) : NkIs H (.num i) (.int i)
  | str (x : Str) : NkIs H (.text x) (.str x)
  | tup {a : Addr} {ks : List NestedKey} {vs : List V} (e : H a = some (.tup vs)) (t : NkAll H ks vs) : NkIs H (.tup ks) (.ref a)
inductive NkAll (H : Hp) : List NestedKey → List V → Prop
  | nil : NkAll H [] []
  | cons {k : NestedKey} {v : V} {ks : List NestedKey} {vs : List V} (h : NkIs H k v) (t : NkAll H ks vs) : NkAll H (k :: ks) (v :: vs)
end
mutual
/-- it is so as long as the tuples stand -/
theorem NkIs.tups {H H' : Hp} (s : ∀ a xs, H a = some (.tup xs) → H' a = some (.tup xs)) : ∀ {k : NestedKey} {v : V}, NkIs H k v → NkIs H' k v
  | _, _, .int i => .int i
  | _, _, .str x => .str x
  | _, _, .tup e t => .tup (s _ _ e) (NkAll.tups s t)
theorem NkAll.tups {H H' : Hp} (s : ∀ a xs, H a = some (.tup xs) → H' a = some (.tup xs)) : ∀ {ks : List NestedKey} {vs : List V}, NkAll H ks vs → NkAll H' ks vs
  | _, _, .nil => .nil
  | _, _, .cons h t => .cons (NkIs.tups s h) (NkAll.tups s t)
end
mutual
theorem nk_is {P : Program} {w : World} {H : Hp} {h : Heap} (ok : HOk P w H h) : ∀ {k : NestedKey} {v : V} {u : Value}, NkIs H k v → RelV v u → NestedIs h k u
  | _, _, _, .int i, r => by
    obtain ⟨t, rfl⟩ := r
    exact .int i t
  | _, _, _, .str x, r => by
    obtain ⟨t, rfl⟩ := r
    exact .text x t
  | _, _, u, .tup e t, r => by
    cases (show u = Value.ref _ from r)
    obtain ⟨_, its, rv, ⟨o, ho, hc, n, hd⟩⟩ := ok _ _ e
    exact .tup ho hc hd (nk_all ok t rv)
theorem nk_all {P : Program} {w : World} {H : Hp} {h : Heap} (ok : HOk P w H h) : ∀ {ks : List NestedKey} {vs : List V} {us : List Value}, NkAll H ks vs → Vals vs us → NestedAll h ks us
  | _, _, _, .nil, r => by cases r; exact .nil
  | _, _, _, .cons a t, r => by
    cases r with
    | cons ra rt => exact .cons (nk_is ok a ra) (nk_all ok t rt)
end
/-- a dict with these keys, where they stand, and these values -/
def NkAt (P : Program) (w : World) (h : Heap) (d : Addr) (xs : List (NestedKey × Addr × Value)) : Prop :=
  xs.length ≤ sizeLine ∧ (d == sysModules) = false ∧ ∃ o es ep, h.get? d = some o ∧ o.ExactDict ∧ o.data = .dict es ep ∧ es.toList = xs.map (entryOfKey (nestedKind P w)) ∧ (xs.map (·.1)).Nodup
def nkO (P : Program) (w : World) (d : Addr) (xs : List (NestedKey × Addr × Value)) : HO := .ext fun h => NkAt P w h d xs
/-- its keys stand -/
def NkKeys (H : Hp) (xs : List (NestedKey × Addr × Value)) : Prop := ∀ y ∈ xs, NkIs H y.1 (.ref y.2.1) ∧ y.1.depth ≤ 8
theorem nk_ok {P : Program} {w : World} {H : Hp} {h : Heap} {d : Addr} {xs : List (NestedKey × Addr × Value)} (a : NkAt P w h d xs) : ObjOk P w H h d (nkO P w d xs) := by
  refine ⟨a, ?_, fun h1 h2 q k => ?_⟩
  · obtain ⟨_, _, o, _, _, ho, _⟩ := a
    exact ⟨o, ho⟩
  · obtain ⟨z, hd, o, es, ep, ho, r⟩ := q
    exact ⟨z, hd, o, es, ep, k _ ho, r⟩
theorem nk_at {P : Program} {w : World} {H : Hp} {h : Heap} {d : Addr} {xs : List (NestedKey × Addr × Value)} (ok : HOk P w H h) (e : H d = some (nkO P w d xs)) (hk : NkKeys H xs) : xs.length ≤ sizeLine ∧ (d == sysModules) = false ∧ h.DictOfH (nestedKind P w) d xs := by
  obtain ⟨⟨z, hd, o, es, ep, ho, h1, h2, h3, h4⟩, _⟩ := ok _ _ e
  exact ⟨z, hd, o, es, ep, ho, h1, h2, h3, fun y hy => ⟨nk_is ok (hk y hy).1 rfl, (hk y hy).2⟩, h4⟩
theorem nkAt_of {P : Program} {w : World} {h : Heap} {d : Addr} {xs : List (NestedKey × Addr × Value)} (z : xs.length ≤ sizeLine) (hd : (d == sysModules) = false) (m : h.DictOfH (nestedKind P w) d xs) : NkAt P w h d xs := by
  obtain ⟨o, es, ep, ho, h1, h2, h3, _, h4⟩ := m
  exact ⟨z, hd, o, es, ep, ho, h1, h2, h3, h4⟩
def rNotInNk (P : Program) (w : World) : R2 := fun x y H Q => ∃ d xs b k, x = .ref b ∧ y = .ref d ∧ H d = some (nkO P w d xs) ∧ NkKeys H xs ∧ NkIs H k (.ref b) ∧ k.depth ≤ 8 ∧ Q (.bl (!(atKey xs k).isSome)) H
def rSetNk (P : Program) (w : World) : TSet := fun o i v H Q => ∃ d xs b k c, o = .ref d ∧ i = .ref b ∧ v = .bl c ∧ H d = some (nkO P w d xs) ∧ NkKeys H xs ∧ NkIs H k (.ref b) ∧ k.depth ≤ 8 ∧ xs.length < sizeLine ∧ Q (upd H d (nkO P w d (storedH xs k b (.bool c))))
theorem storedH_len {xs : List (NestedKey × Addr × Value)} {k : NestedKey} {a : Addr} {v : Value} : (storedH xs k a v).length ≤ xs.length + 1 := by
  unfold storedH
  split
  · rw [List.length_map]; omega
  · rw [List.length_append]; simp
section
variable {X : Cx}
/-- key not in dict -/
theorem op_notInNk (hu : X.A.units + 9 < cLine) : OpR X (compareOp .NotIn) (rNotInNk X.prog X.w) := by
  intro pins s σ H x y v u Q I rx ry h
  obtain ⟨d, xs, b, k, rfl, rfl, e, hk, kb, kd, q⟩ := h
  cases (show v = Value.ref b from rx)
  cases (show u = Value.ref d from ry)
  obtain ⟨z, hd, m⟩ := nk_at I.hok e hk
  exact wpAny_notIn_heap (knd := nestedKind X.prog X.w) (show X.A.units + 1 + 8 < cLine by omega) ⟨nk_is I.hok kb rfl, kd⟩ hd m ⟨.bl _, H, I.tok _, rfl, q⟩
/-- dict[key] = flag -/
theorem set_nk (hu : X.A.units + 9 < cLine) : PSet X (rSetNk X.prog X.w) := by
  intro pins s σ H o i v ov iv u Q I ro ri rv h
  obtain ⟨d, xs, b, k, c, rfl, rfl, rfl, e, hk, kb, kd, hl, q⟩ := h
  cases (show ov = Value.ref d from ro)
  cases (show iv = Value.ref b from ri)
  cases (show u = Value.bool c from rv)
  obtain ⟨z, hd, m⟩ := nk_at I.hok e hk
  refine wpAny_setItem_heap (hsz := z) (knd := nestedKind X.prog X.w) (show X.A.units + 1 + 8 < cLine by omega) ⟨nk_is I.hok kb rfl, kd⟩ m fun h' m' hs => ⟨_, ?_, q⟩
  have sl := storedH_len (xs := xs) (k := k) (a := b) (v := .bool c)
  have he : ∃ q, h'.get? d = some q := let ⟨q, _, _, hq, _⟩ := m'; ⟨q, hq⟩
  exact d_write I (by rw [e]; exact True.intro) hs he (nk_ok (nkAt_of (by omega) hd m'))
/-- {key: flag} -/
def tNk1 (P : Program) (w : World) (tk tv : TE) : TE := fun σ H Q => ∀ d, H d = none → tk σ (upd H d (nkO P w d [])) fun x H1 => tv σ H1 fun y H2 => ∃ b k c, x = .ref b ∧ y = .bl c ∧ H2 d = some (nkO P w d []) ∧ NkIs H2 k (.ref b) ∧ k.depth ≤ 8 ∧ Q (.ref d) (upd H2 d (nkO P w d [(k, b, .bool c)]))
theorem pe_nk1 {k v : Expr} {tk tv : TE} {pos : Pos} (hu : X.A.units + 9 < cLine) (hk : PE X k tk) (hv : PE X v tv) : PE X (.Dict [some k] [v] pos) (tNk1 X.prog X.w tk tv) := by
  refine ⟨fun pins s σ H Q I q => ?_⟩
  have hn := I.hok.fresh (Nat.le_refl s.heap.objs.size)
  have hb : (s.heap.objs.size == sysModules) = false := beq_eq_false_iff_ne.mpr (Ne.symm (Nat.ne_of_lt I.big))
  have a0 : NkAt X.prog X.w (s.heap.push { cls := .type "dict", data := .dict #[] }) s.heap.objs.size [] :=
    ⟨Nat.zero_le _, hb, _, #[], 0, Heap.get?_push_size _ rfl, ⟨rfl, rfl, rfl⟩, rfl, rfl, List.nodup_nil⟩
  have I1 := I.laid (a := s.heap.objs.size) (o := nkO X.prog X.w s.heap.objs.size []) (h' := s.heap.push { cls := .type "dict", data := .dict #[] }) (t' := s.toks) (fun _ _ q => Heap.get?_push_of_some _ q) (Nat.le_refl _) (nk_ok a0)
  refine wpAny_Dict_any (by rfl) (by rfl) (fun z => by cases z) (by simp) ?_
  refine pairTrees_cons_walk (thn (hk.run pins _ σ _ _ I1 (q _ hn)) fun u s1 ⟨x, H1, I2, rx, q1⟩ => thn (hv.run pins s1 σ H1 _ I2 q1) fun w2 s2 ⟨y, H2, I3, ry, b, ky, c, ex, ey, e, kb, kd, q2⟩ => pairTrees_nil_walk ?_)
  subst ex ey
  cases (show u = Value.ref b from rx)
  cases (show w2 = Value.bool c from ry)
  obtain ⟨z, hd, m⟩ := nk_at I3.hok e (fun y hy => by cases hy)
  unfold storeAll
  rw [List.forIn_cons]
  refine wpAny_bind (wpAny_bind (wpAny_dictSet_heap (hsz := z) (knd := nestedKind X.prog X.w) (show X.A.units + 8 < cLine by omega) ⟨nk_is I3.hok kb rfl, kd⟩ m fun h' m' hs => wpAny_pure ?_))
  show wpAny _ _ (forIn [] PUnit.unit _) _ _ _
  rw [List.forIn_nil]
  refine wpAny_pure ⟨.ref s.heap.objs.size, _, ?_, rfl, q2⟩
  have he : ∃ q, h'.get? s.heap.objs.size = some q := let ⟨q, _, _, hq, _⟩ := m'; ⟨q, hq⟩
  have e1 : storedH ([] : List (NestedKey × Addr × Value)) ky b (.bool c) = [(ky, b, .bool c)] := rfl
  rw [e1] at m'
  exact d_write I3 (by rw [e]; exact True.intro) hs he (nk_ok (nkAt_of (by rw [sizeLine_eq]; exact Nat.le_of_ble_eq_true rfl) hd m'))
end
end L2
end
section
set_option Elab.async false
set_option linter.all false
set_option maxRecDepth 100000
set_option maxHeartbeats 2000000
/-! # list.count of flat values; a call with two readings. -/
namespace L2
open PySem PySem.Spec PyProof.Rows
theorem count_eqU {x : V} : ∀ {xs : List V} {us : List Value}, Vals xs us → xs.all flatV = true → us.countP (eqU x) = xs.countP fun y => eqV y x
  | _, _, .nil, _ => rfl
  | y :: ys, u :: us, .cons r t, f => by
    rw [List.all_cons, Bool.and_eq_true] at f
    rw [List.countP_cons, List.countP_cons, count_eqU t f.2, eqU_of r f.1]
def rCntF (K : PySem.W.Frag) : V → List V → Hp → VK → Prop := fun x xs H Q => ∃ (p : Addr) (ys : List V) (y : V), x = .ref p ∧ xs = [y] ∧ SqL K H p ys ∧ flatV y = true ∧ ys.all flatV = true ∧ Q (.int ((ys.countP fun z => eqV z y : Nat) : Int)) H
section
variable {X : Cx}
/-- xs.count(y) -/
theorem mt_lcountF : MtR X "list.count" (rCntF X.K) := by
  intro pins s σ H x xs v us Q I rx rxs h
  obtain ⟨p, ys, y, rfl, rfl, hs, fy, fs, q⟩ := h
  cases rx
  obtain ⟨u, rfl, ru⟩ := rxs.one
  obtain ⟨its, rv, ⟨⟨cls, dd, data, sl⟩, n, ho, hc, hdn, hd⟩, hlen⟩ := I.list hs
  simp only at hc hd
  subst hc hd
  refine call_meets PySem.F.slot_list_count ⟨_, ho, rfl⟩ PySem.F.entry_list_count (PySem.F.args_list_count_2 _ _)
    (SeqAt.list_countAt p its.toArray n dd sl u (eqU y)) ⟨ho, fun z hz => mem_eqAt ru fy rv fs z (by simpa using hz), ?_⟩
  have ec : its.toArray.toList.countP (eqU y) = ys.countP fun z => eqV z y := by
    rw [List.toList_toArray]
    exact count_eqU rv fs
  refine ⟨.int ((ys.countP fun z => eqV z y : Nat) : Int), H, I.tok _, ⟨s.toks, ?_⟩, q⟩
  show Value.int ((its.toArray.toList.countP (eqU y) : Nat) : Int) s.toks = _
  rw [ec]
theorem call_or {f : Value} {r1 r2 : List V → Hp → VK → Prop} (h1 : CallR X f r1) (h2 : CallR X f r2) : CallR X f fun xs H Q => r1 xs H Q ∨ r2 xs H Q := by
  intro pins s σ H xs us Q I rx h
  rcases h with h | h
  · exact h1 pins s σ H xs us Q I rx h
  · exact h2 pins s σ H xs us Q I rx h
end
end L2
end
section
set_option Elab.async false
set_option linter.all false
set_option maxRecDepth 100000
set_option maxHeartbeats 2000000
/-! # max(numbers, default=d) -/
namespace MxD
open PySem PySem.Spec PyProof.Rows
section
variable {prog : Program} {w : World} {A : Around} {R : Result → Shared → Prop} {I : Addr} {fp wr : List Addr} {n : Nat} {P : Nat → Value → Prop} {St : Nat → Heap → Prop} {d : Value}
/-- the keywords of the call -/
def kwD (d : Value) : List (Str × Value) := [(Str.ofString "default", d)]
theorem nm : (toString "max" ++ toString ".loop" : String) = "max.loop" := by decide
/-- some are seen: vb is the greatest of them -/
theorem go_on (W : Walks prog w A.in1 I fp wr n P St) (bt : Nat → Nat → Bool) (hcmp : CmpOf prog w A.in1 .Gt P bt) (S : Addr) (hSf : S ∉ fp)
    (r : Nat) : ∀ (j : Nat) (s : Shared) (vb : Value) (c : Nat), n = j + 1 + r → St (j + 1) s.heap → P (argBest bt j) vb →
    s.heap.get? S = some { cls := .type "list", dict := none, data := .seq #[vb, vb] c, slots := #[] } →
    (∀ v h' tk, P (argBest bt (n - 1)) v → (∀ b o, b ∉ wr → b ≠ S → s.heap.get? b = some o → h'.get? b = some o) → R (.ok (.ret v)) { s with heap := h', toks := tk }) →
    codeAny (model prog w) A (.builtin "max.loop" ⟨[.ref I, .none, .ref S], kwD d⟩) R s := by
  have hw : S ∉ wr := fun z => hSf (W.sub _ z)
  induction r with
  | zero =>
    intro j s vb c en st hb hS k
    refine codeAny_builtin F.entry_max_loop ?_
    rw [Around.under_plainId F.plain_max_loop _]
    show wpAny _ A.in1 (seqItems? (.ref S) >>= _) _ _ s
    refine wpAny_bind (wpAny_seqItems hS rfl ?_)
    show wpAny _ A.in1 (tryCatch (pyNext (.ref I)) _ >>= _) _ _ s
    refine wpAny_bind (wpAny_tryCatch (W.done s _ _ (by rw [show n = j + 1 by omega]; exact st) fun h1 tk old => ?_))
    show wpAny _ A.in1 (updateSeq S (fun _ => #[]) >>= _) _ _ _
    refine wpAny_bind (wpAny_updateSeq (old S _ hw hS) rfl (wpAny_bind (wpAny_letGo (wpAny_pure ?_))))
    refine k vb _ tk (by rw [show n - 1 = j by omega]; exact hb) fun b o nb ns e => ?_
    exact (Heap.get?_update_other _ _ (Ne.symm ns)).trans (old b o nb e)
  | succ r ih =>
    intro j s vb c en st hb hS k
    refine codeAny_builtin F.entry_max_loop ?_
    rw [Around.under_plainId F.plain_max_loop _]
    show wpAny _ A.in1 (seqItems? (.ref S) >>= _) _ _ s
    refine wpAny_bind (wpAny_seqItems hS rfl ?_)
    show wpAny _ A.in1 (tryCatch (pyNext (.ref I)) _ >>= _) _ _ s
    refine wpAny_bind (wpAny_tryCatch (W.item (j + 1) s _ _ (by omega) st fun v h1 tk hv st1 old => ?_))
    have hS1 := old S _ hw hS
    show wpAny _ A.in1 (tryCatch (holding [v, v] (richCompare .Gt v vb >>= _)) _ >>= _) _ _ _
    refine wpAny_bind (wpAny_tryCatch (wpAny_holding (wpAny_bind (hcmp (j + 1) (argBest bt j) v vb _ _ _ hv hb ?_))))
    refine wpAny_bind (wpAny_holding (wpAny_truthy_bool (wpAny_bind (wpAny_letGo (wpAny_pure ?_)))))
    by_cases hc : bt (j + 1) (argBest bt j) = true
    · rw [if_pos hc]
      refine wpAny_bind (wpAny_updateSeq hS1 rfl (wpAny_bind (wpAny_letGo ?_)))
      rw [nm]
      refine wpAny_pure ⟨plainId_quiet F.plain_max_loop _, ih (j + 1) _ v _ (by omega) (W.frame _ _ _ st1 fun b hbf o e => ?_) (by unfold argBest; rw [if_pos hc]; exact hv) (Heap.get?_update_self _ hS1 rfl) fun v' h2 tk2 hv2 old2 => ?_⟩
      · exact (Heap.get?_update_other _ _ (fun z : S = b => hSf (by rw [z]; exact hbf))).trans e
      · exact k v' h2 tk2 hv2 fun b o nb ns e => old2 b o nb ns ((Heap.get?_update_other _ _ (Ne.symm ns)).trans (old b o nb e))
    · rw [if_neg hc]
      refine wpAny_bind (wpAny_letGo ?_)
      rw [nm]
      refine wpAny_pure ⟨plainId_quiet F.plain_max_loop _, ih (j + 1) _ vb c (by omega) st1 (by unfold argBest; rw [if_neg hc]; exact hb) hS1 fun v' h2 tk2 hv2 old2 => ?_⟩
      exact k v' h2 tk2 hv2 fun b o nb ns e => old2 b o nb ns (old b o nb e)
/-- none is seen yet -/
theorem start (W : Walks prog w A.in1 I fp wr n P St) (bt : Nat → Nat → Bool) (hcmp : CmpOf prog w A.in1 .Gt P bt) (S : Addr) (hSf : S ∉ fp) {s : Shared} {c : Nat} (st : St 0 s.heap)
    (hS : s.heap.get? S = some { cls := .type "list", dict := none, data := .seq #[] c, slots := #[] })
    (k : ∀ v h' tk, (0 < n ∧ P (argBest bt (n - 1)) v ∨ n = 0 ∧ v = d) → (∀ b o, b ∉ wr → b ≠ S → s.heap.get? b = some o → h'.get? b = some o) → R (.ok (.ret v)) { s with heap := h', toks := tk }) :
    codeAny (model prog w) A (.builtin "max.loop" ⟨[.ref I, .none, .ref S], kwD d⟩) R s := by
  have hw : S ∉ wr := fun z => hSf (W.sub _ z)
  refine codeAny_builtin F.entry_max_loop ?_
  rw [Around.under_plainId F.plain_max_loop _]
  show wpAny _ A.in1 (seqItems? (.ref S) >>= _) _ _ s
  refine wpAny_bind (wpAny_seqItems hS rfl ?_)
  show wpAny _ A.in1 (tryCatch (pyNext (.ref I)) _ >>= _) _ _ s
  by_cases hn : n = 0
  · refine wpAny_bind (wpAny_tryCatch (W.done s _ _ (by rw [hn]; exact st) fun h1 tk old => ?_))
    refine wpAny_bind (wpAny_rule (wpAny_pure ?_))
    exact k d h1 tk (.inr ⟨hn, rfl⟩) fun b o nb _ e => old b o nb e
  refine wpAny_bind (wpAny_tryCatch (W.item 0 s _ _ (by omega) st fun v h1 tk hv st1 old => ?_))
  have hS1 := old S _ hw hS
  show wpAny _ A.in1 (updateSeq S (fun _ => #[v, v]) >>= _) _ _ _
  refine wpAny_bind (wpAny_updateSeq hS1 rfl ?_)
  rw [nm]
  refine wpAny_pure ⟨plainId_quiet F.plain_max_loop _, go_on W bt hcmp S hSf (n - 1) 0 _ v _ (by omega) (W.frame _ _ _ st1 fun b hbf o e => ?_) hv (Heap.get?_update_self _ hS1 rfl) fun v' h2 tk2 hv2 old2 => ?_⟩
  · exact (Heap.get?_update_other _ _ (fun z : S = b => hSf (by rw [z]; exact hbf))).trans e
  · exact k v' h2 tk2 (.inl ⟨by omega, hv2⟩) fun b o nb ns e => old2 b o nb ns ((Heap.get?_update_other _ _ (Ne.symm ns)).trans (old b o nb e))
end
section
variable {prog : Program} {w : World} {A : Around} {E : Value → Shared → Prop} {s : Shared} {d : Value}
theorem args_ok (a d : Value) : argsOk "max" ⟨[a], kwD d⟩ := by unfold argsOk; kernel_rfl
theorem tree_kw {id : String} {b : Builtin} {args : List Value} {kw : List (Str × Value)} {Q : Value → Shared → Prop} (hk : builtinKind id = none) (hp : plainId id = true)
    (hb : entryFor table id = some b) (ha : argsOk id ⟨args, kw⟩)
    (hc : wpAny (model prog w) A.in1 (b ⟨args, kw⟩) (fun fin s' => match fin with
      | .done f => (match (Except.ok f : Result) with | .ok (.ret v) => Q v s' | .ok _ => False | .error e => E e s')
      | .again c' => c'.quiet = true ∧ codeAny (model prog w) A c' (fun r s' => match r with | .ok (.ret v) => Q v s' | .ok _ => False | .error e => E e s') s') E s) :
    wpAny (model prog w) A (call (.builtin id) args kw) Q E s := by
  refine wpAny_call (codeAny_call_builtin hp hb ?_)
  simp only [checkBuiltinCall, hk]
  cases hs : Manifest.signature? id with
  | none => exact wpAny_pure hc
  | some sig =>
    have ha' : Bind.checkArgs id sig ⟨args, kw⟩ = pure () := by simpa only [argsOk, hs] using ha
    simp only [ha']
    exact wpAny_pure hc
theorem call_walk {x : Value} {Q : Value → Shared → Prop}
    (h : wpAny (model prog w) A.in1 (pyIter x) (fun it s₂ => ∃ I fp wr n P St bt, it = .ref I ∧ Walks prog w A.in1 I fp wr n P St ∧ St 0 s₂.heap ∧ (∀ b ∈ fp, b < s₂.heap.objs.size) ∧ CmpOf prog w A.in1 .Gt P bt ∧
      ∀ v h' tk, (0 < n ∧ P (argBest bt (n - 1)) v ∨ n = 0 ∧ v = d) → (∀ b o, b ∉ wr → s₂.heap.get? b = some o → h'.get? b = some o) → Q v { s₂ with heap := h', toks := tk }) E s) :
    wpAny (model prog w) A (call (.builtin "max") [x] (kwD d)) Q E s := by
  refine tree_kw F.kind_max F.plain_max F.entry_max (args_ok _ _) ?_
  show wpAny _ A.in1 (Builtin.Builtins.bindParams "max" ["key", "default"] 0 ⟨[], kwD d⟩ >>= _) _ _ s
  refine wpAny_bind (wpAny_of_eq (show Builtin.Builtins.bindParams "max" ["key", "default"] 0 ⟨[], kwD d⟩ = pure [none, some d] from rfl) ?_)
  refine wpAny_bind (wpAny_pure ?_)
  refine wpAny_bind (wpAny_mono h (fun it s₂ h₂ => ?_) fun _ _ e => e)
  obtain ⟨I, fp, wr, n, P, St, bt, rfl, W, hst, hfp, hcmp, k⟩ := h₂
  refine wpAny_bind (wpAny_newObj_type ?_)
  have hSf : s₂.heap.objs.size ∉ fp := fun z => Nat.lt_irrefl _ (hfp _ z)
  rw [nm]
  refine wpAny_pure ⟨plainId_quiet F.plain_max_loop _, start W bt hcmp s₂.heap.objs.size hSf (W.frame _ _ _ hst fun b _ o e => Heap.get?_push_of_some _ e) (Heap.get?_push_size _ rfl) fun v h' tk hv old => ?_⟩
  exact k v h' tk hv fun b o nb e => old b o nb (Nat.ne_of_lt (Heap.lt_size e)) (Heap.get?_push_of_some _ e)
theorem ints_raw {l : Addr} {its : List Value} {ns : List Int} {d : Int} {t : Tok} {Q : Value → Shared → Prop} (hh : A.handled = none) (hl : s.heap.IsList l its.toArray) (hi : IntsAre its ns)
    (k : ∀ h' tk M t', (∀ b o, s.heap.get? b = some o → h'.get? b = some o) → (M ∈ ns ∧ (∀ a, a ∈ ns → a ≤ M) ∨ ns = [] ∧ M = d) → Q (.int M t') { s with heap := h', toks := tk }) : wpAny (model prog w) A (call (.builtin "max") [.ref l] (kwD (.int d t))) Q E s := by
  obtain ⟨xs, e⟩ := hi.allInts.items
  have hn : numsOf (intItems xs).toList = ns := by rw [← e]; exact hi.numsOf
  rw [nums_intItems] at hn
  subst hn
  rw [e] at hl
  refine call_walk (iter_intList hl fun s₂ e st hfp hlI => ?_)
  subst e
  refine ⟨_, _, _, _, _, _, _, rfl, Walks.list (A := A.in1) hh _ l hlI (intItems xs), st, hfp, CmpOf.ints_gt (numAt xs) (fun _ _ => intItems_at), fun v h' tk hP hk => ?_⟩
  have old : ∀ b o, s.heap.get? b = some o → h'.get? b = some o := old_kept hk
  rcases hP with ⟨hp, hv⟩ | ⟨h0, rfl⟩
  · obtain ⟨t, rfl⟩ := intItems_at hv
    obtain ⟨h1, h2⟩ := argBest_gt (numAt xs) ((intItems xs).size - 1)
    have hsz : 0 < xs.size := by simpa [intItems] using hp
    have hs2 : (intItems xs).size = xs.size := by simp [intItems]
    refine k h' tk _ t old (.inl ⟨?_, fun a ha => ?_⟩)
    · rw [numAt_eq]; exact PySem.getD_mem (by rw [List.length_map, Array.length_toList]; omega)
    · obtain ⟨j, hj, rfl⟩ := mem_getD ha
      rw [List.length_map, Array.length_toList] at hj
      rw [← numAt_eq]; exact h2 j (by omega)
  · refine k h' tk d t old (.inr ⟨?_, rfl⟩)
    have : xs.size = 0 := by simpa [intItems] using h0
    rw [Array.eq_empty_of_size_eq_zero this]
    rfl
end
end MxD
namespace L2
open PySem PySem.Spec PyProof.Rows
/-- max(numbers, default=d) -/
def rMaxDf (K : PySem.W.Frag) : List V → List V → Hp → VK → Prop := fun vs zs H Q => ∃ (a : Addr) (ns : List Int) (d : Int), vs = [V.ref a] ∧ zs = [V.int d] ∧ SqL K H a (ns.map V.int) ∧ ∀ m, (m ∈ ns ∧ (∀ y, y ∈ ns → y ≤ m) ∨ ns = [] ∧ m = d) → Q (.int m) H
theorem cr_maxDf {X : Cx} (hc : X.calm = true) : CallRK X (.builtin "max") [Str.ofString "default"] (rMaxDf X.K) := by
  intro pins s σ H vs zs us ws Q I r rz h
  obtain ⟨a, ns, d, rfl, rfl, hs, q⟩ := h
  obtain rfl := Vals.ref1 r
  obtain ⟨w1, rfl, t, e1⟩ := vals1 rz
  obtain ⟨its, rv, hl, _⟩ := I.list hs
  rw [e1]
  exact MxD.ints_raw (I.ok.hd hc) hl.isList rv.ints fun h' tk m t' hk hm => ⟨.int _, H, I.kept hk, ⟨_, rfl⟩, q m hm⟩
end L2
end
section
set_option Elab.async false
set_option linter.all false
set_option maxRecDepth 100000
set_option maxHeartbeats 2000000
/-! # an own exception without a method of its own, made of nothing: X() -/
namespace L2
open PySem PySem.Spec PyProof.Rows
section
variable {X : Cx} {C : Addr} {bmB : List Value} {B newId initId : String}
theorem pmk_own0 {x : Str} {p pos : Pos} (F : ExcBaseFacts B newId initId bmB) (q : PySem.W.excIn X.K C bmB newId = true) (gC : X.mg x = some (.ref C)) (kC : PySem.W.keepIn X.K (.ref C) = true) (r : Raises X (.ref C)) (hg : Gl X x)
    (hdb : (x == ("__debug__" : Str)) = false := by decide) : PMk X (.Call (.Name x p) [] [] pos) (fun _ H Q => Q (.ref C) none H) := by
  intro pins s σ H Q I h
  refine wpAny_Call_Name_kw (ld_glob I hg gC ?_ hdb)
  refine PySem.W.callWith_K0 I.kIn kC ?_
  show wpAny _ _ (call (.ref C) []) _ _ _
  obtain ⟨bm, N, nm, qn, bs, hdct, sn, sub, ab, col, dd, k0, k1, k2, k3, k5, mN, hC, hN, hni, T⟩ := exc_obj I.kIn q
  refine wpAny_call_exc_subT F T hC hN hni (fun h' e hm => ?_) (Nat.zero_le _)
  exact mk_of I hm r h (I.hok.gone hm.new)
/-- the class of an error that adds nothing to ValueError but its name -/
structure ErrN (K : PySem.W.Frag) (mg : Str → Option Value) (cn : Str) (C : Addr) : Prop where
  gC : mg cn = some (.ref C)
  ex : PySem.W.excIn K C [.type "ValueError", .type "Exception", .type "BaseException", .type "object"] "ValueError.__new__" = true
  kC : PySem.W.keepIn K (.ref C) = true
  exC : PySem.W.subIn K (.ref C) (.type "BaseException") = some true
  tyC : PySem.W.typeIn K (.ref C) = some (.type "type")
  te : PySem.W.exmOne K (.ref C) (.ref C) = some true
/-- raise X() -/
theorem ps_raiseN {cn : Str} {W : WX} {p pos pos2 : Pos} (hc : X.calm = true) (T : ErrN X.K X.mg cn C) (tk : Takes X W) (hg : Gl X cn := by rfl) (hdb : (cn == ("__debug__" : Str)) = false := by decide) :
    PS X (.Raise (some (.Call (.Name cn p) [] [] pos)) none pos2) (fun _ σ H => W (.ref C) none σ H) :=
  ps_raise hc tk (pmk_own0 PySem.F.excBase_ValueError T.ex T.gC T.kC (raises_own T.exC T.tyC) hg hdb)
end
end L2
end
section
set_option Elab.async false
set_option linter.all false
set_option maxRecDepth 100000
set_option maxHeartbeats 2000000
/-! # a list or a tuple, walked -/
namespace L2
open PySem PySem.Spec PyProof.Rows
def iSeq (K : PySem.W.Frag) (te : TE) : TI := fun σ H R => te σ H fun x H1 => ∃ a, x = .ref a ∧ (((∃ xs, SqL K H1 a xs) ∧ R (Itl K a) H1) ∨ ((∃ xs, SqT K H1 a xs) ∧ R (Itt K a) H1))
theorem fresh_fp {X : Cx} {pins : List (Addr × Obj)} {σ : St} {H : Hp} {s : Shared} (I : Inv X pins σ H s) : ∀ b ∈ [s.heap.objs.size], FpOk X pins H b := fun b hb => by
  rw [List.mem_singleton.mp hb]
  exact I.fpOk (Nat.le_refl _) (I.hok.fresh (Nat.le_refl _))
theorem pi_seq {X : Cx} {tg e : Expr} {te : TE} (he : PE X e te) : PI X tg e (iSeq X.K te) := by
  constructor
  intro pins s σ H R I h
  refine thn (he.run pins s σ H _ I h) fun v s1 ⟨x, H1, J, r, q⟩ => ?_
  obtain ⟨a, rfl, ⟨⟨xs, hq⟩, q⟩ | ⟨⟨xs, hq⟩, q⟩⟩ := q
  · cases r
    obtain ⟨its, rv, p, hz⟩ := J.list hq
    exact wpAny_pyIter_list p.isList ⟨_, _, _, _, H1, rfl, J.kept (t' := s1.toks) (fun b o z => Heap.get?_push_of_some _ z), turn_list a _, ⟨_, Heap.get?_push_size _ rfl, rfl, rfl⟩, fresh_fp J, q⟩
  · cases r
    obtain ⟨its, rv, p, hz⟩ := J.tuple hq
    exact wpAny_pyIter_tuple (show s1.heap.IsTuple a its.toArray from p) ⟨_, _, _, _, H1, rfl, J.kept (t' := s1.toks) (fun b o z => Heap.get?_push_of_some _ z), turn_tuple a _, ⟨_, Heap.get?_push_size _ rfl, rfl, rfl⟩, fresh_fp J, q⟩
end L2
end
section
set_option Elab.async false
set_option linter.all false
set_option maxRecDepth 100000
set_option maxHeartbeats 2000000
/-! # a try with several clauses, with and without a name -/
namespace L2
open PySem PySem.Spec PyProof.Rows
/-- the clauses of a try, and what they want of an exception of the body -/
inductive ClausesN (X : Cx) (Wout : WX) : List ExceptHandler → (Ends → WX) → Prop
  | nil : ClausesN X Wout [] fun _ => Wout
  | cons {x n : Str} {c : Value} {i : Nat} {suite : List Stmt} {b₀ : Stmt} {np pos : Pos} {ts : Addr → Value → Option Addr → TS} {hds : List ExceptHandler} {W : Ends → WX}
      (hi : X.N[i]? = some n) (hl : X.env.kindOf n = some .local) (hc : Names X x c)
      (hs : ∀ (a : Addr) (oe : Obj) (cls : Value) (d : Option Addr) (pn : List (Addr × Obj)), Zc cls d oe → (∃ vs, oe.data = .fields vs) → PSs (X.suite a ((a, oe) :: pn)) (b₀ :: suite) (ts a cls d))
      (r : ClausesN X Wout hds W) : ClausesN X Wout (.ExceptHandler (some (.Name x np)) (some n) (b₀ :: suite) pos :: hds) fun D => wAs X.K c i ts (W D) D
  | only {x : Str} {c : Value} {suite : List Stmt} {b₀ : Stmt} {np pos : Pos} {ts : Addr → Value → Option Addr → TS} {hds : List ExceptHandler} {W : Ends → WX}
      (hc : Names X x c)
      (hs : ∀ (a : Addr) (oe : Obj) (cls : Value) (d : Option Addr) (pn : List (Addr × Obj)), Zc cls d oe → (∃ vs, oe.data = .fields vs) → PSs (X.suite a ((a, oe) :: pn)) (b₀ :: suite) (ts a cls d))
      (r : ClausesN X Wout hds W) : ClausesN X Wout (.ExceptHandler (some (.Name x np)) none (b₀ :: suite) pos :: hds) fun D => wOnly X.K c ts (W D) D
section
variable {X : Cx} {Wout : WX} {a : Addr} {B : Heap} {sI s' : Shared} {pins : List (Addr × Obj)} {cls : Value} {d : Option Addr}
/-- the clauses, one behind another, where the exception has landed -/
theorem clsn_land (hs : X.stack = X.env :: X.outer) (hf : X.env.frame = some X.env.locals) (hN : X.N.Nodup) (tk : Takes X Wout) {D : Ends} {σ : St} {H : Hp} (J : Inv X pins σ H sI)
    (nb : ∀ b o, sI.heap.get? b = some o → b ∉ frs X.stack → B.get? b = some o) (na : H a = none) (os : s'.os = sI.os) (ag : AllBare s'.gens) :
    ∀ {hds : List ExceptHandler} {W : Ends → WX}, ClausesN X Wout hds W → ∀ {h : Heap}, HandSPX.FlyingZ B (X.env :: X.outer) a (Zc cls d) h → sI.heap.UpToSlots h → W D cls d σ H →
      wpAny (model X.prog X.w) X.A (handleBy (.ref a) X.env hds) (SP X pins D) X.xe { s' with heap := h } := by
  have ok := J.ok
  have hfr : X.A.frames = some (X.env :: X.outer) := by rw [ok.frames, hs]
  intro hds W q
  induction q with
  | nil =>
    intro h fl up wish
    refine wpAny_handleBy_nil ?_
    obtain ⟨k1, k2, k3, oe, vs, T, oT, ts', he, hz, hd, h1, hr⟩ := id fl
    have go : wpAny (model X.prog X.w) X.A (setFlight (.ref a) X.env.frame) (fun _ s4 => wpAny (model X.prog X.w) X.A (throw (.ref a) : Sem Flow) (SP X pins D) X.xe s4) X.xe { s' with heap := h } := by
      rw [hf]
      refine HandSPX.setFlight_upZ fl fun h4 hh4 up4 => wpAny_throw (tk _ _ ?_)
      exact ⟨a, B, sI, pins, σ, H, cls, d, rfl, J, nb, up.trans up4, .inr (.inr (by rw [hs]; exact hh4)), na, os, ag, wish⟩
    unfold PySem.passOn
    refine wpAny_bind (wpAny_field he hd h1 ?_)
    rw [if_neg (show ¬ ((Value.ref T == Value.none) = true) from by simp)]
    first
      | exact wpAny_bind (wpAny_pure (wpAny_bind go))
      | exact wpAny_bind go
  | @cons x n c i suite b₀ np pos ts hds W hi hl hc hsu r ih =>
    intro h fl up wish
    obtain ⟨b, hb, yes, no⟩ := wish
    have land : ∀ {h4 : Heap}, HandSPX.FlyingZ B (X.env :: X.outer) a (Zc cls d) h4 → sI.heap.UpToSlots h4 →
        ∃ oe vs, h4.get? a = some oe ∧ Zc cls d oe ∧ oe.data = .fields vs ∧ Inv X pins σ H { s' with heap := h4 } ∧ Inv (X.suite a ((a, oe) :: (X.pn ++ pins))) [] σ H { s' with heap := h4 } := by
      intro h4 f4 u4
      have J4 : Inv X pins σ H { s' with heap := h4 } := J.landed nb f4.1 u4 os ag
      obtain ⟨oe, vs, e, hz, hd⟩ := f4.there
      have nf := notFrame (X := X) f4.2.2.1 e hd
      refine ⟨oe, vs, e, hz, hd, J4, J4.suite e hd na (fun z => nf ?_) fun hm => ?_⟩
      · exact List.mem_filterMap.mpr ⟨X.env, List.mem_cons_self, by rw [hf, z]⟩
      · obtain ⟨v, hv, q⟩ := List.mem_filterMap.mp hm
        exact nf (List.mem_filterMap.mpr ⟨v, List.mem_cons_of_mem _ hv, q⟩)
    obtain ⟨oe, vs, he, hz, hd, J3, S3⟩ := land fl up
    refine wpAny_handleBy_cons (codeAny_handlers_test ?_) (by intro q; cases q)
    have look : PySem.W.Looks (model X.prog X.w) h (typeOf (.ref a)) cls := fun A Q E s k q => wpAny_typeOf_ref (k _ _ he) (by rw [hz.1]; exact q)
    have match_ := PySem.W.exm_one (M := model X.prog X.w) J3.kIn look hb
    have named : ∀ {Q : Value → Shared → Prop} {E : Value → Shared → Prop}, Q c { s' with heap := h } → wpAny (model X.prog X.w) (X.A.mark (some (.ref a))) (eval (.Name x np) X.env) Q E { s' with heap := h } := fun {Q E} q => by
      obtain ⟨hg, nd, hm | ⟨hm, hv, hne⟩⟩ := hc
      · exact ld_glob (X := X.suite a ((a, oe) :: (X.pn ++ pins))) S3 hg hm q nd
      · exact ld_blt (X := X.suite a ((a, oe) :: (X.pn ++ pins))) S3 hg hm hv q hne nd
    refine named (match_.here ?_)
    cases b with
    | false => exact ih fl up (no rfl)
    | true =>
      refine codeAny_handlers_suite_as ?_
      refine HandSPX.lands_againZ fl fun h4 fl4 up4 => ?_
      obtain ⟨oe4, vs4, he4, hz4, hd4, J4, S4⟩ := land fl4 (up.trans up4)
      refine store_ok (X := X.suite a ((a, oe4) :: (X.pn ++ pins))) (v := .ref a) S4 hN hi (.inl hl) rfl (fun s5 S5 => ?_) (.inr hl)
      refine wpAny_mono ((hsu a oe4 cls d (X.pn ++ pins) hz4 ⟨_, hd4⟩).run [] s5 _ H _ S5 (yes rfl a na)) (fun f s6 out => ?_) (fun _ _ z => False.elim z)
      have drop : ∀ {σ6 : St} {H6 : Hp} {Q : Shared → Prop}, Inv (X.suite a ((a, oe4) :: (X.pn ++ pins))) [] σ6 H6 s6 → (∀ s7, Inv X pins (σ6.set i none) H6 s7 → Q s7) →
          wpAny (model X.prog X.w) X.A (do bindName X.env n .none; unbindBehindTheSuite X.env n pos) (fun _ s7 => Q s7) X.xe s6 := fun {σ6 H6 Q} S6 k => gone_ok (S6.unsuite ok) hN hi hl k
      cases f with
      | ret u =>
        obtain ⟨v6, σ6, H6, S6, r6, q6⟩ := out
        exact drop S6 fun s7 J7 => ⟨_, _, _, J7, r6, q6⟩
      | next =>
        obtain ⟨σ6, H6, S6, q6⟩ := out
        exact drop S6 fun s7 J7 => ⟨_, _, J7, q6⟩
      | brk =>
        obtain ⟨σ6, H6, S6, q6⟩ := out
        exact drop S6 fun s7 J7 => ⟨_, _, J7, q6⟩
      | cont =>
        obtain ⟨σ6, H6, S6, q6⟩ := out
        exact drop S6 fun s7 J7 => ⟨_, _, J7, q6⟩
  | @only x c suite b₀ np pos ts hds W hc hsu r ih =>
    intro h fl up wish
    obtain ⟨b, hb, yes, no⟩ := wish
    have land : ∀ {h4 : Heap}, HandSPX.FlyingZ B (X.env :: X.outer) a (Zc cls d) h4 → sI.heap.UpToSlots h4 →
        ∃ oe vs, h4.get? a = some oe ∧ Zc cls d oe ∧ oe.data = .fields vs ∧ Inv X pins σ H { s' with heap := h4 } ∧ Inv (X.suite a ((a, oe) :: (X.pn ++ pins))) [] σ H { s' with heap := h4 } := by
      intro h4 f4 u4
      have J4 : Inv X pins σ H { s' with heap := h4 } := J.landed nb f4.1 u4 os ag
      obtain ⟨oe, vs, e, hz, hd⟩ := f4.there
      have nf := notFrame (X := X) f4.2.2.1 e hd
      refine ⟨oe, vs, e, hz, hd, J4, J4.suite e hd na (fun z => nf ?_) fun hm => ?_⟩
      · exact List.mem_filterMap.mpr ⟨X.env, List.mem_cons_self, by rw [hf, z]⟩
      · obtain ⟨v, hv, q⟩ := List.mem_filterMap.mp hm
        exact nf (List.mem_filterMap.mpr ⟨v, List.mem_cons_of_mem _ hv, q⟩)
    obtain ⟨oe, vs, he, hz, hd, J3, S3⟩ := land fl up
    refine wpAny_handleBy_cons (codeAny_handlers_test ?_) (by intro q; cases q)
    have look : PySem.W.Looks (model X.prog X.w) h (typeOf (.ref a)) cls := fun A Q E s k q => wpAny_typeOf_ref (k _ _ he) (by rw [hz.1]; exact q)
    have match_ := PySem.W.exm_one (M := model X.prog X.w) J3.kIn look hb
    have named : ∀ {Q : Value → Shared → Prop} {E : Value → Shared → Prop}, Q c { s' with heap := h } → wpAny (model X.prog X.w) (X.A.mark (some (.ref a))) (eval (.Name x np) X.env) Q E { s' with heap := h } := fun {Q E} q => by
      obtain ⟨hg, nd, hm | ⟨hm, hv, hne⟩⟩ := hc
      · exact ld_glob (X := X.suite a ((a, oe) :: (X.pn ++ pins))) S3 hg hm q nd
      · exact ld_blt (X := X.suite a ((a, oe) :: (X.pn ++ pins))) S3 hg hm hv q hne nd
    refine named (match_.here ?_)
    cases b with
    | false => exact ih fl up (no rfl)
    | true =>
      refine codeAny_handlers_suite ?_
      refine HandSPX.lands_againZ fl fun h4 fl4 up4 => ?_
      obtain ⟨oe4, vs4, he4, hz4, hd4, J4, S4⟩ := land fl4 (up.trans up4)
      refine wpAny_mono ((hsu a oe4 cls d (X.pn ++ pins) hz4 ⟨_, hd4⟩).run [] _ _ H _ S4 (yes rfl a na)) (fun f s6 out => ?_) (fun _ _ z => False.elim z)
      cases f with
      | ret u =>
        obtain ⟨v6, σ6, H6, S6, r6, q6⟩ := out
        exact ⟨_, _, _, S6.unsuite ok, r6, q6⟩
      | next =>
        obtain ⟨σ6, H6, S6, q6⟩ := out
        exact ⟨_, _, S6.unsuite ok, q6⟩
      | brk =>
        obtain ⟨σ6, H6, S6, q6⟩ := out
        exact ⟨_, _, S6.unsuite ok, q6⟩
      | cont =>
        obtain ⟨σ6, H6, S6, q6⟩ := out
        exact ⟨_, _, S6.unsuite ok, q6⟩
end
section
variable {X : Cx} {body : List Stmt} {h₀ : ExceptHandler} {hds : List ExceptHandler} {pos : Pos} {tb : WX → TS} {Wout : WX} {W : Ends → WX}
theorem ps_try_clsN (hs : X.stack = X.env :: X.outer) (hf : X.env.frame = some X.env.locals) (hN : X.N.Nodup) (tk : Takes X Wout) (q : ClausesN X Wout (h₀ :: hds) W)
    (hb : ∀ (W' : WX) (pn : List (Addr × Obj)) (xe : Value → Shared → Prop), Takes (X.tr pn xe) W' → PassesOwn (model X.prog X.w) X.A X.env xe → PSs (X.tr pn xe) body (tb W')) :
    PS X (.Try body (h₀ :: hds) [] [] pos) (fun D σ H => tb (W D) D σ H) := by
  refine ⟨fun pins s σ H D I h => ?_⟩
  have hfr : X.A.frames = some (X.env :: X.outer) := by rw [I.ok.frames, hs]
  refine wpAny_Try_except ?_
  refine wpAny_mono ((hb (W D) (X.pn ++ pins) (fun e s₁ => wpAny (model X.prog X.w) X.A (noteFrame e X.env) (fun _ s₂ => wpAny (model X.prog X.w) X.A (setFlight e none) (fun _ s₃ =>
    wpAny (model X.prog X.w) X.A (handleBy e X.env (h₀ :: hds)) (SP X pins D) X.xe s₃) X.xe s₂) X.xe s₁) (fun u s' xx => ?_) PassesOwn.looking).run [] s σ H D (I.toTry _) h) (fun f s1 out => ?_) (fun e s1 z => z)
  · obtain ⟨a, B, sI, pins', σ', H', cls, d, rfl, J, nb, up, sky, na, os, ag, wish⟩ := xx
    refine Sky.land Zc.steady hfr hf (by rw [← hs]; exact sky) fun h3 fl3 up3 => ?_
    exact clsn_land hs hf hN tk (J.ofTry I.ok) nb na os ag q fl3 (up.trans up3) wish
  · cases f with
    | ret u =>
      obtain ⟨v, σ', H', J, r, z⟩ := out
      exact ⟨v, σ', H', J.ofTry I.ok, r, z⟩
    | next =>
      obtain ⟨σ', H', J, z⟩ := out
      exact wpAny_execs_nil ⟨σ', H', J.ofTry I.ok, z⟩
    | brk =>
      obtain ⟨σ', H', J, z⟩ := out
      exact ⟨σ', H', J.ofTry I.ok, z⟩
    | cont =>
      obtain ⟨σ', H', J, z⟩ := out
      exact ⟨σ', H', J.ofTry I.ok, z⟩
end
end L2
end
section
set_option Elab.async false
set_option linter.all false
set_option maxRecDepth 100000
set_option maxHeartbeats 2000000
/-! # == and != with either result, over data that may hold instances with an __eq__ of their own -/
namespace GQB
open PySem PySem.SeqAt
open AutoSeq1 (wpAny_loadPart')
open MeetsSeq MeetsSeq2 MeetsSeq3 SeqRoads2
def resOf : CmpOp → Bool → Bool
  | .NotEq, b => !b
  | _, b => b
section
variable {prog : Program} {w : World} {A : Around} {R : Result → Shared → Prop}
abbrev FinOf (prog : Program) (w : World) (A : Around) (R : Result → Shared → Prop) : Fin → Shared → Prop := fun fin s' => match fin with
  | .done f => R (.ok f) s'
  | .again c' => c'.quiet = true ∧ codeAny (model prog w) A c' R s'
/-- pairs from the i-th on: the result that they come to, by T (turn, are the two equal) -/
def ListB (prog : Program) (w : World) (A : Around) (E : Value → Shared → Prop) (l b : Addr) (N : Nat) (res : Bool) (I : Nat → Shared → Prop) : Prop :=
  ∀ i s, I i s → ∃ (items items2 : Array Value) (n n2 : Nat), s.heap.get? l = some { cls := .type "list", data := .seq items n } ∧ s.heap.get? b = some { cls := .type "list", data := .seq items2 n2 } ∧ items.size = N ∧ items2.size = N ∧
    ∀ (h1 : i < items.size) (h2 : i < items2.size), wpAny (model prog w) A.in1 (eqBool items[i] items2[i]) (fun r s' => (r = true ∧ I (i + 1) s') ∨ (r = false ∧ res = false ∧ I i s')) E s
theorem eq_loopB (op : CmpOp) (code : Nat) (hop : (op = .Eq ∧ code = 2) ∨ (op = .NotEq ∧ code = 3)) (l b : Addr) (N : Nat) (res : Bool) (I : Nat → Shared → Prop) (hl : ListB prog w A (fun e s' => R (.error e) s') l b N res I)
    (fin : ∀ s i, I i s → (res = true → i = N) → R (.ok (.ret (.bool (resOf op res)))) s) (full : ∀ s, I N s → res = true) (k : Nat) :
    ∀ i : Nat, N - i = k → i ≤ N → ∀ s, I i s →
      wpAny (model prog w) A.in1 (Builtin.«list.__eq__.loop» ⟨[.ref l, .ref b, rawInt i, rawInt code], []⟩) (FinOf prog w A R) (fun e s' => R (.error e) s') s := by
  induction k with
  | zero =>
    intro i hk hi s h
    obtain ⟨items, items2, n, n2, hl1, hb1, hs1, hs2, _⟩ := hl _ _ h
    have hi' : i = N := by omega
    have ht : res = true := full s (hi' ▸ h)
    have hR := fin s i h (fun _ => hi')
    rw [ht] at hR
    obtain ⟨hp, g, d, tk, os⟩ := s
    rcases hop with ⟨rfl, rfl⟩ | ⟨rfl, rfl⟩
    · wp_walk using wpAny_loadPart' hl1, wpAny_loadPart' hb1
      have hi1 : items[((i : Nat) : Int).toNat]? = none := by simp; omega
      have hi2 : items2[((i : Nat) : Int).toNat]? = none := by simp; omega
      rw [hi1, hi2]
      wp_walk using wpAny_loadPart' hl1, wpAny_loadPart' hb1
      show R (.ok (.ret (.bool (items.size == items2.size)))) _
      rw [hs1, hs2]
      simpa [resOf] using hR
    · wp_walk using wpAny_loadPart' hl1, wpAny_loadPart' hb1
      have hi1 : items[((i : Nat) : Int).toNat]? = none := by simp; omega
      have hi2 : items2[((i : Nat) : Int).toNat]? = none := by simp; omega
      rw [hi1, hi2]
      wp_walk using wpAny_loadPart' hl1, wpAny_loadPart' hb1
      show R (.ok (.ret (.bool (items.size != items2.size)))) _
      rw [hs1, hs2]
      simpa [resOf] using hR
  | succ k ih =>
    intro i hk hi s h
    obtain ⟨items, items2, n, n2, hl1, hb1, hs1, hs2, turn⟩ := hl _ _ h
    have hlt : i < items.size := by omega
    have hlt2 : i < items2.size := by omega
    have ht := turn hlt hlt2
    have hi1 : items[((i : Nat) : Int).toNat]? = some items[i] := by simp [hlt]
    have hi2 : items2[((i : Nat) : Int).toNat]? = some items2[i] := by simp [hlt2]
    have hc : ((i : Int) + 1) = ((i + 1 : Nat) : Int) := by omega
    obtain ⟨hp, g, d, tk, os⟩ := s
    rcases hop with ⟨rfl, rfl⟩ | ⟨rfl, rfl⟩ <;>
    · wp_walk using wpAny_loadPart' hl1, wpAny_loadPart' hb1
      rw [hi1, hi2]
      refine wpAny_bind (wpAny_mono ht (fun r s2 h2 => ?_) fun _ _ x => x)
      rcases h2 with ⟨rfl, h2⟩ | ⟨rfl, hres, h2⟩
      · have hrec := ih (i + 1) (by omega) (by omega) s2 h2
        obtain ⟨hp2, g2, d2, tk2, os2⟩ := s2
        wp_walk
        rw [hc]
        exact ⟨plainId_quiet plain_eq_loop _, codeAny_builtin entry_eq_loop (by
          rw [Around.under_plainId plain_eq_loop _]
          exact hrec)⟩
      · obtain ⟨items', items2', n', n2', hl1', hb1', hs1', hs2', _⟩ := hl _ _ h2
        have hR := fin s2 i h2 (fun z => by rw [hres] at z; cases z)
        rw [hres] at hR
        have hj1 : items'[((i : Nat) : Int).toNat]? = some (items'[i]'(by omega)) := by simp
        have hj2 : items2'[((i : Nat) : Int).toNat]? = some (items2'[i]'(by omega)) := by simp
        obtain ⟨hp2, g2, d2, tk2, os2⟩ := s2
        wp_walk using wpAny_loadPart' hl1', wpAny_loadPart' hb1'
        rw [hj1, hj2]
        wp_walk
        simpa [resOf] using hR
theorem list_opB (op : CmpOp) (code : Nat) (hop : (op = .Eq ∧ code = 2) ∨ (op = .NotEq ∧ code = 3)) (l b : Addr) (N : Nat) (res : Bool) (I : Nat → Shared → Prop) (hl : ListB prog w A (fun e s' => R (.error e) s') l b N res I)
    (fin : ∀ s i, I i s → (res = true → i = N) → R (.ok (.ret (.bool (resOf op res)))) s) (full : ∀ s, I N s → res = true) {s : Shared} (h : I 0 s) :
    wpAny (model prog w) A.in1 ((match op with | .Eq => Builtin.«list.__eq__» | _ => Builtin.«list.__ne__») ⟨[.ref l, .ref b], []⟩) (FinOf prog w A R) (fun e s' => R (.error e) s') s := by
  obtain ⟨items, items2, n, n2, hl1, hb1, hs1, hs2, _⟩ := hl _ _ h
  have hrec := eq_loopB (A := A) (R := R) op code hop l b N res I hl fin full _ 0 rfl (Nat.zero_le _) s h
  obtain ⟨hp, g, d, tk, os⟩ := s
  have f3 := AutoSeq1.sub_list_list
  have hne : ¬ (items.size != items2.size) = true := by simp [hs1, hs2]
  rcases hop with ⟨rfl, rfl⟩ | ⟨rfl, rfl⟩ <;>
  · wp_walk using wpAny_loadPart' hl1, wpAny_loadPart' hb1
    exact ⟨plainId_quiet plain_eq_loop _, codeAny_builtin entry_eq_loop (by
      rw [Around.under_plainId plain_eq_loop _]
      exact hrec)⟩
/-- lists of other lengths -/
theorem list_lenB (op : CmpOp) (hop : op = .Eq ∨ op = .NotEq) {l b : Addr} {items items2 : Array Value} {n n2 : Nat} {s : Shared} (hl1 : s.heap.get? l = some { cls := .type "list", data := .seq items n }) (hb1 : s.heap.get? b = some { cls := .type "list", data := .seq items2 n2 })
    (hne : (items.size != items2.size) = true) (hR : R (.ok (.ret (.bool (resOf op false)))) s) :
    wpAny (model prog w) A.in1 ((match op with | .Eq => Builtin.«list.__eq__» | _ => Builtin.«list.__ne__») ⟨[.ref l, .ref b], []⟩) (FinOf prog w A R) (fun e s' => R (.error e) s') s := by
  obtain ⟨hp, g, d, tk, os⟩ := s
  have f3 := AutoSeq1.sub_list_list
  rcases hop with rfl | rfl <;>
  · wp_walk using wpAny_loadPart' hl1, wpAny_loadPart' hb1
    first
      | exact hR
      | simpa [resOf] using hR
theorem tuple_opB (op : CmpOp) (hop : op = .Eq ∨ op = .NotEq) (l b : Addr) (items items2 : Array Value) (n n2 : Nat) (dd dd2 : Option Addr) (sl sl2 : Array (Option Value)) (res : Bool) (I : Nat → Shared → Prop)
    (turn : ∀ i (h1 : i < items.size) (h2 : i < items2.size) s, I i s → wpAny (model prog w) A.in1 (eqBool items[i] items2[i]) (fun r s' => (r = true ∧ I (i + 1) s') ∨ (r = false ∧ R (.ok (.ret (.bool (resOf op false)))) s')) (fun e s' => R (.error e) s') s)
    (fin : ∀ s, I (min items.size items2.size) s → R (.ok (.ret (.bool (resOf op (items.size == items2.size))))) s) {s : Shared} (hl1 : s.heap.get? l = some { cls := .type "tuple", dict := dd, data := .seq items n, slots := sl }) (hb1 : s.heap.get? b = some { cls := .type "tuple", dict := dd2, data := .seq items2 n2, slots := sl2 }) (h : I 0 s) :
    wpAny (model prog w) A.in1 ((match op with | .Eq => Builtin.«tuple.__eq__» | _ => Builtin.«tuple.__ne__») ⟨[.ref l, .ref b], []⟩) (FinOf prog w A R) (fun e s' => R (.error e) s') s := by
  have f2 := AutoSeq1.sub_tuple_tuple
  have hZ : (items.toList.zip items2.toList).length = min items.size items2.size := by simp
  have h0 := h
  obtain ⟨hp, g, d, tk, os⟩ := s
  rcases hop with rfl | rfl
  all_goals wp_walk using wpAny_loadPart' hl1, wpAny_loadPart' hb1, wpAny_forIn_list _ (fun rest b s' => b.1 = none ∧ ∃ i, rest = (items.toList.zip items2.toList).drop i ∧ i ≤ min items.size items2.size ∧ I i s') _
  all_goals try exact ⟨rfl, 0, rfl, Nat.zero_le _, h0⟩
  case inl.h.h.hq.h.hq.hq.turn | inr.h.h.hq.h.hq.hq.turn =>
    rintro ⟨y, x⟩ rest b s' ⟨hb', i, hz, hi, hI⟩
    have hlt : i < (items.toList.zip items2.toList).length := by
      rcases Nat.lt_or_ge i (items.toList.zip items2.toList).length with h' | h'
      · exact h'
      · rw [List.drop_of_length_le h'] at hz; cases hz
    have hm : i < min items.size items2.size := hZ ▸ hlt
    have h1 : i < items.size := Nat.lt_of_lt_of_le hm (Nat.min_le_left _ _)
    have h2 : i < items2.size := Nat.lt_of_lt_of_le hm (Nat.min_le_right _ _)
    rw [List.drop_eq_getElem_cons hlt] at hz
    injection hz with hyx hrest
    have hy : y = items[i] := by have := congrArg Prod.fst hyx; simpa using this
    have hx : x = items2[i] := by have := congrArg Prod.snd hyx; simpa using this
    subst hy hx
    refine wpAny_bind (wpAny_mono (turn i h1 h2 s' hI) (fun r s2 q2 => ?_) fun _ _ x => x)
    rcases q2 with ⟨rfl, q2⟩ | ⟨rfl, q2⟩
    · wp_walk
      exact ⟨rfl, i + 1, hrest, hm, q2⟩
    · wp_walk
      simpa [resOf] using q2
  all_goals
    rintro ⟨b1, b2⟩ s' ⟨hb', i, hz, hi, hI⟩
    simp only at hb'
    subst hb'
    have hge : min items.size items2.size ≤ i := by
      rcases Nat.lt_or_ge i (items.toList.zip items2.toList).length with h' | h'
      · rw [List.drop_eq_getElem_cons h'] at hz; cases hz
      · exact hZ ▸ h'
    have hi' : i = min items.size items2.size := by omega
    have hR := fin s' (hi' ▸ hI)
    wp_walk
    first
      | exact hR
      | simpa [Builtin.Tuple.tupleCompareSizes, resOf, bne] using hR
end
section
variable {prog : Program} {w : World} {A : Around} {E : Value → Shared → Prop} {s : Shared}
/-- == of two things inside a builtin, by their rich comparison -/
theorem eqBool_rcB {l : Addr} {v : Value} {Q : Bool → Shared → Prop} (hne : (Value.ref l == v) = false) (h : wpAny (model prog w) A (richCompare .Eq (.ref l) v) (fun r s' => ∃ b, r = .bool b ∧ Q b s') E s) : wpAny (model prog w) A (eqBool (.ref l) v) Q E s := by
  unfold eqBool
  refine wpAny_holding ?_
  refine wpAny_ite_split (fun hab => by rw [hne] at hab; cases hab) (fun _ => ?_)
  refine wpAny_bind (wpAny_mono h (fun r s' hv => ?_) fun _ _ x => x)
  obtain ⟨b, rfl, q⟩ := hv
  exact wpAny_truthy_bool q
theorem rc_listB (op : CmpOp) (code : Nat) (hop : (op = .Eq ∧ code = 2) ∨ (op = .NotEq ∧ code = 3)) {l b : Addr} {N : Nat} {res : Bool} {Q : Value → Shared → Prop} (hu : A.units < cLine) (I : Nat → Shared → Prop) (hl : ListB prog w A E l b N res I)
    (fin : ∀ s i, I i s → (res = true → i = N) → Q (.bool (resOf op res)) s) (full : ∀ s, I N s → res = true) (h : I 0 s) : wpAny (model prog w) A (richCompare op (.ref l) (.ref b)) Q E s := by
  obtain ⟨items, items2, n, n2, hl1, hb1, _, _, _⟩ := hl _ _ h
  have go := list_opB (A := A) (R := wants (fun v s' => v ≠ .notImplemented ∧ Q v s') E) op code hop l b N res I hl (fun s i q z => ⟨(fun x => nomatch x), fin s i q z⟩) full h
  rcases hop with ⟨rfl, rfl⟩ | ⟨rfl, rfl⟩
  · exact wpAny_richCompare_same_room (op := .Eq) ⟨_, hl1, rfl⟩ ⟨_, hb1, rfl⟩ F.slot_list_eq (GQ.call_here F.slot_list_eq ⟨_, hl1, rfl⟩ F.entry_list_eq (F.args_list_eq_2 _ _) go) hu
  · exact wpAny_richCompare_same_room (op := .NotEq) ⟨_, hl1, rfl⟩ ⟨_, hb1, rfl⟩ F.slot_list_ne (GQ.call_here F.slot_list_ne ⟨_, hl1, rfl⟩ F.entry_list_ne (F.args_list_ne_2 _ _) go) hu
theorem rc_lenB (op : CmpOp) (hop : op = .Eq ∨ op = .NotEq) {l b : Addr} {items items2 : Array Value} {n n2 : Nat} {Q : Value → Shared → Prop} (hu : A.units < cLine) (hl1 : s.heap.get? l = some { cls := .type "list", data := .seq items n }) (hb1 : s.heap.get? b = some { cls := .type "list", data := .seq items2 n2 })
    (hne : (items.size != items2.size) = true) (h : Q (.bool (resOf op false)) s) : wpAny (model prog w) A (richCompare op (.ref l) (.ref b)) Q E s := by
  have go := list_lenB (A := A) (prog := prog) (w := w) (R := wants (fun v s' => v ≠ .notImplemented ∧ Q v s') E) op hop hl1 hb1 hne ⟨(fun x => nomatch x), h⟩
  rcases hop with rfl | rfl
  · exact wpAny_richCompare_same_room (op := .Eq) ⟨_, hl1, rfl⟩ ⟨_, hb1, rfl⟩ F.slot_list_eq (GQ.call_here F.slot_list_eq ⟨_, hl1, rfl⟩ F.entry_list_eq (F.args_list_eq_2 _ _) go) hu
  · exact wpAny_richCompare_same_room (op := .NotEq) ⟨_, hl1, rfl⟩ ⟨_, hb1, rfl⟩ F.slot_list_ne (GQ.call_here F.slot_list_ne ⟨_, hl1, rfl⟩ F.entry_list_ne (F.args_list_ne_2 _ _) go) hu
theorem rc_tupB (op : CmpOp) (hop : op = .Eq ∨ op = .NotEq) {l b : Addr} {items items2 : Array Value} {Q : Value → Shared → Prop} (hu : A.units < cLine) (I : Nat → Shared → Prop)
    (hl1 : s.heap.IsTuple l items) (hb1 : s.heap.IsTuple b items2)
    (turn : ∀ i (h1 : i < items.size) (h2 : i < items2.size) s, I i s → wpAny (model prog w) A.in1 (eqBool items[i] items2[i]) (fun r s' => (r = true ∧ I (i + 1) s') ∨ (r = false ∧ Q (.bool (resOf op false)) s')) E s)
    (fin : ∀ s, I (min items.size items2.size) s → Q (.bool (resOf op (items.size == items2.size))) s) (h : I 0 s) : wpAny (model prog w) A (richCompare op (.ref l) (.ref b)) Q E s := by
  obtain ⟨⟨cls, dd, data, sl⟩, ho, hc, n, hd⟩ := id hl1
  obtain ⟨⟨cls2, dd2, data2, sl2⟩, ho2, hc2, n2, hd2⟩ := id hb1
  simp only at hc hd hc2 hd2
  subst hc hd hc2 hd2
  have go := tuple_opB (A := A) (prog := prog) (w := w) (R := wants (fun v s' => v ≠ .notImplemented ∧ Q v s') E) op hop l b items items2 n n2 dd dd2 sl sl2 true I
    (fun i h1 h2 s q => wpAny_mono (turn i h1 h2 s q) (fun r s' z => z.imp id fun z => ⟨z.1, (fun x => nomatch x), z.2⟩) fun _ _ x => x) (fun s q => ⟨(fun x => nomatch x), fin s q⟩) ho ho2 h
  rcases hop with rfl | rfl
  · exact wpAny_richCompare_same_room (op := .Eq) ⟨_, ho, rfl⟩ ⟨_, ho2, rfl⟩ F.slot_tuple_eq (GQ.call_here F.slot_tuple_eq ⟨_, ho, rfl⟩ F.entry_tuple_eq (F.args_tuple_eq_2 _ _) go) hu
  · exact wpAny_richCompare_same_room (op := .NotEq) ⟨_, ho, rfl⟩ ⟨_, ho2, rfl⟩ F.slot_tuple_ne (GQ.call_here F.slot_tuple_ne ⟨_, ho, rfl⟩ F.entry_tuple_ne (F.args_tuple_ne_2 _ _) go) hu
end
end GQB
namespace L2
open PySem PySem.Spec PyProof.Rows GQB
/-- how two values compare, by the abstract heap -/
abbrev EqB := V → V → Hp → Bool → Prop
def MonB (D : EqB) : Prop := ∀ x y H H' b, Ext H H' → D x y H b → D x y H' b
structure SubG (X : Cx) (n : Nat) (A : Around) : Prop where
  room : Room n A
  fr : A.frames = X.A.frames
  gd : A.guards = some []
theorem SubG.in1 {X : Cx} {n : Nat} {A : Around} (s : SubG X (n + 1) A) : SubG X n A.in1 := ⟨s.room.in1, s.fr, s.gd⟩
theorem SubG.mono {X : Cx} {n m : Nat} {A : Around} (s : SubG X n A) (h : m ≤ n) : SubG X m A := ⟨s.room.mono h, s.fr, s.gd⟩
def EqX (X : Cx) (n : Nat) (D : EqB) : Prop :=
  ∀ (A : Around) (pins : List (Addr × Obj)) (s : Shared) (σ : St) (H : Hp) (x y : V) (u v : Value) (b : Bool), SubG X n A → Inv X pins σ H s → RelV x u → RelV y v → D x y H b →
    wpAny (model X.prog X.w) A (eqBool u v) (fun r s' => r = b ∧ ∃ H', Inv X pins σ H' s' ∧ Ext H H') X.xe s
def RcX (X : Cx) (op : CmpOp) (n : Nat) (D : EqB) : Prop :=
  ∀ (A : Around) (pins : List (Addr × Obj)) (s : Shared) (σ : St) (H : Hp) (x y : V) (u v : Value) (b : Bool), SubG X n A → Inv X pins σ H s → RelV x u → RelV y v → D x y H b →
    wpAny (model X.prog X.w) A (richCompare op u v) (fun r s' => r = .bool (resOf op b) ∧ ∃ H', Inv X pins σ H' s' ∧ Ext H H') X.xe s
/-- item by item, up to the first two that differ -/
inductive PrsB (D : EqB) (H : Hp) : List V → List V → Bool → Prop
  | nil : PrsB D H [] [] true
  | more {y : V} {ys : List V} : PrsB D H [] (y :: ys) false
  | less {x : V} {xs : List V} : PrsB D H (x :: xs) [] false
  | same {x y : V} {xs ys : List V} {b : Bool} : D x y H true → PrsB D H xs ys b → PrsB D H (x :: xs) (y :: ys) b
  | diff {x y : V} {xs ys : List V} : D x y H false → PrsB D H (x :: xs) (y :: ys) false
section
variable {X : Cx} {n m : Nat} {D D' : EqB} {op : CmpOp}
theorem EqX.mono (h : EqX X n D) (hn : n ≤ m) : EqX X m D := fun A pins s σ H x y u v b sb => h A pins s σ H x y u v b (sb.mono hn)
theorem EqX.imp (h : EqX X n D) (hd : ∀ x y H b, D' x y H b → D x y H b) : EqX X n D' := fun A pins s σ H x y u v b sb I rx ry d => h A pins s σ H x y u v b sb I rx ry (hd x y H b d)
theorem EqX.or (h : EqX X n D) (h' : EqX X n D') : EqX X n (fun x y H b => D x y H b ∨ D' x y H b) := fun A pins s σ H x y u v b sb I rx ry d => by
  rcases d with d | d
  · exact h A pins s σ H x y u v b sb I rx ry d
  · exact h' A pins s σ H x y u v b sb I rx ry d
theorem MonB.or (h : MonB D) (h' : MonB D') : MonB (fun x y H b => D x y H b ∨ D' x y H b) := fun x y H H' b e d => d.elim (fun d => .inl (h x y H H' b e d)) fun d => .inr (h' x y H H' b e d)
theorem RcX.mono (h : RcX X op n D) (hn : n ≤ m) : RcX X op m D := fun A pins s σ H x y u v b sb => h A pins s σ H x y u v b (sb.mono hn)
theorem RcX.imp (h : RcX X op n D) (hd : ∀ x y H b, D' x y H b → D x y H b) : RcX X op n D' := fun A pins s σ H x y u v b sb I rx ry d => h A pins s σ H x y u v b sb I rx ry (hd x y H b d)
theorem RcX.or (h : RcX X op n D) (h' : RcX X op n D') : RcX X op n (fun x y H b => D x y H b ∨ D' x y H b) := fun A pins s σ H x y u v b sb I rx ry d => by
  rcases d with d | d
  · exact h A pins s σ H x y u v b sb I rx ry d
  · exact h' A pins s σ H x y u v b sb I rx ry d
/-- plain data -/
def DDat (K : PySem.W.Frag) : EqB := fun x y H b => ∃ d e, Dp K H x d ∧ Dp K H y e ∧ SeqAt.shaped d = true ∧ SeqAt.shaped e = true ∧ b = PyData.eqv d e
mutual
theorem Dp.extB {K : PySem.W.Frag} {H H' : Hp} (e : Ext H H') : ∀ {x : V} {d : PyData}, Dp K H x d → Dp K H' x d
  | _, _, .non => .non
  | _, _, .bl b => .bl b
  | _, _, .int i => .int i
  | _, _, .str x => .str x
  | _, _, .lst h t => .lst (h.ext e) (DpAll.extB e t)
  | _, _, .tup h t => .tup (h.ext e) (DpAll.extB e t)
theorem DpAll.extB {K : PySem.W.Frag} {H H' : Hp} (e : Ext H H') : ∀ {xs : List V} {ds : List PyData}, DpAll K H xs ds → DpAll K H' xs ds
  | _, _, .nil => .nil
  | _, _, .cons h t => .cons (h.extB e) (DpAll.extB e t)
end
theorem monB_dat {K : PySem.W.Frag} : MonB (DDat K) := fun x y H H' b e d => by
  obtain ⟨d1, d2, h1, h2, h3, h4, h5⟩ := d
  exact ⟨d1, d2, h1.extB e, h2.extB e, h3, h4, h5⟩
theorem eqX_dat : EqX X 0 (DDat X.K) := by
  intro A pins s σ H x y u v b sb I rx ry d
  obtain ⟨d1, d2, h1, h2, s1, s2, rfl⟩ := d
  obtain ⟨as, r1⟩ := Dp.reads I d1 x u h1 rx
  obtain ⟨bs, r2⟩ := Dp.reads I d2 y v h2 ry
  exact SeqAt.eqAt_reads d1 d2 A s u v as bs r1 r2 (SeqAt.canLay_of_shaped s1) (SeqAt.canLay_of_shaped s2) (SeqAt.room_of_shaped s1 sb.room.units) X.prog X.w X.xe _ ⟨rfl, H, I, Ext.rfl'⟩
/-- the same thing -/
def DSame : EqB := fun x y _ b => x = y ∧ b = true ∧ ((∃ a, x = .ref a) ∨ flatV x = true)
theorem monB_same : MonB DSame := fun _ _ _ _ _ _ d => d
theorem eqX_same : EqX X 0 DSame := by
  intro A pins s σ H x y u v b sb I rx ry d
  obtain ⟨rfl, rfl, ⟨a, rfl⟩ | fl⟩ := d
  · cases rx
    cases ry
    exact SeqAt.EqAt.same (A := A) (s := s) (.ref a) X.prog X.w X.xe _ ⟨rfl, H, I, Ext.rfl'⟩
  · have q := eqAt_V (A := A) (s := s) rx ry fl fl
    have e : eqV x x = true := by
      cases x <;> first | rfl | (simp [eqV]; done) | (exact absurd fl (by simp [flatV])) | skip
    rw [e] at q
    exact q X.prog X.w X.xe _ ⟨rfl, H, I, Ext.rfl'⟩
theorem PrsB.mon (hD : MonB D) {xs ys : List V} {b : Bool} {H H' : Hp} (e : Ext H H') (p : PrsB D H xs ys b) : PrsB D H' xs ys b := by
  induction p with
  | nil => exact .nil
  | more => exact .more
  | less => exact .less
  | same h _ ih => exact .same (hD _ _ _ _ _ e h) ih
  | diff h => exact .diff (hD _ _ _ _ _ e h)
theorem PrsB.full {xs ys : List V} {b : Bool} {H : Hp} (p : PrsB D H xs ys b) (h : xs = [] ∨ ys = []) : b = decide (xs.length = ys.length) := by
  cases p with
  | nil => rfl
  | more => simp
  | less => simp
  | same _ _ => simp at h
  | diff _ => simp at h
def LoopB (X : Cx) (pins : List (Addr × Obj)) (σ : St) (H : Hp) (D : EqB) (xs ys : List V) (b : Bool) (i : Nat) (s' : Shared) : Prop := ∃ H', Inv X pins σ H' s' ∧ Ext H H' ∧ PrsB D H' (xs.drop i) (ys.drop i) b
theorem turnB (hD : MonB D) (h : EqX X n D) {A : Around} (sb : SubG X (n + 1) A) {pins : List (Addr × Obj)} {σ : St} {H : Hp} {xs ys : List V} {its its2 : List Value} {b : Bool} (r : Vals xs its) (r2 : Vals ys its2)
    (i : Nat) (h1 : i < its.toArray.size) (h2 : i < its2.toArray.size) (s' : Shared) (l : LoopB X pins σ H D xs ys b i s') :
    wpAny (model X.prog X.w) A.in1 (eqBool its.toArray[i] its2.toArray[i]) (fun r s2 => (r = true ∧ LoopB X pins σ H D xs ys b (i + 1) s2) ∨ (r = false ∧ b = false ∧ LoopB X pins σ H D xs ys b i s2)) X.xe s' := by
  obtain ⟨H1, I1, e1, p⟩ := l
  have g1 : its[i]? = some its.toArray[i] := by
    have h1' : i < its.length := by simpa using h1
    rw [List.getElem?_eq_getElem h1'] <;> simp
  have g2 : its2[i]? = some its2.toArray[i] := by
    have h2' : i < its2.length := by simpa using h2
    rw [List.getElem?_eq_getElem h2'] <;> simp
  have k1 : i < xs.length := by rw [r.length]; simpa using h1
  have k2 : i < ys.length := by rw [r2.length]; simpa using h2
  obtain ⟨u, hu, ru⟩ := r.get (List.getElem?_eq_getElem k1)
  obtain ⟨v, hv, rv⟩ := r2.get (List.getElem?_eq_getElem k2)
  rw [g1] at hu
  rw [g2] at hv
  rw [Option.some.inj hu, Option.some.inj hv]
  have pp := p
  rw [List.drop_eq_getElem_cons k1, List.drop_eq_getElem_cons k2] at p
  cases p with
  | same d q =>
    refine wpAny_mono (h A.in1 pins s' σ H1 _ _ u v true sb.in1 I1 ru rv d) (fun r s2 z => ?_) fun _ _ x => x
    obtain ⟨hr, H2, I2, e2⟩ := z
    exact .inl ⟨hr, H2, I2, e1.trans e2, q.mon hD e2⟩
  | diff d =>
    refine wpAny_mono (h A.in1 pins s' σ H1 _ _ u v false sb.in1 I1 ru rv d) (fun r s2 z => ?_) fun _ _ x => x
    obtain ⟨hr, H2, I2, e2⟩ := z
    exact .inr ⟨hr, rfl, H2, I2, e1.trans e2, pp.mon hD e2⟩
def DTupB (K : PySem.W.Frag) (D : EqB) : EqB := fun x y H b => ∃ p q xs ys, x = .ref p ∧ y = .ref q ∧ SqT K H p xs ∧ SqT K H q ys ∧ PrsB D H xs ys b
def DLstB (D : EqB) : EqB := fun x y H b => ∃ p q xs ys, x = .ref p ∧ y = .ref q ∧ H p = some (.lst xs) ∧ H q = some (.lst ys) ∧ ((xs.length ≠ ys.length ∧ b = false) ∨ (xs.length = ys.length ∧ PrsB D H xs ys b))
theorem monB_tup {K : PySem.W.Frag} (hD : MonB D) : MonB (DTupB K D) := fun x y H H' b e d => by
  obtain ⟨p, q, xs, ys, hx, hy, h1, h2, z⟩ := d
  exact ⟨p, q, xs, ys, hx, hy, h1.ext e, h2.ext e, z.mon hD e⟩
theorem monB_lst (hD : MonB D) : MonB (DLstB D) := fun x y H H' b e d => by
  obtain ⟨p, q, xs, ys, hx, hy, h1, h2, z⟩ := d
  exact ⟨p, q, xs, ys, hx, hy, e _ _ h1, e _ _ h2, z.imp id fun z => ⟨z.1, z.2.mon hD e⟩⟩
theorem PrsB.true_len {xs ys : List V} {b : Bool} {H : Hp} (p : PrsB D H xs ys b) : b = true → xs.length = ys.length := by
  induction p with
  | nil => exact fun _ => rfl
  | more => exact fun z => nomatch z
  | less => exact fun z => nomatch z
  | same _ _ ih => exact fun z => congrArg (· + 1) (ih z)
  | diff _ => exact fun z => nomatch z
theorem rcX_tup (hop : op = .Eq ∨ op = .NotEq) (hD : MonB D) (h : EqX X n D) : RcX X op (n + 1) (DTupB X.K D) := by
  intro A pins s σ H x y u v b sb I rx ry d
  obtain ⟨p, q, xs, ys, rfl, rfl, ha, hb, z⟩ := d
  cases rx
  cases ry
  obtain ⟨its, r, e, _⟩ := I.tuple ha
  obtain ⟨its2, r2, e2, _⟩ := I.tuple hb
  refine rc_tupB op hop sb.room.units0 (LoopB X pins σ H D xs ys b) e e2 (fun i h1 h2 s' l => wpAny_mono (turnB hD h sb r r2 i h1 h2 s' l) (fun r' s2 w => ?_) fun _ _ x => x) (fun s' l => ?_) ⟨H, I, Ext.rfl', z⟩
  · rcases w with w | ⟨w1, rfl, H2, I2, e3, _⟩
    · exact .inl w
    · exact .inr ⟨w1, rfl, H2, I2, e3⟩
  · obtain ⟨H2, I2, e3, w⟩ := l
    have hl1 := r.length
    have hl2 := r2.length
    have hm : min its.toArray.size its2.toArray.size = min xs.length ys.length := by rw [List.size_toArray, List.size_toArray, ← hl1, ← hl2]
    rw [hm] at w
    have eb := w.full (by
      rcases Nat.le_total xs.length ys.length with k | k
      · left; rw [Nat.min_eq_left k, List.drop_length]
      · right; rw [Nat.min_eq_right k, List.drop_length])
    refine ⟨?_, H2, I2, e3⟩
    rw [eb, List.size_toArray, List.size_toArray, ← hl1, ← hl2, List.length_drop, List.length_drop]
    have : (xs.length == ys.length) = decide (xs.length - min xs.length ys.length = ys.length - min xs.length ys.length) := by
      by_cases k : xs.length = ys.length
      · rw [k]; simp
      · have : ¬ (xs.length - min xs.length ys.length = ys.length - min xs.length ys.length) := by omega
        simp [k, this]
    rw [this]
theorem rcX_lst (hop : op = .Eq ∨ op = .NotEq) (hD : MonB D) (h : EqX X n D) : RcX X op (n + 1) (DLstB D) := by
  intro A pins s σ H x y u v b sb I rx ry d
  obtain ⟨p, q, xs, ys, rfl, rfl, ha, hb, z⟩ := d
  cases rx
  cases ry
  rcases z with ⟨hl, rfl⟩ | ⟨hl, z⟩
  · obtain ⟨_, its, k, r, e⟩ := I.hok p _ ha
    obtain ⟨_, its2, k2, r2, e2⟩ := I.hok q _ hb
    have hl1 := r.length
    have hl2 := r2.length
    exact rc_lenB op hop sb.room.units0 e e2 (by rw [List.size_toArray, List.size_toArray, ← hl1, ← hl2]; simpa using hl) ⟨rfl, H, I, Ext.rfl'⟩
  · refine rc_listB op (if op = .Eq then 2 else 3) (by rcases hop with rfl | rfl <;> simp) (N := xs.length) (res := b) sb.room.units0 (fun i s' => LoopB X pins σ H D xs ys b i s') (fun i s' l => ?_) (fun s' i l _ => ?_) (fun s' l => ?_) ⟨H, I, Ext.rfl', z⟩
    · obtain ⟨H1, I1, e1, w⟩ := id l
      obtain ⟨_, its, k, r, e⟩ := I1.hok p _ (e1 _ _ ha)
      obtain ⟨_, its2, k2, r2, e2⟩ := I1.hok q _ (e1 _ _ hb)
      refine ⟨its.toArray, its2.toArray, k, k2, e, e2, by rw [List.size_toArray, ← r.length], by rw [List.size_toArray, ← r2.length, ← hl], fun h1 h2 => ?_⟩
      exact turnB hD h sb r r2 i h1 h2 s' l
    · obtain ⟨H1, I1, e1, w⟩ := l
      exact ⟨rfl, H1, I1, e1⟩
    · obtain ⟨H1, I1, e1, w⟩ := l
      have eb := w.full (.inl (List.drop_length ..))
      rw [List.drop_length, hl, List.drop_length] at eb
      simpa using eb
/-- instances of the class at C with the text's own ==, with anything -/
def DInsB (K : PySem.W.Frag) (C : Addr) (D : EqB) : EqB := fun x y H b => (∃ a dx fs, x = .ref a ∧ H a = some (.ins C dx fs)) ∧ (∃ t, TyOf K H y t ∧ PySem.W.notFirst K C t = true) ∧ D x y H b
/-- what the own == promises -/
def spEqB (D : EqB) : Sp := fun vs H Q _ => ∃ x y b, vs = [x, y] ∧ D x y H b ∧ ∀ H', Ext H H' → Q (.bl b) H'
theorem rcX_eqI {CX : CXT} {C f : Addr} {fd : FuncData} {ps : List Str} {E : XK} (T : EqC X.K C f) (F : FnG X.prog X.w X.K X.mg X.base CX n f fd ps (spEqB D)) (hb : Binds X.K fd ps []) (hx : Passes CX X E) : RcX X .Eq n (DInsB X.K C D) := by
  intro A pins s σ H x y u v b sb I rx ry d
  obtain ⟨⟨a, dx, fs, rfl, ha⟩, ⟨t, ty, hn⟩, hd⟩ := d
  cases rx
  obtain ⟨mA, J, _⟩ := ins_get I.hok ha
  obtain ⟨od, J, _⟩ := J.look
  obtain ⟨m, hF⟩ := I.fr
  refine PySem.W.cmp_K (op := .Eq) (tb := t) sb.room.units0 hF I.ok.mod.kin J (tyOf_looks I ry ty) hn T.eq T.fn ?_
  have hsp : spEqB D [.ref a, y] H (fun v H' => v = .bl b ∧ Ext H H') E := ⟨.ref a, y, b, rfl, hd, fun H' e => ⟨rfl, e⟩⟩
  have e0 : Env0 X.prog X.w X.K X.mg X.base A X.stack s H := by
    have e := I.env0
    exact ⟨by rw [sb.fr]; exact e.frames, e.mod, e.bs, e.bsz, e.funs, e.frf, e.hok, e.bare⟩
  have hl := F.len _ _ _ _ hsp
  have r2 : Vals [V.ref a, y] [Value.ref a, v] := .cons rfl (.cons ry .nil)
  refine wpAny_call (codeAny_mono (F.run A X.stack s H ⟨[.ref a, v], []⟩ [.ref a, v] [.ref a, y] _ E sb.gd sb.room e0 (by
    have := hb s [.ref a, v] I.kIn (by simpa using hl)
    simpa using this) r2 hsp) fun r s' hq => ?_)
  cases r with
  | error e => exact hx pins σ H s e s' I hq
  | ok fl =>
    cases fl with
    | ret w =>
      obtain ⟨z, H', I', rz, ez, ex⟩ := I.after hq
      subst ez
      cases rz
      exact ⟨rfl, H', I', ex⟩
    | next => exact False.elim hq
    | brk => exact False.elim hq
    | cont => exact False.elim hq
theorem rcX_neI {CX : CXT} {C f : Addr} {fd : FuncData} {ps : List Str} {E : XK} (T : EqC X.K C f) (F : FnG X.prog X.w X.K X.mg X.base CX n f fd ps (spEqB D)) (hb : Binds X.K fd ps []) (hx : Passes CX X E) : RcX X .NotEq (n + 1) (DInsB X.K C D) := by
  intro A pins s σ H x y u v b sb I rx ry d
  obtain ⟨⟨a, dx, fs, rfl, ha⟩, ⟨t, ty, hn⟩, hd⟩ := d
  cases rx
  obtain ⟨mA, O, _⟩ := ins_get I.hok ha
  obtain ⟨od, J, _⟩ := O.look
  have X0 : X.K.In s.heap := I.kIn
  have hb2 := tyOf_looks (M := model X.prog X.w) I ry ty
  have hr := sb.room
  have hsp : spEqB D [.ref a, y] H (fun v H' => v = .bl b ∧ Ext H H') E := ⟨.ref a, y, b, rfl, hd, fun H' e => ⟨rfl, e⟩⟩
  have e0 : Env0 X.prog X.w X.K X.mg X.base A.in1 X.stack s H := by
    have e := I.env0
    exact ⟨by rw [show A.in1.frames = A.frames from rfl, sb.fr]; exact e.frames, e.mod, e.bs, e.bsz, e.funs, e.frf, e.hok, e.bare⟩
  have inner : wpAny (model X.prog X.w) A.in1 (call (.ref f) [.ref a, v]) (fun w s' => w = .bool b ∧ ∃ H', Inv X pins σ H' s' ∧ Ext H H') X.xe s := by
    have r2 : Vals [V.ref a, y] [Value.ref a, v] := .cons rfl (.cons ry .nil)
    have hl := F.len _ _ _ _ hsp
    apply wpAny_call
    refine codeAny_mono (F.run A.in1 X.stack s H ⟨[.ref a, v], []⟩ [.ref a, v] [.ref a, y] _ E sb.gd hr.in1 e0 (by
      have := hb s [.ref a, v] X0 (by simpa using hl)
      simpa using this) r2 hsp) fun r s' hq => ?_
    match r, hq with
    | .error e, hq => exact hx pins σ H s e s' I hq
    | .ok (.ret w), hq =>
      obtain ⟨z, H', I', rz, ez, ex⟩ := I.after hq
      subst ez
      cases rz
      exact ⟨rfl, H', I', ex⟩
    | .ok .next, hq => exact False.elim hq
    | .ok .brk, hq => exact False.elim hq
    | .ok .cont, hq => exact False.elim hq
  have one : wpAny (model X.prog X.w) A (tryCompare (.ref a) "__ne__" v) (fun r s' => r = some (.bool (!b)) ∧ ∃ H', Inv X pins σ H' s' ∧ Ext H H') X.xe s := by
    unfold tryCompare
    refine wpAny_bind ?_
    simp only [callSpecialIfBound?, bindSpecialIfBound?]
    refine wpAny_holding (wpAny_bind (wpAny_bind (wpAny_bind (J.type.here ((PySem.W.looks_findIn X0 T.ne).here ?_)))))
    refine wpAny_bind (wpAny_askSetting (wpAny_ite ?_))
    have sub : PySem.W.Looks (model X.prog X.w) s.heap (isInstance (.ref a) (.type "object")) true := J.type.andThen (PySem.W.looks_mroIn X0 T.ob)
    have called : wpAny (model X.prog X.w) A (call (.builtin "object.__ne__") [.ref a, v]) (fun w s' => w = .bool (!b) ∧ ∃ H', Inv X pins σ H' s' ∧ Ext H H') X.xe s := by
      refine wpAny_call (codeAny_call_builtin PySem.F.cmp_object.ne.plain PySem.F.cmpEntry_ne (PySem.W.check_slot PySem.F.cmpKind_ne PySem.F.cmpSplit_ne sub (PySem.F.cmpArgs_ne _ _) ?_))
      refine ne_body (by have := hr.un; show A.units + 1 < cLine; omega) ?_
      refine PySem.W.ifBound_K X0 J T.eq T.fn (wpAny_mono inner ?_ fun _ _ z => z)
      rintro w s' ⟨rfl, z⟩
      exact ⟨b, rfl, rfl, z⟩
    have fin : wpAny (model X.prog X.w) A (call (.builtin "object.__ne__") ([.ref a] ++ [v]) >>= fun v => pure (some v)) (fun r s' => wpAny (model X.prog X.w) A (match r with
        | some .notImplemented => pure none
        | none => pure none
        | some v => pure (some v)) (fun r s' => r = some (.bool (!b)) ∧ ∃ H', Inv X pins σ H' s' ∧ Ext H H') X.xe s') X.xe s := by
      refine wpAny_bind (wpAny_mono called ?_ fun _ _ z => z)
      rintro w s' ⟨rfl, z⟩
      exact wpAny_pure (wpAny_pure ⟨rfl, z⟩)
    split
    · exact wpAny_bind (wpAny_of_eq (PySem.F.cmp_object.ne.bind _) (wpAny_pure fin))
    · exact wpAny_tryCatch (wpAny_bind (wpAny_of_eq (PySem.F.cmp_object.ne.bind _) (wpAny_pure fin)))
  show wpAny (model X.prog X.w) A (richCompare .NotEq (.ref a) v) (fun r s' => r = .bool (!b) ∧ ∃ H', Inv X pins σ H' s' ∧ Ext H H') X.xe s
  unfold richCompare
  simp only [PySem.oneThing_ref]
  refine wpAny_holding (wpAny_bind (wpAny_cRoomFor hr.units0 ?_))
  refine wpAny_bind (J.type.here (wpAny_bind (hb2.here ?_)))
  split
  · rename_i z
    have e : PySem.W.subIn X.K t (.ref C) = some false := by
      rcases Bool.or_eq_true_iff.mp hn with e | e
      · rw [beq_iff_eq.mp e] at z
        simp at z
      · exact beq_iff_eq.mp e
    refine wpAny_bind ((PySem.W.looks_subIn X0 e).here ?_)
    simp only [Bool.false_eq_true, if_false]
    refine wpAny_bind (wpAny_mono one ?_ fun _ _ z => z)
    rintro r s' ⟨rfl, z⟩
    exact wpAny_pure ⟨rfl, z⟩
  · refine wpAny_bind (wpAny_pure ?_)
    simp only [Bool.false_eq_true, if_false]
    refine wpAny_bind (wpAny_mono one ?_ fun _ _ z => z)
    rintro r s' ⟨rfl, z⟩
    exact wpAny_pure ⟨rfl, z⟩
theorem rcX_ins {CX : CXT} {C f : Addr} {fd : FuncData} {ps : List Str} {E : XK} (hop : op = .Eq ∨ op = .NotEq) (T : EqC X.K C f) (F : FnG X.prog X.w X.K X.mg X.base CX n f fd ps (spEqB D)) (hb : Binds X.K fd ps []) (hx : Passes CX X E) : RcX X op (n + 1) (DInsB X.K C D) := by
  rcases hop with rfl | rfl
  · exact (rcX_eqI T F hb hx).mono (Nat.le_succ n)
  · exact rcX_neI T F hb hx
/-- from a rich comparison to == inside a list or tuple: a thing is equal to itself -/
theorem RcX.eqX (h : RcX X .Eq n D) (hr : ∀ x y H b, D x y H b → (∃ a, x = .ref a) ∧ (x = y → b = true)) : EqX X n D := by
  intro A pins s σ H x y u v b sb I rx ry d
  obtain ⟨⟨a, rfl⟩, hs⟩ := hr _ _ _ _ d
  cases rx
  by_cases hab : V.ref a = y
  · cases hab
    cases ry
    rw [hs rfl]
    exact SeqAt.EqAt.same (A := A) (s := s) (.ref a) X.prog X.w X.xe _ ⟨rfl, H, I, Ext.rfl'⟩
  · refine eqBool_rcB (?_) (wpAny_mono (h A pins s σ H (.ref a) y _ v b sb I rfl ry d) (fun r s' q => ?_) fun _ _ x => x)
    · cases hz : (Value.ref a == v) with
      | false => rfl
      | true =>
        exfalso
        have e : v = Value.ref a := (eq_of_beq hz).symm
        subst e
        cases y with
        | ref c => cases (show Value.ref a = Value.ref c from ry); exact hab rfl
        | non => cases (show Value.ref a = Value.none from ry)
        | bl k => cases (show Value.ref a = Value.bool k from ry)
        | int k => obtain ⟨t, e⟩ := (show ∃ t, Value.ref a = Value.int k t from ry); cases e
        | str k => obtain ⟨t, e⟩ := (show ∃ t, Value.ref a = Value.str k t from ry); cases e
        | byt k => obtain ⟨t, e⟩ := (show ∃ t, Value.ref a = Value.bytes k t from ry); cases e
        | flt k => obtain ⟨t, e⟩ := (show ∃ t, Value.ref a = Value.float k t from ry); cases e
        | ty k => first | (cases (show Value.ref a = Value.type k from ry)) | (obtain ⟨t, e⟩ := ry; cases e) | cases ry
    · obtain ⟨hr', q⟩ := q
      exact ⟨b, hr', rfl, q⟩
/-- x == y as an expression, x != y likewise -/
def rOpB (op : CmpOp) (D : EqB) : R2 := fun x y H Q => ∃ b, D x y H b ∧ ∀ H', Ext H H' → Q (.bl (resOf op b)) H'
theorem op_X (hop : op = .Eq ∨ op = .NotEq) (h : RcX X op n D) (hgd : X.A.guards = some []) (hr : Room n X.A) : OpR X (compareOp op) (rOpB op D) := by
  intro pins s σ H x y v u Q I rx ry hq
  obtain ⟨b, d, q⟩ := hq
  have go : wpAny (model X.prog X.w) X.A (richCompare op v u) (EP X pins σ Q) X.xe s := by
    refine wpAny_mono (h X.A pins s σ H x y v u b ⟨hr, rfl, hgd⟩ I rx ry d) (fun r s' z => ?_) fun _ _ x => x
    obtain ⟨hr', H', I', e⟩ := z
    subst hr'
    exact ⟨.bl _, H', I', rfl, q H' e⟩
  rcases hop with rfl | rfl <;> exact go
end
end L2
end
section
set_option Elab.async false
set_option linter.all false
set_option maxRecDepth 100000
set_option maxHeartbeats 2000000
/-! # things of other kinds than a class; comparisons of what is the same thing -/
namespace L2
open PySem PySem.Spec PyProof.Rows GQB
/-- a thing of another kind than the class C -/
def NoIns (K : PySem.W.Frag) (C : Addr) (H : Hp) (y : V) : Prop := ∃ ty, TyOf K H y ty ∧ PySem.W.kitOne K ty (.ref C) = some false ∧ PySem.W.notFirst K C ty = true
theorem tyOf_ext {K : PySem.W.Frag} {H H' : Hp} {y : V} {ty : Value} (e : Ext H H') (h : TyOf K H y ty) : TyOf K H' y ty := by
  cases h with
  | non => exact .non
  | bl b => exact .bl b
  | int i => exact .int i
  | str x => exact .str x
  | flt x => exact .flt x
  | lst h => exact .lst (e _ _ h)
  | frz h => exact .frz (e _ _ h)
  | tup h => exact .tup (e _ _ h)
  | dK h => exact .dK (e _ _ h)
  | dT h => exact .dT (e _ _ h)
  | ins h a b c d f => exact .ins (e _ _ h) a b c d f
theorem tyOf_off {K : PySem.W.Frag} {M : Addr → Prop} {H H' : Hp} {y : V} {ty : Value} (o : Off M H H') (n : ∀ a, y = .ref a → ¬ M a) (h : TyOf K H y ty) : TyOf K H' y ty := by
  cases h with
  | non => exact .non
  | bl b => exact .bl b
  | int i => exact .int i
  | str x => exact .str x
  | flt x => exact .flt x
  | lst h => exact .lst (o _ _ (n _ rfl) h)
  | frz h => exact .frz (o _ _ (n _ rfl) h)
  | tup h => exact .tup (o _ _ (n _ rfl) h)
  | dK h => exact .dK (o _ _ (n _ rfl) h)
  | dT h => exact .dT (o _ _ (n _ rfl) h)
  | ins h a b c d f => exact .ins (o _ _ (n _ rfl) h) a b c d f
theorem NoIns.ext {K : PySem.W.Frag} {C : Addr} {H H' : Hp} {y : V} (e : Ext H H') (h : NoIns K C H y) : NoIns K C H' y := by
  obtain ⟨ty, a, b, c⟩ := h
  exact ⟨ty, tyOf_ext e a, b, c⟩
theorem NoIns.off {K : PySem.W.Frag} {M : Addr → Prop} {C : Addr} {H H' : Hp} {y : V} (o : Off M H H') (n : ∀ a, y = .ref a → ¬ M a) (h : NoIns K C H y) : NoIns K C H' y := by
  obtain ⟨ty, a, b, c⟩ := h
  exact ⟨ty, tyOf_off o n a, b, c⟩
/-- the built-in kinds of data are no class of ours -/
structure KitNo (K : PySem.W.Frag) (C : Addr) : Prop where
  n0 : PySem.W.kitOne K (.type "NoneType") (.ref C) = some false
  n1 : PySem.W.kitOne K (.type "bool") (.ref C) = some false
  n2 : PySem.W.kitOne K (.type "int") (.ref C) = some false
  n3 : PySem.W.kitOne K (.type "str") (.ref C) = some false
  n4 : PySem.W.kitOne K (.type "list") (.ref C) = some false
  n5 : PySem.W.kitOne K (.type "tuple") (.ref C) = some false
  n6 : PySem.W.kitOne K (.type "dict") (.ref C) = some false
  s0 : PySem.W.subIn K (.type "NoneType") (.ref C) = some false
  s1 : PySem.W.subIn K (.type "bool") (.ref C) = some false
  s2 : PySem.W.subIn K (.type "int") (.ref C) = some false
  s3 : PySem.W.subIn K (.type "str") (.ref C) = some false
  s4 : PySem.W.subIn K (.type "list") (.ref C) = some false
  s5 : PySem.W.subIn K (.type "tuple") (.ref C) = some false
  s6 : PySem.W.subIn K (.type "dict") (.ref C) = some false
theorem first_of {K : PySem.W.Frag} {C : Addr} {t : Value} (h : PySem.W.subIn K t (.ref C) = some false) : PySem.W.notFirst K C t = true := by
  simp [PySem.W.notFirst, h]
section
variable {K : PySem.W.Frag} {C : Addr} {H : Hp} (N : KitNo K C)
include N
theorem KitNo.non : NoIns K C H .non := ⟨_, .non, N.n0, first_of N.s0⟩
theorem KitNo.bl (b : Bool) : NoIns K C H (.bl b) := ⟨_, .bl b, N.n1, first_of N.s1⟩
theorem KitNo.int (i : Int) : NoIns K C H (.int i) := ⟨_, .int i, N.n2, first_of N.s2⟩
theorem KitNo.str (x : Str) : NoIns K C H (.str x) := ⟨_, .str x, N.n3, first_of N.s3⟩
theorem KitNo.lst {a : Addr} {xs : List V} (e : H a = some (.lst xs)) : NoIns K C H (.ref a) := ⟨_, .lst e, N.n4, first_of N.s4⟩
theorem KitNo.tup {a : Addr} {xs : List V} (e : H a = some (.tup xs)) : NoIns K C H (.ref a) := ⟨_, .tup e, N.n5, first_of N.s5⟩
theorem KitNo.dK {a : Addr} {xs : List (Key × V)} (e : H a = some (.dK xs)) : NoIns K C H (.ref a) := ⟨_, .dK e, N.n6, first_of N.s6⟩
theorem KitNo.dT {a : Addr} {xs : List (List Key × V)} (e : H a = some (.dT xs)) : NoIns K C H (.ref a) := ⟨_, .dT e, N.n6, first_of N.s6⟩
end
/-- an instance of another class -/
theorem noIns_ins {K : PySem.W.Frag} {C D a dx : Addr} {H : Hp} {fs : List (Str × V)} (ic : C8.InsC K D) (h : H a = some (.ins D dx fs)) (k : PySem.W.kitOne K (.ref D) (.ref C) = some false) (s : PySem.W.subIn K (.ref D) (.ref C) = some false) : NoIns K C H (.ref a) :=
  ⟨.ref D, .ins h ic.cl ic.ha ic.hn ic.htk ic.hm, k, first_of s⟩
/-- a thing that is one with itself, whatever it is -/
def OneT (v : V) : Prop := (∃ a, v = .ref a) ∨ flatV v = true
theorem prsB_same {H : Hp} : ∀ {vs : List V}, (∀ v ∈ vs, OneT v) → PrsB DSame H vs vs true
  | [], _ => .nil
  | v :: r, h => .same ⟨rfl, rfl, h v (List.mem_cons_self ..)⟩ (prsB_same fun x hx => h x (List.mem_cons_of_mem _ hx))
section
variable {X : Cx} {op : CmpOp}
/-- tuples of the same things -/
theorem op_tupS (hop : op = .Eq ∨ op = .NotEq) (hgd : X.A.guards = some []) (hr : Room 1 X.A) : OpR X (compareOp op) (rOpB op (DTupB X.K DSame)) := op_X hop (rcX_tup hop monB_same eqX_same) hgd hr
theorem dSameT {K : PySem.W.Frag} {H : Hp} {p q : Addr} {vs : List V} (hp : H p = some (.tup vs)) (hq : H q = some (.tup vs)) (h : ∀ v ∈ vs, OneT v) : DTupB K DSame (.ref p) (.ref q) H true :=
  ⟨p, q, vs, vs, rfl, rfl, SqT.of hp, SqT.of hq, prsB_same h⟩
theorem oneT_two {s : Str} {v : V} (h : OneT v) : ∀ x ∈ [V.str s, v], OneT x := fun x hx => by
  simp only [List.mem_cons, List.not_mem_nil, or_false] at hx
  rcases hx with rfl | rfl
  · exact .inr rfl
  · exact h
/-- two comparisons for one place -/
theorem op_alt {op : Value → Value → Sem Value} {R1 R2 : L2.R2} (h1 : OpR X op R1) (h2 : OpR X op R2) : OpR X op fun x y H Q => R1 x y H Q ∨ R2 x y H Q := by
  intro pins s σ H x y v u Q I rx ry h
  rcases h with h | h
  · exact h1 pins s σ H x y v u Q I rx ry h
  · exact h2 pins s σ H x y v u Q I rx ry h
end
end L2
end
section
set_option Elab.async false
set_option linter.all false
set_option maxRecDepth 100000
set_option maxHeartbeats 2000000
/-! # a tuple repeated, no time and once too -/
namespace L2
open PySem PySem.Spec PyProof.Rows
theorem tuple_mul0 (l : Addr) (items : Array Value) (n : Nat) (dd : Option Addr) (sl : Array (Option Value)) (x : Int) (u : Tok) (c0 : (decide (x < -(2 ^ 63)) || decide (x ≥ 2 ^ 63)) = false) (c1 : (items.isEmpty || x == 1) = false) (c2 : (decide (x ≤ 0) || items.isEmpty) = true) :
    Meets (Builtin.«tuple.__mul__» ⟨[.ref l, .int x u], []⟩) (fun _ R s => s.heap.get? l = some { cls := .type "tuple", dict := dd, data := .seq items n, slots := sl } ∧
      R (.ok (.ret (Value.ref s.heap.objs.size))) { s with heap := s.heap.push { cls := Value.type "tuple", data := Data.seq #[] }, toks := s.toks }) :=
  .of_wp fun prog w A R s h => by
    obtain ⟨hp, g, d, tk, os⟩ := s
    obtain ⟨hl, h⟩ := h
    have f1 := AutoSeq1.idx_int
    wp_walk using wpAny_loadPart' hl
    repeat (first
      | (refine wpAny_ite_false (decide_eq_false (by rw [c0]; exact Bool.false_ne_true)) ?_; wp_walk using wpAny_loadPart' hl)
      | (refine wpAny_ite_false (decide_eq_false (by rw [c1]; exact Bool.false_ne_true)) ?_; wp_walk using wpAny_loadPart' hl)
      | (refine wpAny_ite_true (decide_eq_true c2) ?_; wp_walk using wpAny_loadPart' hl))
    exact ⟨_, rfl, h⟩
theorem tuple_mul1 (l : Addr) (items : Array Value) (n : Nat) (dd : Option Addr) (sl : Array (Option Value)) (u : Tok) :
    Meets (Builtin.«tuple.__mul__» ⟨[.ref l, .int 1 u], []⟩) (fun _ R s => s.heap.get? l = some { cls := .type "tuple", dict := dd, data := .seq items n, slots := sl } ∧
      R (.ok (.ret (Value.ref l))) s) :=
  .of_wp fun prog w A R s h => by
    obtain ⟨hp, g, d, tk, os⟩ := s
    obtain ⟨hl, h⟩ := h
    have f1 := AutoSeq1.idx_int
    have c1 : (items.isEmpty || (1 : Int) == 1) = true := by simp
    wp_walk using wpAny_loadPart' hl
    repeat (first
      | (refine wpAny_ite_false (decide_eq_false (by decide)) ?_; wp_walk using wpAny_loadPart' hl)
      | (refine wpAny_ite_true (decide_eq_true c1) ?_; wp_walk using wpAny_loadPart' hl))
    exact ⟨_, rfl, h⟩
def rRepA : R2 := fun x y H Q => ∃ l k xs, x = .ref l ∧ y = .int k ∧ H l = some (.tup xs) ∧ xs ≠ [] ∧ 0 ≤ k ∧ k ≤ 1000 ∧ xs.length ≤ 1000 ∧ ∀ p H', Same H H' → H' p = some (.tup (List.replicate k.toNat xs).flatten) → Q (.ref p) H'
section
variable {X : Cx}
theorem op_repA : OpR X (binaryOp .Mult) rRepA := by
  intro pins s σ H x y v u Q I rx ry h
  obtain ⟨l, k, xs, rfl, rfl, hT, hne, h1, h2, hz, q⟩ := h
  by_cases k2 : 2 ≤ k
  · exact op_repT pins s σ H (.ref l) (.int k) v u Q I rx ry ⟨l, k, xs, rfl, rfl, SqT.of hT, hne, k2, h2, hz, fun p hp => q p _ (fun b o e => by rw [upd_ne (ne_of_none e hp)]; exact e) upd_same⟩
  cases rx
  obtain ⟨t, rfl⟩ := ry
  obtain ⟨its, r, ⟨⟨cls, dd, data, sl⟩, ho, hc, n, hd⟩, hs⟩ := I.tuple (SqT.of hT)
  simp only at hc hd
  subst hc hd
  have hle : its.length = xs.length := r.length.symm
  have hn : its ≠ [] := fun e => hne (by
    rw [e] at hle
    exact List.eq_nil_of_length_eq_zero hle.symm)
  have hi : its.toArray.isEmpty = false := by
    cases its with
    | nil => exact absurd rfl hn
    | cons a b => rfl
  by_cases k1 : k = 1
  · subst k1
    refine wpAny_binaryOp_repeat_ref (T := "tuple") (U := "int") (by decide) ⟨_, ho, rfl⟩ (fun s' => typeIs_int s' 1 t) noFill_tuple_mul F.fills_int_mul F.slot_int_rmul repeat_tuple F.slot_int_index.lookup
      (call_meets F.slot_int_rmul (typeIs_int s 1 t) F.entry_int_rmul (F.args_int_rmul_2 _ _) (int_rmul_tuple 1 t l its.toArray n dd sl)
        ⟨ho, rfl, ⟨_, ho, rfl⟩, call_meets F.slot_tuple_mul ⟨_, ho, rfl⟩ F.entry_tuple_mul (F.args_tuple_mul_2 _ _) (tuple_mul1 l its.toArray n dd sl t) ⟨ho, ?_⟩⟩)
    exact ⟨.ref l, H, I, rfl, q l H (fun _ _ e => e) (by simpa using hT)⟩
  · have k0 : k = 0 := by omega
    subst k0
    have c0 : (decide ((0 : Int) < -(2 ^ 63)) || decide ((0 : Int) ≥ 2 ^ 63)) = false := by decide
    have c1 : (its.toArray.isEmpty || (0 : Int) == 1) = false := by rw [hi]; rfl
    have c2 : (decide ((0 : Int) ≤ 0) || its.toArray.isEmpty) = true := by simp
    refine wpAny_binaryOp_repeat_ref (T := "tuple") (U := "int") (by decide) ⟨_, ho, rfl⟩ (fun s' => typeIs_int s' 0 t) noFill_tuple_mul F.fills_int_mul F.slot_int_rmul repeat_tuple F.slot_int_index.lookup
      (call_meets F.slot_int_rmul (typeIs_int s 0 t) F.entry_int_rmul (F.args_int_rmul_2 _ _) (int_rmul_tuple 0 t l its.toArray n dd sl)
        ⟨ho, rfl, ⟨_, ho, rfl⟩, call_meets F.slot_tuple_mul ⟨_, ho, rfl⟩ F.entry_tuple_mul (F.args_tuple_mul_2 _ _) (tuple_mul0 l its.toArray n dd sl 0 t c0 c1 c2) ⟨ho, ?_⟩⟩)
    have hf := I.hok.fresh (Nat.le_refl _)
    refine ⟨.ref s.heap.objs.size, _, I.laid (t' := s.toks) (o := .tup []) (fun b ob q => Heap.get?_push_of_some _ q) (Nat.le_refl _) ?_, rfl, q _ _ (fun b o e => by rw [upd_ne (ne_of_none e hf)]; exact e) upd_same⟩
    exact ⟨Nat.zero_le _, [], .nil, IsTup.new _ _⟩
end
section
open PySem.W
/-- the class of an error without methods, from facts that are looked up -/
theorem errN_mk {K : Frag} {mg : Str → Option Value} {h : Heap} {cn : Str} {C : Addr} (X : K.In h) (G : h.Ns mainGlobals mg) (gC : nsIn K mainGlobals cn = some (some (.ref C)))
    (ex : excIn K C [.type "ValueError", .type "Exception", .type "BaseException", .type "object"] "ValueError.__new__" = true) (kC : keepIn K (.ref C) = true) (exC : subIn K (.ref C) (.type "BaseException") = some true) (tyC : typeIn K (.ref C) = some (.type "type"))
    (icC : isClsIn K C = true) (sC : subIn K (.ref C) (.ref C) = some true) : ErrN K mg cn C := ⟨mg_of X G gC, ex, kC, exC, tyC, RX.te_of exC icC tyC sC⟩
/-- an error of class S is no C, from facts that are looked up -/
theorem te_no {K : Frag} {S C : Addr} (a : subIn K (.ref C) (.type "BaseException") = some true) (b : isClsIn K C = true) (c : typeIn K (.ref C) = some (.type "type")) (d : subIn K (.ref S) (.ref C) = some false) : exmOne K (.ref S) (.ref C) = some false := by
  have b' : (clsIn K C).isSome = true := b
  simp [exmOne, kitCls, a, b', c, d]
end
end L2
end
section
set_option Elab.async false
set_option linter.all false
set_option maxRecDepth 100000
set_option maxHeartbeats 2000000
/-! # readings of one's own, short: tuples joined, cut -/
namespace L2
open PySem PySem.Spec PyProof.Rows
section
variable {K : PySem.W.Frag} {H : Hp} {a b : Addr} {xs ys : List V} {Q : VK}
theorem catU (ha : H a = some (.tup xs)) (hb : H b = some (.tup ys)) (hz : xs.length + ys.length ≤ sizeLine) (k : ∀ p H', Ext H H' → H' p = some (.tup (xs ++ ys)) → Q (.ref p) H') : rCatA K (.ref a) (.ref b) H Q :=
  ⟨a, b, xs, ys, rfl, rfl, SqT.of ha, SqT.of hb, hz, fun z => k b H Ext.rfl' (by rw [z]; exact hb), fun _ z => k a H Ext.rfl' (by rw [z, List.append_nil]; exact ha), fun _ _ p hp => k p _ (Ext.upd hp) upd_same⟩
theorem slU {lo hi : Option Int} (ha : H a = some (.tup xs)) (k : ∀ p H', Ext H H' → H' p = some (.tup (cutV xs lo hi)) → Q (.ref p) H') : rSlA K (.ref a) lo hi H Q :=
  ⟨a, xs, rfl, SqT.of ha, fun z => k a H Ext.rfl' (by
    have : cutV xs lo hi = xs := by unfold cutV; rw [z.1, z.2, List.drop_zero, Nat.sub_zero, List.take_length]
    rw [this]; exact ha), fun _ p hp => k p _ (Ext.upd hp) upd_same⟩
theorem cut_from {j : Nat} (h : j ≤ xs.length) : cutV xs (some (j : Int)) none = xs.drop j := by
  unfold cutV
  rw [HT.sIx_nat, HT.sIx_none, Nat.min_eq_left h, List.take_of_length_le (by rw [List.length_drop]; omega)]
theorem cut_to {j : Nat} (h : j ≤ xs.length) : cutV xs none (some (j : Int)) = xs.take j := by
  unfold cutV
  rw [HT.sIx_none, HT.sIx_nat, List.drop_zero, Nat.sub_zero, Nat.min_eq_left h]
theorem nopart_of {σ : St} {H : Hp} {Q : Option Int → Hp → Prop} (h : Q none H) : tNoPart σ H Q := h
end
end L2
end
section
set_option Elab.async false
set_option linter.all false
set_option maxRecDepth 100000
set_option maxHeartbeats 2000000
/-! # a sign, many times: "#" * n -/
namespace L2
open PySem PySem.Spec PyProof.Rows
theorem foldl_sign (c : Nat) : ∀ (n : Nat) (a : Array Nat), (List.replicate n #[c]).foldl (· ++ ·) a = a ++ (List.replicate n c).toArray
  | 0, a => by simp
  | n + 1, a => by
    rw [List.replicate_succ, List.foldl_cons, foldl_sign c n, List.replicate_succ]
    apply Array.ext'
    simp
theorem mul_sign (c n : Nat) : Txt.mul ⟨#[c]⟩ (n : Int) = ⟨(List.replicate n c).toArray⟩ := by
  unfold Txt.mul
  by_cases h : (n : Int) < 1
  · have : n = 0 := by omega
    subst this
    rfl
  · rw [if_neg h]
    by_cases h1 : n = 1
    · subst h1
      rfl
    · have : ((n : Int) == 1 || Str.length ⟨#[c]⟩ == 0) = false := by
        have h2 : ((n : Int) == 1) = false := beq_eq_false_iff_ne.mpr (by omega)
        rw [h2]; rfl
      rw [if_neg (by rw [this]; exact Bool.false_ne_true), Int.toNat_natCast]
      show (⟨(List.replicate n #[c]).foldl (· ++ ·) #[]⟩ : Str) = _
      rw [foldl_sign]
      simp
section
variable {X : Cx}
def rMulS : R2 := fun x y H Q => ∃ c n : Nat, x = .str ⟨#[c]⟩ ∧ y = .int (n : Int) ∧ n ≤ 1000 ∧ Q (.str ⟨(List.replicate n c).toArray⟩) H
theorem op_mulS : OpR X (binaryOp .Mult) rMulS := by
  intro pins s σ H x y v u Q I rx ry h
  obtain ⟨c, n, rfl, rfl, hn, q⟩ := h
  obtain ⟨t, rfl⟩ := rx
  obtain ⟨t', rfl⟩ := ry
  refine SB.mul ⟨?_, ?_, ?_⟩ fun t' k => ⟨.str ⟨(List.replicate n c).toArray⟩, H, I.tok _, ⟨t', ?_⟩, q⟩
  · rw [decide_eq_false (by omega), decide_eq_false (by omega)]; rfl
  · intro h1 _
    have : (1 : Int) ≤ (2 ^ 63 - 1) / (n : Int) := by
      refine (Int.le_ediv_iff_mul_le (by omega)).mpr ?_
      omega
    show ¬ ((1 : Nat) : Int) > _
    omega
  · intro _ _
    show Builtin.Str.tooLong (1 * _) = false
    unfold Builtin.Str.tooLong
    rw [sizeLine_eq]
    simp
    omega
  · rw [mul_sign]
end
end L2
end
section
set_option Elab.async false
set_option linter.all false
set_option maxRecDepth 100000
set_option maxHeartbeats 2000000
/-! # list(zip(a, b)) of two tuples: a new list of new pairs; a zip whose pairs are kept. -/
open PySem
namespace ZZ
section
variable {M : Model} {A : Around} {E : Value → Shared → Prop} {s : Shared}
theorem wpp {α : Type} {a : α} {Q : α → Shared → Prop} (h : Q a s) : wpAny M A (pure a) Q E s := fun _ _ _ => h
theorem wp_alive {a : Addr} {Q : Option Obj → Shared → Prop} (h : Q (s.heap.get? a) s) : wpAny M A (loadIfAlive a) Q E s := fun Γ p hΓ => by
  unfold loadIfAlive
  rw [Sem.wp_loadIfAlive]
  exact h
end
variable {prog : Program} {w : World} {A : Around} {E : Value → Shared → Prop} {s : Shared}
theorem owned_held {z TI TO T : Addr} {f : Bool} {oT : Obj} (hz : IsZipHeld s.heap z TI TO T f) (hT : s.heap.get? T = some oT) {Q : Bool → Shared → Prop}
    (k : ∀ h' : Heap, IsZipHeld h' z TI TO T true → h'.objs.size = s.heap.objs.size → (∀ c o, c ≠ z → s.heap.get? c = some o → h'.get? c = some o) → Q false { s with heap := h' }) : wpAny (model prog w) A (Builtin.SmallTypes.ownedTupleIsFree (.ref z)) Q E s := by
  unfold Builtin.SmallTypes.ownedTupleIsFree
  refine wpAny_bind (wpAny_field hz rfl rfl ?_)
  show wpAny _ _ (loadIfAlive _ >>= _) _ _ _
  refine wpAny_bind (wp_alive ?_)
  rw [Int.toNat_natCast, hT]
  show wpAny _ _ (field _ _ >>= _) _ _ _
  refine wpAny_bind (wpAny_field hz rfl rfl ?_)
  cases f with
  | true => 
    exact wpp (k s.heap hz rfl fun c o _ e => e)
  | false =>
    show wpAny _ _ (setField _ _ _ >>= _) _ _ _
    refine wpAny_bind (wpAny_setField_rec hz (by show 1 < 5; decide) fun h' e sb => wpp (k h' e sb.1 fun c o hc e => (sb.2 c hc).trans e))
theorem zipT_next_held {z TI TO T i1 i2 l1 l2 : Addr} {f : Bool} {oT : Obj} {k1 k2 : Nat} {xs ys : Array Value} {x y : Value} {Q : Value → Shared → Prop}
   (ap : ZipApart z TI TO i1 i2 l1 l2) (hz : IsZipHeld s.heap z TI TO T f) (hT : s.heap.get? T = some oT) (hTI : IsPair s.heap TI (.ref i1) (.ref i2)) (h1 : s.heap.IsTupleIter i1 l1 k1) (h2 : s.heap.IsTupleIter i2 l2 k2) (t1 : s.heap.IsTuple l1 xs) (t2 : s.heap.IsTuple l2 ys)
   (ex : xs[k1]? = some x) (ey : ys[k2]? = some y)
   (k : ∀ h' : Heap, IsZipHeld h' z TI TO T true → h'.IsTupleIter i1 l1 (k1 + 1) → h'.IsTupleIter i2 l2 (k2 + 1) → IsPair h' s.heap.objs.size x y → h'.objs.size = s.heap.objs.size + 1 → (∀ c o, c ≠ z → c ≠ i1 → c ≠ i2 → s.heap.get? c = some o → h'.get? c = some o) → Q (.ref s.heap.objs.size) { s with heap := h' }) :
   wpAny (model prog w) A (Builtin.«zip.__next__» { pos := [.ref z] }) (fun fin s' => ∃ v, fin = .done (.ret v) ∧ Q v s') E s := by
  unfold Builtin.«zip.__next__»
  refine wpAny_bind ?_
  show wpAny _ _ (pure _) _ _ _
  refine wpp ?_
  refine wpAny_bind (wpAny_field hz rfl rfl ?_)
  refine wpAny_bind (wpAny_field hz rfl rfl ?_)
  refine wpAny_bind (wpAny_seqItems hTI rfl ?_)
  show wpAny _ _ (Builtin.SmallTypes.ownedTupleIsFree _ >>= _) _ _ _
  refine wpAny_bind (owned_held hz hT fun ha za sza ka => ?_)
  have h1a := h1.imp fun o q => And.imp_left (ka i1 o ap.i1z) q
  have h2a := h2.imp fun o q => And.imp_left (ka i2 o ap.i2z) q
  have t1a := t1.imp fun o q => And.imp_left (ka l1 o ap.l1z) q
  have t2a := t2.imp fun o q => And.imp_left (ka l2 o ap.l2z) q
  show wpAny _ _ (forIn #[Value.ref i1, Value.ref i2] (none, #[]) _ >>= _) _ _ _
  refine wpAny_bind (MeetsSeq2.wpAny_forIn_array _ (fun l b s' => (l = [.ref i1, .ref i2] ∧ b = (none, #[]) ∧ s' = { s with heap := ha }) ∨
    (l = [.ref i2] ∧ b = (none, #[x]) ∧ ∃ h' : Heap, s' = { s with heap := h' } ∧ h'.IsTupleIter i1 l1 (k1 + 1) ∧ Heap.SameBut i1 ha h') ∨
    (l = [] ∧ b = (none, #[x, y]) ∧ ∃ h' h'' : Heap, s' = { s with heap := h'' } ∧ h'.IsTupleIter i1 l1 (k1 + 1) ∧ Heap.SameBut i1 ha h' ∧ h''.IsTupleIter i2 l2 (k2 + 1) ∧ Heap.SameBut i2 h' h'')) _ ?_ ?_ _ _ (.inl ⟨rfl, rfl, rfl⟩))
  · rintro it rest b s' (⟨el, rfl, rfl⟩ | ⟨el, rfl, h', rfl, g1, g2⟩ | ⟨el, _⟩)
    · cases el
      refine wpAny_bind ?_
      refine wpAny_holding ?_
      show wpAny _ _ (Builtin.SmallTypes.nextOf _ >>= fun r => pure (some r)) _ _ _
      refine wpAny_bind (RZ.nextOf_tuple_item h1a t1a ex fun h' q sb => wpp ?_)
      refine wpp ?_
      exact .inr (.inl ⟨rfl, rfl, h', rfl, q, sb⟩)
    · cases el
      refine wpAny_bind ?_
      refine wpAny_holding ?_
      show wpAny _ _ (Builtin.SmallTypes.nextOf _ >>= fun r => pure (some r)) _ _ _
      have kb : ∀ c, c ≠ i1 → h'.get? c = ha.get? c := g2.2
      refine wpAny_bind (RZ.nextOf_tuple_item (h2a.imp fun o q => And.imp_left (fun e => (kb i2 ap.i12.symm).trans e) q) (t2a.imp fun o q => And.imp_left (fun e => (kb l2 ap.l2i1).trans e) q) ey fun h'' q sb => wpp ?_)
      refine wpp ?_
      exact .inr (.inr ⟨rfl, rfl, h', h'', rfl, g1, g2, q, sb⟩)
    · cases el
  · rintro b s' (⟨el, _⟩ | ⟨el, _⟩ | ⟨_, rfl, h', h'', rfl, g1, g2, g3, g4⟩)
    · cases el
    · cases el
    have hs : h''.objs.size = s.heap.objs.size := g4.1.trans (g2.1.trans sza)
    have kk : ∀ c o, c ≠ i1 → c ≠ i2 → ha.get? c = some o → (h''.push { cls := .type "tuple", data := .seq [x, y].toArray }).get? c = some o := fun c o n1 n2 e => Heap.get?_push_of_some _ ((g4.2 c n2).trans ((g2.2 c n1).trans e))
    show wpAny _ _ (newTuple [x, y] >>= fun v => ret v) _ _ _
    refine wpAny_bind (wpAny_newTuple ?_ (show 2 ≤ sizeLine by decide +kernel))
    refine wpp ⟨_, rfl, ?_⟩
    have hp := Heap.get?_push_size h'' (o := { cls := .type "tuple", data := .seq [x, y].toArray }) rfl
    have q := k (h''.push { cls := .type "tuple", data := .seq [x, y].toArray }) (kk _ _ ap.i1z.symm ap.i2z.symm za) (g1.imp fun o q => And.imp_left (fun e => Heap.get?_push_of_some _ ((g4.2 i1 ap.i12).trans e)) q) (g3.imp fun o q => And.imp_left (fun e => Heap.get?_push_of_some _ e) q) (by rw [← hs]; exact hp) (by rw [← hs]; exact Array.size_push ..) fun c o n1 n2 n3 e => kk c o n2 n3 (ka c o n1 e)
    rw [← hs] at q
    exact q
theorem wp_attempt {M : Model} {α : Type} {m : Sem α} {Q : Except Value α → Shared → Prop} (h : wpAny M A m (fun a s' => Q (.ok a) s') (fun e s' => Q (.error e) s') s) : wpAny M A m.attempt Q E s := fun Γ p hΓ => by
  rw [Sem.wp_attempt]
  exact h Γ p hΓ
theorem zipT_next_held_end {z TI TO T i1 i2 l1 l2 : Addr} {f : Bool} {oT : Obj} {k1 : Nat} {xs : Array Value} {Q : PySem.Fin → Shared → Prop}
   (hA : A.handled = none) (ap : ZipApart z TI TO i1 i2 l1 l2) (hz : IsZipHeld s.heap z TI TO T f) (hT : s.heap.get? T = some oT) (hTI : IsPair s.heap TI (.ref i1) (.ref i2)) (h1 : s.heap.IsTupleIter i1 l1 k1) (t1 : s.heap.IsTuple l1 xs)
   (ex : xs[k1]? = none)
   (k : ∀ (h' : Heap) (e : Addr), (∀ c o, c ≠ z → c ≠ i1 → s.heap.get? c = some o → h'.get? c = some o) → (∃ o, h'.get? e = some o ∧ o.cls = .type "StopIteration") → E (.ref e) { s with heap := h' }) :
   wpAny (model prog w) A (Builtin.«zip.__next__» { pos := [.ref z] }) Q E s := by
  unfold Builtin.«zip.__next__»
  refine wpAny_bind ?_
  show wpAny _ _ (pure _) _ _ _
  refine wpp ?_
  refine wpAny_bind (wpAny_field hz rfl rfl ?_)
  refine wpAny_bind (wpAny_field hz rfl rfl ?_)
  refine wpAny_bind (wpAny_seqItems hTI rfl ?_)
  show wpAny _ _ (Builtin.SmallTypes.ownedTupleIsFree _ >>= _) _ _ _
  refine wpAny_bind (owned_held hz hT fun ha za sza ka => ?_)
  have h1a := h1.imp fun o q => And.imp_left (ka i1 o ap.i1z) q
  have t1a := t1.imp fun o q => And.imp_left (ka l1 o ap.l1z) q
  show wpAny _ _ (forIn #[Value.ref i1, Value.ref i2] (none, #[]) _ >>= _) _ _ _
  refine wpAny_bind (MeetsSeq2.wpAny_forIn_array _ (fun l b s' => l = [.ref i1, .ref i2] ∧ b = (none, #[]) ∧ s' = { s with heap := ha }) _ ?_ ?_ _ _ ⟨rfl, rfl, rfl⟩)
  · rintro it rest b s' ⟨el, rfl, rfl⟩
    cases el
    refine wpAny_bind ?_
    refine wpAny_holding ?_
    show wpAny _ _ (Builtin.SmallTypes.nextOf _ >>= fun r => pure (some r)) _ _ _
    exact wpAny_bind (RZ.nextOf_tuple_end hA h1a t1a ex fun h' e sb st => k h' e (fun c o n1 n2 e => sb c o n2 (ka c o n1 e)) st)
  · rintro b s' ⟨el, _⟩
    cases el
theorem pyNext_zip_item {z TI TO T i1 i2 l1 l2 : Addr} {f : Bool} {oT : Obj} {k1 k2 : Nat} {xs ys : Array Value} {x y : Value} {Q : Option Value → Shared → Prop}
   (ap : ZipApart z TI TO i1 i2 l1 l2) (hz : IsZipHeld s.heap z TI TO T f) (hT : s.heap.get? T = some oT) (hTI : IsPair s.heap TI (.ref i1) (.ref i2)) (h1 : s.heap.IsTupleIter i1 l1 k1) (h2 : s.heap.IsTupleIter i2 l2 k2) (t1 : s.heap.IsTuple l1 xs) (t2 : s.heap.IsTuple l2 ys)
   (ex : xs[k1]? = some x) (ey : ys[k2]? = some y)
   (k : ∀ h' : Heap, IsZipHeld h' z TI TO T true → h'.IsTupleIter i1 l1 (k1 + 1) → h'.IsTupleIter i2 l2 (k2 + 1) → IsPair h' s.heap.objs.size x y → h'.objs.size = s.heap.objs.size + 1 → (∀ c o, c ≠ z → c ≠ i1 → c ≠ i2 → s.heap.get? c = some o → h'.get? c = some o) → Q (some (.ref s.heap.objs.size)) { s with heap := h' }) :
   wpAny (model prog w) A (pyNext (.ref z)) Q E s := by
  unfold pyNext
  have hty : s.TypeIs (.ref z) "zip" := ⟨_, hz, rfl⟩
  refine wpAny_bind (wp_attempt ?_)
  refine wpAny_callSpecial?_slot hty F.slot_zip_next ?_
  refine wpAny_call_entry F.slot_zip_next hty F.entry_zip_next ?_
  refine zipT_next_held ap hz hT hTI h1 h2 t1 t2 ex ey fun h' a1 a2 a3 a4 a5 a6 => ?_
  exact wpp (k h' a1 a2 a3 a4 a5 a6)
theorem sub_stop : isSubtype (.type "StopIteration") (.type "StopIteration") = pure true := by rfl
theorem pyNext_zip_end {z TI TO T i1 i2 l1 l2 : Addr} {f : Bool} {oT : Obj} {k1 : Nat} {xs : Array Value} {Q : Option Value → Shared → Prop}
   (hA : A.handled = none) (ap : ZipApart z TI TO i1 i2 l1 l2) (hz : IsZipHeld s.heap z TI TO T f) (hT : s.heap.get? T = some oT) (hTI : IsPair s.heap TI (.ref i1) (.ref i2)) (h1 : s.heap.IsTupleIter i1 l1 k1) (t1 : s.heap.IsTuple l1 xs)
   (ex : xs[k1]? = none)
   (k : ∀ (h' : Heap), (∀ c o, c ≠ z → c ≠ i1 → s.heap.get? c = some o → h'.get? c = some o) → Q none { s with heap := h' }) :
   wpAny (model prog w) A (pyNext (.ref z)) Q E s := by
  unfold pyNext
  have hty : s.TypeIs (.ref z) "zip" := ⟨_, hz, rfl⟩
  refine wpAny_bind (wp_attempt ?_)
  refine wpAny_callSpecial?_slot hty F.slot_zip_next ?_
  refine wpAny_call_entry F.slot_zip_next hty F.entry_zip_next ?_
  refine zipT_next_held_end hA ap hz hT hTI h1 t1 ex fun h' e kk st => ?_
  show wpAny _ _ (isInstance (.ref e) (.type "StopIteration") >>= _) _ _ _
  exact wpAny_bind (wpAny_isInstance (T := "StopIteration") (b := true) st sub_stop (wpp (k h' kk)))
/-- a zip of two tuples, i pairs drawn and kept -/
def ZSt (h : Heap) (z TI TO i1 i2 l1 l2 : Addr) (xs ys : Array Value) (i : Nat) : Prop :=
  ((∃ a b, IsZip h z TI TO .none ∧ IsPair h TO a b) ∨ ∃ T f oT, IsZipHeld h z TI TO T f ∧ h.get? T = some oT) ∧
  IsPair h TI (.ref i1) (.ref i2) ∧ h.IsTupleIter i1 l1 i ∧ h.IsTupleIter i2 l2 i ∧ h.IsTuple l1 xs ∧ h.IsTuple l2 ys
theorem ZSt.keep {h h' : Heap} {z TI TO i1 i2 l1 l2 : Addr} {xs ys : Array Value} {i : Nat} (q : ZSt h z TI TO i1 i2 l1 l2 xs ys i) (k : ∀ c o, h.get? c = some o → ∃ o', h'.get? c = some o') (k2 : ∀ c ∈ [z, TI, TO, i1, i2, l1, l2], h'.get? c = h.get? c) : ZSt h' z TI TO i1 i2 l1 l2 xs ys i := by
  obtain ⟨q1, q2, q3, q4, q5, q6⟩ := q
  have g : ∀ c, c ∈ [z, TI, TO, i1, i2, l1, l2] → ∀ o, h.get? c = some o → h'.get? c = some o := fun c hc o e => (k2 c hc).trans e
  refine ⟨?_, g _ (by simp) _ q2, q3.imp fun o q => And.imp_left (g _ (by simp) _) q, q4.imp fun o q => And.imp_left (g _ (by simp) _) q, q5.imp fun o q => And.imp_left (g _ (by simp) _) q, q6.imp fun o q => And.imp_left (g _ (by simp) _) q⟩
  rcases q1 with ⟨a, b, e1, e2⟩ | ⟨T, f, oT, e1, e2⟩
  · exact .inl ⟨a, b, g _ (by simp) _ e1, g _ (by simp) _ e2⟩
  · obtain ⟨o', e'⟩ := k T oT e2
    exact .inr ⟨T, f, o', g _ (by simp) _ e1, e'⟩
theorem next_item {z TI TO i1 i2 l1 l2 : Addr} {xs ys : Array Value} {i : Nat} {x y : Value} {Q : Option Value → Shared → Prop}
   (ap : ZipApart z TI TO i1 i2 l1 l2) (q : ZSt s.heap z TI TO i1 i2 l1 l2 xs ys i) (ex : xs[i]? = some x) (ey : ys[i]? = some y)
   (k : ∀ h' : Heap, ZSt h' z TI TO i1 i2 l1 l2 xs ys (i + 1) → IsPair h' s.heap.objs.size x y → (∀ c o, c ∉ [z, TO, i1, i2] → s.heap.get? c = some o → h'.get? c = some o) → Q (some (.ref s.heap.objs.size)) { s with heap := h' }) :
   wpAny (model prog w) A (pyNext (.ref z)) Q E s := by
  obtain ⟨q1, q2, q3, q4, q5, q6⟩ := q
  rcases q1 with ⟨a, b, e1, e2⟩ | ⟨T, f, oT, e1, e2⟩
  · refine RZ.pyNext_zipT_item ap e1 q2 e2 q3 q4 q5 q6 ex ey fun h' a1 a2 a3 a4 a5 a6 a7 => ?_
    refine k h' ⟨.inr ⟨_, false, _, a1, a5⟩, a7 _ _ ap.TIz ap.TITO ap.TIi1 ap.TIi2 q2, a3, a4, q5.imp fun o q => And.imp_left (a7 _ _ ap.l1z ap.l1TO ap.l1i1 ap.l1i2) q, q6.imp fun o q => And.imp_left (a7 _ _ ap.l2z ap.l2TO ap.l2i1 ap.l2i2) q⟩ a5 fun c o hc e => ?_
    simp only [List.mem_cons, List.not_mem_nil, or_false, not_or] at hc
    exact a7 c o hc.1 hc.2.1 hc.2.2.1 hc.2.2.2 e
  · refine pyNext_zip_item ap e1 e2 q2 q3 q4 q5 q6 ex ey fun h' a1 a3 a4 a5 a6 a7 => ?_
    have hT' : ∃ o, h'.get? T = some o := by
      by_cases c1 : T = z
      · subst c1; exact ⟨_, a1⟩
      by_cases c2 : T = i1
      · subst c2; exact a3.imp fun o q => q.1
      by_cases c3 : T = i2
      · subst c3; exact a4.imp fun o q => q.1
      exact ⟨_, a7 _ _ c1 c2 c3 e2⟩
    obtain ⟨o', e'⟩ := hT'
    refine k h' ⟨.inr ⟨_, _, _, a1, e'⟩, a7 _ _ ap.TIz ap.TIi1 ap.TIi2 q2, a3, a4, q5.imp fun o q => And.imp_left (a7 _ _ ap.l1z ap.l1i1 ap.l1i2) q, q6.imp fun o q => And.imp_left (a7 _ _ ap.l2z ap.l2i1 ap.l2i2) q⟩ a5 fun c o hc e => ?_
    simp only [List.mem_cons, List.not_mem_nil, or_false, not_or] at hc
    exact a7 c o hc.1 hc.2.2.1 hc.2.2.2 e
theorem next_end {z TI TO i1 i2 l1 l2 : Addr} {xs ys : Array Value} {i : Nat} {Q : Option Value → Shared → Prop}
   (hA : A.handled = none) (ap : ZipApart z TI TO i1 i2 l1 l2) (q : ZSt s.heap z TI TO i1 i2 l1 l2 xs ys i) (ex : xs[i]? = none)
   (k : ∀ h' : Heap, (∀ c o, c ∉ [z, TO, i1, i2] → s.heap.get? c = some o → h'.get? c = some o) → Q none { s with heap := h' }) :
   wpAny (model prog w) A (pyNext (.ref z)) Q E s := by
  obtain ⟨q1, q2, q3, q4, q5, q6⟩ := q
  rcases q1 with ⟨a, b, e1, e2⟩ | ⟨T, f, oT, e1, e2⟩
  · refine RZ.pyNext_zipT_end hA ap e1 q2 e2 q3 q4 q5 q6 (.inl ex) fun h' a7 => k h' fun c o hc e => ?_
    simp only [List.mem_cons, List.not_mem_nil, or_false, not_or] at hc
    exact a7 c o hc.1 hc.2.1 hc.2.2.1 hc.2.2.2 e
  · refine pyNext_zip_end hA ap e1 e2 q2 q3 q5 ex fun h' a7 => k h' fun c o hc e => ?_
    simp only [List.mem_cons, List.not_mem_nil, or_false, not_or] at hc
    exact a7 c o hc.1 hc.2.2.1 e
open L2
theorem fp_upd {X : Cx} {pins : List (Addr × Obj)} {H : Hp} {b T : Addr} {o : HO} (h : FpOk X pins H b) (n : b ≠ T) : FpOk X pins (upd H T o) b := ⟨(upd_ne n).trans h.1, h.2⟩
theorem get_lt {h : Heap} {a : Addr} {o : Obj} (e : h.get? a = some o) : a < h.objs.size := by
  rcases Nat.lt_or_ge a h.objs.size with c | c
  · exact c
  · unfold Heap.get? at e
    rw [Array.getElem?_eq_none c] at e
    cases e
theorem loopZ {X : Cx} {pins : List (Addr × Obj)} {σ : St} {R : Result → Shared → Prop} {z TI TO i1 i2 l1 l2 S : Addr} {xs ys : List V} {rx ry : Array Value} (hA : A.handled = none) (ap : ZipApart z TI TO i1 i2 l1 l2)
    (hx : Vals xs rx.toList) (hy : Vals ys ry.toList) (hl : xs.length = ys.length) (hsz : xs.length ≤ 1000) (res : Value) (hS : S ∉ [z, TI, TO, i1, i2, l1, l2]) :
    ∀ (k i : Nat) (s : Shared) (H : Hp) (ts : List Addr) (c : Nat), xs.length - i = k → i ≤ xs.length → Inv X pins σ H s → (∀ b ∈ [z, TI, TO, i1, i2], FpOk X pins H b ∧ b < s.heap.objs.size) → H S = some (.lst (ts.map V.ref)) →
      s.heap.get? S = some { cls := .type "list", data := .seq (ts.map Value.ref).toArray c } → ts.length = i → ZSt s.heap z TI TO i1 i2 l1 l2 rx ry i →
      (∀ (j : Nat) (t : Addr), ts[j]? = some t → ∃ x y, xs[j]? = some x ∧ ys[j]? = some y ∧ H t = some (.tup [x, y])) →
      (∀ (s' : Shared) (H' : Hp) (ts' : List Addr), Inv X pins σ H' s' → (∀ b o, b ≠ S → H b = some o → H' b = some o) → H' S = some (.lst (ts'.map V.ref)) → ts'.length = xs.length →
        (∀ (j : Nat) (t : Addr), ts'[j]? = some t → ∃ x y, xs[j]? = some x ∧ ys[j]? = some y ∧ H' t = some (.tup [x, y])) → R (.ok (.ret res)) s') →
      codeAny (model X.prog X.w) A (.builtin "list.extend.loop" { pos := [.ref S, .ref z, res] }) R s := by
  intro k
  induction k with
  | zero =>
    intro i s H ts c hk hi I fp hH hs hlen q hts fin
    have e : i = xs.length := by omega
    refine codeAny_builtin F.entry_extend_loop ?_
    unfold Builtin.«list.extend.loop»
    show wpAny _ _ (pyNext (.ref z) >>= _) _ _ _
    refine wpAny_bind (next_end (by exact hA) ap q (by have := hx.length; rw [Array.getElem?_eq_none]; rw [← Array.length_toList]; omega) fun h' kk => ?_)
    refine wpp ?_
    refine fin _ H ts (I.turnedL (t' := s.toks) (ch := [z, TO, i1, i2]) kk fun b hb => (fp b ?_).1) (fun b o _ e => e) hH (by omega) hts
    simp only [List.mem_cons, List.not_mem_nil, or_false] at hb ⊢
    rcases hb with hb | hb | hb | hb <;> simp [hb]
  | succ k ih =>
    intro i s H ts c hk hi I fp hH hs hlen q hts fin
    refine codeAny_builtin F.entry_extend_loop ?_
    unfold Builtin.«list.extend.loop»
    show wpAny _ _ (pyNext (.ref z) >>= _) _ _ _
    have hi2 : i < xs.length := by omega
    have hi3 : i < ys.length := by omega
    obtain ⟨u, eu, ru⟩ := LiI.paired_get hx (List.getElem?_eq_getElem hi2)
    obtain ⟨v, ev, rv⟩ := LiI.paired_get hy (List.getElem?_eq_getElem hi3)
    refine wpAny_bind (next_item ap q (x := u) (y := v) (by rw [← Array.getElem?_toList]; exact eu) (by rw [← Array.getElem?_toList]; exact ev) fun h' q' hp kk => ?_)
    show wpAny _ _ (Builtin.List.listUpdate (.ref S) _ >>= _) _ _ _
    simp only [List.mem_cons, List.not_mem_nil, or_false, not_or] at hS
    have hS' : h'.get? S = some { cls := .type "list", data := .seq (ts.map Value.ref).toArray c } := kk S _ (by simp [hS]) hs
    have I1 : Inv X pins σ (upd H s.heap.objs.size (.tup [xs[i], ys[i]])) { s with heap := h' } := I.turnedNew (t' := s.toks) (ch := [z, TO, i1, i2]) kk (fun b hb => (fp b (by
      simp only [List.mem_cons, List.not_mem_nil, or_false] at hb ⊢
      rcases hb with hb | hb | hb | hb <;> simp [hb])).1) (Nat.le_refl _) ⟨(show 2 ≤ sizeLine by decide +kernel), [u, v], .cons ru (.cons rv .nil), _, hp, rfl, _, rfl⟩
    have nT : H s.heap.objs.size = none := I.hok.fresh (Nat.le_refl _)
    have hST : S ≠ s.heap.objs.size := fun e => by rw [← e, hH] at nT; cases nT
    refine wpAny_bind (PyProof.Rows.listUpdate_at hS' rfl ?_ ?_ ?_)
    rotate_left
    · simp; exact Nat.le_trans (show ts.length ≤ 1000 by omega) (by decide +kernel)
    · simp; exact Nat.le_trans (show ts.length ≤ 1000 by omega) (by decide +kernel)
    refine wpp ⟨plainId_quiet F.plain_extend_loop _, ?_⟩
    have ep : (ts.map Value.ref).toArray.push (.ref s.heap.objs.size) = ((ts ++ [s.heap.objs.size]).map Value.ref).toArray := by simp
    obtain ⟨n', hf⟩ : ∃ n', Obj.mapSeq (fun x_1 => x_1.push (.ref s.heap.objs.size)) { cls := .type "list", data := .seq (ts.map Value.ref).toArray c } = { cls := .type "list", data := .seq ((ts ++ [s.heap.objs.size]).map Value.ref).toArray n' } := ⟨_, by
      rw [← ep]
      rfl⟩
    have hH1 : upd H s.heap.objs.size (.tup [xs[i], ys[i]]) S = some (.lst (ts.map V.ref)) := (upd_ne hST).trans hH
    have I2 := I1.lstUpd (p := S) (xs := ts.map V.ref) (ys := (ts ++ [s.heap.objs.size]).map V.ref) (its := ts.map Value.ref) hH1 hS' hf (LiI.vals_refs _) (by simp; exact Nat.le_trans (show ts.length + 1 ≤ 1001 by omega) (by decide +kernel)) s.toks
    refine ih (i + 1) _ _ (ts ++ [s.heap.objs.size]) _ (by omega) (by omega) I2 (fun b hb => ?_) upd_same ((Heap.get?_update_self _ hS' (by rw [hf]; rfl)).trans (congrArg some hf)) (by simp [hlen]) ?_ (fun j t e => ?_) (fun s' H' ts' I' kp hS2 hl2 ht2 => fin s' H' ts' I' (fun b o hb e => kp b o hb ?_) hS2 hl2 ht2)
    · have hb2 : b ≠ s.heap.objs.size := Nat.ne_of_lt (fp b hb).2
      have hbS : b ≠ S := by
        intro e; subst e
        simp only [List.mem_cons, List.not_mem_nil, or_false] at hb
        simp [hS] at hb
      refine ⟨fp_upd (fp_upd (fp b hb).1 hb2) hbS, Nat.lt_trans (fp b hb).2 (get_lt (o := _) ((Heap.get?_update_other _ _ hST).trans hp))⟩
    · refine q'.keep (fun c' o' e => ?_) fun c' hc' => Heap.get?_update_other _ _ fun e => ?_
      · by_cases hc : S = c'
        · subst hc
          exact ⟨_, Heap.get?_update_self _ hS' (by rw [hf]; rfl)⟩
        · exact ⟨o', (Heap.get?_update_other _ _ hc).trans e⟩
      · subst e
        simp only [List.mem_cons, List.not_mem_nil, or_false] at hc'
        simp [hS] at hc'
    · by_cases hj : j < ts.length
      · rw [List.getElem?_append_left hj] at e
        obtain ⟨x, y, e1, e2, e3⟩ := hts j t e
        refine ⟨x, y, e1, e2, ?_⟩
        rw [upd_ne (fun z => by rw [z, hH] at e3; cases e3), upd_ne (fun z => by rw [z, nT] at e3; cases e3)]
        exact e3
      · rw [List.getElem?_append_right (by omega)] at e
        have hj0 : j - ts.length = 0 := by
          cases hh : j - ts.length with
          | zero => rfl
          | succ n => rw [hh] at e; cases e
        rw [hj0] at e
        cases e
        have hji : j = i := by omega
        subst hji
        exact ⟨xs[j], ys[j], List.getElem?_eq_getElem hi2, List.getElem?_eq_getElem hi3, (upd_ne hST.symm).trans upd_same⟩
    · rw [upd_ne hb, upd_ne (fun z => by rw [z, nT] at e; cases e)]
      exact e
theorem zip_no_len : typeLookup (.type "zip") "__len__" = pure none := by rfl
theorem zip_no_hint : typeLookup (.type "zip") "__length_hint__" = pure none := by rfl
theorem wp_rule {M : Model} {α : Type} {nm : String} {f : Unit → Sem α} {Q : α → Shared → Prop} (h : wpAny M A (f ()) Q E s) : wpAny M A (rule nm >>= f) Q E s := fun Γ p hΓ => h Γ p hΓ
theorem hint_zip {z : Addr} {Q : Bool → Shared → Prop} (hty : s.TypeIs (.ref z) "zip") (k : Q true s) : wpAny (model prog w) A (Builtin.List.listLengthHint (.ref z)) Q E s := by
  unfold Builtin.List.listLengthHint
  refine wpAny_bind (wpAny_specialOf hty zip_no_len ?_)
  show wpAny _ _ (specialOf (.ref z) "__length_hint__" >>= _) _ _ _
  refine wpAny_bind (wpAny_specialOf hty zip_no_hint ?_)
  exact wpp k
theorem extendZ {X : Cx} {pins : List (Addr × Obj)} {σ : St} {R : Result → Shared → Prop} {z TI TO i1 i2 l1 l2 S : Addr} {xs ys : List V} {rx ry : Array Value} {H : Hp} {c : Nat} (hA : A.handled = none) (ap : ZipApart z TI TO i1 i2 l1 l2)
    (hx : Vals xs rx.toList) (hy : Vals ys ry.toList) (hl : xs.length = ys.length) (hsz : xs.length ≤ 1000) (res : Value) (hS : S ∉ [z, TI, TO, i1, i2, l1, l2]) (I : Inv X pins σ H s) (fp : ∀ b ∈ [z, TI, TO, i1, i2], FpOk X pins H b ∧ b < s.heap.objs.size) (hH : H S = some (.lst []))
    (hs : s.heap.get? S = some { cls := .type "list", data := .seq #[] c }) (hz : ∃ a b, IsZip s.heap z TI TO .none ∧ IsPair s.heap TO a b) (q2 : IsPair s.heap TI (.ref i1) (.ref i2)) (q3 : s.heap.IsTupleIter i1 l1 0) (q4 : s.heap.IsTupleIter i2 l2 0) (q5 : s.heap.IsTuple l1 rx) (q6 : s.heap.IsTuple l2 ry)
    (fin : ∀ (s' : Shared) (H' : Hp) (ts' : List Addr), Inv X pins σ H' s' → (∀ b o, b ≠ S → H b = some o → H' b = some o) → H' S = some (.lst (ts'.map V.ref)) → ts'.length = xs.length →
        (∀ (j : Nat) (t : Addr), ts'[j]? = some t → ∃ x y, xs[j]? = some x ∧ ys[j]? = some y ∧ H' t = some (.tup [x, y])) → R (.ok (.ret res)) s') :
    wpAny (model X.prog X.w) A.in1 (Builtin.List.listExtendWith (.ref S) (.ref z) res) (fun fin s' => match fin with
      | .done f => R (.ok f) s'
      | .again c' => c'.quiet = true ∧ codeAny (model X.prog X.w) A c' R s') (fun e s' => R (.error e) s') s := by
  unfold Builtin.List.listExtendWith
  obtain ⟨a0, b0, hz1, hz2⟩ := id hz
  have hty : s.TypeIs (.ref z) "zip" := ⟨_, hz1, rfl⟩
  refine wpAny_bind (wpAny_typeOf hty ?_)
  have hSz : S ≠ z := fun e => hS (by simp [e])
  have c1 : (Builtin.List.listSameRef (.ref S) (.ref z) || (Value.type "zip") == Value.type "list" || (Value.type "zip") == Value.type "tuple") = false := by
    have : Builtin.List.listSameRef (.ref S) (.ref z) = false := by simp [Builtin.List.listSameRef, hSz]
    rw [this]; rfl
  rw [c1]
  show wpAny _ _ (pyIter (.ref z) >>= _) _ _ _
  refine wpAny_bind (wpAny_pyIter_zip hz1 ?_)
  refine wpAny_bind (wpAny_holding (hint_zip hty ?_))
  show wpAny _ _ (rule "list.extend.makes-room" >>= fun _ => Builtin.List.listTouch (.ref S) >>= fun _ => again (.builtin "list.extend.loop" { pos := [.ref S, .ref z, res] })) _ _ _
  refine wp_rule ?_
  refine wpAny_bind ?_
  unfold Builtin.List.listTouch
  refine wpAny_bind (PyProof.Rows.listUpdate_at hs rfl ?_ (by simp) (by simp))
  have f1 : ∃ n', Obj.mapSeq (fun x => x.push Value.none) { cls := .type "list", data := .seq #[] c } = { cls := .type "list", data := .seq #[Value.none] n' } := ⟨_, rfl⟩
  obtain ⟨n1, f1⟩ := f1
  have g1 : (s.heap.update S (Obj.mapSeq fun x => x.push Value.none)).get? S = some { cls := .type "list", data := .seq #[Value.none] n1 } := (Heap.get?_update_self _ hs (by rw [f1]; rfl)).trans (congrArg some f1)
  have I1 := I.lstUpd (p := S) (xs := []) (ys := [.non]) (its := []) (its' := [.none]) hH hs f1 (.cons rfl .nil) (show 1 ≤ sizeLine by decide +kernel) s.toks
  have f2 : ∃ n', Obj.mapSeq (fun x => x.pop) { cls := .type "list", data := .seq #[Value.none] n1 } = { cls := .type "list", data := .seq #[] n' } := ⟨_, rfl⟩
  obtain ⟨n2, f2⟩ := f2
  refine PyProof.Rows.listUpdate_at g1 rfl ?_ (show 1 ≤ sizeLine by decide +kernel) (by simp)
  have g2 : ((s.heap.update S (Obj.mapSeq fun x => x.push Value.none)).update S (Obj.mapSeq fun x => x.pop)).get? S = some { cls := .type "list", data := .seq #[] n2 } := (Heap.get?_update_self _ g1 (by rw [f2]; rfl)).trans (congrArg some f2)
  have I2 := I1.lstUpd (p := S) (xs := [.non]) (ys := []) (its := [.none]) (its' := []) upd_same g1 f2 .nil (Nat.zero_le _) s.toks
  have eo : ∀ b, S ≠ b → ((s.heap.update S (Obj.mapSeq fun x => x.push Value.none)).update S (Obj.mapSeq fun x => x.pop)).get? b = s.heap.get? b := fun b h => (Heap.get?_update_other _ _ h).trans (Heap.get?_update_other _ _ h)
  refine wpp ⟨plainId_quiet F.plain_extend_loop _, ?_⟩
  refine loopZ hA ap hx hy hl hsz res hS xs.length 0 _ _ [] _ (by omega) (Nat.zero_le _) I2 (fun b hb => ?_) upd_same g2 rfl ?_ (fun j t e => by simp at e) fun s' H' ts' I' kp hS2 hl2 ht2 => fin s' H' ts' I' (fun b o hb e => kp b o hb ?_) hS2 hl2 ht2
  · have hbS : b ≠ S := fun e => hS (by
      subst e
      simp only [List.mem_cons, List.not_mem_nil, or_false] at hb ⊢
      rcases hb with h | h | h | h | h <;> simp [h])
    refine ⟨fp_upd (fp_upd (fp b hb).1 hbS) hbS, ?_⟩
    have e1 : ∀ (h : Heap) (f : Obj → Obj), (h.update S f).objs.size = h.objs.size := fun h f => by simp [Heap.update]
    rw [e1, e1]; exact (fp b hb).2
  · refine ZSt.keep (h := s.heap) ⟨.inl hz, q2, q3, q4, q5, q6⟩ (fun c' o' e => ?_) fun c' hc' => eo _ fun e => hS (by rw [e]; exact hc')
    by_cases hc : S = c'
    · subst hc; exact ⟨_, g2⟩
    · exact ⟨o', (eo _ hc).trans e⟩
  · rw [upd_ne hb, upd_ne hb]; exact e
theorem listZ {X : Cx} {pins : List (Addr × Obj)} {σ : St} {Q : Value → Shared → Prop} {z TI TO i1 i2 l1 l2 : Addr} {xs ys : List V} {rx ry : Array Value} {H : Hp} (hA : A.handled = none) (ap : ZipApart z TI TO i1 i2 l1 l2)
    (hx : Vals xs rx.toList) (hy : Vals ys ry.toList) (hl : xs.length = ys.length) (hsz : xs.length ≤ 1000) (I : Inv X pins σ H s) (fp : ∀ b ∈ [z, TI, TO, i1, i2], FpOk X pins H b ∧ b < s.heap.objs.size) (hb1 : l1 < s.heap.objs.size) (hb2 : l2 < s.heap.objs.size)
    (hz : ∃ a b, IsZip s.heap z TI TO .none ∧ IsPair s.heap TO a b) (q2 : IsPair s.heap TI (.ref i1) (.ref i2)) (q3 : s.heap.IsTupleIter i1 l1 0) (q4 : s.heap.IsTupleIter i2 l2 0) (q5 : s.heap.IsTuple l1 rx) (q6 : s.heap.IsTuple l2 ry)
    (fin : ∀ (s' : Shared) (H' : Hp) (S : Addr) (ts' : List Addr), Inv X pins σ H' s' → H S = none → (∀ b o, H b = some o → H' b = some o) → H' S = some (.lst (ts'.map V.ref)) → ts'.length = xs.length →
        (∀ (j : Nat) (t : Addr), ts'[j]? = some t → ∃ x y, xs[j]? = some x ∧ ys[j]? = some y ∧ H' t = some (.tup [x, y])) → Q (.ref S) s') :
    wpAny (model X.prog X.w) A (call (.type "list") [.ref z]) Q E s := by
  have nS : H s.heap.objs.size = none := I.hok.fresh (Nat.le_refl _)
  refine callType_codes (Q₁ := fun obj s1 => obj = .ref s.heap.objs.size ∧ s1 = { s with heap := s.heap.push { cls := .type "list", data := .seq #[] } }) F.called_list (F.typeCall_list_1 _) F.entry_list_init (code_list_new _ ⟨rfl, rfl⟩) ?_
  rintro obj s1 ⟨rfl, rfl⟩
  have hS : (s.heap.push { cls := .type "list", data := .seq #[] }).get? s.heap.objs.size = some { cls := .type "list", data := .seq #[] } := Heap.get?_push_size _ rfl
  refine ⟨⟨_, hS, rfl⟩, F.args_list_init_2 _ _, ?_⟩
  unfold Builtin.«list.__init__»
  show wpAny _ _ (Builtin.List.listItems _ >>= _) _ _ _
  refine wpAny_bind (wpAny_listItems hS rfl ?_)
  refine wpAny_bind (PyProof.Rows.listUpdate_at hS rfl ?_ (by simp) (by simp))
  show wpAny _ _ (letGo [] >>= fun _ => Builtin.List.listExtendWith (.ref s.heap.objs.size) (.ref z) Value.none) _ _ _
  refine wpAny_bind (show wpAny _ _ (pure ()) _ _ _ from wpp ?_)
  have I1 : Inv X pins σ (upd H s.heap.objs.size (.lst [])) { s with heap := s.heap.push { cls := .type "list", data := .seq #[] } } := I.laid (t' := s.toks) (fun b u e => Heap.get?_push_of_some _ e) (Nat.le_refl _) ⟨Nat.zero_le _, [], 0, .nil, hS⟩
  obtain ⟨n2, f2⟩ : ∃ n', Obj.mapSeq (fun x => #[]) { cls := .type "list", data := .seq #[] 0 } = { cls := .type "list", data := .seq #[] n' } := ⟨_, rfl⟩
  have I2 := I1.lstUpd (p := s.heap.objs.size) (xs := []) (ys := []) (its := []) (its' := []) upd_same hS f2 .nil (Nat.zero_le _) s.toks
  have g2 : ((s.heap.push { cls := .type "list", data := .seq #[] }).update s.heap.objs.size (Obj.mapSeq fun x => #[])).get? s.heap.objs.size = some { cls := .type "list", data := .seq #[] n2 } := (Heap.get?_update_self _ hS (by rw [f2]; rfl)).trans (congrArg some f2)
  have eo : ∀ b o, s.heap.get? b = some o → ((s.heap.push { cls := .type "list", data := .seq #[] }).update s.heap.objs.size (Obj.mapSeq fun x => #[])).get? b = some o := fun b o e => (Heap.get?_update_other _ _ (Nat.ne_of_gt (get_lt e))).trans (Heap.get?_push_of_some _ e)
  have esz : ((s.heap.push { cls := .type "list", data := .seq #[] }).update s.heap.objs.size (Obj.mapSeq fun x => #[])).objs.size = s.heap.objs.size + 1 := by
    have e1 : ∀ (h : Heap) (S : Addr) (f : Obj → Obj), (h.update S f).objs.size = h.objs.size := fun h S f => by simp [Heap.update]
    rw [e1]; exact Array.size_push ..
  refine extendZ (A := A.in1) hA ap hx hy hl hsz .none ?_ I2 (fun b hb => ⟨fp_upd (fp_upd (fp b hb).1 (Nat.ne_of_lt (fp b hb).2)) (Nat.ne_of_lt (fp b hb).2), by
      show b < ((s.heap.push { cls := .type "list", data := .seq #[] }).update s.heap.objs.size (Obj.mapSeq fun x => #[])).objs.size
      rw [esz]; exact Nat.lt_succ_of_lt (fp b hb).2⟩) upd_same g2 (hz.imp fun a z => z.imp fun b z => ⟨eo _ _ z.1, eo _ _ z.2⟩) (eo _ _ q2) (q3.imp fun o q => And.imp_left (eo _ _) q) (q4.imp fun o q => And.imp_left (eo _ _) q) (q5.imp fun o q => And.imp_left (eo _ _) q) (q6.imp fun o q => And.imp_left (eo _ _) q) fun s' H' ts' I' kp hS2 hl2 ht2 => ⟨rfl, fin s' H' _ ts' I' nS (fun b o e => ?_) hS2 hl2 ht2⟩
  · intro hm
    simp only [List.mem_cons, List.not_mem_nil, or_false] at hm
    rcases hm with h | h | h | h | h | h | h
    · exact Nat.lt_irrefl _ (h ▸ (fp z (by simp)).2)
    · exact Nat.lt_irrefl _ (h ▸ (fp TI (by simp)).2)
    · exact Nat.lt_irrefl _ (h ▸ (fp TO (by simp)).2)
    · exact Nat.lt_irrefl _ (h ▸ (fp i1 (by simp)).2)
    · exact Nat.lt_irrefl _ (h ▸ (fp i2 (by simp)).2)
    · exact Nat.lt_irrefl _ (h ▸ hb1)
    · exact Nat.lt_irrefl _ (h ▸ hb2)
  · have hne : b ≠ s.heap.objs.size := fun z => by rw [z, nS] at e; cases e
    exact kp b o hne ((upd_ne hne).trans ((upd_ne hne).trans e))
theorem IsTup_keep {h h' : Heap} {a : Addr} {xs : Array Value} (k : ∀ c o, h.get? c = some o → h'.get? c = some o) (q : h.IsTuple a xs) : h'.IsTuple a xs := q.imp fun o z => And.imp_left (k _ _) z
open PyProof.Rows
/-- list(zip(a, b)), a and b tuples of one length -/
def tListZip (K : PySem.W.Frag) (ta : TA) : TE := fun σ H Q => ta σ H fun vs H1 => ∃ l1 l2 xs ys, vs = [.ref l1, .ref l2] ∧ SqT K H1 l1 xs ∧ SqT K H1 l2 ys ∧ xs.length = ys.length ∧ xs.length ≤ 1000 ∧
  ∀ (S : Addr) (ts : List Addr) (H' : Hp), H1 S = none → (∀ b o, H1 b = some o → H' b = some o) → H' S = some (.lst (ts.map V.ref)) → ts.length = xs.length → (∀ (j : Nat) (t : Addr), ts[j]? = some t → ∃ x y, xs[j]? = some x ∧ ys[j]? = some y ∧ H' t = some (.tup [x, y])) → Q (.ref S) H'
theorem pe_listZip {X : Cx} {a b : Expr} {ta : TA} {p p2 q pos : Pos} (hc : X.calm = true) (hg : Gl X "list") (hm : X.mg "list" = none) (hg2 : Gl X "zip") (hm2 : X.mg "zip" = none) (ha : PA X [a, b] ta)
    (hs : starEach [a, b] X.env = (false, eval a X.env) :: starEach [b] X.env := by rfl) (hs2 : ((backTo q (starEach [b] X.env)).any fun x => x.fst) = false := by rfl)
    (hs3 : starEach [.Call (.Name "zip" p2) [a, b] [] q] X.env = (false, eval (.Call (.Name "zip" p2) [a, b] [] q) X.env) :: starEach [] X.env := by rfl) :
    PE X (.Call (.Name "list" p) [.Call (.Name "zip" p2) [a, b] [] q] [] pos) (tListZip X.K ta) := by
  refine ⟨fun pins s σ H Q I h => ?_⟩
  refine Call_ (ld_blt I hg hm PySem.Pv.boot_list (PyProof.Rows.callWith_type1 (PyProof.Rows.spliced_more (Call_ (ld_blt I hg2 hm2 boot_zip (PyProof.Rows.callWith_type1 (thn (ha.run q pins s σ H _ I h) fun us s1 ⟨vs, H1, I1, r1, q1⟩ => ?_) hs hs2))) hs3) hs3 rfl))
  obtain ⟨l1, l2, xs, ys, ex, hq1, hq2, hl, hsz, k⟩ := q1
  subst ex
  cases r1 with
  | cons r rr =>
    cases rr with
    | cons r2 rr =>
      cases rr
      cases r
      cases r2
      obtain ⟨its1, rv1, p1, _⟩ := I1.tuple hq1
      obtain ⟨its2, rv2, p2', _⟩ := I1.tuple hq2
      have b1 : l1 < s1.heap.objs.size := by obtain ⟨o, e, _⟩ := (show s1.heap.IsTuple l1 its1.toArray from p1); exact get_lt e
      have b2 : l2 < s1.heap.objs.size := by obtain ⟨o, e, _⟩ := (show s1.heap.IsTuple l2 its2.toArray from p2'); exact get_lt e
      refine RZ.call_zipT (show s1.heap.IsTuple l1 its1.toArray from p1) (show s1.heap.IsTuple l2 its2.toArray from p2') fun h' z1 z2 z3 z4 z5 z6 z7 => ?_
      refine PyProof.Rows.spliced_none ?_
      have ap : ZipApart (s1.heap.objs.size + 4) (s1.heap.objs.size + 2) (s1.heap.objs.size + 3) s1.heap.objs.size (s1.heap.objs.size + 1) l1 l2 := by
        have c1 : @LT.lt Nat _ l1 s1.heap.objs.size := b1
        have c2 : @LT.lt Nat _ l2 s1.heap.objs.size := b2
        constructor <;> (refine (show @Ne Nat _ _ from ?_); omega)
      refine listZ (s := { s1 with heap := h' }) ?_ ap rv1 rv2 hl hsz (I1.kept (t' := s1.toks) z7) (fun b hb => ?_) (by rw [show h'.objs.size = _ from z6]; exact Nat.lt_of_lt_of_le b1 (Nat.le_add_right ..)) (by rw [show h'.objs.size = _ from z6]; exact Nat.lt_of_lt_of_le b2 (Nat.le_add_right ..)) ⟨_, _, z1, z3⟩ z2 z4 z5 (IsTup_keep z7 p1) (IsTup_keep z7 p2') fun s' H' S ts' I' nS kp hS2 hl2 ht2 => ⟨.ref S, H', I', rfl, k S ts' H' nS kp hS2 hl2 ht2⟩
      · exact I1.ok.hd hc
      · have hb2 : s1.heap.objs.size ≤ b ∧ b < s1.heap.objs.size + 5 := by
          simp only [List.mem_cons, List.not_mem_nil, or_false] at hb
          refine (show @LE.le Nat _ s1.heap.objs.size b ∧ @LT.lt Nat _ b (s1.heap.objs.size + 5) from ?_)
          rcases hb with h | h | h | h | h <;> (rw [h]; constructor <;> omega)
        exact ⟨I1.fpOk hb2.1 (I1.hok.fresh hb2.1), by rw [show h'.objs.size = _ from z6]; exact hb2.2⟩
end ZZ
end
section
set_option Elab.async false
set_option linter.all false
set_option maxRecDepth 100000
set_option maxHeartbeats 2000000
/-! # sorted of a list of derivations: pairs of a whole number and a tuple of such pairs. -/
namespace L2
open PySem PySem.Spec PyProof.Rows
mutual
theorem dp_reads {X : Cx} {pins : List (Addr × Obj)} {σ : St} {H : Hp} {s : Shared} (I : Inv X pins σ H s) : ∀ {x : V} {d : PyData} {u : Value}, Dp X.K H x d → RelV x u → ∃ as, Reads s.heap u d as
  | _, _, u, .non, r => by cases r; exact ⟨_, .none⟩
  | _, _, u, .bl b, r => by cases r; exact ⟨_, .bool b⟩
  | _, _, u, .int i, r => by obtain ⟨t, rfl⟩ := (show ∃ t, u = Value.int i t from r); exact ⟨_, .int i t⟩
  | _, _, u, .str x, r => by obtain ⟨t, rfl⟩ := (show ∃ t, u = Value.str x t from r); exact ⟨_, .str x t⟩
  | _, _, u, .lst h t, r => by
    cases r
    obtain ⟨its, rv, p, _⟩ := I.list h
    obtain ⟨o, e1, e2, n, e3⟩ := p.isList
    obtain ⟨as, q⟩ := dp_readsAll I t rv
    exact ⟨_, .list e1 e2 e3 q⟩
  | _, _, u, .tup h t, r => by
    cases r
    obtain ⟨its, rv, p, _⟩ := I.tuple h
    obtain ⟨o, e1, e2, n, e3⟩ := (show s.heap.IsTuple _ its.toArray from p)
    obtain ⟨as, q⟩ := dp_readsAll I t rv
    exact ⟨_, .tuple e1 e2 e3 q⟩
theorem dp_readsAll {X : Cx} {pins : List (Addr × Obj)} {σ : St} {H : Hp} {s : Shared} (I : Inv X pins σ H s) : ∀ {xs : List V} {ds : List PyData} {us : List Value}, DpAll X.K H xs ds → Vals xs us → ∃ as, ReadsAll s.heap us ds as
  | _, _, us, .nil, r => by cases r; exact ⟨_, .nil⟩
  | _, _, us, .cons h t, r => by
    cases r with
    | cons r1 r2 =>
      obtain ⟨as, q⟩ := dp_reads I h r1
      obtain ⟨bs, q2⟩ := dp_readsAll I t r2
      exact ⟨_, .cons q q2⟩
end
/-- derivations as data -/
inductive DerD : PyData → Prop
  | mk (i : Int) (ds : List PyData) : (∀ d ∈ ds, DerD d) → DerD (.tuple [.int i, .tuple ds])
theorem al_nil (ys : List PyData) : PySem.W.alike (.tuple []) (.tuple ys) = true := by simp [PySem.W.alike, PySem.W.alikeAll]
theorem al_nil' (ys : List PyData) : PySem.W.alike (.tuple ys) (.tuple []) = true := by cases ys <;> simp [PySem.W.alike, PySem.W.alikeAll]
theorem al_cons (x y : PyData) (xs ys : List PyData) : PySem.W.alike (.tuple (x :: xs)) (.tuple (y :: ys)) = (PySem.W.alike x y && PySem.W.alike (.tuple xs) (.tuple ys)) := by simp [PySem.W.alike, PySem.W.alikeAll]
theorem al_int (x y : Int) : PySem.W.alike (.int x) (.int y) = true := by simp [PySem.W.alike]
theorem al_ders : ∀ {ds ds' : List PyData}, (∀ d ∈ ds, ∀ d', DerD d' → PySem.W.alike d d' = true) → (∀ d' ∈ ds', DerD d') → PySem.W.alike (.tuple ds) (.tuple ds') = true
  | [], ds', _, _ => al_nil ds'
  | d :: ds, [], _, _ => al_nil' _
  | d :: ds, d' :: ds', h, h' => by
    rw [al_cons, h d (List.mem_cons_self ..) d' (h' d' (List.mem_cons_self ..)), al_ders (fun e he => h e (List.mem_cons_of_mem _ he)) (fun e he => h' e (List.mem_cons_of_mem _ he))]; rfl
theorem der_alike {d : PyData} (h : DerD d) : ∀ d', DerD d' → PySem.W.alike d d' = true := by
  induction h with
  | mk i ds _ ih =>
    intro d' h'
    cases h' with
    | mk i' ds' hd' => rw [al_cons, al_int, al_cons, al_ders ih hd', al_nil]; rfl
def rSortD (K : PySem.W.Frag) : List V → Hp → VK → Prop := fun vs H Q => ∃ (a : Addr) (xs : List V), vs = [.ref a] ∧ SqL K H a xs ∧ xs.length ≤ 1000000 ∧ (∀ x ∈ xs, ∃ d, Dp K H x d ∧ DerD d ∧ d.depth ≤ 100) ∧
  ∀ (ys : List V) (p : Addr), ys.Perm xs → H p = none → Q (.ref p) (upd H p (.lst ys))
theorem sort_pairs {K : PySem.W.Frag} {H : Hp} : ∀ {xs : List V}, (∀ x ∈ xs, ∃ d, Dp K H x d ∧ DerD d ∧ d.depth ≤ 100) → ∃ bs : List (V × PyData), bs.map (·.1) = xs ∧ ∀ b ∈ bs, Dp K H b.1 b.2 ∧ DerD b.2 ∧ b.2.depth ≤ 100
  | [], _ => ⟨[], rfl, fun b h => by cases h⟩
  | x :: xs, h => by
    obtain ⟨d, hd⟩ := h x (List.mem_cons_self ..)
    obtain ⟨bs, e, hb⟩ := sort_pairs (xs := xs) fun y hy => h y (List.mem_cons_of_mem _ hy)
    refine ⟨(x, d) :: bs, by rw [List.map_cons, e], fun b hb' => ?_⟩
    rcases List.mem_cons.mp hb' with rfl | h'
    · exact hd
    · exact hb b h'
theorem each_of {bs : List (V × PyData)} {us : List Value} : Vals (bs.map (·.1)) us → PySem.W.EachIs (fun u (b : V × PyData) => RelV b.1 u) us bs := by
  induction bs generalizing us with
  | nil => intro r; cases r; exact .nil
  | cons b bs ih => intro r; cases r with | cons r1 r2 => exact .cons r1 (ih r2)
theorem vals_each {bs : List (V × PyData)} {us : List Value} (h : PySem.W.EachIs (fun u (b : V × PyData) => RelV b.1 u) us bs) : Vals (bs.map (·.1)) us := by
  induction h with
  | nil => exact .nil
  | cons a _ ih => exact .cons a ih
theorem each_reads {X : Cx} {pins : List (Addr × Obj)} {σ : St} {H : Hp} {s : Shared} (I : Inv X pins σ H s) {bs : List (V × PyData)} {us : List Value} (hb : ∀ b ∈ bs, Dp X.K H b.1 b.2) (h : PySem.W.EachIs (fun u (b : V × PyData) => RelV b.1 u) us bs) : PySem.W.EachIs (fun u (b : V × PyData) => ∃ as, Reads s.heap u b.2 as) us bs := by
  induction h with
  | nil => exact .nil
  | cons a _ ih => exact .cons (dp_reads I (hb _ (List.mem_cons_self ..)) a) (ih fun b h => hb b (List.mem_cons_of_mem _ h))
theorem cr_sortedDer {X : Cx} (hu : X.A.units + 200 < cLine) : CallR X (.builtin "sorted") (rSortD X.K) := by
  intro pins s σ H vs us Q I rv h
  obtain ⟨a, xs, rfl, hq, hlen, hd, k⟩ := h
  cases rv with
  | cons r1 r2 =>
    cases r2
    cases r1
    obtain ⟨its, rvv, p, _⟩ := I.list hq
    obtain ⟨bs, rfl, hb⟩ := sort_pairs hd
    have he := each_of rvv
    rw [List.length_map] at hlen
    refine PySem.W.sorted_data (enc := fun b : V × PyData => b.2) (l := a) (vs := its) (bs := bs) p.isList he (each_reads I (fun b h => (hb b h).1) he) ?_ (.inl ?_) (Nat.le_trans hlen (by decide +kernel)) (fun b h => by have := (hb b h).2.2; show X.A.units + 2 + b.2.depth < cLine; omega) fun out ho hout => ?_
    · intro d hd d' hd'
      obtain ⟨b, h1, rfl⟩ := List.mem_map.mp hd
      obtain ⟨b', h2, rfl⟩ := List.mem_map.mp hd'
      exact der_alike (hb b h1).2.1 _ (hb b' h2).2.1
    · intro d hd
      obtain ⟨b, h1, rfl⟩ := List.mem_map.mp hd
      have hd := (hb b h1).2.1
      generalize b.2 = d at hd
      cases hd with
      | mk i ds _ => exact ⟨_, _, rfl⟩
    · have perm : ((bs.mergeSort (PySem.W.dataLe false fun b : V × PyData => b.2)).map (·.1)).Perm (bs.map (·.1)) := (List.mergeSort_perm bs _).map _
      have hf : H (s.heap.objs.size + 1) = none := I.hok.fresh (Nat.le_succ _)
      obtain ⟨e, hat⟩ := sortedAll_at s.heap its out.toArray
      refine ⟨.ref (s.heap.objs.size + 1), _, ?_, rfl, k _ _ perm hf⟩
      refine I.laid (t' := s.toks) (fun b o e => sortedAll_old e) (Nat.le_succ _) ⟨?_, out, e, vals_each hout, ?_⟩
      · rw [List.length_map, List.length_mergeSort]; exact Nat.le_trans hlen (by decide +kernel)
      · exact hat
end L2
end
section
set_option Elab.async false
set_option linter.all false
set_option maxRecDepth 100000
set_option maxHeartbeats 2000000
/-! # errors of the package held as values: made, their field read, asked for their class -/
namespace L2
open PySem PySem.Spec PyProof.Rows
/-- an error of the class C at a, its own dict at d (none: it has none) -/
def ErO (C : Addr) (d : Option Addr) (a : Addr) : HO := .ext fun h => ∃ (oe : Obj) (vs : Array Value), h.get? a = some oe ∧ oe.cls = .ref C ∧ oe.dict = d ∧ oe.data = .fields vs
theorem erO_ok {P : Program} {w : World} {H : Hp} {h : Heap} {a C : Addr} {d : Option Addr} {oe : Obj} {vs : Array Value} (e : h.get? a = some oe) (c : oe.cls = .ref C) (z : oe.dict = d) (f : oe.data = .fields vs) : ObjOk P w H h a (ErO C d a) :=
  ⟨⟨oe, vs, e, c, z, f⟩, ⟨oe, e⟩, fun _ _ ⟨o, v, q, r⟩ k => ⟨o, v, k o q, r⟩⟩
section
variable {X : Cx} {C fI : Addr} {cn fld : Str}
/-- Err(e) as a value -/
def tErr (fld : Str) (C : Addr) (ta : TA) : TE := fun σ H Q => ta σ H fun vs H1 => ∃ v, vs = [v] ∧ ∀ d e, H1 d = none → H1 e = none → d ≠ e → Q (.ref e) (upd (upd H1 d (.xd [(fld, v)])) e (ErO C (some d) e))
theorem pe_err {a : Expr} {ta : TA} {p pos : Pos} {k : Nat} (T : RX.ErrT X.prog X.K X.mg cn fld C fI) (hr : Room k X.A) (ha : PA X [a] ta) (hg : Gl X cn := by rfl) (hdb : (cn == ("__debug__" : Str)) = false := by decide)
    (he : starEach (a :: []) X.env = (false, eval a X.env) :: starEach [] X.env := by rfl) (hpl : (backTo pos (starEach [] X.env)).any (·.1) = false := by rfl) :
    PE X (.Call (.Name cn p) [a] [] pos) (tErr fld C ta) := by
  refine ⟨fun pins s σ H Q I h => ?_⟩
  refine wpAny_Call_Name_kw (ld_glob I hg T.gC ?_ hdb)
  refine PySem.W.callWith_K (h₀ := X.base) I.ok.mod.kin T.kC (thn (ha.run pos pins s σ H _ I h) fun us s1 hh => ?_) he hpl
  obtain ⟨vs, H1, I1, r1, v, ev, q1⟩ := hh
  subst ev
  refine ⟨I1.kIn, ?_⟩
  cases r1 with
  | cons rv rn =>
    rename_i v' us'
    cases rn
    show wpAny _ _ (call (.ref C) [v']) _ _ _
    have hbk := I1.bk
    obtain ⟨hp, g, dr, tk, os⟩ := s1
    refine wpAny_call (RX.err_made T I1.mod hbk (by have := hr.dp; omega) fun h' tk' e d M => ?_)
    obtain ⟨oe, fv, hoe, hc, hd, hdat, h1⟩ := M.obj
    have hns := M.ns
    obtain ⟨G', g1, g2⟩ := restrict h' fun b => decide (b ≠ e)
    have gk : ∀ b, b ≠ e → G'.get? b = h'.get? b := fun b hb => g1 b (decide_eq_true hb)
    have ge : G'.get? e = none := g2 e (by simp)
    have old : ∀ b o, hp.get? b = some o → G'.get? b = some o := fun b o q => (gk b (Nat.ne_of_lt (Nat.lt_of_lt_of_le (Heap.lt_size q) M.new))).trans (M.keep b o q)
    have ob : ObjOk X.prog X.w (upd H1 d (.xd [(fld, v)])) G' d (.xd [(fld, v)]) :=
      ⟨_, hns.at (fun o q => (gk d M.dne).trans q), fun f => relO_one rv f⟩
    have J : Inv X pins σ (upd H1 d (.xd [(fld, v)])) ⟨G', g, dr, tk', os⟩ := I1.laid (t' := tk') old M.dbig ob
    have nd : H1 d = none := I1.hok.fresh M.dbig
    have ne : H1 e = none := I1.hok.fresh M.new
    have k2 : ∀ b o, G'.get? b = some o → h'.get? b = some o := fun b o q => by
      by_cases hb : b = e
      · rw [hb, ge] at q; cases q
      · exact (gk b hb).symm.trans q
    exact ⟨.ref e, _, J.laidN (h' := h') (a := e) (o := ErO C (some d) e) (t' := tk') k2 ge ((upd_ne M.dne.symm).trans ne) (erO_ok hoe hc hd hdat), rfl, q1 d e nd ne M.dne⟩
/-- e.field -/
def tErF (C : Addr) (n : Str) (te : TE) : TE := fun σ H Q => te σ H fun x H1 => ∃ (a d : Addr) (fs : List (Str × V)) (v : V), x = .ref a ∧ H1 a = some (ErO C (some d) a) ∧ H1 d = some (.xd fs) ∧ fs.lookup n = some v ∧ Q v H1
theorem pe_erF {e : Expr} {te : TE} {pos : Pos} {n : Str} (T : XfC X.K C) (hno : PySem.W.findIn X.K (.ref C) n = some none) (he : PE X e te) (hb : attributeBase e n X.env (eval e X.env) = eval e X.env := by rfl) : PE X (.Attribute e n pos) (tErF C n te) := by
  refine ⟨fun pins s σ H Q I h => ?_⟩
  refine attr_of hb (thn (he.run pins s σ H _ I h) fun u s1 hh => ?_)
  obtain ⟨x, H1, I1, rx, a, d, fs, v, ex, ea, ed, l, q⟩ := hh
  subst ex
  obtain rfl : u = Value.ref a := rx
  obtain ⟨⟨oe, vs, ho, hc, hd, hf⟩, _, _⟩ := (show ObjOk X.prog X.w H1 s1.heap a (ErO C (some d) a) from I1.hok a _ ea)
  have hx : ObjOk X.prog X.w H1 s1.heap d (.xd fs) := I1.hok d _ ed
  obtain ⟨mA, hns, hr⟩ := hx
  obtain ⟨od, ho2, hl⟩ := lookIn_ns hns
  obtain ⟨u, hu, ru⟩ := RelO.some_of (v := v) (o := mA n) (by rw [← l]; exact hr n)
  have J : PySem.W.InstAt s1.heap a oe C (some od) := ⟨ho, hc, by unfold PySem.W.notCls; rw [hf] <;> rfl, by rw [hd]; exact ho2⟩
  exact HandSPX.exc_get I1.kIn J T.ga T.gg T.exC (PySem.W.findObj_own T.hdC hno rfl (by rw [hl, hu])) (handed_of ru) ⟨v, H1, I1.tok _, ru, q⟩
/-- isinstance(e, c) of such an error: with an own dict that is tracked, or without one -/
def rIsEr (K : PySem.W.Frag) : List V → Hp → VK → Prop := fun xs H Q => ∃ (c : V) (cv : Value) (b : Bool) (D a : Addr) (d : Option Addr), xs = [.ref a, c] ∧ ClsV c cv ∧ ExcC K D ∧ H a = some (ErO D d a) ∧ (∀ dd, d = some dd → ∃ fs, H dd = some (.xd fs)) ∧ PySem.W.kitOne K (.ref D) cv = some b ∧ Q (.bl b) H
theorem call_isEr : CallR X (.builtin "isinstance") (rIsEr X.K) := by
  intro pins s σ H xs us Q I r h
  obtain ⟨c, cv, b, D, a, d, rfl, hcv, C, hea, hdd, e, q⟩ := h
  cases r with
  | cons rx rr =>
    cases rr with
    | cons rt rr =>
      cases rr
      cases rx
      have ec := hcv.eq rt
      subst ec
      obtain ⟨⟨oe, vs, ho, hc, hd, hf⟩, _, _⟩ := (show ObjOk X.prog X.w H s.heap a (ErO D d a) from I.hok a _ hea)
      obtain ⟨od, hod⟩ : ∃ od : Option Obj, PySem.W.InstAt s.heap a oe D od := by
        cases d with
        | none => exact ⟨none, ho, hc, by unfold PySem.W.notCls; rw [hf] <;> rfl, by rw [hd]; trivial⟩
        | some dd =>
          obtain ⟨fs, hfs⟩ := hdd dd rfl
          obtain ⟨mA, hns, hr⟩ := (show ObjOk X.prog X.w H s.heap dd (.xd fs) from I.hok dd _ hfs)
          obtain ⟨od, ho2, hl⟩ := lookIn_ns hns
          exact ⟨some od, ho, hc, by unfold PySem.W.notCls; rw [hf] <;> rfl, by rw [hd]; exact ho2⟩
      exact PySem.W.kia_one (PySem.W.kitx_exc (by
        obtain ⟨cd, hc, _⟩ := PySem.W.any_some C.hd
        rw [hc]; rfl) C.hg C.hk C.hs C.ha C.hn C.ht C.hm) I.kIn hod e (fun z => nomatch z) fun tk => ⟨.bl b, H, I.kept (t' := tk) fun _ _ z => z, rfl, q⟩
/-- Err() of a class that adds nothing -/
def tErr0 (C : Addr) : TE := fun _ H Q => ∀ e, H e = none → Q (.ref e) (upd H e (ErO C none e))
theorem pe_err0 {x : Str} {p pos : Pos} (T : ErrN X.K X.mg x C) (hg : Gl X x := by rfl) (hdb : (x == ("__debug__" : Str)) = false := by decide) : PE X (.Call (.Name x p) [] [] pos) (tErr0 C) := by
  refine ⟨fun pins s σ H Q I h => ?_⟩
  refine wpAny_Call_Name_kw (ld_glob I hg T.gC ?_ hdb)
  refine PySem.W.callWith_K0 I.kIn T.kC ?_
  show wpAny _ _ (call (.ref C) []) _ _ _
  obtain ⟨bm, N, nm, qn, bs, hdct, sn, sub, ab, col, dd, k0, k1, k2, k3, k5, mN, hC, hN, hni, T'⟩ := exc_obj I.kIn T.ex
  refine wpAny_call_exc_subT PySem.F.excBase_ValueError T' hC hN hni (fun h' e hm => ?_) (Nat.zero_le _)
  obtain ⟨t, he, _, _⟩ := hm.there
  exact ⟨.ref e, _, I.laidN (h' := h') (a := e) (o := ErO C none e) (t' := s.toks) hm.keeps hm.new (I.hok.gone hm.new) (erO_ok he rfl rfl rfl), rfl, h e (I.hok.gone hm.new)⟩
end
end L2
end
section
set_option Elab.async false
set_option linter.all false
set_option maxRecDepth 100000
set_option maxHeartbeats 2000000
/-! # enumerate of a text. -/
namespace L2
open PySem PySem.Spec PyProof.Rows
/-- the signs of a text, each with its number in a new pair -/
def IteS (z : Str) : It :=
  ⟨fun i _ => ∃ c, z.cps[i]? = some c, fun i H v H' => ∃ T c, v = .ref T ∧ H T = none ∧ H' = upd H T (.tup [.int (i : Nat), .str ⟨#[c]⟩]) ∧ z.cps[i]? = some c, fun i _ => z.cps.size ≤ i⟩
theorem turn_enS {P : Program} {w : World} {K : PySem.W.Frag} {elts : List Expr} {kk : Nat} {tpos : Pos} (z : Str) (tz : Tok) (e it : Addr) :
    Turn P w K (.Tuple elts kk tpos) (IteS z) [e, it] e (fun i h => (∃ old, IsEnum h e it ((i : Nat) : Int) old) ∧ h.IsStrIter it (strIterType z) z tz i ∧ i ≤ z.cps.size ∧ e ≠ it) where
  mem := by simp
  obj := fun i h st b hb => by
    obtain ⟨⟨old, he⟩, ⟨o, ho, hc, hd⟩, _⟩ := st
    rcases (by simpa using hb : b = e ∨ b = it) with z | z
    · exact z ▸ ⟨_, he, fun v q => nomatch q⟩
    · exact z ▸ ⟨o, ho, fun v q => by rw [hd] at q; cases q⟩
  keep := fun i h h' st k => ⟨let ⟨old, he⟩ := st.1; ⟨old, k e (by simp) _ he⟩, let ⟨o, ho, r⟩ := st.2.1; ⟨o, k it (by simp) o ho, r⟩, st.2.2⟩
  item := by
    intro X hP hw hK hc i pins s σ H E I hf st hg
    subst hP hw hK
    obtain ⟨⟨old, he⟩, hit, hle, hne⟩ := st
    obtain ⟨c, hx⟩ := hg
    have hel : e < s.heap.objs.size := Heap.lt_size he
    have hil : it < s.heap.objs.size := by obtain ⟨_, q, _⟩ := hit; exact Heap.lt_size q
    have hlt : i < z.cps.size := (Array.getElem?_eq_some_iff.mp hx).1
    refine wpAny_pyNext_enum_itemD (Draws.text (A := X.A.in1) (I.ok.hd hc) it z tz) he hit hlt hne (by simp [hne]) fun x' h' tk hx' ho hst hT hsz hk => ?_
    obtain ⟨c', u, e1, rfl⟩ := hx'
    obtain rfl : c = c' := Option.some.inj (hx.symm.trans e1)
    refine ⟨_, rfl, wpAny_letOwnedTupleGo_enum (s := { s with heap := h', toks := tk + 1 }) ho fun h'' he' sb => ?_⟩
    have hT2 : h''.get? s.heap.objs.size = some { cls := .type "tuple", data := .seq #[.int i tk, .str ⟨#[c]⟩ u] } := (sb.2 _ (Nat.ne_of_gt hel)).trans hT
    have nw : ObjOk X.prog X.w (upd H s.heap.objs.size (.tup [.int (i : Nat), .str ⟨#[c]⟩])) h'' s.heap.objs.size (.tup [.int (i : Nat), .str ⟨#[c]⟩]) :=
      ⟨by show 2 ≤ sizeLine; decide, [.int i tk, .str ⟨#[c]⟩ u], .cons ⟨_, rfl⟩ (.cons ⟨_, rfl⟩ .nil), ⟨_, hT2, rfl, _, rfl⟩⟩
    have I1 : Inv X pins σ (upd H s.heap.objs.size (.tup [.int (i : Nat), .str ⟨#[c]⟩])) { s with heap := h'', toks := tk + 1 } :=
      I.turnedNew (ch := [e, it]) (fun b ob hb q => (sb.2 b (fun z => hb (by simp [z]))).trans (hk b ob (fun z => hb (by simp [z])) (fun z => hb (by simp [z])) q)) hf (Nat.le_refl _) nw
    refine ⟨.ref s.heap.objs.size, _, I1, rfl, ⟨_, c, rfl, I.hok.fresh (Nat.le_refl _), rfl, hx⟩, ⟨⟨Value.str ⟨#[c]⟩ u, ?_⟩, (let ⟨o, ho, r⟩ := hst; ⟨o, (sb.2 it (Ne.symm hne)).trans ho, r⟩), hlt, hne⟩, fun b hb => ?_⟩
    · rw [show ((i + 1 : Nat) : Int) = (i : Int) + 1 by omega]
      exact he'
    · have hb' : b < s.heap.objs.size := by
        rcases (by simpa using hb : b = e ∨ b = it) with z | z
        · exact z ▸ hel
        · exact z ▸ hil
      rw [upd_ne (Nat.ne_of_lt hb')]
      exact (hf b hb).1
  done := by
    intro X hP hw hK hc i pins s σ H E I hf st hg
    subst hP hw hK
    obtain ⟨⟨old, he⟩, hit, hle, hne⟩ := st
    obtain rfl : i = z.cps.size := Nat.le_antisymm hle hg
    obtain ⟨f0, f1, f2, f3, f4, f5⟩ := hf it (by simp)
    refine wpAny_pyNext_enum_endD (Draws.text (A := X.A.in1) (I.ok.hd hc) it z tz) he hit fun h' hy => ⟨rfl, ?_⟩
    exact I.turned (t' := s.toks) (fun b o hb q => hy b o hb q) f0 f1 f3 f4 f5
  self := fun A i s Q E st h => let ⟨⟨_, he⟩, _⟩ := st; wpAny_pyIter_enum he h
theorem walk_enS {z : Str} : Walk (IteS z) z.cps.size (fun _ => True) (YPair (fun i => some (.int (i : Nat))) (fun i => z.cps[i]?.map fun c => .str ⟨#[c]⟩)) :=
  ⟨fun i _ hi q => ⟨z.cps[i], by simp [hi]⟩, fun _ q => Nat.le_refl _, fun i H v H' _ q ⟨T, c, h1, h2, h3, h4⟩ => ⟨T, .int (i : Nat), .str ⟨#[c]⟩, h1, h2, h3, rfl, by show Option.map _ _ = _; rw [h4]; rfl⟩⟩
section
variable {X : Cx} {e : Expr} {ta : TA} {p pos tpos : Pos} {elts : List Expr} {kk : Nat}
/-- enumerate(v), v a text -/
def iEnumS (ta : TA) : TI := fun σ H R => ta σ H fun vs H1 => ∃ z, vs = [.str z] ∧ R (IteS z) H1
theorem pi_enumS (hg : Gl X "enumerate") (hm : X.mg "enumerate" = none) (ha : PA X [e] ta) (hs : starEach [e] X.env = [(false, eval e X.env)] := by rfl) : PI X (.Tuple elts kk tpos) (.Call (.Name "enumerate" p) [e] [] pos) (iEnumS ta) := by
  refine ⟨fun pins s σ H R I h => ?_⟩
  refine Call_ (ld_blt I hg hm boot_enumerate (PyProof.Rows.callWith_type1 (thn (ha.run pos pins s σ H _ I h) fun us s1 ⟨vs, H1, I1, r1, q1⟩ => ?_) hs rfl))
  obtain ⟨z, ex, q⟩ := q1
  subst ex
  cases r1 with
  | cons r rr =>
    cases rr
    obtain ⟨tz, rfl⟩ := r
    have big : ∀ (b : Addr), b ∈ [s1.heap.objs.size + 1, s1.heap.objs.size] → FpOk X pins H1 b := fun b hb => by
      have hle : s1.heap.objs.size ≤ b := by
        rcases (by simpa using hb : b = s1.heap.objs.size + 1 ∨ b = s1.heap.objs.size) with z | z
        · exact z ▸ Nat.le_succ _
        · exact z ▸ Nat.le_refl _
      exact I1.fpOk hle (I1.hok.fresh hle)
    refine call_en (begins_text z tz) trivial fun h' he ho hsz hk => wpAny_pyIter_enum he ?_
    exact ⟨s1.heap.objs.size + 1, [s1.heap.objs.size + 1, s1.heap.objs.size], _, _, H1, rfl, I1.kept (t' := s1.toks) hk, turn_enS z tz (s1.heap.objs.size + 1) s1.heap.objs.size, ⟨⟨.none, he⟩, ⟨_, ho, rfl, rfl⟩, Nat.zero_le _, Nat.succ_ne_self _⟩, big, q⟩
end
end L2
end
section
set_option Elab.async false
set_option linter.all false
set_option maxRecDepth 100000
set_option maxHeartbeats 2000000
/-! # sorted of a list or a tuple of ints. -/
namespace L2
open PySem PySem.Spec PyProof.Rows
def rSortedIT (K : PySem.W.Frag) : List V → Hp → VK → Prop := fun vs H Q => ∃ (a : Addr) (ns : List Int), vs = [V.ref a] ∧ (SqL K H a (ns.map V.int) ∨ SqT K H a (ns.map V.int)) ∧
  ∀ (ns' : List Int) (p : Addr), ns'.Perm ns → ns'.Pairwise (· ≤ ·) → H p = none → Q (.ref p) (upd H p (.lst (ns'.map V.int)))
section
variable {X : Cx}
theorem cr_sortedIT : CallR X (.builtin "sorted") (rSortedIT X.K) := by
  intro pins s σ H vs us Q I r h
  obtain ⟨a, ns, rfl, hq, q⟩ := h
  rw [Vals.ref1 r]
  obtain ⟨its, T, o, n, rv, hz, hT, ho, hc, hd⟩ : ∃ its T o n, Vals (ns.map V.int) its ∧ (ns.map V.int).length ≤ sizeLine ∧ (T = "list" ∨ T = "tuple") ∧ s.heap.get? a = some o ∧ o.cls = .type T ∧ o.data = .seq its.toArray n := by
    rcases hq with hq | hq
    · obtain ⟨its, rv, pl, hz⟩ := I.list hq
      obtain ⟨o, ho, hc, n, hd⟩ := pl.isList
      exact ⟨its, "list", o, n, rv, hz, .inl rfl, ho, hc, hd⟩
    · obtain ⟨its, rv, pl, hz⟩ := I.tuple hq
      obtain ⟨o, ho, hc, n, hd⟩ := pl
      exact ⟨its, "tuple", o, n, rv, hz, .inr rfl, ho, hc, hd⟩
  have hlen := rv.length
  have hi := rv.ints
  have hz' : its.length ≤ sizeLine := by omega
  refine Calls.call_function_entry kind_sorted plain_sorted entry_sorted (args_sorted1 _) ?_
  unfold Builtin.«sorted»
  refine wpAny_bind (m := checkCount "sorted" 1 1 _) (wpAny_pure ?_)
  refine wpAny_bind (wpAny_collect_seq (hsz := by simpa using hz') a hT ho hc hd fun h1 k1 => ?_)
  have I1 : Inv X pins σ H { s with heap := h1 } := I.kept (t' := s.toks) k1
  have et : its.toArray.toList = its := by simp
  rw [et]
  refine wpAny_bind (wpAny_newList ?_ hz')
  have new : (h1.push (seqObj "list" its.toArray 0)).get? h1.objs.size = some (seqObj "list" its.toArray 0) := Heap.get?_push_size _ rfl
  refine wpAny_bind (wpAny_holding (wpAny_call_entry slot_list_sort ⟨_, new, rfl⟩ entry_list_sort (SrtO.list_sort_ord SrtO.swo_int new hz' (fun h2 => SrtO.ints_sortable hi h2) fun out hs hb => ⟨_, rfl, ?_⟩) (args_list_sort _)))
  obtain ⟨g1, g2, g3⟩ := SrtO.ints_out hi hs hb
  obtain ⟨e, he⟩ := sortedHeap_at (vs := its) (out := out.toArray) new
  have hl2 : ((out.map SrtO.iv).map V.int).length ≤ sizeLine := by
    rw [List.length_map, g2.length_eq]
    rw [List.length_map] at hz
    exact hz
  refine wpAny_pure ⟨_, rfl, .ref _, upd H h1.objs.size (.lst ((out.map SrtO.iv).map V.int)), I1.laid (t' := s.toks) (fun b u e1 => ?_) (Nat.le_refl _) ⟨hl2, out, e, vals_of_ints g1, he⟩, rfl, q _ _ g2 g3 (I1.hok.fresh (Nat.le_refl _))⟩
  have hlt := Heap.lt_size e1
  rw [sortedHeap_old (Nat.ne_of_lt hlt) (by rw [Heap.size_push]; exact Nat.lt_succ_of_lt hlt)]
  exact Heap.get?_push_of_some _ e1
end
end L2
end
section
set_option Elab.async false
set_option linter.all false
set_option maxRecDepth 100000
set_option maxHeartbeats 2000000
/-! # min and max of a tuple of ints. -/
namespace L2
open PySem PySem.Spec PyProof.Rows
theorem reads_ints {h : Heap} : ∀ {ns : List Int} {us : List Value}, Vals (ns.map V.int) us → ∃ as, ReadsAll h us (ns.map PyData.int) as
  | [], _, .nil => ⟨_, .nil⟩
  | n :: ns, _, .cons r rs => by
    obtain ⟨t, rfl⟩ := r
    obtain ⟨as, hr⟩ := reads_ints rs
    exact ⟨_, .cons (.int n t) hr⟩
theorem alike_int_all (ns : List Int) : PySem.W.AlikeAll (ns.map PyData.int) := by
  refine ⟨fun x hx y hy => ?_, fun x hx => ?_⟩
  · obtain ⟨i, _, rfl⟩ := List.mem_map.mp hx
    obtain ⟨j, _, rfl⟩ := List.mem_map.mp hy
    simp [PySem.W.alike]
  · obtain ⟨i, _, rfl⟩ := List.mem_map.mp hx
    intro z; cases z
theorem depth_int_all : ∀ ns : List Int, PyData.depthAll (ns.map PyData.int) ≤ 1
  | [] => by simp [PyData.depthAll]
  | n :: ns => by have := depth_int_all ns; simp [PyData.depthAll, PyData.depth]; omega
theorem reads_is_int {h : Heap} {v : Value} {n : Int} {as : List Addr} (r : Reads h v (.int n) as) : ∃ t, v = .int n t := by
  cases r with
  | int i t => exact ⟨t, rfl⟩
def rMinT (K : PySem.W.Frag) : List V → Hp → VK → Prop := fun vs H Q => ∃ (a : Addr) (n : Int) (ns : List Int), vs = [V.ref a] ∧ SqT K H a ((n :: ns).map V.int) ∧ Q (.int (ns.foldl min n)) H
def rMaxT (K : PySem.W.Frag) : List V → Hp → VK → Prop := fun vs H Q => ∃ (a : Addr) (n : Int) (ns : List Int), vs = [V.ref a] ∧ SqT K H a ((n :: ns).map V.int) ∧ Q (.int (ns.foldl max n)) H
section
variable {X : Cx}
theorem cr_minT (hc : X.calm = true) (hu : X.A.units + 64 < cLine) : CallR X (.builtin "min") (rMinT X.K) := by
  intro pins s σ H vs us Q I r h
  obtain ⟨a, n, ns, rfl, hq, q⟩ := h
  rw [Vals.ref1 r]
  obtain ⟨its, rv, pl, hz⟩ := I.tuple hq
  obtain ⟨as, hr⟩ := reads_ints (h := s.heap) rv
  have hd := depth_int_all (n :: ns)
  refine PySem.W.min_tuple_data (I.ok.hd hc) (show s.heap.IsTuple a its.toArray from pl) (x := .int n) (xs := ns.map PyData.int) (as := as) (by simpa using hr) (alike_int_all (n :: ns)) (by show X.A.units + 1 + PyData.depthAll ((n :: ns).map PyData.int) < cLine; omega) fun i v h' tk bs hv rd hk => ?_
  rw [PySem.W.minD_ints] at rd
  obtain ⟨t, rfl⟩ := reads_is_int rd
  exact ⟨.int _, H, I.kept hk, ⟨_, rfl⟩, q⟩
theorem cr_maxT (hc : X.calm = true) (hu : X.A.units + 64 < cLine) : CallR X (.builtin "max") (rMaxT X.K) := by
  intro pins s σ H vs us Q I r h
  obtain ⟨a, n, ns, rfl, hq, q⟩ := h
  rw [Vals.ref1 r]
  obtain ⟨its, rv, pl, hz⟩ := I.tuple hq
  obtain ⟨as, hr⟩ := reads_ints (h := s.heap) rv
  have hd := depth_int_all (n :: ns)
  refine PySem.W.max_tuple_data (I.ok.hd hc) (show s.heap.IsTuple a its.toArray from pl) (x := .int n) (xs := ns.map PyData.int) (as := as) (by simpa using hr) (alike_int_all (n :: ns)) (by show X.A.units + 1 + PyData.depthAll ((n :: ns).map PyData.int) < cLine; omega) fun i v h' tk bs hv rd hk => ?_
  rw [PySem.W.maxD_ints] at rd
  obtain ⟨t, rfl⟩ := reads_is_int rd
  exact ⟨.int _, H, I.kept hk, ⟨_, rfl⟩, q⟩
end
end L2
end
section
set_option Elab.async false
set_option linter.all false
set_option maxRecDepth 100000
set_option maxHeartbeats 2000000
/-! # repr of tuples of data, those that stand in the written part too. -/
namespace L2
open PySem PySem.Spec PyProof.Rows
def rReprT (K : PySem.W.Frag) : List V → Hp → VK → Prop := fun xs H Q => ∃ (v : V) (ds : List PyData), xs = [v] ∧ Dp K H v (.tuple ds) ∧ (PyData.tuple ds).showable = true ∧ (PyData.tuple ds).hasDict = false ∧ (PyData.tuple ds).depth ≤ 60 ∧ (PyData.tuple ds).shown.length ≤ sizeLine ∧ Q (.str (PyData.tuple ds).shown) H
theorem call_reprT {X : Cx} {k : Nat} (hgd : X.A.guards = some []) (hr : Room k X.A) : CallR X (.builtin "repr") (rReprT X.K) := by
  intro pins s σ H xs us Q I r h
  obtain ⟨v, ds, rfl, hd, hs, hnd, hdep, hz, q⟩ := h
  obtain ⟨u, rfl, ru⟩ : ∃ u, us = [u] ∧ RelV v u := by
    cases r with
    | cons r1 r2 => cases r2; exact ⟨_, rfl, r1⟩
  have hu := hr.un
  obtain ⟨as, hreads⟩ := Dp.reads I _ v u hd ru
  cases hd with
  | @tup a ys es e t =>
    cases (show u = Value.ref a from ru)
    exact repr_of_reads' hreads hs (fun z => by rw [hnd] at z; cases z) hgd (by omega) (fun _ _ z => z) (fun h' u' tk hk => ⟨.str _, H, I.kept (t' := tk) hk, ⟨u', rfl⟩, q⟩) hz
theorem rReprT_or {K : PySem.W.Frag} {xs : List V} {H : Hp} {Q : VK} (h : rReprT K xs H Q) : rReprT K xs H Q ∨ rRepr xs H Q := .inl h
end L2
end
section
set_option Elab.async false
set_option linter.all false
set_option maxRecDepth 100000
set_option maxHeartbeats 2000000
/-! # set(texts), and sorted of it. -/
namespace L2
open PySem PySem.Spec PyProof.Rows
def txE (e : Int × Value) : Str := match e.2 with | .str x _ => x | _ => Str.empty
def StrE (P : Program) (w : World) (e : Int × Value) : Prop := ∃ x t, e.2 = Value.str x t ∧ e.1 = (strKind P w).hash x
/-- the set of the texts ns at a -/
def SetS (P : Program) (w : World) (h : Heap) (a : Addr) (ns : List Str) : Prop :=
  ∃ o es ep t, h.get? a = some o ∧ o.ExactSet ∧ o.data = .set es ep t ∧ (∀ e ∈ es.toList, StrE P w e) ∧ (es.toList.map txE).Perm ns ∧ ns.Nodup ∧
    es.size < scanBound ∧ t.fits es.size = true ∧ Ris t.place.toList ∧ (w.params.followText "set-order" = true ∨ t.led = true)
/-- one text more -/
def addS (ns : List Str) (x : Str) : List Str := if x ∈ ns then ns else x :: ns
/-- all of them, one behind another -/
def allS (xs : List Str) : List Str := xs.foldl addS []
theorem addS_nodup {ns : List Str} {x : Str} (h : ns.Nodup) : (addS ns x).Nodup := by
  unfold addS
  by_cases e : x ∈ ns
  · rw [if_pos e]; exact h
  · rw [if_neg e]; exact List.nodup_cons.mpr ⟨e, h⟩
theorem addS_mem {ns : List Str} {x y : Str} : y ∈ addS ns x ↔ y = x ∨ y ∈ ns := by
  unfold addS
  by_cases e : x ∈ ns
  · rw [if_pos e]
    exact ⟨.inr, fun z => z.elim (fun q => q ▸ e) id⟩
  · rw [if_neg e, List.mem_cons]
theorem addS_len {ns : List Str} {x : Str} : (addS ns x).length ≤ ns.length + 1 := by
  unfold addS
  by_cases e : x ∈ ns
  · rw [if_pos e]; exact Nat.le_succ _
  · rw [if_neg e]; exact Nat.le_refl _
theorem foldS (xs : List Str) : ∀ ns : List Str, (∀ y, y ∈ xs.foldl addS ns ↔ y ∈ ns ∨ y ∈ xs) ∧ (ns.Nodup → (xs.foldl addS ns).Nodup) ∧ (xs.foldl addS ns).length ≤ ns.length + xs.length := by
  induction xs with
  | nil => intro ns; exact ⟨fun y => by simp, id, Nat.le_refl _⟩
  | cons x xs ih =>
    intro ns
    obtain ⟨h1, h2, h3⟩ := ih (addS ns x)
    refine ⟨fun y => ?_, fun hn => h2 (addS_nodup hn), ?_⟩
    · rw [List.foldl_cons, h1 y, addS_mem, List.mem_cons]
      exact ⟨fun z => z.elim (fun q => q.elim (fun r => .inr (.inl r)) .inl) fun q => .inr (.inr q), fun z => z.elim (fun q => .inl (.inr q)) fun q => q.elim (fun r => .inl (.inl r)) .inr⟩
    · rw [List.foldl_cons, List.length_cons]
      have := addS_len (ns := ns) (x := x)
      omega
theorem allS_mem {xs : List Str} {y : Str} : y ∈ allS xs ↔ y ∈ xs := by
  have := (foldS xs []).1 y
  simpa [allS] using this
theorem allS_nodup {xs : List Str} : (allS xs).Nodup := (foldS xs []).2.1 List.nodup_nil
theorem allS_len (xs : List Str) : (allS xs).length ≤ xs.length := by
  have := (foldS xs []).2.2
  simpa [allS] using this
section
variable {P : Program} {w : World} {h h' : Heap} {a : Addr} {ns : List Str}
theorem SetS.at (R : SetS P w h a ns) (k : ∀ o, h.get? a = some o → h'.get? a = some o) : SetS P w h' a ns := by
  obtain ⟨o, es, ep, t, ho, r⟩ := R
  exact ⟨o, es, ep, t, k o ho, r⟩
theorem SetS.lt (R : SetS P w h a ns) : a < h.objs.size := by
  obtain ⟨o, es, ep, t, ho, r⟩ := R
  exact Heap.lt_size ho
theorem strE_elems {l : List (Int × Value)} (g : ∀ e ∈ l, StrE P w e) : ElemsOf (strKind P w) l := fun e he => by
  obtain ⟨x, t, h1, h2⟩ := g e he
  exact ⟨⟨x, by rw [h1]; exact strKind_is P w x t, h2⟩, by rw [h1] <;> rfl⟩
theorem strE_is {e : Int × Value} (g : StrE P w e) (x : Str) : (strKind P w).is x e.2 = true ↔ txE e = x := by
  obtain ⟨y, t, h1, _⟩ := g
  unfold txE
  rw [h1]
  have h2 := KeyKind.is_eq_decide (strKind_is P w y t) x
  rw [h2]
  simp only [decide_eq_true_eq]
  exact eq_comm
theorem strE_mem {l : List (Int × Value)} (g : ∀ e ∈ l, StrE P w e) (x : Str) : x ∈ l.map txE ↔ ∃ e ∈ l, (strKind P w).is x e.2 = true := by
  rw [List.mem_map]
  exact ⟨fun ⟨e, he, q⟩ => ⟨e, he, (strE_is (g e he) x).mpr q⟩, fun ⟨e, he, q⟩ => ⟨e, he, (strE_is (g e he) x).mp q⟩⟩
end
theorem strsAre_at : ∀ {us : List Value} {xs : List Str}, StrsAre us xs → ∀ (i : Nat) (v : Value), us[i]? = some v → ∃ x t, xs[i]? = some x ∧ v = .str x t
  | _, _, .nil, i, v, h => by simp at h
  | _, _, .cons x t r, 0, v, h => ⟨x, t, rfl, by simpa using h.symm⟩
  | _, _, .cons x t r, i + 1, v, h => by
    obtain ⟨y, u, e1, e2⟩ := strsAre_at r i v (by simpa using h)
    exact ⟨y, u, by simpa using e1, e2⟩
section
variable {P : Program} {w : World} {A : Around} {E : Value → Shared → Prop} {s : Shared} {a : Addr} {ns : List Str}
theorem setS_tail {g : Bool → Sem Unit} (hg : ∀ (b : Bool) (s₁ : Shared) (Q' : Unit → Shared → Prop), Q' () s₁ → wpAny (model P w) A (g b) Q' E s₁)
    {o : Obj} {es : Array (Int × Value)} {ep : Nat} {t : SetTable} (ho : s.heap.get? a = some o) (hex : o.ExactSet) (hd : o.data = .set es ep t)
    {es1 : Array (Int × Value)} {t2 : SetTable} {ns1 : List Str} (g1 : ∀ e ∈ es1.toList, StrE P w e) (p1 : (es1.toList.map txE).Perm ns1) (nd1 : ns1.Nodup)
    (hb1 : es1.size < scanBound) (hf2 : t2.fits es1.size = true) (hr : Ris t2.place.toList) (hl : w.params.followText "set-order" = true ∨ t2.led = true) {wasDummy : Bool} {R : Option Bool → Shared → Prop}
    (hR : ∀ h', Heap.SameBut a s.heap h' → SetS P w h' a ns1 → R (some true) { s with heap := h' }) :
    wpAny (model P w) A (do
        storeSet a es1 t2
        if (!wasDummy && t2.tooFull) = true then do
            g (relayAll t2 es1 (SetTable.grown es1.size)).2.2
            storeSet a (relayAll t2 es1 (SetTable.grown es1.size)).1 (relayAll t2 es1 (SetTable.grown es1.size)).2.1
            pure (some true)
          else pure (some true)) R E s := by
  refine wpAny_bind (wpAny_storeSet_of ho hd ?_ (fits_of_scanBound hb1))
  have ho1 := store_at (es' := es1) (t' := t2) ho hd
  have sb1 := Heap.SameBut.update s.heap a (Obj.putSet es1 t2)
  split
  · have pm := relayAll_perm t2 es1 (SetTable.grown es1.size)
    have hf3 := relayAll_fits t2 es1 (SetTable.grown es1.size)
    have hr3 := relayAll_ris t2 es1 (SetTable.grown es1.size)
    have hl3 := relayAll_led t2 es1 (SetTable.grown es1.size)
    generalize relayAll t2 es1 (SetTable.grown es1.size) = Z at pm hf3 hr3 hl3 ⊢
    obtain ⟨es2, t3, gave⟩ := Z
    dsimp only at pm hf3 hr3 hl3 ⊢
    have hb2 : es2.size < scanBound := by
      rw [← Array.length_toList, pm.length_eq, Array.length_toList]
      exact hb1
    refine wpAny_bind (hg _ _ _ ?_)
    refine wpAny_bind (wpAny_storeSet_of ho1 rfl ?_ (fits_of_scanBound hb2))
    have ho2 := store_at (es' := es2) (t' := t3) ho1 rfl
    refine wpAny_pure (hR _ (sb1.trans (Heap.SameBut.update _ a _)) ?_)
    exact ⟨_, es2, _, t3, ho2, hex, rfl, fun e he => g1 e (pm.mem_iff.mp he), (pm.map txE).trans p1, nd1, hb2, hf3, hr3, hl.imp id fun z => by rw [hl3]; exact z⟩
  · exact wpAny_pure (hR _ sb1 ⟨_, es1, _, t2, ho1, hex, rfl, g1, p1, nd1, hb1, hf2, hr, hl⟩)
theorem setS_add_hashed {x : Str} {tk : Tok} {Q : Bool → Shared → Prop} (R : SetS P w s.heap a ns) (room : ns.length + 1 < scanBound)
    (hQ : ∀ h' b, Heap.SameBut a s.heap h' → SetS P w h' a (addS ns x) → Q b { s with heap := h' }) :
    wpAny (model P w) A (setAddHashed a (.str x tk) ((strKind P w).hash x)) Q E s := by
  obtain ⟨o, es, ep, t, ho, hex, hd, g, pm0, nd, hb, hf, hr, hl⟩ := R
  have hkey : (strKind P w).is x (.str x tk) = true := strKind_is P w x tk
  have hsc : (Value.str x tk).scannable = true := rfl
  have hel : ElemsOf (strKind P w) es.toList := strE_elems g
  unfold setAddHashed setAddHashedIn
  refine wpAny_holding (wpAny_bind (wpAny_setState_of ho hd hf ?_))
  dsimp only
  rw [byScan_of hsc hb hel]
  simp only [↓reduceIte]
  unfold setAddByScan
  refine wpAny_bind ?_
  refine wpAny_bind (wpAny_rule ?_)
  refine wpAny_bind (wpAny_setScan_of hkey ho hd hf hel ?_)
  cases hfi : List.findIdx? (fun e => (strKind P w).is x e.2) es.toList with
  | some j =>
    dsimp only
    obtain ⟨hj, pj, _⟩ := List.findIdx?_eq_some_iff_getElem.mp hfi
    have hx : x ∈ ns := pm0.mem_iff.mp ((strE_mem (P := P) (w := w) g x).mpr ⟨es.toList[j], List.getElem_mem hj, pj⟩)
    refine wpAny_pure (wpAny_pure ?_)
    refine hQ s.heap _ (Heap.SameBut.refl a s.heap) ⟨o, es, ep, t, ho, hex, hd, g, ?_, ?_, hb, hf, hr, hl⟩
    · unfold addS; rw [if_pos hx]; exact pm0
    · exact addS_nodup nd
  | none =>
    dsimp only
    have hnk : x ∉ ns := fun z => by
      obtain ⟨e, he, q⟩ := (strE_mem (P := P) (w := w) g x).mp (pm0.mem_iff.mpr z)
      have c := List.findIdx?_eq_none_iff.mp hfi e he
      rw [q] at c
      cases c
    have hgw : ∀ (b : Bool) {s₁ : Shared} {Q' : Unit → Shared → Prop}, Q' () s₁ → wpAny (model P w) A (match b with | true => rule "set.scan.the-table-gave-way" | false => pure ()) Q' E s₁ :=
      fun b s₁ Q' q => by cases b <;> first | exact wpAny_pure q | exact wpAny_rule q
    have pm := layNew_perm t es ((strKind P w).hash x) (.str x tk)
    have hf1 := layNew_fits t es ((strKind P w).hash x) (.str x tk)
    have hr1 := layNew_ris t es ((strKind P w).hash x) (.str x tk) hr
    have hl1 := layNew_led t es ((strKind P w).hash x) (.str x tk)
    generalize layNew t es ((strKind P w).hash x) (.str x tk) = Z at pm hf1 hr1 hl1 ⊢
    obtain ⟨es1, t1, wasDummy, gave⟩ := Z
    dsimp only at pm hf1 hr1 hl1 ⊢
    rw [Array.toList_push] at pm
    have pc : es1.toList.Perm (((strKind P w).hash x, Value.str x tk) :: es.toList) := pm.trans (List.perm_append_singleton _ _)
    have pk : (es1.toList.map txE).Perm (addS ns x) := by
      unfold addS
      rw [if_neg hnk]
      exact (pc.map txE).trans (List.Perm.cons x pm0)
    have g1 : ∀ e ∈ es1.toList, StrE P w e := fun e he => by
      rcases List.mem_cons.mp (pc.mem_iff.mp he) with z | z
      · rw [z]; exact ⟨x, tk, rfl, rfl⟩
      · exact g e z
    have nd1 : (addS ns x).Nodup := addS_nodup nd
    have hb1 : es1.size < scanBound := by
      rw [← Array.length_toList, pc.length_eq, List.length_cons]
      have := pm0.length_eq
      rw [List.length_map] at this
      omega
    have hled : w.params.followText "set-order" = true ∨ t1.led = true := hl.imp id fun z => by rw [hl1]; exact z
    refine wpAny_bind (hgw _ ?_)
    split
    · refine wpAny_bind ?_
      rw [hashByValue_scannable 8 hsc]
      refine wpAny_pure ?_
      refine setS_tail ?_ ho hex hd g1 pk nd1 hb1 ?_ ?_ ?_ ?_
      · intro b s₁ Q' q; cases b <;> first | exact wpAny_pure q | exact wpAny_rule q
      · first | (split <;> first | exact hf1 | exact SetTable.fits_plain_off hf1) | exact hf1
      · first | (split <;> exact hr1) | exact hr1
      · first | (split <;> exact hled) | exact hled
      · intro h' sb r; dsimp only; exact wpAny_pure (hQ h' _ sb r)
    · refine wpAny_bind (wpAny_pure ?_)
      simp only [↓reduceIte]
      refine setS_tail ?_ ho hex hd g1 pk nd1 hb1 hf1 hr1 hled ?_
      · intro b s₁ Q' q; cases b <;> first | exact wpAny_pure q | exact wpAny_rule q
      · intro h' sb r; dsimp only; exact wpAny_pure (hQ h' _ sb r)
theorem setS_fresh {h : Heap} (ho : h.get? a = some { cls := .type "set", dict := none, data := .set #[] 0 (.fresh 0 0 (!w.params.followText "set-order")) }) : SetS P w h a [] :=
  ⟨_, #[], 0, _, ho, ⟨rfl, rfl, rfl⟩, rfl, (fun e he => by simp at he), .refl _, List.nodup_nil, (by decide), (by rfl), List.Pairwise.nil, by
    show _ ∨ (!w.params.followText "set-order") = true
    cases w.params.followText "set-order"
    · exact .inr rfl
    · exact .inl rfl⟩
/-- the loop behind set(texts) -/
theorem setS_loop {I : Addr} {fp wr : List Addr} {G : Array GenState → Array GenState → Prop} {n : Nat} {Pv : Nat → Value → Prop} {St : Nat → Shared → Prop} {R : Result → Shared → Prop}
    (W : WalksS P w A.in1 I fp wr G n Pv St) (S : Addr) (hSf : S ∉ fp) (xs : List Str) (hn : n = xs.length) (hfew : xs.length < 64) (hval : ∀ i v, Pv i v → ∃ x t, xs[i]? = some x ∧ v = .str x t)
    (h0 : Heap) (hS0 : h0.get? S = none) (hw0 : ∀ b ∈ wr, h0.get? b = none) :
    ∀ (k i : Nat) (s : Shared), n - i = k → i ≤ n → St i s → (∀ b o, h0.get? b = some o → s.heap.get? b = some o) → SetS P w s.heap S (allS (xs.take i)) →
      (∀ s', Moved (S :: wr) G s s' → SetS P w s'.heap S (allS xs) → (∀ b o, h0.get? b = some o → s'.heap.get? b = some o) → R (.ok (.ret .none)) s') →
      codeAny (model P w) A (.builtin "set.update.loop" ⟨[.ref S, .ref I], []⟩) R s := by
  have hSw : S ∉ wr := fun h => hSf (W.sub _ h)
  have hsub : ∀ b ∈ wr, b ∈ S :: wr := fun b hb => List.mem_cons_of_mem _ hb
  have keepM : ∀ {s s' : Shared}, Moved wr G s s' → (∀ b o, h0.get? b = some o → s.heap.get? b = some o) → ∀ b o, h0.get? b = some o → s'.heap.get? b = some o := fun hm hkp b o e =>
    hm.heap b o (fun hb => by rw [hw0 b hb] at e; cases e) (hkp b o e)
  intro k
  induction k with
  | zero =>
    intro i s hk' hi hst hkp hS hR
    have hin : i = n := by omega
    subst hin
    refine codeAny_builtin F.entry_set_update_loop ?_
    rw [Around.under_plainId F.plain_set_update_loop _]
    show wpAny _ A.in1 (pyNext (.ref I) >>= _) _ _ s
    refine wpAny_bind (W.done s _ _ hst fun s' hm => ?_)
    show wpAny _ A.in1 (ret Value.none) _ _ s'
    rw [hn, List.take_length] at hS
    exact wpAny_pure (hR s' (hm.mono hsub) (hS.at fun o e => hm.heap S o hSw e) (keepM hm hkp))
  | succ k ih =>
    intro i s hk' hi hst hkp hS hR
    have hlt : i < n := by omega
    refine codeAny_builtin F.entry_set_update_loop ?_
    rw [Around.under_plainId F.plain_set_update_loop _]
    show wpAny _ A.in1 (pyNext (.ref I) >>= _) _ _ s
    refine wpAny_bind (W.item i s _ _ hlt hst fun v s' hP hst' hm => ?_)
    obtain ⟨x, t, hx, rfl⟩ := hval i v hP
    have hkp' := keepM hm hkp
    have hS' : SetS P w s'.heap S (allS (xs.take i)) := hS.at fun o e => hm.heap S o hSw e
    show wpAny _ A.in1 (holding [Value.str x t] (setAdd S (.str x t)) >>= _) _ _ s'
    refine wpAny_bind (wpAny_holding ?_)
    unfold setAdd
    refine wpAny_holding ?_
    refine wpAny_bind ((strKind P w).pyHash (k := x) (strKind_is _ _ _ _) ?_)
    refine setS_add_hashed (s := { s' with toks := s'.toks + 1 }) hS' ?_ fun h' b hsb hS2 => ?_
    · have := allS_len (xs.take i)
      rw [List.length_take] at this
      unfold scanBound
      omega
    have e1 : addS (allS (xs.take i)) x = allS (xs.take (i + 1)) := by
      rw [List.take_add_one, hx]
      unfold allS
      rw [List.foldl_append]
      rfl
    rw [e1] at hS2
    have hkp2 : ∀ b o, h0.get? b = some o → h'.get? b = some o := fun b o e => (hsb.2 b (fun z => by rw [z, hS0] at e; cases e)).trans (hkp' b o e)
    refine wpAny_pure ⟨plainId_quiet F.plain_set_update_loop _, ih (i + 1) _ (by omega) hlt (W.frame _ s' _ _ hst' (Nat.le_add_right _ _) fun b hb o e => ?_) hkp2 hS2 fun s'' hm'' hS'' hkp'' => ?_⟩
    · rw [hsb.2 b (fun h : b = S => hSf (by rw [← h]; exact hb))]; exact e
    · refine hR s'' (Moved.trans W.gtrans ((hm.mono hsub).then_heap (Nat.le_add_right _ _) fun b o hb e => ?_) hm'') hS'' hkp''
      rw [hsb.2 b (fun h : b = S => hb (by rw [h]; exact List.mem_cons_self))]; exact e
set_option maxHeartbeats 3200000 in
/-- set(texts) -/
theorem call_set_texts {l : Addr} {items : Array Value} (xs : List Str) {Q : Value → Shared → Prop} (hh : A.handled = none) (hl : s.heap.IsList l items) (hit : StrsAre items.toList xs) (hfew : xs.length < 64)
    (h : ∀ (h' : Heap) (tk : Nat), SetS P w h' s.heap.objs.size (allS xs) → (∀ b o, s.heap.get? b = some o → h'.get? b = some o) → Q (.ref s.heap.objs.size) { s with heap := h', toks := tk }) :
    wpAny (model P w) A (call (.type "set") [.ref l]) Q E s := by
  have hisz : items.size = xs.length := by
    rw [← Array.length_toList]
    exact hit.length
  obtain ⟨c, tl, hmro⟩ := F.called_set.mro
  have hmade := F.called_set.made
  have hsub := F.called_set.sub
  refine wpAny_call (codeAny_of_tree ?_)
  show wpAny _ _ (callAny (.type "set") _) _ _ _
  refine wpAny_pure ⟨Code.quiet_builtin _ (by decide +kernel), codeAny_builtin F.entry_type_call ?_⟩
  rw [Around.under_plain (weight_type_call_type "set" [.ref l] []) rfl]
  have h1 := F.called_set.notType
  have h2 := F.called_set.canCreate
  have hct := F.typeCall_set_1 (.ref l)
  repeat (any_goals (first | assumption | wp_step))
  refine codeAny_mono (code_set_led1 (.ref l) (E := E) (Q₁ := fun obj s₁ => obj = .ref s.heap.objs.size ∧ s₁ = { s with heap := s.heap.push { cls := .type "set", dict := none, data := .set #[] 0 (.fresh 0 0 (!w.params.followText "set-order")) } }) ⟨rfl, rfl⟩) fun r s₁ hr => ?_
  cases r with
  | error e => exact hr
  | ok fl =>
    cases fl with
    | ret obj =>
      obtain ⟨rfl, rfl⟩ := hr
      have hS : (s.heap.push { cls := .type "set", dict := none, data := .set #[] 0 (.fresh 0 0 (!w.params.followText "set-order")) }).get? s.heap.objs.size = some { cls := .type "set", dict := none, data := .set #[] 0 (.fresh 0 0 (!w.params.followText "set-order")) } := Heap.get?_push_size _ rfl
      have hT : Shared.TypeIs { s with heap := s.heap.push { cls := .type "set", dict := none, data := .set #[] 0 (.fresh 0 0 (!w.params.followText "set-order")) } } (.ref s.heap.objs.size) "set" := ⟨_, hS, rfl⟩
      have hli := F.called_set.init.lookup
      have hbi := F.called_set.init.bind (.ref s.heap.objs.size)
      repeat (any_goals (first | assumption | wp_step))
      refine codeAny_mono (codeAny_call_builtin (R := wants (fun r s₂ => r = .none ∧ ∃ h' tk, s₂ = { s with heap := h', toks := tk } ∧ SetS P w h' s.heap.objs.size (allS xs) ∧
          (∀ b o, s.heap.get? b = some o → h'.get? b = some o)) E) F.called_set.init.plain F.entry_set_init (check_set_init_1 hT ?_)) fun r₂ s₂ hr₂ => ?_
      · obtain ⟨ol, hol, hcl, nl, hdl⟩ := hl
        obtain ⟨ocls, odict, odata, oslots⟩ := ol
        simp only at hcl hdl
        subst hcl; subst hdl
        have hol' : (s.heap.push { cls := .type "set", dict := none, data := .set #[] 0 (.fresh 0 0 (!w.params.followText "set-order")) }).get? l = some { cls := .type "list", dict := odict, data := .seq items nl, slots := oslots } := Heap.get?_push_of_some _ hol
        have hsls := F.sub_list_set
        have hslf := F.sub_list_frozenset
        have hne : (Value.type "list" == Value.type "dict") = false := by decide
        have hl1 : (s.heap.push { cls := .type "set", dict := none, data := .set #[] 0 (.fresh 0 0 (!w.params.followText "set-order")) }).IsList l items := ⟨_, hol', rfl, nl, rfl⟩
        unfold Builtin.«set.__init__» noKeywords Builtin.Frozenset.updateFrom
        generalize hPI : pyIter = PI
        wp_walk
        subst hPI
        refine wpAny_pyIter_list hl1 ?_
        refine wpAny_bind (wpAny_runValue ?_)
        have hlS : l < s.heap.objs.size := Heap.lt_size hol
        have hh3 : A.in1.in1.in1.handled = none := by simp [hh]
        have hneI : l ≠ (s.heap.push { cls := .type "set", dict := none, data := .set #[] 0 (.fresh 0 0 (!w.params.followText "set-order")) }).objs.size := by
          rw [Heap.size_push]; exact Nat.ne_of_lt (Nat.lt_succ_of_lt hlS)
        have hSf : s.heap.objs.size ∉ [(s.heap.push { cls := .type "set", dict := none, data := .set #[] 0 (.fresh 0 0 (!w.params.followText "set-order")) }).objs.size, l] := by
          rw [Heap.size_push]; simp only [List.mem_cons, List.mem_singleton, List.not_mem_nil, or_false, not_or]
          exact ⟨Nat.ne_of_lt (Nat.lt_succ_self _), Nat.ne_of_gt hlS⟩
        have hval : ∀ (i : Nat) (v : Value), items[i]? = some v → ∃ x t, xs[i]? = some x ∧ v = .str x t := fun i v hv => by
          have q : items.toList[i]? = some v := by rw [Array.getElem?_toList]; exact hv
          exact strsAre_at hit i v q
        have none_of : ∀ b, s.heap.objs.size ≤ b → s.heap.get? b = none := fun b hb => by
          cases q : s.heap.get? b with
          | none => rfl
          | some o => exact absurd (Nat.lt_of_lt_of_le (Heap.lt_size q) hb) (Nat.lt_irrefl _)
        refine setS_loop ((Walks.list hh3 _ l hneI items).toS) s.heap.objs.size
          hSf xs hisz hfew hval s.heap (none_of _ (Nat.le_refl _)) (fun b hb => none_of b (by
            rw [List.mem_singleton.mp hb, Heap.size_push]
            exact Nat.le_succ _)) (items.size - 0) 0 _ (by omega) (Nat.zero_le _)
          ⟨⟨_, Heap.get?_push_size _ rfl, rfl, rfl⟩, (hl1.push _)⟩ (fun b o e => Heap.get?_push_of_some _ (Heap.get?_push_of_some _ e)) ?hS0 ?hR
        case hS0 =>
          exact setS_fresh (Heap.get?_push_of_some _ hS)
        case hR =>
          intro s' hm hS' hkp
          obtain ⟨h', g2, d', tk', os'⟩ := s'
          have eg : g2 = s.gens := hm.gens
          have ed : d' = s.drawn := hm.drawn
          have eo : os' = s.os := hm.os
          subst eg; subst ed; subst eo
          show wpAny _ _ _ _ _ _
          refine wpAny_pure ?_
          show wpAny _ _ (ret Value.none) _ _ _
          exact wpAny_pure ⟨rfl, h', tk', rfl, hS', hkp⟩
      · cases r₂ with
        | error e => exact hr₂
        | ok fl₂ =>
          cases fl₂ with
          | ret r =>
            obtain ⟨rfl, h', tk, rfl, hS', hk'⟩ := hr₂
            repeat (any_goals (first | assumption | wp_step))
            exact h _ _ hS' hk'
          | _ => exact hr₂.elim
    | _ => exact hr.elim
/-- sorted(set of texts) -/
theorem sorted_setS {Q : Value → Shared → Prop} (R : SetS P w s.heap a ns) (hh : A.handled = none) (h64 : ns.length < 64)
    (hQ : ∀ s' p (out : Array Value) (c : Nat) (ys : List Str), (∀ b o, s.heap.get? b = some o → s'.heap.get? b = some o) → s'.gens = s.gens → s'.os = s.os → s.heap.objs.size ≤ p →
      s'.heap.get? p = some (seqObj "list" out c) → StrsAre out.toList ys → ys.Perm ns → sortedS ys = true → Q (.ref p) s') :
    wpAny (model P w) A (call (.builtin "sorted") [.ref a]) Q E s := by
  obtain ⟨o, es, ep, t, ho, hex, hd, g, pm0, nd, hb, hf, hr, hl⟩ := R
  refine Calls.call_function_entry kind_sorted plain_sorted entry_sorted (args_sorted1 _) ?_
  unfold Builtin.«sorted»
  refine wpAny_bind (m := checkCount "sorted" 1 1 _) (wpAny_pure ?_)
  refine wpAny_bind (collect_set (A := A.in1) hh ⟨o, ho, hex.1, hd⟩ hf hb hr hl fun s1 vs k1 hz g1 o1 pm => ?_)
  have hvl : vs.length = ns.length := by
    rw [pm.length_eq, List.length_map, ← pm0.length_eq, List.length_map]
  have hI : StrsAre vs (vs.map strOf) := strsAre_map vs fun v hv => by
    obtain ⟨e, he, q⟩ := List.mem_map.mp (pm.mem_iff.mp hv)
    obtain ⟨x, tk, h1, _⟩ := g e he
    exact ⟨x, tk, by rw [← q]; exact h1⟩
  have pk : (vs.map strOf).Perm ns := by
    have q := pm.map strOf
    rw [List.map_map] at q
    refine (q.trans (List.Perm.of_eq (List.map_congr_left fun e he => ?_))).trans pm0
    obtain ⟨x, tk, h1, _⟩ := g e he
    show strOf e.2 = txE e
    unfold txE
    rw [h1]
    rfl
  refine wpAny_bind (wpAny_newList ?_ (by rw [hvl, sizeLine_eq]; omega))
  have hoL : (s1.heap.push (seqObj "list" vs.toArray 0)).get? s1.heap.objs.size = some (seqObj "list" vs.toArray 0) := Heap.get?_push_size _ rfl
  refine wpAny_bind (wpAny_holding (wpAny_call_entry slot_list_sort ⟨_, hoL, rfl⟩ entry_list_sort (list_sort_treeK strKind_oneLt hoL hI.keysOf (fun v₁ v₂ rest e => keyKind_strs (by rw [← e]; exact hI)) (by rw [hvl]; exact h64) fun st' hp hs => ?_) (args_list_sort _)))
  obtain ⟨ys, a1, a2, a3⟩ := sorted_out_str hI hp hs
  obtain ⟨c, hc⟩ := sortedHeap_at (vs := vs) (out := (arrOf st').map (·.2)) hoL
  refine ⟨.none, rfl, wpAny_pure ⟨_, rfl, hQ _ s1.heap.objs.size _ c ys (fun b u e => ?_) g1 o1 hz hc a1 (a2.trans pk) a3⟩⟩
  have q := k1 b u e
  have hlt := Heap.lt_size q
  show (sortedHeap (s1.heap.push (seqObj "list" vs.toArray 0)) s1.heap.objs.size vs _).get? b = some u
  rw [sortedHeap_old (Nat.ne_of_lt hlt) (by rw [size_push']; exact Nat.lt_succ_of_lt hlt)]
  exact Heap.get?_push_of_some _ q
end
section
variable {X : Cx}
/-- the set of texts, as it lies -/
def SetSO (P : Program) (w : World) (a : Addr) (ns : List Str) : HO := .ext fun h => SetS P w h a ns
theorem setSO_new {P : Program} {w : World} {H : Hp} {h : Heap} {a : Addr} {ns : List Str} (R : SetS P w h a ns) : ObjOk P w H h a (SetSO P w a ns) := by
  have ⟨o, _, _, _, ho, _⟩ := R
  exact ⟨R, ⟨o, ho⟩, fun h1 h2 p k => SetS.at p k⟩
def rSetTx (K : PySem.W.Frag) (P : Program) (w : World) : List V → Hp → VK → Prop := fun vs H Q => ∃ (l : Addr) (xs : List Str), vs = [V.ref l] ∧ SqL K H l (xs.map V.str) ∧ xs.length < 64 ∧ ∀ a, H a = none → Q (.ref a) (upd H a (SetSO P w a (allS xs)))
theorem cr_setTx (hc : X.calm = true) : CallR X (.type "set") (rSetTx X.K X.prog X.w) := by
  intro pins s σ H xs us Q I r h
  obtain ⟨l, ks, rfl, hl, hf, q⟩ := h
  rw [Vals.ref1 r]
  obtain ⟨its, rv, pl, hz⟩ := I.list hl
  have hn : H s.heap.objs.size = none := I.hok.fresh (Nat.le_refl _)
  refine call_set_texts (P := X.prog) (w := X.w) ks (I.ok.hd hc) pl.isList (by simpa using rv.strs) hf fun h' tk R k => ?_
  exact ⟨.ref s.heap.objs.size, upd H s.heap.objs.size (SetSO X.prog X.w s.heap.objs.size (allS ks)), I.laid (t' := tk) k (Nat.le_refl _) (setSO_new R), rfl, q _ hn⟩
def rSortTx (P : Program) (w : World) : List V → Hp → VK → Prop := fun vs H Q => ∃ (a : Addr) (ns : List Str), vs = [V.ref a] ∧ H a = some (SetSO P w a ns) ∧ ns.length < 64 ∧
  ∀ (ys : List Str) (p : Addr), ys.Perm ns → sortedS ys = true → H p = none → Q (.ref p) (upd H p (.lst (ys.map V.str)))
theorem cr_sortTx (hc : X.calm = true) : CallR X (.builtin "sorted") (rSortTx X.prog X.w) := by
  intro pins s σ H vs us Q I r h
  obtain ⟨a, ns, rfl, ha, h64, q⟩ := h
  have R : SetS X.prog X.w s.heap a ns := (I.hok a _ ha).1
  rw [Vals.ref1 r]
  refine sorted_setS R (I.ok.hd hc) h64 fun s' p out c ys k g o hp hg hi pm srt => ?_
  have hlen : (ys.map V.str).length ≤ sizeLine := by rw [List.length_map, pm.length_eq, sizeLine_eq]; omega
  have hn : H p = none := I.hok.fresh hp
  have J : Inv X pins σ (upd H p (.lst (ys.map V.str))) { s with heap := s'.heap, gens := s'.gens, drawn := s'.drawn, toks := s'.toks } :=
    I.call (ch := []) (Un.laid k hp hn) (I.hok.laid k hp ⟨hlen, out.toList, c, vals_of_strs hi, hg⟩) (by rw [g]; exact I.bare) (fun _ z => nomatch z)
  have e : s' = { s with heap := s'.heap, gens := s'.gens, drawn := s'.drawn, toks := s'.toks } := by
    cases s'
    cases s
    cases o
    rfl
  rw [e]
  exact ⟨.ref p, _, J, rfl, q ys p pm srt hn⟩
end
end L2
end
section
set_option Elab.async false
set_option linter.all false
set_option maxRecDepth 100000
set_option maxHeartbeats 2000000
/-! # a field among several targets: self.a, self.b = pair -/
namespace L2
open PySem PySem.Spec PyProof.Rows
section
variable {X : Cx}
def gFld (K : PySem.W.Frag) (to : TE) (f : Str) : TG := fun v σ H Q => to σ H fun x H1 => ∃ a C dx fs, x = .ref a ∧ H1 a = some (.ins C dx fs) ∧ Cls K C ∧ NoAttr K C f ∧ fs.length < 1000 ∧ Q σ (upd H1 a (.ins C dx (putF f v fs)))
theorem pg_attr {o : Expr} {to : TE} {f : Str} {pos : Pos} (ho : PE X o to) : PG X (.Attribute o f pos) (gFld X.K to f) := by
  refine ⟨fun pins s σ H v u Q I r h => ?_⟩
  rw [assign_Attribute]
  refine wpAny_bind (wpAny_holding (thn (ho.run pins s σ H _ I h) fun ov s1 ⟨x, H1, I1, rx, a, C, dx, fs, ex, ea, c, n, l, q⟩ => ?_))
  subst ex
  obtain rfl : ov = Value.ref a := rx
  refine wpAny_bind (wpAny_standAt ?_)
  refine wpAny_bind (wpAny_holding (setattr_ok I1 ea c n l r fun s3 I3 => ?_))
  exact wpAny_release ⟨σ, _, I3, q⟩
end
end L2
end
section
set_option Elab.async false
set_option linter.all false
set_option maxRecDepth 100000
set_option maxHeartbeats 2000000
/-! # enumerate of a list that stands while other lists change -/
namespace L2
open PySem PySem.Spec PyProof.Rows
section
variable {X : Cx} {e : Expr} {ta : TA} {p pos tpos : Pos} {elts : List Expr} {kk : Nat}
def iEnumL (ta : TA) : TI := fun σ H R => ta σ H fun vs H1 => ∃ a xs, vs = [.ref a] ∧ H1 a = some (.lst xs) ∧
  ∀ (J : It) (G : Hp → Prop), Walk J xs.length G (YPair (fun i => some (.int (i : Nat))) (fun i => xs[i]?)) → (∀ H', H' a = some (.lst xs) → G H') → R J H1
theorem pi_enumL (hg : Gl X "enumerate") (hm : X.mg "enumerate" = none) (ha : PA X [e] ta) (hs : starEach [e] X.env = [(false, eval e X.env)] := by rfl) : PI X (.Tuple elts kk tpos) (.Call (.Name "enumerate" p) [e] [] pos) (iEnumL ta) := by
  refine ⟨fun pins s σ H R I h => ?_⟩
  refine Call_ (ld_blt I hg hm boot_enumerate (PyProof.Rows.callWith_type1 (thn (ha.run pos pins s σ H _ I h) fun us s1 ⟨vs, H1, I1, r1, q1⟩ => ?_) hs rfl))
  obtain ⟨a, xs, ex, q1, q2⟩ := q1
  subst ex
  cases r1 with
  | cons r rr =>
    cases rr
    cases r
    have big : ∀ (b : Addr), b ∈ [s1.heap.objs.size + 1, s1.heap.objs.size] → FpOk X pins H1 b := fun b hb => by
      have hle : s1.heap.objs.size ≤ b := by
        rcases (by simpa using hb : b = s1.heap.objs.size + 1 ∨ b = s1.heap.objs.size) with z | z
        · exact z ▸ Nat.le_succ _
        · exact z ▸ Nat.le_refl _
      exact I1.fpOk hle (I1.hok.fresh hle)
    have q := q2 _ _ (walk_enum (K := X.K)) fun H' s' => SqL.of s'
    obtain ⟨its, rv, p', hz⟩ := I1.list (SqL.of q1)
    refine call_en (begins_list a its.toArray) p'.isList fun h' he ho hsz hk => wpAny_pyIter_enum he ?_
    exact ⟨s1.heap.objs.size + 1, [s1.heap.objs.size + 1, s1.heap.objs.size], _, _, H1, rfl, I1.kept (t' := s1.toks) hk, turn_enum a (s1.heap.objs.size + 1) s1.heap.objs.size, ⟨⟨.none, he⟩, ⟨_, ho, rfl, rfl⟩, Nat.succ_ne_self _⟩, big, q⟩
end
end L2
end
section
set_option Elab.async false
set_option linter.all false
set_option maxRecDepth 100000
set_option maxHeartbeats 2000000
namespace K88
open PySem L2
local macro_rules | `(tactic| walk_at "hp") => `(tactic| first | assumption | exact upd_same | (refine (upd_ne (by first | assumption | (apply Ne.symm; assumption))).trans ?_; walk_at "hp"))
local macro_rules | `(tactic| walk_at "rd1") => `(tactic| first
  | (refine ⟨_, rfl, ?_⟩)
  | (refine ⟨_, _, rfl, rfl, ?_⟩)
  | (refine ⟨(rfl : scal _ _ = true), ?_⟩)
  | (refine And.intro (by show (0 : Int) < _; decide) ?_)
  | (refine And.intro (And.intro (by decide) (by decide)) ?_)
  | (refine And.intro (Or.inr (And.intro (by decide) (by decide))) ?_)
  | (refine And.intro (And.intro (by decide) (And.intro (by decide) (by decide))) ?_)
  | (refine And.intro (by assumption) ?_)
  | (refine And.intro (And.intro (by omega) (by omega)) ?_)
  | (refine And.intro (Or.inl (And.intro (by omega) (by omega))) ?_)
  | (refine' ⟨_, _, _, _, rfl, rfl, Or.inl (Or.inl ?h1), ?h2, ?h3⟩; (case h1 => walk_at "hp"); (case h2 => rfl))
  | (refine' ⟨_, _, _, _, rfl, rfl, ?h1, ?h2, ?h3⟩; (case h1 => walk_at "hp"); (case h2 => rfl))
  | (refine' ⟨_, _, rfl, Or.inl (Or.inl (Or.inl ?h1)), ?h3⟩; (case h1 => walk_at "hp"))
  | (refine Or.inl ⟨_, rfl, ?_⟩))
local macro_rules | `(tactic| walk_at "rd") => `(tactic| repeat walk_at "rd1")
def top (i : Nat) : Stmt := PySem.Challenge.pw_roomsthrough_k88_whole_level_texts.main.body.getD i (.Pass ⟨0, 0, 0, 0⟩)
abbrev s__wall : Stmt := top 0
abbrev s_BadRoom_init : Stmt := inClass (top 3) 0
abbrev s_BadCell_init : Stmt := inClass (top 4) 0
abbrev s_BadMouth_init : Stmt := inClass (top 5) 0
abbrev s_BadLevel_init : Stmt := inClass (top 6) 0
abbrev s_BadCount_init : Stmt := inClass (top 7) 0
abbrev s_BadText_init : Stmt := inClass (top 8) 0
abbrev s_is_whole : Stmt := top 11
abbrev s_is_row : Stmt := top 12
abbrev s_Room_init : Stmt := inClass (top 20) 0
abbrev s_Room_eq : Stmt := inClass (top 20) 1
abbrev s_Room_cell : Stmt := inClass (top 20) 2
abbrev s_Room_mouth : Stmt := inClass (top 20) 3
abbrev s_Room_mirrored : Stmt := inClass (top 20) 4
abbrev s_need_room : Stmt := top 21
abbrev s__need_lines : Stmt := top 22
abbrev s__is_line : Stmt := top 23
abbrev s__many : Stmt := top 24
abbrev s__is_whole_room : Stmt := top 25
abbrev s__places : Stmt := top 26
abbrev s__neighbours : Stmt := top 27
abbrev s_Level_init : Stmt := inClass (top 31) 0
abbrev s_Level_eq : Stmt := inClass (top 31) 1
abbrev s_Level_part : Stmt := inClass (top 31) 2
abbrev s_Level_with_part : Stmt := inClass (top 31) 3
abbrev s_need_level : Stmt := top 32
abbrev s_need_row : Stmt := top 33
abbrev s_row_of : Stmt := top 34
abbrev s_write_level : Stmt := top 36
abbrev s_read_level : Stmt := top 37
abbrev s__lines_in : Stmt := top 38
abbrev s__lines_of : Stmt := top 39
abbrev s__room_in : Stmt := top 40
abbrev s__built : Stmt := top 41
abbrev s__law_pool : Stmt := top 43
abbrev s__law_draw : Stmt := top 44
abbrev s__law_pick : Stmt := top 45
abbrev s__law_mark : Stmt := top 46
abbrev s__law_room_of : Stmt := top 47
abbrev s__law_room_drawn : Stmt := top 48
abbrev s__law_small : Stmt := top 49
abbrev s__law_tree : Stmt := top 50
abbrev s__law_level_drawn : Stmt := top 51
abbrev s__law_level : Stmt := top 52
abbrev s__law_lines : Stmt := top 53
abbrev s__law_mouths : Stmt := top 54
abbrev s__law_due : Stmt := top 55
abbrev s__law_made : Stmt := top 56
abbrev s__law_told : Stmt := top 57
abbrev s__law_is_due : Stmt := top 58
abbrev s__law_changed : Stmt := top 59
abbrev s_law : Stmt := top 60
theorem sc_is_whole : FnScope ["thing"] ["thing"] (defScope s_is_whole) := ⟨rfl, rfl, rfl, by decide +kernel, rfl, by decide +kernel, by decide +kernel⟩
theorem sc__law_pool : FnScope ["script", "cells", "great", "small", "cell"] ["script"] (defScope s__law_pool) := ⟨rfl, rfl, rfl, by decide +kernel, rfl, by decide +kernel, by decide +kernel⟩
theorem sc__law_draw : FnScope ["pool", "many", "great", "digit", "seed", "number"] ["pool", "many"] (defScope s__law_draw) := ⟨rfl, rfl, rfl, by decide +kernel, rfl, by decide +kernel, by decide +kernel⟩
theorem sc__law_pick : FnScope ["pool", "items"] ["pool", "items"] (defScope s__law_pick) := ⟨rfl, rfl, rfl, by decide +kernel, rfl, by decide +kernel, by decide +kernel⟩
/-- built-ins that stand -/
structure Blt (mg : Str → Option Value) : Prop where
  n_isinstance : mg "isinstance" = none
  n_int : mg "int" = none
  n_bool : mg "bool" = none
  n_list : mg "list" = none
  n_len : mg "len" = none
  n_range : mg "range" = none
  n_abs : mg "abs" = none
  n_tuple : mg "tuple" = none
  n_str : mg "str" = none
  n_repr : mg "repr" = none
section
variable {P : Program} {w : World} {K : PySem.W.Frag} {mg : Str → Option Value} {base : Heap}
def spWhole (K : PySem.W.Frag) : Sp := fun vs H Q _ => ∃ v t b1 b2, vs = [v] ∧ TyX K H v t ∧ PySem.W.kitOne K t (.type "int") = some b1 ∧ PySem.W.kitOne K t (.type "bool") = some b2 ∧ Q (.bl (b1 && !b2)) H
theorem ok_whole {f : Addr} {fd : FuncData} (F : Fun K "is_whole" "is_whole" s_is_whole f fd) (T : Blt mg) : FnG P w K mg base (CXe P w) 1 f fd ["thing"] (spWhole K) := by
  refine F.okG sc_is_whole (fun vs H Q E h => ?_) (fun cdv A outer s H vs Q E hgd hr h => ?_)
  · obtain ⟨v, t, b1, b2, rfl, _⟩ := h; rfl
  · obtain ⟨v, t, b1, b2, rfl, ty, e1, e2, k⟩ := h
    refine ⟨_, (pss_one (ps_ret (pe_and (pe_callB call_isi (by rfl) T.n_isinstance (by decide +kernel) (pa_cons (pv 0) (pa_cons (pe_bltn (v := .ty "int") (u := .type "int") rfl T.n_int (by decide +kernel) rfl) pa_nil))) (pe_one (pe_not (pe_callB call_isi (by rfl) T.n_isinstance (by decide +kernel) (pa_cons (pv 0) (pa_cons (pe_bltn (v := .ty "bool") (u := .type "bool") rfl T.n_bool (by decide +kernel) rfl) pa_nil)))))))), ?_⟩
    refine ⟨_, rfl, _, _, _, _, _, rfl, .ty _, ty, e1, _, rfl, ?_⟩
    cases b1 with
    | false => exact iteF k
    | true =>
      refine iteT ⟨_, rfl, _, _, _, _, _, rfl, .ty _, ty, e2, _, rfl, ?_⟩
      exact k
/-- a pool: the great cells at g, the small ones at s, and two numbers -/
def PoolAt (H : Hp) (p : Addr) : Prop := ∃ (g s : Addr) (gs ss : List Int) (c n : Int), H p = some (.lst [.ref g, .ref s, .int c, .int n]) ∧ g ≠ p ∧ s ≠ p ∧ H g = some (.lst (gs.map V.int)) ∧ H s = some (.lst (ss.map V.int)) ∧ gs.length ≤ 63 ∧ ss.length ≤ 63
theorem PoolAt.same {H H' : Hp} {p : Addr} (s : Same H H') (h : PoolAt H p) : PoolAt H' p := by
  obtain ⟨g, s', gs, ss, c, n, h1, h2, h3, h4, h5, h6⟩ := h
  exact ⟨g, s', gs, ss, c, n, s _ _ h1, h2, h3, s _ _ h4, s _ _ h5, h6⟩
theorem PoolAt.ne {H : Hp} {p b : Addr} (h : PoolAt H p) (e : H b = none) : b ≠ p := by
  obtain ⟨g, s', gs, ss, c, n, h1, _⟩ := h
  intro z
  rw [← z, e] at h1
  cases h1
theorem PoolAt.isL {H : Hp} {p : Addr} (h : PoolAt H p) : ∃ xs, H p = some (HO.lst xs) := by
  obtain ⟨g, s', gs, ss, c, n, h1, _⟩ := h
  exact ⟨_, h1⟩
theorem PoolAt.notTup {H : Hp} {p t : Addr} {xs : List V} (h : PoolAt H p) (e : H t = some (HO.tup xs)) : t ≠ p := by
  obtain ⟨g, s', gs, ss, c, n, h1, _⟩ := h
  intro z
  rw [← z, e] at h1
  cases h1
/-- all but a list that is no pool's stay -/
theorem PoolAt.but {H H1 H' : Hp} {p D : Addr} (h : PoolAt H p) (hD : H D = none) (s : Same H H1) (o : Off (fun b => b = D) H1 H') : PoolAt H' p := by
  obtain ⟨g, s', gs, ss, c, n, h1, h2, h3, h4, h5, h6⟩ := h
  exact ⟨g, s', gs, ss, c, n, o _ _ (ne_of_none h1 hD) (s _ _ h1), h2, h3, o _ _ (ne_of_none h4 hD) (s _ _ h4), o _ _ (ne_of_none h5 hD) (s _ _ h5), h6⟩
/-- a is none of the pool's lists -/
def Apart (H : Hp) (p a : Addr) : Prop := a ≠ p ∧ ∀ g s x y, H p = some (HO.lst [V.ref g, V.ref s, x, y]) → a ≠ g ∧ a ≠ s
/-- the pool is there, and it has taken in nothing that was apart from it -/
def PoolK (H H' : Hp) (p : Addr) : Prop := PoolAt H' p ∧ ∀ a, H a ≠ none → Apart H p a → H' a ≠ none ∧ Apart H' p a
theorem PoolK.refl {H : Hp} {p : Addr} (h : PoolAt H p) : PoolK H H p := ⟨h, fun _ e a => ⟨e, a⟩⟩
theorem PoolK.trans {H H1 H2 : Hp} {p : Addr} (h : PoolK H H1 p) (h2 : PoolK H1 H2 p) : PoolK H H2 p := ⟨h2.1, fun a e q => by
  obtain ⟨x, y⟩ := h.2 a e q
  exact h2.2 a x y⟩
theorem Apart.same {H H' : Hp} {p a : Addr} (hp : PoolAt H p) (s : Same H H') (h : Apart H p a) : Apart H' p a := by
  obtain ⟨g, s', gs, ss, c, n, h1, _⟩ := hp
  refine ⟨h.1, fun g2 s2 x y e => ?_⟩
  rw [s _ _ h1] at e
  cases e
  exact h.2 _ _ _ _ h1
theorem PoolK.same {H H1 H2 : Hp} {p : Addr} (h : PoolK H H1 p) (s : Same H1 H2) : PoolK H H2 p := ⟨h.1.same s, fun a e q => by
  obtain ⟨x, y⟩ := h.2 a e q
  refine ⟨fun z => ?_, y.same h.1 s⟩
  cases e1 : H1 a with
  | none => exact x e1
  | some o => rw [s _ _ e1] at z; cases z⟩
theorem PoolAt.k {H H' : Hp} {p : Addr} (h : PoolAt H p) (s : Same H H') : PoolK H H' p := (PoolK.refl h).same s
theorem PoolAt.apart {H : Hp} {p a : Addr} (h : PoolAt H p) (e : H a = none) : Apart H p a := by
  obtain ⟨g, s', gs, ss, c, n, h1, h2, h3, h4, h5, h6⟩ := h
  refine ⟨fun z => (by rw [z, h1] at e; cases e), fun g2 s2 x y e2 => ?_⟩
  rw [h1] at e2
  cases e2
  exact ⟨fun z => (by rw [z, h4] at e; cases e), fun z => (by rw [z, h5] at e; cases e)⟩
theorem PoolAt.mut {H : Hp} {p a : Addr} {o : HO} (h : PoolAt H p) (q : Apart H p a) : PoolAt (upd H a o) p := by
  obtain ⟨g, s', gs, ss, c, n, h1, h2, h3, h4, h5, h6⟩ := h
  obtain ⟨q1, q2⟩ := q
  obtain ⟨n2, n3⟩ := q2 g s' _ _ h1
  exact ⟨g, s', gs, ss, c, n, (upd_ne q1.symm).trans h1, h2, h3, (upd_ne n2.symm).trans h4, (upd_ne n3.symm).trans h5, h6⟩
theorem Apart.upd {H : Hp} {p a b : Addr} {o : HO} (h : Apart H p a) (n : b ≠ p) : Apart (upd H b o) p a := ⟨h.1, fun g s x y e => h.2 g s x y (by rw [upd_ne n.symm] at e; exact e)⟩
theorem PoolK.mut {H H1 : Hp} {p a : Addr} {o : HO} (h : PoolK H H1 p) (q : Apart H1 p a) : PoolK H (upd H1 a o) p := ⟨h.1.mut q, fun b e z => by
  obtain ⟨x, y⟩ := h.2 b e z
  refine ⟨fun w => ?_, y.upd q.1⟩
  by_cases eb : b = a
  · rw [eb, upd_same] at w; cases w
  · rw [upd_ne eb] at w; exact x w⟩
theorem PoolK.own {H H1 : Hp} {p g s : Addr} {x y x' y' : V} {o : HO} (h : PoolK H H1 p) (e : H1 p = some (HO.lst [V.ref g, V.ref s, x, y])) (e2 : upd H1 p o p = some (HO.lst [V.ref g, V.ref s, x', y'])) (hp : PoolAt (upd H1 p o) p) : PoolK H (upd H1 p o) p := ⟨hp, fun a d q => by
  obtain ⟨z1, z2⟩ := h.2 a d q
  refine ⟨by rw [upd_ne z2.1]; exact z1, z2.1, fun g2 s2 u v e3 => ?_⟩
  rw [e2] at e3
  cases e3
  exact z2.2 _ _ _ _ e⟩
theorem PoolK.taken {H H' : Hp} {p g s q : Addr} {x y x' y' : V} {gs ss : List V} (hp : H p = some (HO.lst [V.ref g, V.ref s, x, y])) (hgp : g ≠ p) (hsp : s ≠ p) (hg : H g = some (HO.lst gs)) (hs : H s = some (HO.lst ss)) (hq : H q = none)
    (h : PoolAt H' p) (k : ∀ a, H a ≠ none → H' a ≠ none) (e : H' p = some (HO.lst [V.ref q, V.ref s, x', y'])) : PoolK H H' p := ⟨h, fun a d z => ⟨k a d, z.1, fun g2 s2 u v e2 => by
  rw [e] at e2
  cases e2
  exact ⟨fun w => d (by rw [w]; exact hq), (z.2 _ _ _ _ hp).2⟩⟩⟩
theorem yes_of {σ : St} {H : Hp} {Q : Bool → Hp → Prop} (h : Q true H) : tYes σ H Q := h
theorem cutV_map {α : Type} (f : α → V) (xs : List α) (lo hi : Option Int) : ∃ ys : List α, cutV (xs.map f) lo hi = ys.map f ∧ ys.length ≤ xs.length ∧ ∀ y ∈ ys, y ∈ xs := by
  unfold cutV
  refine ⟨(xs.drop (HT.sIx (xs.map f).length 0 lo)).take (HT.sIx (xs.map f).length (xs.map f).length hi - HT.sIx (xs.map f).length 0 lo), by rw [← List.map_drop, ← List.map_take], ?_, fun y hy => List.mem_of_mem_drop (List.mem_of_mem_take hy)⟩
  rw [List.length_take, List.length_drop]
  omega
def spPool (K : PySem.W.Frag) : Sp := fun vs H Q _ => ∃ (a : Addr) (ns : List Int), vs = [.ref a] ∧ SqL K H a (ns.map V.int) ∧ ns.length ≤ 63 ∧ ∀ p H', H p = none → Same H H' → PoolAt H' p → Q (.ref p) H'
theorem ok_pool {f : Addr} {fd : FuncData} (F : Fun K "_law_pool" "_law_pool" s__law_pool f fd) (T : Blt mg) : FnG P w K mg base (CXe P w) 1 f fd ["script"] (spPool K) := by
  refine F.okG sc__law_pool (fun vs H Q E h => ?_) (fun cdv A outer s H vs Q E hgd hr h => ?_)
  · obtain ⟨a, ns, rfl, _⟩ := h; rfl
  · obtain ⟨a, ns, rfl, hs, hl, k⟩ := h
    refine ⟨_, (pss_cons (ps_setLc (i := 1) (own := [("cell", 4)]) (g := gName 4) (tt := tYes) rfl sc__law_pool.nd rfl rfl (sw_true rfl rfl rfl (by decide +kernel)) (pi_list (pe_slice sl_list (pv 0) po_none (po_some pe_int))) (blkOk_by (own := [("cell", 4)]) (N := ["script", "cells", "great", "small", "cell"]) (sc := defScope s__law_pool) (by decide +kernel)) (fun _ _ _ _ _ => pg_name (i := 4) sc__law_pool.nd rfl (Or.inl rfl)) (fun _ _ _ _ _ => pts_nil) (fun _ _ _ _ _ => (pe_callTy call_int1 (by rfl) T.n_int (by decide +kernel) (pa_cons (pv 4) pa_nil))))
      (pss_cons (ps_setLc (i := 2) (own := [("cell", 4)]) (g := gName 4) rfl sc__law_pool.nd rfl rfl (sw_true rfl rfl rfl (by decide +kernel)) (pi_list (pv 1)) (blkOk_by (own := [("cell", 4)]) (N := ["script", "cells", "great", "small", "cell"]) (sc := defScope s__law_pool) (by decide +kernel)) (fun _ _ _ _ _ => pg_name (i := 4) sc__law_pool.nd rfl (Or.inl rfl)) (fun _ _ _ _ _ => pts_one (pt_cmpR op_ge (pe_callB call_abs (by rfl) T.n_abs (by decide +kernel) (pa_cons (pv 4) pa_nil)) (pe_op op_pow pe_int pe_int) (nomark _))) (fun _ _ _ _ _ => (pe_callB call_abs (by rfl) T.n_abs (by decide +kernel) (pa_cons (pv 4) pa_nil))))
      (pss_cons (ps_setLc (i := 3) (own := [("cell", 4)]) (g := gName 4) rfl sc__law_pool.nd rfl rfl (sw_true rfl rfl rfl (by decide +kernel)) (pi_list (pv 1)) (blkOk_by (own := [("cell", 4)]) (N := ["script", "cells", "great", "small", "cell"]) (sc := defScope s__law_pool) (by decide +kernel)) (fun _ _ _ _ _ => pg_name (i := 4) sc__law_pool.nd rfl (Or.inl rfl)) (fun _ _ _ _ _ => pts_one (pt_cmpR op_lt (pe_callB call_abs (by rfl) T.n_abs (by decide +kernel) (pa_cons (pv 4) pa_nil)) (pe_op op_pow pe_int pe_int) (nomark _))) (fun _ _ _ _ _ => (pe_op op_mod (pe_callTy call_int1 (by rfl) T.n_int (by decide +kernel) (pa_cons (pv 4) pa_nil)) pe_int)))
      (pss_one (ps_ret (pe_lstA (pa_cons (pv 2) (pa_cons (pv 3) (pa_cons pe_int (pa_cons pe_int pa_nil)))))))))), ?_⟩
    walk_at "rd"
    refine ⟨a, ns.map V.int, rfl, hs, fun q hq => ?_⟩
    obtain ⟨ns1, e1, hl1, _⟩ := cutV_map V.int ns none (some 63)
    rw [e1]
    have s1 : Same H (upd H q (.lst (ns1.map V.int))) := same_new hq
    have eq1 : upd H q (.lst (ns1.map V.int)) q = some (.lst (ns1.map V.int)) := upd_same
    generalize upd H q (.lst (ns1.map V.int)) = H1 at s1 eq1 ⊢
    refine ⟨q, rfl, ⟨_, SqL.of eq1⟩, ?_⟩
    refine fun D hD => lc_it (walk_list (xs := ns1.map V.int)) (fun i H' => ∃ acc : List Int, H' D = some (.lst (acc.map V.int)) ∧ acc.length ≤ i ∧ Off (fun b => b = D) H1 H') ⟨[], upd_same, Nat.le_refl _, Off.new hD⟩ (fun i H' _ h => ?_) ?_ ?_
    · obtain ⟨acc, h1, h2, h3⟩ := h
      exact SqL.of (h3 _ _ (ne_of_none eq1 hD) eq1)
    · rintro i x H2 H3 hi ⟨acc, h1, h2, h3⟩ ⟨rfl, hx⟩
      rw [List.length_map] at hi
      have hx' : x = .int ns1[i] := by
        rw [List.getElem?_map, List.getElem?_eq_getElem hi] at hx
        exact (Option.some.inj hx).symm
      subst hx'
      refine And.intro rfl (yes_of (iteT ?_))
      refine ⟨_, rfl, .inl ⟨_, rfl, ?_⟩⟩
      exact ⟨_, h1, by rw [List.length_map]; exact small1000 (by omega), acc ++ [ns1[i]], by rw [upd_same, List.map_append]; rfl, by simp; omega, h3.trans (Off.mut rfl)⟩
    · rintro H2 ⟨acc, h1, h2, h3⟩
      rw [List.length_map] at h2
      have hDm : H D = none := s1.free hD
      have s2 : Same H H2 := fun b o e => h3 b o (fun y => by rw [y, hDm] at e; cases e) (s1 _ _ e)
      refine ⟨_, rfl, _, rfl, ⟨_, SqL.of h1⟩, ?_⟩
      refine fun D2 hD2 => lc_it (walk_list (xs := acc.map V.int)) (fun i H' => ∃ acc2 : List Int, H' D2 = some (.lst (acc2.map V.int)) ∧ acc2.length ≤ i ∧ Off (fun b => b = D2) H2 H') ⟨[], upd_same, Nat.le_refl _, Off.new hD2⟩ (fun i H' _ h => ?_) ?_ ?_
      · obtain ⟨acc2, g1, g2, g3⟩ := h
        exact SqL.of (g3 _ _ (ne_of_none h1 hD2) h1)
      · rintro i x H4 H5 hi ⟨acc2, g1, g2, g3⟩ ⟨rfl, hx⟩
        rw [List.length_map] at hi
        have hx' : x = .int acc[i] := by
          rw [List.getElem?_map, List.getElem?_eq_getElem hi] at hx
          exact (Option.some.inj hx).symm
        subst hx'
        refine And.intro rfl ?_
        walk_at "rd"
        refine ite2 (fun q => ?_) (fun q => ?_)
        · refine ⟨_, rfl, _, rfl, ?_⟩
          exact ⟨_, g1, by rw [List.length_map]; exact small1000 (by omega), acc2 ++ [if acc[i] < 0 then -acc[i] else acc[i]], by rw [upd_same, List.map_append]; rfl, by simp; omega, g3.trans (Off.mut rfl)⟩
        · exact ⟨acc2, g1, by omega, g3⟩
      · rintro H3 ⟨acc2, g1, g2, g3⟩
        have hD2m : H D2 = none := s2.free hD2
        have s3 : Same H H3 := fun b o e => g3 b o (fun y => by rw [y, hD2m] at e; cases e) (s2 _ _ e)
        have h13 : H3 D = some (.lst (acc.map V.int)) := g3 _ _ (ne_of_none h1 hD2) h1
        refine ⟨_, rfl, _, rfl, ⟨_, SqL.of h13⟩, ?_⟩
        refine fun D3 hD3 => lc_it (walk_list (xs := acc.map V.int)) (fun i H' => ∃ acc3 : List Int, H' D3 = some (.lst (acc3.map V.int)) ∧ acc3.length ≤ i ∧ Off (fun b => b = D3) H3 H') ⟨[], upd_same, Nat.le_refl _, Off.new hD3⟩ (fun i H' _ h => ?_) ?_ ?_
        · obtain ⟨acc3, f1, f2, f3⟩ := h
          exact SqL.of (f3 _ _ (ne_of_none h13 hD3) h13)
        · rintro i x H4 H5 hi ⟨acc3, f1, f2, f3⟩ ⟨rfl, hx⟩
          rw [List.length_map] at hi
          have hx' : x = .int acc[i] := by
            rw [List.getElem?_map, List.getElem?_eq_getElem hi] at hx
            exact (Option.some.inj hx).symm
          subst hx'
          refine And.intro rfl ?_
          walk_at "rd"
          refine ite2 (fun q => ?_) (fun q => ?_)
          · refine ⟨_, rfl, .inl ⟨_, rfl, ?_⟩⟩
            refine ⟨_, _, rfl, rfl, by show (0 : Int) < _; decide, ?_⟩
            exact ⟨_, f1, by rw [List.length_map]; exact small1000 (by omega), acc3 ++ [acc[i] % 1000003], by rw [upd_same, List.map_append]; rfl, by simp; omega, f3.trans (Off.mut rfl)⟩
          · exact ⟨acc3, f1, by omega, f3⟩
        · rintro H4 ⟨acc3, f1, f2, f3⟩
          have hD3m : H D3 = none := s3.free hD3
          have s4 : Same H H4 := fun b o e => f3 b o (fun y => by rw [y, hD3m] at e; cases e) (s3 _ _ e)
          have g14 : H4 D2 = some (.lst (acc2.map V.int)) := f3 _ _ (ne_of_none g1 hD3) g1
          rw [List.length_map] at g2 f2
          walk_at "rd"
          refine And.intro (Nat.le_of_ble_eq_true rfl) (fun p H5 n5 => ?_)
          exact k p H5 (s4.free n5.free) (s4.trans n5.same) ⟨D2, D3, acc2, acc3, 0, 0, n5.at_, ne_of_none g14 n5.free, ne_of_none f1 n5.free, n5.same _ _ g14, n5.same _ _ f1, by omega, by omega⟩
def spDraw (K : PySem.W.Frag) : Sp := fun vs H Q _ => ∃ (p : Addr) (m : Int), vs = [.ref p, .int m] ∧ PoolAt H p ∧ 0 < m ∧ m < 1000000 ∧
  ∀ r H', 0 ≤ r → r < m → Off (fun b => b = p) H H' → PoolK H H' p → Q (.int r) H'
theorem ok_draw {f : Addr} {fd : FuncData} (F : Fun K "_law_draw" "_law_draw" s__law_draw f fd) (T : Blt mg) : FnG P w K mg base (CXe P w) 1 f fd ["pool", "many"] (spDraw K) := by
  refine F.okG sc__law_draw (fun vs H Q E h => ?_) (fun cdv A outer s H vs Q E hgd hr h => ?_)
  · obtain ⟨p, m, rfl, _⟩ := h; rfl
  · obtain ⟨p, m, rfl, ⟨g, s', gs, ss, c, n, hp, hgp, hsp, hg, hs, lg, ls⟩, hm0, hm1, k⟩ := h
    refine ⟨_, (C8.pss_cut (ps_if (PW.pt (pw_and (pt_cmpR op_eq (pe_ix ix_list (pv 0) pe_int (fun _ _ => rfl)) pe_int (nomark _)) (pw_and1 (pt_cmpR op_gt (pe_callB call_len_seq (by rfl) T.n_len (by decide +kernel) (pa_cons (pe_ix ix_list (pv 0) pe_int (fun _ _ => rfl)) pa_nil)) pe_int (nomark _))))) (pss_cons (ps_set (i := 2) sc__law_draw.nd rfl (Or.inl rfl) (pe_ix ix_list (pv 0) pe_int (fun _ _ => rfl)))
      (pss_cons (ps_asg (pe_ix ix_list (pv 2) pe_int (fun _ _ => rfl)) (pg_sub (pv 0) pe_int set_list))
      (pss_one (ps_asg (pe_slice sl_list (pv 2) (po_some pe_int) po_none) (pg_sub (pv 0) pe_int set_list))))) pss_nil)
      (pss_cons (ps_if (pt_cmpR op_gt (pe_ix ix_list (pv 0) pe_int (fun _ _ => rfl)) pe_int (nomark _)) (pss_cons (ps_set (i := 3) sc__law_draw.nd rfl (Or.inl rfl) (pe_op op_mod (pe_callTy call_int1 (by rfl) T.n_int (by decide +kernel) (pa_cons (pe_ix ix_list (pv 0) pe_int (fun _ _ => rfl)) pa_nil)) (pv 1)))
      (pss_cons (ps_asg (pe_op op_fdivN (pe_ix ix_list (pv 0) pe_int (fun _ _ => rfl)) (pv 1)) (pg_sub (pv 0) pe_int set_list))
      (pss_one (ps_ret (pv 3))))) pss_nil)
      (pss_cons (ps_asg (pe_op op_add (pe_ix ix_list (pv 0) pe_int (fun _ _ => rfl)) pe_int) (pg_sub (pv 0) pe_int set_list))
      (pss_cons (ps_set (i := 4) sc__law_draw.nd rfl (Or.inl rfl) pe_int)
      (C8.pss_cut (ps_if (pt_cmpR op_gt (pe_callB call_len_seq (by rfl) T.n_len (by decide +kernel) (pa_cons (pe_ix ix_list (pv 0) pe_int (fun _ _ => rfl)) pa_nil)) pe_int (nomark _)) (pss_one (ps_set (i := 4) sc__law_draw.nd rfl (Or.inl rfl) (pe_ix ix_list (pe_ix ix_list (pv 0) pe_int (fun _ _ => rfl)) (pe_op op_mod (pe_callTy call_int1 (by rfl) T.n_int (by decide +kernel) (pa_cons (pe_ix ix_list (pv 0) pe_int (fun _ _ => rfl)) pa_nil)) (pe_callB call_len_seq (by rfl) T.n_len (by decide +kernel) (pa_cons (pe_ix ix_list (pv 0) pe_int (fun _ _ => rfl)) pa_nil))) (fun _ _ => rfl)))) pss_nil)
      (pss_cons (ps_set (i := 5) sc__law_draw.nd rfl (Or.inl rfl) (pe_op op_mod (pe_callTy call_int1 (by rfl) T.n_int (by decide +kernel) (pa_cons (pe_op op_mul (pe_op op_add (pe_op op_add (pv 4) (pe_op op_mul pe_int (pe_ix ix_list (pv 0) pe_int (fun _ _ => rfl)))) pe_int) pe_int) pa_nil)) pe_int))
      (pss_cons (ps_set (i := 5) sc__law_draw.nd rfl (Or.inl rfl) (pe_op op_mod (pe_callTy call_int1 (by rfl) T.n_int (by decide +kernel) (pa_cons (pe_op op_mul (pv 5) (pe_op op_add (pe_op op_fdivN (pv 5) pe_int) pe_int)) pa_nil)) pe_int))
      (pss_cons (ps_set (i := 5) sc__law_draw.nd rfl (Or.inl rfl) (pe_op op_mod (pe_callTy call_int1 (by rfl) T.n_int (by decide +kernel) (pa_cons (pe_op op_mul (pv 5) (pe_op op_add (pe_op op_fdivN (pv 5) pe_int) pe_int)) pa_nil)) pe_int))
      (pss_one (ps_ret (pe_op op_mod (pe_callTy call_int1 (by rfl) T.n_int (by decide +kernel) (pa_cons (pe_op op_fdivN (pv 5) pe_int) pa_nil)) (pv 1)))))))))))), ?_⟩
    refine ⟨fun σ' H' => ∃ (x : Option V), σ' = [some (.ref p), some (.int m), x, none, none, none] ∧ Off (fun b => b = p) H H' ∧ PoolK H H' p, ?_, ?_⟩
    · walk_at "rd"
      refine ite2 (fun h => ?_) (fun h => ?_)
      · walk_at "rd"
        refine ite2 (fun h2 => ?_) (fun h2 => ?_)
        · have hl : 0 < gs.length := by simpa using h2
          obtain ⟨g0, gr, rfl⟩ : ∃ g0 gr, gs = g0 :: gr := by
            cases gs with
            | nil => cases hl
            | cons a b => exact ⟨a, b, rfl⟩
          walk_at "rd"
          refine ⟨g, _, 0, .int g0, rfl, rfl, SqL.of hg, atI_nat (xs := (g0 :: gr).map V.int) (j := 0) (v := V.int g0) rfl, ?_⟩
          walk_at "rd"
          refine ⟨g, _, rfl, SqL.of ((upd_ne hgp).trans hg), fun q hq => ?_⟩
          have hpq : p ≠ q := ne_of_none upd_same hq
          have hq0 : H q = none := by rw [← hq, upd_ne hpq.symm]
          walk_at "rd"
          obtain ⟨gs2, e2, hl2, _⟩ := cutV_map V.int (g0 :: gr) (some 1) none
          rw [e2]
          refine ⟨fun b o hb e => ?_, PoolK.taken hp hgp hsp hg hs hq0 ⟨q, s', gs2, ss, g0, n, upd_same, hpq.symm, hsp, ?_, ?_, by omega, ls⟩ (fun b hb z => ?_) upd_same⟩
          · rw [upd_ne hb, upd_ne (ne_of_none e hq0), upd_ne hb]; exact e
          · rw [upd_ne hpq.symm]; exact upd_same
          · rw [upd_ne hsp, upd_ne (ne_of_none hs hq0), upd_ne hsp]; exact hs
          · by_cases bp : b = p
            · rw [bp, upd_same] at z; cases z
            · rw [upd_ne bp, upd_ne (fun w => hb (by rw [w]; exact hq0)), upd_ne bp] at z; exact hb z
        · exact ⟨none, rfl, Off.refl _, .refl ⟨g, s', gs, ss, c, n, hp, hgp, hsp, hg, hs, lg, ls⟩⟩
      · exact ⟨none, rfl, Off.refl _, .refl ⟨g, s', gs, ss, c, n, hp, hgp, hsp, hg, hs, lg, ls⟩⟩
    · rintro σ' H1 ⟨x, rfl, off1, ⟨⟨g, s', gs, ss, c, n, hp, hgp, hsp, hg, hs, lg, ls⟩, kp⟩⟩
      walk_at "rd"
      refine ite2 (fun h => ?_) (fun h => ?_)
      · walk_at "rd"
        refine k _ _ (Int.emod_nonneg _ (by omega)) (Int.emod_lt_of_pos _ hm0) (off1.trans (Off.mut rfl)) (PoolK.own ⟨⟨g, s', gs, ss, c, n, hp, hgp, hsp, hg, hs, lg, ls⟩, kp⟩ hp upd_same ⟨g, s', gs, ss, _, n, upd_same, hgp, hsp, (upd_ne hgp).trans hg, (upd_ne hsp).trans hs, lg, ls⟩)
      · walk_at "rd"
        have hu : ∀ o, upd H1 p o p = some o := fun o => upd_same
        refine ⟨fun σ' H' => ∃ seed : Int, σ' = [some (.ref p), some (.int m), x, none, some (.int seed), none] ∧ H' = upd H1 p (.lst [.ref g, .ref s', .int c, .int (n + 1)]), ?_, ?_⟩
        · walk_at "rd"
          refine ite2 (fun h2 => ?_) (fun h2 => ?_)
          · have hl : 0 < ss.length := by simpa using h2
            walk_at "rd"
            have hl2 : (0 : Int) < (ss.map V.int).length := by rw [List.length_map]; omega
            refine And.intro hl2 ?_
            have r0 : 0 ≤ (n + 1) % ((ss.map V.int).length : Int) := Int.emod_nonneg _ (by omega)
            have r1 : (n + 1) % ((ss.map V.int).length : Int) < (ss.map V.int).length := Int.emod_lt_of_pos _ hl2
            obtain ⟨jn, hj⟩ := Int.eq_ofNat_of_zero_le r0
            have hjl : jn < ss.length := by rw [List.length_map] at r1 hj; omega
            refine ⟨s', ss.map V.int, (jn : Int), .int ss[jn], rfl, by show V.int ((n + 1) % _) = _; rw [hj], SqL.of ((upd_ne hsp).trans hs), atI_nat (by rw [List.getElem?_map, List.getElem?_eq_getElem hjl]; rfl), ?_⟩
            exact ⟨ss[jn], rfl, rfl⟩
          · exact ⟨0, rfl, rfl⟩
        · rintro σ' H2 ⟨seed, rfl, rfl⟩
          walk_at "rd"
          refine k _ _ (Int.emod_nonneg _ (by omega)) (Int.emod_lt_of_pos _ hm0) (off1.trans (Off.mut rfl)) (PoolK.own ⟨⟨g, s', gs, ss, c, n, hp, hgp, hsp, hg, hs, lg, ls⟩, kp⟩ hp upd_same ⟨g, s', gs, ss, _, _, upd_same, hgp, hsp, (upd_ne hgp).trans hg, (upd_ne hsp).trans hs, lg, ls⟩)
/-- a list that is no pool is picked from -/
def spPick (K : PySem.W.Frag) : Sp := fun vs H Q _ => ∃ (p a : Addr) (xs : List V), vs = [.ref p, .ref a] ∧ PoolAt H p ∧ H a = some (.lst xs) ∧ a ≠ p ∧ 0 < xs.length ∧ xs.length < 1000000 ∧
  ∀ x H', x ∈ xs → Off (fun b => b = p) H H' → PoolK H H' p → Q x H'
theorem ok_pick {f : Addr} {fd : FuncData} (F : Fun K "_law_pick" "_law_pick" s__law_pick f fd) (T : Blt mg) (c__law_draw : CalG P w K mg base 1 "_law_draw" (spDraw K)) : FnG P w K mg base (CXe P w) 2 f fd ["pool", "items"] (spPick K) := by
  refine F.okG sc__law_pick (fun vs H Q E h => ?_) (fun cdv A outer s H vs Q E hgd hr h => ?_)
  · obtain ⟨p, a, xs, rfl, _⟩ := h; rfl
  · obtain ⟨p, a, xs, rfl, hp, ha, hap, h0, h1, k⟩ := h
    refine ⟨_, (pss_one (ps_ret (pe_ix ix_list (pv 1) (pg_c c__law_draw hgd hr (by first | decide | omega) (pa_cons (pv 0) (pa_cons (pe_callB call_len_seq (by rfl) T.n_len (by decide +kernel) (pa_cons (pv 1) pa_nil)) pa_nil))) (fun _ _ => rfl)))), ?_⟩
    walk_at "rd"
    refine ⟨p, xs.length, rfl, hp, by omega, by omega, fun r H' r0 r1 off hp' => ?_⟩
    obtain ⟨j, rfl⟩ := Int.eq_ofNat_of_zero_le r0
    have hj : j < xs.length := by omega
    exact ⟨a, xs, j, xs[j], rfl, rfl, SqL.of (off _ _ hap ha), atI_nat (List.getElem?_eq_getElem hj), k _ _ (List.getElem_mem hj) off hp'⟩
end
end K88
end
section
set_option Elab.async false
set_option linter.all false
set_option maxRecDepth 100000
set_option maxHeartbeats 2000000
namespace K88
open PySem L2
local macro_rules | `(tactic| walk_at "hp") => `(tactic| first | assumption | exact upd_same | (refine (upd_ne (by first | assumption | (apply Ne.symm; assumption))).trans ?_; walk_at "hp"))
local macro_rules | `(tactic| walk_at "rd1") => `(tactic| first
  | (refine ⟨_, rfl, ?_⟩)
  | (refine ⟨_, _, rfl, rfl, ?_⟩)
  | (refine ⟨(rfl : scal _ _ = true), ?_⟩)
  | (refine And.intro (by show (0 : Int) < _; decide) ?_)
  | (refine And.intro (And.intro (by decide) (by decide)) ?_)
  | (refine And.intro (by assumption) ?_)
  | (refine Or.inl ⟨_, rfl, ?_⟩))
local macro_rules | `(tactic| walk_at "rd") => `(tactic| repeat walk_at "rd1")
theorem sc_is_row : FnScope ["thing"] ["thing"] (defScope s_is_row) := ⟨rfl, rfl, rfl, by decide +kernel, rfl, by decide +kernel, by decide +kernel⟩
theorem sc__is_line : FnScope ["thing", "mark"] ["thing"] (defScope s__is_line) := ⟨rfl, rfl, rfl, by decide +kernel, rfl, by decide +kernel, by decide +kernel⟩
theorem sc__need_lines : FnScope ["rows", "at", "row"] ["rows"] (defScope s__need_lines) := ⟨rfl, rfl, rfl, by decide +kernel, rfl, by decide +kernel, by decide +kernel⟩
theorem sc__many : FnScope ["cells", "marks", "mark"] ["cells", "marks"] (defScope s__many) := ⟨rfl, rfl, rfl, by decide +kernel, rfl, by decide +kernel, by decide +kernel⟩
theorem sc__is_whole_room : FnScope ["cells", "mark"] ["cells"] (defScope s__is_whole_room) := ⟨rfl, rfl, rfl, by decide +kernel, rfl, by decide +kernel, by decide +kernel⟩
theorem sc__places : FnScope ["cells", "mark", "cell"] ["cells", "mark"] (defScope s__places) := ⟨rfl, rfl, rfl, by decide +kernel, rfl, by decide +kernel, by decide +kernel⟩
theorem sc__neighbours : FnScope ["rows", "down", "across", "width", "found", "cell", "line", "place", "is_there"] ["rows", "down", "across"] (defScope s__neighbours) := ⟨rfl, rfl, rfl, by decide +kernel, rfl, by decide +kernel, by decide +kernel⟩
theorem sc_Room_init : FnScope ["self", "rows", "cells"] ["self", "rows"] (defScope s_Room_init) := ⟨rfl, rfl, rfl, by decide +kernel, rfl, by decide +kernel, by decide +kernel⟩
/-- built-ins and constants that stand -/
structure Rb (mg : Str → Option Value) : Prop extends Blt mg where
  n_max : mg "max" = none
  n_sum : mg "sum" = none
  n_enumerate : mg "enumerate" = none
  k_MARKS : ∃ t, mg "MARKS" = some (.str "#.^v<>abABoxpg*@12" t)
  k_MOST_LINES : ∃ t, mg "MOST_LINES" = some (.int 5 t)
  k_MOST_ACROSS : ∃ t, mg "MOST_ACROSS" = some (.int 6 t)
  k_MOST_CELLS : ∃ t, mg "MOST_CELLS" = some (.int 24 t)
  k_MOST_CRATES : ∃ t, mg "MOST_CRATES" = some (.int 3 t)
  k_MOST_KEYS_AND_DOORS : ∃ t, mg "MOST_KEYS_AND_DOORS" = some (.int 4 t)
section
variable {P : Program} {w : World} {K : PySem.W.Frag} {mg : Str → Option Value} {base : Heap}
def marksS : Str := "#.^v<>abABoxpg*@12"
/-- a row of a room -/
def lineS (s : Str) : Bool := decide (1 ≤ s.length) && (decide (s.length ≤ 6) && s.cps.toList.all fun c => decide (c ∈ marksS.cps.toList))
def spIsRow (K : PySem.W.Frag) : Sp := fun vs H Q _ => ∃ (v : V) (t : Value) (b : Bool), vs = [v] ∧ TyX K H v t ∧ (∀ H', Same H H' → TyX K H' v t) ∧ PySem.W.kitAny K t [.type "list", .type "tuple"] = some b ∧ ∀ H', Same H H' → Q (.bl b) H'
theorem ok_is_row {f : Addr} {fd : FuncData} (F : Fun K "is_row" "is_row" s_is_row f fd) (T : Rb mg) : FnG P w K mg base (CXe P w) 1 f fd ["thing"] (spIsRow K) := by
  refine F.okG sc_is_row (fun vs H Q E h => ?_) (fun cdv A outer s H vs Q E hgd hr h => ?_)
  · obtain ⟨v, t, b, rfl, _⟩ := h; rfl
  · obtain ⟨v, t, b, rfl, ty, tyk, e, k⟩ := h
    refine ⟨_, (pss_one (ps_ret (pe_callB call_isiT (by rfl) T.n_isinstance (by decide +kernel) (pa_cons (pv 0) (pa_cons (pe_tupA (pa_cons (pe_bltn (v := .ty "list") (u := .type "list") rfl T.n_list (by decide +kernel) rfl) (pa_cons (pe_bltn (v := .ty "tuple") (u := .type "tuple") rfl T.n_tuple (by decide +kernel) rfl) pa_nil))) pa_nil))))), ?_⟩
    walk_at "rd"
    refine And.intro (Nat.le_of_ble_eq_true rfl) (fun p H1 n1 => ?_)
    exact ⟨v, p, _, t, _, b, rfl, n1.at_, .cons (.ty _) (.cons (.ty _) .nil), tyk _ n1.same, e, k _ n1.same⟩
def spIsLine (K : PySem.W.Frag) : Sp := fun vs H Q _ => ∃ (v : V) (t : Value) (b : Bool), vs = [v] ∧ TyX K H v t ∧ PySem.W.kitOne K t (.type "str") = some b ∧ (b = false → Q (.bl false) H) ∧ (b = true → ∃ s, v = .str s ∧ s.length ≤ sizeLine ∧ Q (.bl (lineS s)) H)
theorem ok_is_line {f : Addr} {fd : FuncData} (F : Fun K "_is_line" "_is_line" s__is_line f fd) (T : Rb mg) : FnG P w K mg base (CXe P w) 1 f fd ["thing"] (spIsLine K) := by
  refine F.okG sc__is_line (fun vs H Q E h => ?_) (fun cdv A outer s H vs Q E hgd hr h => ?_)
  · obtain ⟨v, t, b, rfl, _⟩ := h; rfl
  · obtain ⟨v, t, b, rfl, ty, e, k0, k1⟩ := h
    refine ⟨_, (pss_cons (ps_if (PW.pt (pw_or (pt_not (pt_val (pe_callB call_isi (by rfl) T.n_isinstance (by decide +kernel) (pa_cons (pv 0) (pa_cons (pe_bltn (v := .ty "str") (u := .type "str") rfl T.n_str (by decide +kernel) rfl) pa_nil))))) (pw_or1 (pt_not (pt_chain op_le op_le pe_int (pe_callB call_len_str (by rfl) T.n_len (by decide +kernel) (pa_cons (pv 0) pa_nil)) (pe_glob (v := .int 6) rfl (Exists.choose_spec T.k_MOST_ACROSS) ⟨_, rfl⟩)))))) (pss_one (ps_ret pe_bl)) pss_nil)
      (pss_cons (ps_for (passes_of rfl) rfl (pi_str (pv 0)) (pg_name (i := 1) sc__is_line.nd rfl (Or.inl rfl))
      (pss_one (ps_if (pt_cmpR op_notIn_sign (pv 1) (pe_glob (v := .str "#.^v<>abABoxpg*@12") rfl (Exists.choose_spec T.k_MARKS) ⟨_, rfl⟩) (by rfl)) (pss_one (ps_ret pe_bl)) pss_nil)))
      (pss_one (ps_ret pe_bl)))), ?_⟩
    refine ⟨_, rfl, _, _, _, _, _, rfl, .ty _, ty, e, _, rfl, ?_⟩
    cases b with
    | false => exact iteT (k0 rfl)
    | true =>
      obtain ⟨s, rfl, hs, k⟩ := k1 rfl
      refine iteF ?_
      walk_at "rd"
      refine ite2 (fun h1 => ?_) (fun h1 => ?_)
      · refine ⟨_, _, rfl, rfl, ?_⟩
        refine ⟨_, rfl, ?_⟩
        have l1 : 1 ≤ s.length := by have : (1 : Int) ≤ (s.length : Int) := by simpa using h1
                                     omega
        refine ite2 (fun h2 => ?_) (fun h2 => ?_)
        · have e : lineS s = false := by
            have : ¬ s.length ≤ 6 := by
              have : ¬ (s.length : Int) ≤ 6 := by simpa using h2
              omega
            simp [lineS, this]
          rw [← e]; exact k
        · have l2 : s.length ≤ 6 := by
            have : (s.length : Int) ≤ 6 := by simpa using h2
            omega
          refine ⟨_, rfl, s, rfl, for_it walk_str (fun i σ H' => H' = H ∧ (∃ o, σ = [some (.str s), o]) ∧ (s.cps.toList.take i).all (fun c => decide (c ∈ marksS.cps.toList)) = true) ⟨rfl, ⟨none, rfl⟩, by simp⟩ (fun _ _ _ _ _ => trivial) ?_ ?_⟩
          · rintro i x σ H1 H' hi ⟨rfl, ⟨o, rfl⟩, ha⟩ ⟨rfl, c, hc, rfl⟩
            walk_at "rd"
            have ht : s.cps.toList.take (i + 1) = s.cps.toList.take i ++ [c] := by
              have : s.cps.toList[i]? = some c := by simpa using hc
              rw [List.take_add_one, this]; rfl
            refine ite2 (fun h3 => ?_) (fun h3 => ?_)
            · have hm : ¬ c ∈ marksS.cps.toList := by simpa [marksS] using h3
              have e : lineS s = false := by
                have : s.cps.toList.all (fun c => decide (c ∈ marksS.cps.toList)) = false := by
                  rw [List.all_eq_false]
                  refine ⟨c, ?_, by simpa using hm⟩
                  exact List.mem_of_getElem? (by simpa using hc)
                unfold lineS
                rw [this, Bool.and_false, Bool.and_false]
              have := k
              rw [e] at this
              exact this
            · have hm : c ∈ marksS.cps.toList := by simpa [marksS] using h3
              exact ⟨rfl, ⟨_, rfl⟩, by rw [ht, List.all_append, ha]; simpa using hm⟩
          · rintro σ H' ⟨rfl, ⟨o, rfl⟩, ha⟩
            have e : lineS s = true := by
              have z : s.cps.toList.all (fun c => decide (c ∈ marksS.cps.toList)) = true := by
                have : s.cps.toList.take s.cps.size = s.cps.toList := List.take_of_length_le (by simp)
                rwa [this] at ha
              have a1 : decide (1 ≤ s.length) = true := by simpa using l1
              have a2 : decide (s.length ≤ 6) = true := by simpa using l2
              unfold lineS
              rw [a1, a2, z]; rfl
            have := k
            rw [e] at this
            exact this
      · have e : lineS s = false := by
          have : ¬ 1 ≤ s.length := by
            have : ¬ (1 : Int) ≤ (s.length : Int) := by simpa using h1
            omega
          simp [lineS, this]
        have := k
        rw [e] at this
        exact ⟨_, rfl, iteT this⟩
/-- how many of these signs there are -/
def manyZ (z m : Str) : Int := (m.cps.toList.map fun c => Txt.count z ⟨#[c]⟩).sum
def spMany : Sp := fun vs H Q _ => ∃ (z m : Str), vs = [.str z, .str m] ∧ m.length ≤ 1000 ∧ ∀ H', Same H H' → Q (.int (manyZ z m)) H'
theorem ok_many {f : Addr} {fd : FuncData} (F : Fun K "_many" "_many" s__many f fd) (T : Rb mg) : FnG P w K mg base (CXe P w) 1 f fd ["cells", "marks"] spMany := by
  refine F.okG sc__many (fun vs H Q E h => ?_) (fun cdv A outer s H vs Q E hgd hr h => ?_)
  · obtain ⟨z, m, rfl, _⟩ := h; rfl
  · obtain ⟨z, m, rfl, hm, k⟩ := h
    refine ⟨_, (pss_one (ps_ret (pe_callB (cr_sum rfl) (by rfl) T.n_sum (by decide +kernel) (pa_cons (pe_lc (own := [("mark", 2)]) (g := gName 2) (tt := tYes) rfl sc__many.nd (pi_str (pv 1)) (blkOk_by (own := [("mark", 2)]) (N := ["cells", "marks", "mark"]) (sc := defScope s__many) (by decide +kernel)) (fun _ _ _ _ _ => pg_name (i := 2) sc__many.nd rfl (Or.inl rfl)) (fun _ _ _ _ _ => pts_nil) (fun _ _ _ _ _ => (pe_m1 PySem.F.slot_str_count PySem.F.type_str_count mt_count (pv 0) (pv 2)))) pa_nil)))), ?_⟩
    walk_at "rd"
    refine fun D hD => lc_it walk_str (fun i H' => ∃ acc : List Int, H' D = some (.lst (acc.map V.int)) ∧ acc = (m.cps.toList.take i).map (fun c => Txt.count z ⟨#[c]⟩) ∧ Off (fun b => b = D) H H') ⟨[], upd_same, by simp, Off.new hD⟩ (fun _ _ _ _ => trivial) ?_ ?_
    · rintro i x H1 H2 hi ⟨acc, hacc, hv, off⟩ ⟨rfl, c, hc, rfl⟩
      refine And.intro rfl (yes_of ?_)
      refine iteT ?_
      refine ⟨_, rfl, ⟨_, rfl⟩, _, rfl, z, ⟨#[c]⟩, rfl, rfl, acc.map V.int, hacc, ?_, acc ++ [Txt.count z ⟨#[c]⟩], ?_, ?_, off.trans (Off.mut rfl)⟩
      · have : acc.length ≤ m.length := by
          rw [hv, List.length_map, List.length_take]
          exact Nat.le_trans (Nat.min_le_left _ _) (Nat.le_of_lt hi)
        rw [List.length_map]
        exact small1000 (by omega)
      · rw [upd_same, List.map_append]; rfl
      · have ht : m.cps.toList.take (i + 1) = m.cps.toList.take i ++ [c] := by
          have : m.cps.toList[i]? = some c := by simpa using hc
          rw [List.take_add_one, this]; rfl
        rw [ht, List.map_append, ← hv]; rfl
    · rintro H1 ⟨acc, hacc, hv, off⟩
      refine ⟨D, acc, rfl, SqL.of hacc, ?_⟩
      have : m.cps.toList.take m.cps.size = m.cps.toList := List.take_of_length_le (by simp)
      rw [this] at hv
      rw [hv]
      exact k _ fun b o e => off b o (fun y => by rw [y, hD] at e; cases e) e
/-- the signs of all rows, one behind another, are those of a room -/
def wholeZ (z : Str) : Bool := (!(decide ((z.length : Int) > 24) || !decide (Txt.count z "@" = 1))) && ((!(decide (Txt.count z "*" > 1) || (decide (Txt.count z "1" > 1) || decide (Txt.count z "2" > 1)) || (decide (50 ∈ z.cps.toList) && !decide (49 ∈ z.cps.toList)))) &&
  (decide (Txt.count z "o" ≤ 3) && decide (manyZ z "abAB" ≤ 4)))
def spWR : Sp := fun vs H Q _ => ∃ (z : Str), vs = [.str z] ∧ z.length ≤ sizeLine ∧ ∀ H', Same H H' → Q (.bl (wholeZ z)) H'
theorem ok_whole_room {f : Addr} {fd : FuncData} (F : Fun K "_is_whole_room" "_is_whole_room" s__is_whole_room f fd) (T : Rb mg) (c__many : CalG P w K mg base 1 "_many" spMany) : FnG P w K mg base (CXe P w) 2 f fd ["cells"] spWR := by
  refine F.okG sc__is_whole_room (fun vs H Q E h => ?_) (fun cdv A outer s H vs Q E hgd hr h => ?_)
  · obtain ⟨z, rfl, _⟩ := h; rfl
  · obtain ⟨z, rfl, hz, k⟩ := h
    refine ⟨_, (pss_cons (ps_if (PW.pt (pw_or (pt_cmpR op_gt (pe_callB call_len_str (by rfl) T.n_len (by decide +kernel) (pa_cons (pv 0) pa_nil)) (pe_glob (v := .int 24) rfl (Exists.choose_spec T.k_MOST_CELLS) ⟨_, rfl⟩) (nomark _)) (pw_or1 (pt_cmpR op_ne (pe_m1 PySem.F.slot_str_count PySem.F.type_str_count mt_count (pv 0) pe_str) pe_int (nomark _))))) (pss_one (ps_ret pe_bl)) pss_nil)
      (pss_cons (ps_if (PW.pt (pw_or (pt_cmpR op_gt (pe_callB (cr_max rfl) (by rfl) T.n_max (by decide +kernel) (pa_cons (pe_lc (own := [("mark", 1)]) (g := gName 1) (tt := tYes) rfl sc__is_whole_room.nd (pi_str pe_str) (blkOk_by (own := [("mark", 1)]) (N := ["cells", "mark"]) (sc := defScope s__is_whole_room) (by decide +kernel)) (fun _ _ _ _ _ => pg_name (i := 1) sc__is_whole_room.nd rfl (Or.inl rfl)) (fun _ _ _ _ _ => pts_nil) (fun _ _ _ _ _ => (pe_m1 PySem.F.slot_str_count PySem.F.type_str_count mt_count (pv 0) (pv 1)))) pa_nil)) pe_int (nomark _)) (pw_or1 (PW.pt (pw_and (pt_cmpR op_in_sign pe_str (pv 0) (by rfl)) (pw_and1 (pt_cmpR op_notIn_sign pe_str (pv 0) (by rfl)))))))) (pss_one (ps_ret pe_bl)) pss_nil)
      (pss_one (ps_ret (pe_and (pe_cmpR op_le (pe_m1 PySem.F.slot_str_count PySem.F.type_str_count mt_count (pv 0) pe_str) (pe_glob (v := .int 3) rfl (Exists.choose_spec T.k_MOST_CRATES) ⟨_, rfl⟩) (nomark _)) (pe_one (pe_cmpR op_le (pg_c c__many hgd hr (by first | decide | omega) (pa_cons (pv 0) (pa_cons pe_str pa_nil))) (pe_glob (v := .int 4) rfl (Exists.choose_spec T.k_MOST_KEYS_AND_DOORS) ⟨_, rfl⟩) (nomark _)))))))), ?_⟩
    have kf : wholeZ z = false → ∀ H', Same H H' → Q (.bl false) H' := fun e H' s' => by
      have := k H' s'
      rwa [e] at this
    walk_at "rd"
    refine ite2 (fun h1 => ?_) (fun h1 => ?_)
    · refine iteT (kf ?_ _ (Same.refl _))
      have h1' : decide ((z.length : Int) > 24) = true := by simpa using h1
      unfold wholeZ
      rw [h1']; rfl
    have h1' : decide ((z.length : Int) > 24) = false := by simpa using h1
    refine ⟨_, rfl, ⟨_, rfl⟩, z, "@", rfl, rfl, ?_⟩
    walk_at "rd"
    refine ite2 (fun h2 => ?_) (fun h2 => ?_)
    · refine kf ?_ _ (Same.refl _)
      have h2' : decide (Txt.count z "@" = 1) = false := by simpa using h2
      unfold wholeZ
      rw [h1', h2']; rfl
    have h2' : decide (Txt.count z "@" = 1) = true := by simpa using h2
    walk_at "rd"
    refine fun D hD => lc_it walk_str (fun i H' => ∃ acc : List Int, H' D = some (.lst (acc.map V.int)) ∧ acc = ((("*12" : Str).cps.toList.take i).map fun c => Txt.count z ⟨#[c]⟩) ∧ Off (fun b => b = D) H H') ⟨[], upd_same, by simp, Off.new hD⟩ (fun _ _ _ _ => trivial) ?_ ?_
    · rintro i x H1 H2 hi ⟨acc, hacc, hv, off⟩ ⟨rfl, c, hc, rfl⟩
      refine And.intro rfl (yes_of ?_)
      refine iteT ?_
      refine ⟨_, rfl, ⟨_, rfl⟩, _, rfl, z, ⟨#[c]⟩, rfl, rfl, acc.map V.int, hacc, ?_, acc ++ [Txt.count z ⟨#[c]⟩], ?_, ?_, off.trans (Off.mut rfl)⟩
      · have : acc.length ≤ 3 := by
          rw [hv, List.length_map, List.length_take]
          exact Nat.min_le_right _ _
        rw [List.length_map]
        exact small1000 (by omega)
      · rw [upd_same, List.map_append]; rfl
      · have ht : ("*12" : Str).cps.toList.take (i + 1) = ("*12" : Str).cps.toList.take i ++ [c] := by
          have : ("*12" : Str).cps.toList[i]? = some c := by simpa using hc
          rw [List.take_add_one, this]; rfl
        rw [ht, List.map_append, ← hv]; rfl
    · rintro H1 ⟨acc, hacc, hv, off⟩
      have hv' : acc = [Txt.count z "*", Txt.count z "1", Txt.count z "2"] := by
        rw [hv]
        have : ("*12" : Str).cps.toList.take ("*12" : Str).cps.size = [42, 49, 50] := by decide +kernel
        rw [this]; rfl
      have s1 : Same H H1 := fun b o e => off b o (fun y => by rw [y, hD] at e; cases e) e
      refine ⟨D, acc, rfl, SqL.of hacc, by rw [hv']; exact Nat.zero_lt_succ _, fun mx hm hle => ?_⟩
      rw [hv'] at hm hle
      have hb : decide (1 < mx) = (decide (Txt.count z "*" > 1) || (decide (Txt.count z "1" > 1) || decide (Txt.count z "2" > 1))) := by
        have q1 := hle (Txt.count z "*") (by simp)
        have q2 := hle (Txt.count z "1") (by simp)
        have q3 := hle (Txt.count z "2") (by simp)
        by_cases h3 : 1 < mx
        · have : Txt.count z "*" > 1 ∨ Txt.count z "1" > 1 ∨ Txt.count z "2" > 1 := by
            simp only [List.mem_cons, List.not_mem_nil, or_false] at hm
            rcases hm with rfl | rfl | rfl
            · exact .inl h3
            · exact .inr (.inl h3)
            · exact .inr (.inr h3)
          rw [decide_eq_true h3]
          rcases this with h | h | h <;> simp [h]
        · rw [decide_eq_false h3, decide_eq_false (by omega), decide_eq_false (by omega), decide_eq_false (by omega)]; rfl
      walk_at "rd"
      refine ite2 (fun h3 => ?_) (fun h3 => ?_)
      · refine iteT (kf ?_ _ s1)
        have h3' : decide (1 < mx) = true := h3
        unfold wholeZ
        rw [h1', h2', ← hb, h3']; rfl
      have h3' : decide (1 < mx) = false := by simpa using h3
      refine ⟨_, rfl, 50, z, rfl, rfl, _, rfl, ?_⟩
      refine ite2 (fun h4 => ?_) (fun h4 => ?_)
      · have h4' : decide (50 ∈ z.cps.toList) = true := h4
        refine ⟨_, rfl, 49, z, rfl, rfl, _, rfl, ?_⟩
        refine ite2 (fun h5 => ?_) (fun h5 => ?_)
        · have h5' : decide (49 ∈ z.cps.toList) = false := by simpa using h5
          refine kf ?_ _ s1
          unfold wholeZ
          rw [h1', h2', ← hb, h3', h4', h5']; rfl
        · have hc : (decide (50 ∈ z.cps.toList) && !decide (49 ∈ z.cps.toList)) = false := by
            have h5' : decide (49 ∈ z.cps.toList) = true := by simpa using h5
            rw [h4', h5']; rfl
          refine ⟨_, rfl, ⟨_, rfl⟩, z, "o", rfl, rfl, ?_⟩
          walk_at "rd"
          refine ite2 (fun h6 => ?_) (fun h6 => ?_)
          · have h6' : decide (Txt.count z "o" ≤ 3) = true := h6
            walk_at "rd"
            refine ⟨z, "abAB", rfl, by decide +kernel, fun H2 s2 => ?_⟩
            walk_at "rd"
            have := k H2 (s1.trans s2)
            unfold wholeZ at this
            rw [h1', h2', ← hb, h3', hc, h6'] at this
            exact this
          · have h6' : decide (Txt.count z "o" ≤ 3) = false := by simpa using h6
            refine kf ?_ _ s1
            unfold wholeZ
            rw [h1', h2', ← hb, h3', hc, h6']; rfl
      · have hc : (decide (50 ∈ z.cps.toList) && !decide (49 ∈ z.cps.toList)) = false := by
          have h4' : decide (50 ∈ z.cps.toList) = false := by simpa using h4
          rw [h4']; rfl
        refine ⟨_, rfl, ⟨_, rfl⟩, z, "o", rfl, rfl, ?_⟩
        walk_at "rd"
        refine ite2 (fun h6 => ?_) (fun h6 => ?_)
        · have h6' : decide (Txt.count z "o" ≤ 3) = true := h6
          walk_at "rd"
          refine ⟨z, "abAB", rfl, by decide +kernel, fun H2 s2 => ?_⟩
          walk_at "rd"
          have := k H2 (s1.trans s2)
          unfold wholeZ at this
          rw [h1', h2', ← hb, h3', hc, h6'] at this
          exact this
        · have h6' : decide (Txt.count z "o" ≤ 3) = false := by simpa using h6
          refine kf ?_ _ s1
          unfold wholeZ
          rw [h1', h2', ← hb, h3', hc, h6']; rfl
end
end K88
end
section
set_option Elab.async false
set_option linter.all false
set_option maxRecDepth 100000
set_option maxHeartbeats 2000000
namespace K88
open PySem L2
local macro_rules | `(tactic| walk_at "hp") => `(tactic| first | assumption | exact upd_same | (refine (upd_ne (by first | assumption | (apply Ne.symm; assumption))).trans ?_; walk_at "hp"))
local macro_rules | `(tactic| walk_at "rd1") => `(tactic| first
  | (refine ⟨_, rfl, ?_⟩)
  | (refine ⟨_, _, rfl, rfl, ?_⟩)
  | (refine ⟨(rfl : scal _ _ = true), ?_⟩)
  | (refine And.intro (by show (0 : Int) < _; decide) ?_)
  | (refine And.intro (And.intro (by decide) (by decide)) ?_)
  | (refine And.intro (by assumption) ?_)
  | (refine Or.inl ⟨_, rfl, ?_⟩))
local macro_rules | `(tactic| walk_at "rd") => `(tactic| repeat walk_at "rd1")
section
variable {P : Program} {w : World} {K : PySem.W.Frag} {mg : Str → Option Value} {base : Heap}
/-- where this sign stands, ascending, up to the n-th sign -/
def placesL (z : Str) (c n : Nat) : List Int := ((List.range n).filter fun i => decide (z.cps[i]? = some c)).map Int.ofNat
theorem placesL_le (z : Str) (c n : Nat) : (placesL z c n).length ≤ n := by
  unfold placesL
  rw [List.length_map]
  exact Nat.le_trans (List.length_filter_le _ _) (Nat.le_of_eq List.length_range)
theorem placesL_yes {z : Str} {c n : Nat} (h : z.cps[n]? = some c) : placesL z c (n + 1) = placesL z c n ++ [(n : Int)] := by
  unfold placesL
  rw [List.range_succ, List.filter_append, List.map_append]
  simp [h]
theorem placesL_no {z : Str} {c n : Nat} (h : ¬ z.cps[n]? = some c) : placesL z c (n + 1) = placesL z c n := by
  unfold placesL
  rw [List.range_succ, List.filter_append, List.map_append]
  simp [h]
def spPlaces : Sp := fun vs H Q _ => ∃ (z : Str) (c : Nat), vs = [.str z, .str ⟨#[c]⟩] ∧ z.length ≤ 1000 ∧ ∀ t H', H t = none → Same H H' → H' t = some (.tup ((placesL z c z.length).map V.int)) → Q (.ref t) H'
theorem ok_places {f : Addr} {fd : FuncData} (F : Fun K "_places" "_places" s__places f fd) (T : Rb mg) : FnG P w K mg base (CXe P w) 1 f fd ["cells", "mark"] spPlaces := by
  refine F.okG sc__places (fun vs H Q E h => ?_) (fun cdv A outer s H vs Q E hgd hr h => ?_)
  · obtain ⟨z, c, rfl, _⟩ := h; rfl
  · obtain ⟨z, c, rfl, hz, k⟩ := h
    refine ⟨_, (pss_one (ps_ret (pe_callTy call_tuple_of (by rfl) T.n_tuple (by decide +kernel) (pa_cons (pe_lc (own := [("cell", 2)]) (g := gName 2) rfl sc__places.nd (pi_range1 (by rfl) T.n_range (pa_cons (pe_callB call_len_str (by rfl) T.n_len (by decide +kernel) (pa_cons (pv 0) pa_nil)) pa_nil)) (blkOk_by (own := [("cell", 2)]) (N := ["cells", "mark", "cell"]) (sc := defScope s__places) (by decide +kernel)) (fun _ _ _ _ _ => pg_name (i := 2) sc__places.nd rfl (Or.inl rfl)) (fun _ _ _ _ _ => pts_one (pt_cmpR op_eq (pe_ix ix_str (pv 0) (pv 2) (fun _ _ => rfl)) (pv 1) (nomark _))) (fun _ _ _ _ _ => (pv 2))) pa_nil)))), ?_⟩
    walk_at "rd"
    refine And.intro (Nat.le_trans hz (by decide)) ?_
    refine ⟨_, rfl, by omega, by omega, ?_⟩
    rw [Int.toNat_natCast]
    refine fun D hD => lc_it walk_range (fun i H' => H' D = some (.lst ((placesL z c i).map V.int)) ∧ Off (fun b => b = D) H H') ⟨upd_same, Off.new hD⟩ (fun _ _ _ _ => trivial) ?_ ?_
    · rintro i x H1 H2 hi ⟨hacc, off⟩ ⟨rfl, rfl⟩
      refine And.intro rfl ?_
      obtain ⟨ci, hci⟩ : ∃ ci, z.cps[i]? = some ci := ⟨z.cps[i]'hi, Array.getElem?_eq_getElem hi⟩
      refine ⟨_, rfl, _, rfl, z, 0 + (i : Int), ci, rfl, rfl, Nat.le_trans hz (by decide), ?_, _, rfl, (rfl : scal _ _ = true), ?_⟩
      · have := atI_nat (xs := z.cps.toList) (j := i) (v := ci) (by simpa using hci)
        rwa [show (0 : Int) + (i : Int) = (i : Int) by omega]
      refine ⟨_, rfl, ?_⟩
      refine ite2 (fun h1 => ?_) (fun h1 => ?_)
      · have hc : ci = c := by simpa using h1
        subst hc
        refine ⟨_, rfl, _, hacc, ?_, ?_, off.trans (Off.mut rfl)⟩
        · rw [List.length_map]
          exact small1000 (Nat.le_trans (placesL_le z _ i) (by have := hi; have : i < z.length := hi; omega))
        · rw [upd_same, placesL_yes hci, List.map_append]
          simp
      · have hc : ¬ ci = c := by simpa using h1
        exact ⟨by rw [placesL_no (by rw [hci]; simpa using hc)]; exact hacc, off⟩
    · rintro H1 ⟨hacc, off⟩
      have s1 : Same H H1 := fun b o e => off b o (fun y => by rw [y, hD] at e; cases e) e
      refine ⟨D, _, rfl, .inl ⟨SqL.of hacc, fun t ht => ?_⟩⟩
      exact k t _ (s1.free ht) (fun b o e => by rw [upd_ne (ne_of_none (s1 _ _ e) ht)]; exact s1 _ _ e) upd_same
/-- rows as a room has them: each of this width -/
structure RowsOk (rows : List Str) (wd : Nat) : Prop where
  h1 : 1 ≤ rows.length
  h5 : rows.length ≤ 5
  w1 : 1 ≤ wd
  w6 : wd ≤ 6
  al : ∀ r ∈ rows, r.length = wd
def codeAt (rows : List Str) (l p : Nat) : Option Nat := (rows[l]?).bind fun r => r.cps[p]?
/-- the cell beside the i-th, this much down and across, or -1 -/
def neigh (rows : List Str) (wd : Nat) (d a : Int) (i : Nat) : Int :=
  if (0 ≤ ((i / wd : Nat) : Int) + d ∧ ((i / wd : Nat) : Int) + d < rows.length) ∧ (0 ≤ ((i % wd : Nat) : Int) + a ∧ ((i % wd : Nat) : Int) + a < wd) ∧ codeAt rows (((i / wd : Nat) : Int) + d).toNat (((i % wd : Nat) : Int) + a).toNat ≠ some 35
  then (((i / wd : Nat) : Int) + d) * wd + (((i % wd : Nat) : Int) + a) else -1
def neighL (rows : List Str) (wd : Nat) (d a : Int) (n : Nat) : List Int := (List.range n).map (neigh rows wd d a)
def spNeigh (K : PySem.W.Frag) : Sp := fun vs H Q _ => ∃ (t : Addr) (rows : List Str) (wd : Nat) (d a : Int), vs = [.ref t, .int d, .int a] ∧ RowsOk rows wd ∧ H t = some (.tup (rows.map V.str)) ∧ -1 ≤ d ∧ d ≤ 1 ∧ -1 ≤ a ∧ a ≤ 1 ∧
  ∀ q H', H q = none → Same H H' → H' q = some (.tup ((neighL rows wd d a (rows.length * wd)).map V.int)) → Q (.ref q) H'
theorem ok_neigh {f : Addr} {fd : FuncData} (F : Fun K "_neighbours" "_neighbours" s__neighbours f fd) (T : Rb mg) : FnG P w K mg base (CXe P w) 1 f fd ["rows", "down", "across"] (spNeigh K) := by
  refine F.okG sc__neighbours (fun vs H Q E h => ?_) (fun cdv A outer s H vs Q E hgd hr h => ?_)
  · obtain ⟨t, rows, wd, d, a, rfl, _⟩ := h; rfl
  · obtain ⟨t, rows, wd, d, a, rfl, R, ht, d1, d2, a1, a2, k⟩ := h
    refine ⟨_, (pss_cons (ps_set (i := 3) sc__neighbours.nd rfl (Or.inl rfl) (pe_callB call_len_str (by rfl) T.n_len (by decide +kernel) (pa_cons (pe_ix ix_tup (pv 0) pe_int (fun _ _ => rfl)) pa_nil)))
      (pss_cons (ps_set (i := 4) sc__neighbours.nd rfl (Or.inl rfl) (pe_lstA pa_nil))
      (pss_cons (ps_for (passes_of rfl) rfl (pi_range1 (by rfl) T.n_range (pa_cons (pe_op op_mul (pe_callB call_len_seq (by rfl) T.n_len (by decide +kernel) (pa_cons (pv 0) pa_nil)) (pv 3)) pa_nil)) (pg_name (i := 5) sc__neighbours.nd rfl (Or.inl rfl))
      (pss_cons (ps_par (i := 6) (j := 7) (by rfl) sc__neighbours.nd rfl rfl (by decide) rfl rfl (pa_cons (pe_op op_add (pe_op op_fdivN (pv 5) (pv 3)) (pv 1)) (pa_cons (pe_op op_add (pe_op op_mod (pv 5) (pv 3)) (pv 2)) pa_nil)) (by rfl))
      (C8.pss_cut (ps_set (i := 8) sc__neighbours.nd rfl (Or.inl rfl) (pe_and (pe_chain op_le op_lt pe_int (pv 6) (pe_callB call_len_seq (by rfl) T.n_len (by decide +kernel) (pa_cons (pv 0) pa_nil))) (pe_and (pe_chain op_le op_lt pe_int (pv 7) (pv 3)) (pe_one (pe_cmpR op_ne (pe_ix ix_str (pe_ix ix_tup (pv 0) (pv 6) (fun _ _ => rfl)) (pv 7) (fun _ _ => rfl)) pe_str (nomark _))))))
      (pss_one (ps_expr (pe_bm PySem.F.plainAttrs_list PySem.F.slot_list_append PySem.F.type_list_append mt_append (pv 4) (pa_cons (pe_ifExp (pt_val (pv 8)) (pe_op op_add (pe_op op_mul (pv 6) (pv 3)) (pv 7)) (pe_un un_neg pe_int)) pa_nil)))))))
      (pss_one (ps_ret (pe_callTy call_tuple_of (by rfl) T.n_tuple (by decide +kernel) (pa_cons (pv 4) pa_nil))))))), ?_⟩
    obtain ⟨r0, rest, hrows⟩ : ∃ r0 rest, rows = r0 :: rest := by
      have := R.h1
      cases rows with
      | nil => cases this
      | cons x y => exact ⟨x, y, rfl⟩
    have l0 : r0.length = wd := R.al r0 (by rw [hrows]; simp)
    walk_at "rd"
    refine ⟨t, _, 0, .str r0, rfl, rfl, SqT.of ht, atI_nat (xs := rows.map V.str) (j := 0) (v := .str r0) (by rw [hrows]; rfl), ?_⟩
    walk_at "rd"
    refine And.intro (by rw [l0]; have := R.w6; exact Nat.le_of_lt (small1000 (by omega))) ?_
    rw [l0]
    refine And.intro (Nat.le_of_ble_eq_true rfl) (fun D H1 n1 => ?_)
    have ht1 := n1.same _ _ ht
    walk_at "rd"
    refine ⟨t, _, rfl, .inr (SqT.of ht1), ?_⟩
    rw [List.length_map]
    walk_at "rd"
    have b5 := R.h5
    have b6 := R.w6
    have bw := R.w1
    have bn : rows.length * wd ≤ 5 * 6 := Nat.mul_le_mul b5 b6
    refine And.intro (.inl ⟨by omega, by omega⟩) ?_
    have en : (rows.length : Int) * (wd : Int) = ((rows.length * wd : Nat) : Int) := by simp
    refine ⟨((rows.length * wd : Nat) : Int), by rw [← en], by omega, by omega, ?_⟩
    rw [Int.toNat_natCast]
    refine for_range (n := rows.length * wd) (fun i σ H' => ∃ (cv lv pv iv : Option V), σ = [some (.ref t), some (.int d), some (.int a), some (.int wd), some (.ref D), cv, lv, pv, iv] ∧ H' D = some (.lst ((neighL rows wd d a i).map V.int)) ∧ Off (fun b => b = D) H1 H') ⟨none, none, none, none, rfl, n1.at_, Off.refl _⟩ ?_ ?_
    · rintro i σ H2 hi ⟨cv, lv, pv, iv, rfl, hacc, off⟩
      have hD2 : ∀ b o, H b = some o → H2 b = some o := fun b o e => off b o (fun y => by rw [y, n1.free] at e; cases e) (n1.same _ _ e)
      have ht2 := hD2 _ _ ht
      have eL : (0 + (i : Int)).fdiv (wd : Int) = ((i / wd : Nat) : Int) := by
        rw [Int.fdiv_eq_ediv_of_nonneg _ (by omega), show (0 : Int) + (i : Int) = (i : Int) by omega]
        exact (Int.natCast_ediv i wd).symm
      have eP : (0 + (i : Int)) % (wd : Int) = ((i % wd : Nat) : Int) := by
        rw [show (0 : Int) + (i : Int) = (i : Int) by omega]
        exact (Int.natCast_emod i wd).symm
      walk_at "rd"
      refine And.intro (And.intro (by omega) (by omega)) ?_
      walk_at "rd"
      refine And.intro (by omega) ?_
      walk_at "rd"
      obtain ⟨L, hL⟩ : ∃ L : Int, L = ((i / wd : Nat) : Int) + d := ⟨_, rfl⟩
      obtain ⟨Pp, hP⟩ : ∃ Pp : Int, Pp = ((i % wd : Nat) : Int) + a := ⟨_, rfl⟩
      refine ⟨.int L, .int Pp, (by show [V.int ((0 + (i : Int)).fdiv wd + d), V.int ((0 + (i : Int)) % wd + a)] = _; rw [eL, eP, ← hL, ← hP]), ?_⟩
      obtain ⟨Cp, hC⟩ : ∃ C : Bool, C = decide ((0 ≤ L ∧ L < rows.length) ∧ (0 ≤ Pp ∧ Pp < wd) ∧ codeAt rows L.toNat Pp.toNat ≠ some 35) := ⟨_, rfl⟩
      have hNo : ¬ ((0 ≤ L ∧ L < rows.length) ∧ (0 ≤ Pp ∧ Pp < wd) ∧ codeAt rows L.toNat Pp.toNat ≠ some 35) → Cp = false := fun z => by rw [hC]; exact decide_eq_false z
      refine ⟨fun σ' H' => H' = H2 ∧ σ' = [some (.ref t), some (.int d), some (.int a), some (.int wd), some (.ref D), some (.int (0 + (i : Nat))), some (.int L), some (.int Pp), some (.bl Cp)], ?_, ?_⟩
      · walk_at "rd"
        refine ite2 (fun q1 => ?_) (fun q1 => ?_)
        · have q1' : 0 ≤ L := by simpa using q1
          refine ⟨_, rfl, t, _, rfl, .inr (SqT.of ht2), _, _, rfl, rfl, _, rfl, ?_⟩
          rw [List.length_map]
          refine ite2 (fun q2 => ?_) (fun q2 => ?_)
          · have q2' : L < rows.length := by simpa using q2
            walk_at "rd"
            refine ite2 (fun q3 => ?_) (fun q3 => ?_)
            · have q3' : 0 ≤ Pp := by simpa using q3
              refine ⟨_, rfl, _, _, rfl, rfl, _, rfl, ?_⟩
              refine ite2 (fun q4 => ?_) (fun q4 => ?_)
              · have q4' : Pp < wd := by simpa using q4
                obtain ⟨r, hr⟩ : ∃ r, rows[L.toNat]? = some r := ⟨_, List.getElem?_eq_getElem (by omega)⟩
                have lr : r.length = wd := R.al r (List.mem_of_getElem? hr)
                obtain ⟨ci, hci⟩ : ∃ ci, r.cps[Pp.toNat]? = some ci := ⟨_, Array.getElem?_eq_getElem (by show Pp.toNat < r.length; omega)⟩
                refine ⟨_, rfl, _, rfl, t, _, L, .str r, rfl, rfl, SqT.of ht2, ?_, _, rfl, r, Pp, ci, rfl, rfl, by rw [lr]; exact Nat.le_of_lt (small1000 (by omega)), ?_, ?_⟩
                · have := atI_nat (xs := rows.map V.str) (j := L.toNat) (v := .str r) (by rw [List.getElem?_map, hr]; rfl)
                  rwa [Int.toNat_of_nonneg q1'] at this
                · have := atI_nat (xs := r.cps.toList) (j := Pp.toNat) (v := ci) (by simpa using hci)
                  rwa [Int.toNat_of_nonneg q3'] at this
                refine ⟨(rfl : scal _ _ = true), ?_⟩
                have e : Cp = !decide (V.str ⟨#[ci]⟩ = V.str "#") := by
                  have ec : codeAt rows L.toNat Pp.toNat = some ci := by unfold codeAt; rw [hr]; exact hci
                  have e2 : (V.str ⟨#[ci]⟩ = V.str "#") ↔ ci = 35 := by
                    have : ("#" : Str) = ⟨#[35]⟩ := by decide +kernel
                    rw [this]; simp
                  rw [hC, ec]
                  by_cases h35 : ci = 35
                  · rw [decide_eq_true (e2.mpr h35)]
                    exact decide_eq_false (fun z => z.2.2 (by rw [h35]))
                  · rw [decide_eq_false (fun z => h35 (e2.mp z))]
                    exact decide_eq_true ⟨⟨q1', q2'⟩, ⟨q3', q4'⟩, fun z => h35 (Option.some.inj z)⟩
                exact ⟨rfl, by rw [e]; rfl⟩
              · have q4' : ¬ Pp < wd := by simpa using q4
                exact ⟨rfl, by rw [hNo fun z => q4' z.2.1.2]; rfl⟩
            · have q3' : ¬ 0 ≤ Pp := by simpa using q3
              exact ⟨_, rfl, iteF ⟨rfl, by rw [hNo fun z => q3' z.2.1.1]; rfl⟩⟩
          · have q2' : ¬ L < rows.length := by simpa using q2
            exact ⟨rfl, by rw [hNo fun z => q2' z.1.2]; rfl⟩
        · have q1' : ¬ 0 ≤ L := by simpa using q1
          exact ⟨_, rfl, iteF ⟨rfl, by rw [hNo fun z => q1' z.1.1]; rfl⟩⟩
      · rintro σ' H3 ⟨rfl, rfl⟩
        walk_at "rd"
        have nx : neighL rows wd d a (i + 1) = neighL rows wd d a i ++ [neigh rows wd d a i] := by
          unfold neighL
          rw [List.range_succ, List.map_append]; rfl
        have ll : (neighL rows wd d a i).length = i := by unfold neighL; simp
        have hi30 : i < 30 := by omega
        refine And.intro (.inl ⟨rfl, _, SqL.of hacc⟩) ?_
        refine ⟨_, rfl, Cp, rfl, ?_⟩
        cases hb : Cp with
        | true =>
          have hcond : (0 ≤ L ∧ L < rows.length) ∧ (0 ≤ Pp ∧ Pp < wd) ∧ codeAt rows L.toNat Pp.toNat ≠ some 35 := by
            rw [hb] at hC
            exact of_decide_eq_true hC.symm
          have en2 : neigh rows wd d a i = L * wd + Pp := by
            unfold neigh
            rw [← hL, ← hP, if_pos hcond]
          refine iteT ?_
          walk_at "rd"
          refine And.intro (.inr ⟨by omega, by omega⟩) ?_
          walk_at "rd"
          refine ⟨D, _, _, rfl, rfl, hacc, ?_, ?_⟩
          · rw [List.length_map]
            exact small1000 (by rw [ll]; omega)
          · refine ⟨_, _, _, _, rfl, ?_, off.trans (Off.mut rfl)⟩
            rw [upd_same, nx, List.map_append]
            rw [en2]; rfl
        | false =>
          have en2 : neigh rows wd d a i = -1 := by
            unfold neigh
            rw [← hL, ← hP, if_neg]
            rw [hb] at hC
            exact of_decide_eq_false hC.symm
          refine iteF ?_
          walk_at "rd"
          refine ⟨D, _, _, rfl, rfl, hacc, ?_, ?_⟩
          · rw [List.length_map]
            exact small1000 (by rw [ll]; omega)
          · refine ⟨_, _, _, _, rfl, ?_, off.trans (Off.mut rfl)⟩
            rw [upd_same, nx, List.map_append]
            rw [en2]; rfl
    · rintro σ H2 ⟨cv, lv, pv, iv, rfl, hacc, off⟩
      walk_at "rd"
      have s1 : Same H H2 := fun b o e => off b o (fun y => by rw [y, n1.free] at e; cases e) (n1.same _ _ e)
      refine ⟨D, _, rfl, .inl ⟨SqL.of hacc, fun t ht => ?_⟩⟩
      exact k t _ (s1.free ht) (fun b o e => by rw [upd_ne (ne_of_none (s1 _ _ e) ht)]; exact s1 _ _ e) upd_same
end
end K88
end
section
set_option Elab.async false
set_option linter.all false
set_option maxRecDepth 100000
set_option maxHeartbeats 2000000
namespace K88
open PySem L2
local macro_rules | `(tactic| walk_at "hp") => `(tactic| first | assumption | exact upd_same | (refine (upd_ne (by first | assumption | (apply Ne.symm; assumption))).trans ?_; walk_at "hp"))
local macro_rules | `(tactic| walk_at "rd1") => `(tactic| first
  | (refine ⟨_, rfl, ?_⟩)
  | (refine ⟨_, _, rfl, rfl, ?_⟩)
  | (refine ⟨(rfl : scal _ _ = true), ?_⟩)
  | (refine And.intro (by show (0 : Int) < _; decide) ?_)
  | (refine And.intro (And.intro (by decide) (by decide)) ?_)
  | (refine And.intro (by assumption) ?_)
  | (refine Or.inl ⟨_, rfl, ?_⟩))
local macro_rules | `(tactic| walk_at "rd") => `(tactic| repeat walk_at "rd1")
theorem kitAny_ty {K : PySem.W.Frag} {n : String} {b1 b2 : Bool} (h1 : kitB n "list" = some b1) (h2 : kitB n "tuple" = some b2) : PySem.W.kitAny K (.type n) [.type "list", .type "tuple"] = some (b1 || b2) := by
  have e1 : PySem.W.kitOne K (.type n) (.type "list") = some b1 := kit_ty h1
  have e2 : PySem.W.kitOne K (.type n) (.type "tuple") = some b2 := kit_ty h2
  unfold PySem.W.kitAny
  rw [e1]
  cases b1 with
  | true => rfl
  | false =>
    unfold PySem.W.kitAny
    rw [e2]
    cases b2 <;> rfl
/-- a row of a room, of any kind of thing -/
def lineOk : V → Bool
  | .str s => lineS s
  | _ => false
def vlen : V → Nat
  | .str s => s.length
  | _ => 0
def isStr : V → Bool
  | .str _ => true
  | _ => false
def badAt (xs : List V) (i : Nat) : Bool := match xs[i]?, xs[i - 1]? with
  | some y, some x => !lineOk y || decide (vlen y ≠ vlen x)
  | _, _ => true
/-- the first fault of the rows, told -/
def rowsFault (xs : List V) : Option Int := if 1 ≤ xs.length ∧ xs.length ≤ 5 then ((List.range xs.length).find? (badAt xs)).map Int.ofNat else some (-1)
structure Elem (M : Addr → Prop) (H : Hp) (y : V) : Prop where
  dr : ∃ L d, Dr L M H y d
  sz : ∀ s, y = .str s → s.length ≤ sizeLine
theorem Elem.keep {M : Addr → Prop} {H H' : Hp} {y : V} (e : Elem M H y) (o : Off M H H') : Elem M H' y := ⟨let ⟨L, d, h⟩ := e.dr; ⟨L, d, h.keep o⟩, e.sz⟩
theorem Elem.ty {K : PySem.W.Frag} {M : Addr → Prop} {H : Hp} {y : V} (e : Elem M H y) : ∃ t, TyX K H y t ∧ PySem.W.kitOne K t (.type "str") = some (isStr y) := by
  obtain ⟨L, d, h⟩ := e.dr
  cases h with
  | non => exact ⟨_, .base .non, kit_ty (by decide +kernel)⟩
  | bl b => exact ⟨_, .base (.bl b), kit_ty (show kitB "bool" "str" = some false by decide +kernel)⟩
  | int i => exact ⟨_, .base (.int i), kit_ty (show kitB "int" "str" = some false by decide +kernel)⟩
  | str x => exact ⟨_, .base (.str x), kit_ty (show kitB "str" "str" = some true by decide +kernel)⟩
  | lst q => exact ⟨_, .base (.lst q), kit_ty (show kitB "list" "str" = some false by decide +kernel)⟩
  | tup q => exact ⟨_, .base (.tup q), kit_ty (show kitB "tuple" "str" = some false by decide +kernel)⟩
  | dct q => exact ⟨_, .base (.dK q), kit_ty (show kitB "dict" "str" = some false by decide +kernel)⟩
section
variable {P : Program} {w : World} {K : PySem.W.Frag} {mg : Str → Option Value} {base : Heap} {CB fB : Addr}
def spNeed (K : PySem.W.Frag) (CB : Addr) : Sp := fun vs H Q E => ∃ (v : V) (M : Addr → Prop), vs = [v] ∧
  ((∃ t, (∀ H', Same H H' → TyX K H' v t) ∧ PySem.W.kitAny K t [.type "list", .type "tuple"] = some false ∧ ∀ H' d, Same H H' → H' d = none → E (.ref CB) (some d) (upd H' d (.xd [("value", .int (-1))]))) ∨
   (∃ a xs, v = .ref a ∧ (H a = some (.lst xs) ∨ H a = some (.tup xs)) ∧ (∀ y ∈ xs, Elem M H y) ∧ (∀ i, rowsFault xs = some i → ∀ H' d, Same H H' → H' d = none → E (.ref CB) (some d) (upd H' d (.xd [("value", .int i)]))) ∧
     (rowsFault xs = none → ∀ H', Same H H' → Q .non H')))
structure RoomT (P : Program) (K : PySem.W.Frag) (mg : Str → Option Value) (CB fB : Addr) : Prop extends Rb mg where
  x_BadRoom : RX.ErrT P K mg "BadRoom" "value" CB fB
theorem ok_need {f : Addr} {fd : FuncData} (F : Fun K "_need_lines" "_need_lines" s__need_lines f fd) (T : RoomT P K mg CB fB) (c_is_row : CalG P w K mg base 1 "is_row" (spIsRow K)) (c__is_line : CalG P w K mg base 1 "_is_line" (spIsLine K)) : FnG P w K mg base (CXe P w) 3 f fd ["rows"] (spNeed K CB) := by
  refine F.okG sc__need_lines (fun vs H Q E h => ?_) (fun cdv A outer s H vs Q E hgd hr h => ?_)
  · obtain ⟨v, M, rfl, _⟩ := h; rfl
  · obtain ⟨v, M, rfl, h⟩ := h
    refine ⟨_, (pss_cons (ps_if (PW.pt (pw_or (pt_not (pt_val (pg_c c_is_row hgd hr (by first | decide | omega) (pa_cons (pv 0) pa_nil)))) (pw_or1 (pt_not (pt_chain op_le op_le pe_int (pe_callB call_len_seq (by rfl) T.n_len (by decide +kernel) (pa_cons (pv 0) pa_nil)) (pe_glob (v := .int 5) rfl (Exists.choose_spec T.k_MOST_LINES) ⟨_, rfl⟩)))))) (pss_one (ps_raiseErr rfl T.x_BadRoom hr (takes_of rfl rfl rfl rfl) (pa_cons (pe_un un_neg pe_int) pa_nil))) pss_nil)
      (pss_one (ps_for (passes_of rfl) rfl (pi_enum2 (by rfl) T.n_enumerate (pa_cons (pv 0) pa_nil)) (pg_tup (by rfl) (pgs_cons (pg_name (i := 1) sc__need_lines.nd rfl (Or.inl rfl)) (pgs_cons (pg_name (i := 2) sc__need_lines.nd rfl (Or.inl rfl)) pgs_nil)))
      (pss_one (ps_if (PW.pt (pw_or (pt_not (pt_val (pg_c c__is_line hgd hr (by first | decide | omega) (pa_cons (pv 2) pa_nil)))) (pw_or1 (pt_cmpR op_ne (pe_callB call_len_str (by rfl) T.n_len (by decide +kernel) (pa_cons (pv 2) pa_nil)) (pe_callB call_len_str (by rfl) T.n_len (by decide +kernel) (pa_cons (pe_ix ix_seq (pv 0) (pe_callB (call_max2 rfl) (by rfl) T.n_max (by decide +kernel) (pa_cons (pe_op op_sub (pv 1) pe_int) (pa_cons pe_int pa_nil))) (fun _ _ => rfl)) pa_nil)) (nomark _))))) (pss_one (ps_raiseErr rfl T.x_BadRoom hr (takes_of rfl rfl rfl rfl) (pa_cons (pv 1) pa_nil))) pss_nil))))), ?_⟩
    walk_at "rd"
    rcases h with ⟨t, ty, e, kE⟩ | ⟨a, xs, rfl, hx, hel, kE, kQ⟩
    · refine ⟨v, t, false, rfl, ty _ (Same.refl _), ty, e, fun H1 s1 => ?_⟩
      refine ⟨_, rfl, ?_⟩
      exact iteT (iteT ⟨1, rfl, _, rfl, fun d hd => kE H1 d s1 hd⟩)
    · obtain ⟨t, tyx, ek⟩ : ∃ t, (∀ H', Same H H' → TyX K H' (.ref a) t) ∧ PySem.W.kitAny K t [.type "list", .type "tuple"] = some true := by
        rcases hx with q | q
        · exact ⟨_, fun H' s' => .base (.lst (s' _ _ q)), kitAny_ty (show kitB "list" "list" = some true by decide +kernel) (show kitB "list" "tuple" = some false by decide +kernel)⟩
        · exact ⟨_, fun H' s' => .base (.tup (s' _ _ q)), kitAny_ty (show kitB "tuple" "list" = some false by decide +kernel) (show kitB "tuple" "tuple" = some true by decide +kernel)⟩
      refine ⟨.ref a, t, true, rfl, tyx _ (Same.refl _), tyx, ek, fun H1 s1 => ?_⟩
      refine ⟨_, rfl, ?_⟩
      refine iteF ?_
      walk_at "rd"
      have sq : ∀ H', Same H H' → SqL K H' a xs ∨ SqT K H' a xs := fun H' s' => hx.imp (fun q => SqL.of (s' _ _ q)) (fun q => SqT.of (s' _ _ q))
      refine ⟨a, xs, rfl, sq _ s1, ?_⟩
      have out : ¬ (1 ≤ xs.length ∧ xs.length ≤ 5) → rowsFault xs = some (-1) := fun z => by unfold rowsFault; rw [if_neg z]
      refine ⟨_, _, rfl, rfl, _, rfl, ?_⟩
      refine ite2 (fun q1 => ?_) (fun q1 => ?_)
      · refine ⟨_, _, rfl, rfl, _, rfl, ?_⟩
        refine ite2 (fun q2 => ?_) (fun q2 => ?_)
        · have hf := out (fun z => by
            have : ¬ (xs.length : Int) ≤ 5 := by simpa using q2
            omega)
          exact ⟨1, rfl, _, rfl, fun d hd => kE _ hf H1 d s1 hd⟩
        · have l1 : 1 ≤ xs.length := by
            have : (1 : Int) ≤ (xs.length : Int) := by simpa using q1
            omega
          have l5 : xs.length ≤ 5 := by
            have : (xs.length : Int) ≤ 5 := by simpa using q2
            omega
          refine ⟨_, rfl, a, xs, rfl, sq _ s1, fun J G wk hG => for_it wk (fun i σ H' => ∃ (o1 o2 : Option V), σ = [some (.ref a), o1, o2] ∧ Same H1 H' ∧ ∀ j, j < i → badAt xs j = false) ⟨none, none, rfl, Same.refl _, fun j hj => absurd hj (Nat.not_lt_zero _)⟩ (fun i σ H' _ hp => hG H' (let ⟨_, _, _, s', _⟩ := hp; s')) ?_ ?_⟩
          · rintro i x σ H2 H3 hi ⟨o1, o2, rfl, s2, hb⟩ ⟨T, x1, y1, rfl, hT, rfl, e1, e2⟩
            cases e1
            have e2 : xs[i]? = some y1 := e2
            have s3 : Same H2 (upd H2 T (.tup [.int (i : Nat), y1])) := same_new hT
            have s03 := (s1.trans s2).trans s3
            have first : badAt xs i = true → rowsFault xs = some ((i : Nat) : Int) := fun hbi => by
              unfold rowsFault
              rw [if_pos ⟨l1, l5⟩, List.find?_range_eq_some.mpr ⟨hbi, List.mem_range.mpr hi, fun j hj => by rw [hb j hj]; rfl⟩]
              rfl
            have ey : Elem M (upd H2 T (.tup [.int (i : Nat), y1])) y1 := (hel y1 (List.mem_of_getElem? e2)).keep (Off.same s03)
            have rz : badAt xs i = true → ∀ d, (upd H2 T (.tup [.int (i : Nat), y1])) d = none → E (.ref CB) (some d) (upd (upd H2 T (.tup [.int (i : Nat), y1])) d (.xd [("value", .int (i : Nat))])) := fun hbi d hd => kE _ (first hbi) _ d s03 hd
            refine ⟨T, _, rfl, SqT.of upd_same, rfl, _, _, rfl, _, _, rfl, rfl, ?_⟩
            obtain ⟨t1, ty1, ek1⟩ := ey.ty (K := K)
            refine ⟨_, rfl, y1, t1, _, rfl, ty1, ek1, fun hn => ?_, fun hy => ?_⟩
            · have hb0 : badAt xs i = true := by
                have hl : lineOk y1 = false := by cases y1 <;> first | rfl | cases hn
                unfold badAt
                rw [e2]
                cases xs[i - 1]? with
                | none => rfl
                | some y => show (!lineOk y1 || _) = true; rw [hl]; rfl
              exact ⟨_, rfl, iteT (iteT ⟨_, rfl, _, rfl, fun d hd => rz hb0 d hd⟩)⟩
            · obtain ⟨z, rfl⟩ : ∃ z, y1 = .str z := by cases y1 <;> first | exact ⟨_, rfl⟩ | cases hy
              refine ⟨z, rfl, ey.sz z rfl, _, rfl, ?_⟩
              cases hl : lineS z with
              | false =>
                have hb0 : badAt xs i = true := by
                  unfold badAt
                  rw [e2]
                  cases xs[i - 1]? with
                  | none => rfl
                  | some y => show (!lineS z || _) = true; rw [hl]; rfl
                exact iteT (iteT ⟨_, rfl, _, rfl, fun d hd => rz hb0 d hd⟩)
              | true =>
                refine iteF ?_
                obtain ⟨z0, hz0, lz0⟩ : ∃ z0, xs[i - 1]? = some (.str z0) ∧ z0.length ≤ sizeLine := by
                  by_cases hi0 : i = 0
                  · subst hi0
                    exact ⟨z, e2, ey.sz z rfl⟩
                  · have hbp := hb (i - 1) (by omega)
                    obtain ⟨y0, hy0⟩ : ∃ y0, xs[i - 1]? = some y0 := ⟨_, List.getElem?_eq_getElem (by omega)⟩
                    unfold badAt at hbp
                    rw [hy0] at hbp
                    have hlo : lineOk y0 = true := by
                      cases hq : xs[i - 1 - 1]? with
                      | none => rw [hq] at hbp; cases hbp
                      | some y =>
                        rw [hq] at hbp
                        have : (!lineOk y0 || decide (vlen y0 ≠ vlen y)) = false := hbp
                        have := (Bool.or_eq_false_iff.mp this).1
                        simpa using this
                    obtain ⟨z0, rfl⟩ : ∃ z0, y0 = .str z0 := by cases y0 <;> first | exact ⟨_, rfl⟩ | cases hlo
                    exact ⟨z0, hy0, (hel _ (List.mem_of_getElem? hy0)).sz z0 rfl⟩
                have ei : (if (0 : Int) > (i : Int) - 1 then (0 : Int) else (i : Int) - 1) = ((i - 1 : Nat) : Int) := by
                  split <;> omega
                have hat : atI xs ((i - 1 : Nat) : Int) = some (.str z0) := atI_nat hz0
                have ixs : ∀ (kk : Int), kk = ((i - 1 : Nat) : Int) → ∀ R : VK, R (.str z0) (upd H2 T (.tup [.int (i : Nat), .str z])) → rIx K (.ref a) (.int kk) (upd H2 T (.tup [.int (i : Nat), .str z])) R := fun kk ek R hR => by
                  subst ek
                  rcases hx with q | q
                  · exact .inl ⟨a, xs, _, _, rfl, rfl, SqL.of (s03 _ _ q), hat, hR⟩
                  · exact .inr (.inl ⟨a, xs, _, _, rfl, rfl, SqT.of (s03 _ _ q), hat, hR⟩)
                refine ⟨_, rfl, z, rfl, ey.sz z rfl, ?_⟩
                refine ⟨_, rfl, _, rfl, _, _, rfl, rfl, _, _, rfl, ?_⟩
                refine ixs _ ei _ ?_
                refine ⟨z0, rfl, lz0, (rfl : scal _ _ = true), ?_⟩
                refine ⟨_, rfl, ?_⟩
                have bad : badAt xs i = decide (z.length ≠ z0.length) := by
                  unfold badAt
                  rw [e2, hz0]
                  show (!lineS z || decide (z.length ≠ z0.length)) = _
                  rw [hl]; rfl
                refine ite2 (fun q3 => ?_) (fun q3 => ?_)
                · have q3' : ¬ z.length = z0.length := fun w => by
                    rw [w] at q3
                    simp at q3
                  exact ⟨_, rfl, _, rfl, fun d hd => rz (by rw [bad]; exact decide_eq_true q3') d hd⟩
                · have q3' : z.length = z0.length := by
                    have : decide (V.int (z.length : Int) = V.int (z0.length : Int)) = true := by simpa using q3
                    have := of_decide_eq_true this
                    injection this with this
                    exact Int.ofNat.inj this
                  refine ⟨_, _, rfl, s2.trans s3, fun j hj => ?_⟩
                  by_cases hji : j = i
                  · rw [hji, bad]; exact decide_eq_false (fun w => w q3')
                  · exact hb j (by omega)
          · rintro σ H2 ⟨o1, o2, rfl, s2, hb⟩
            refine kQ ?_ H2 (s1.trans s2)
            unfold rowsFault
            rw [if_pos ⟨l1, l5⟩, List.find?_range_eq_none.mpr (fun j hj => by rw [hb j hj]; rfl)]
            rfl
      · have hf := out (fun z => by
          have : ¬ (1 : Int) ≤ (xs.length : Int) := by simpa using q1
          omega)
        exact ⟨_, rfl, iteT ⟨1, rfl, _, rfl, fun d hd => kE _ hf H1 d s1 hd⟩⟩
end
end K88
end
section
set_option Elab.async false
set_option linter.all false
set_option maxRecDepth 100000
set_option maxHeartbeats 2000000
namespace K88
open PySem L2
local macro_rules | `(tactic| walk_at "hp") => `(tactic| first | assumption | exact upd_same | (refine (upd_ne (by first | assumption | (apply Ne.symm; assumption))).trans ?_; walk_at "hp"))
local macro_rules | `(tactic| walk_at "rd1") => `(tactic| first
  | (refine ⟨_, rfl, ?_⟩)
  | (refine ⟨_, _, rfl, rfl, ?_⟩)
  | (refine ⟨(rfl : scal _ _ = true), ?_⟩)
  | (refine And.intro (by show (0 : Int) < _; decide) ?_)
  | (refine And.intro (And.intro (by decide) (by decide)) ?_)
  | (refine And.intro (by assumption) ?_)
  | (refine Or.inl ⟨_, rfl, ?_⟩))
local macro_rules | `(tactic| walk_at "rd") => `(tactic| repeat walk_at "rd1")
section
variable {P : Program} {w : World} {K : PySem.W.Frag} {mg : Str → Option Value} {base : Heap} {C CB fB : Addr}
def roomF (t ct pt nd : Addr) (z : Str) : List (Str × V) := [("rows", .ref t), ("cells", .str z), ("entry", .int (Txt.find z "@")), ("mouths", .int (manyZ z "12")), ("crates", .ref ct), ("plates", .ref pt), ("near", .ref nd)]
/-- the four ways of the cells of these rows -/
structure NearAt (H : Hp) (nd : Addr) (rows : List Str) (wd : Nat) : Prop where
  ex : ∃ u d l r, H nd = some (.dK [(.inr "u", .ref u), (.inr "d", .ref d), (.inr "l", .ref l), (.inr "r", .ref r)]) ∧ H u = some (.tup ((neighL rows wd (-1) 0 (rows.length * wd)).map V.int)) ∧ H d = some (.tup ((neighL rows wd 1 0 (rows.length * wd)).map V.int)) ∧
    H l = some (.tup ((neighL rows wd 0 (-1) (rows.length * wd)).map V.int)) ∧ H r = some (.tup ((neighL rows wd 0 1 (rows.length * wd)).map V.int))
/-- a room stands at x -/
structure RoomAt (C : Addr) (H : Hp) (x : Addr) (rows : List Str) (wd : Nat) : Prop where
  ok : RowsOk rows wd
  lines : ∀ r ∈ rows, lineS r = true
  whole : wholeZ (Txt.join "" rows) = true
  ex : ∃ dx t ct pt nd, H x = some (.ins C dx (roomF t ct pt nd (Txt.join "" rows))) ∧ H t = some (.tup (rows.map V.str)) ∧ H ct = some (.tup ((placesL (Txt.join "" rows) 111 (Txt.join "" rows).length).map V.int)) ∧
    H pt = some (.tup ((placesL (Txt.join "" rows) 112 (Txt.join "" rows).length).map V.int)) ∧ NearAt H nd rows wd
theorem putF_len (f : Str) (v : V) : ∀ fs : List (Str × V), (putF f v fs).length ≤ fs.length + 1
  | [] => Nat.le_refl _
  | (g, u) :: r => by
    show (if g = f then (g, v) :: r else (g, u) :: putF f v r).length ≤ _
    have := putF_len f v r
    split <;> simp only [List.length_cons] <;> omega
theorem fne : (¬ (("rows" : Str) = "cells") ∧ ¬ (("rows" : Str) = "entry") ∧ ¬ (("rows" : Str) = "mouths") ∧ ¬ (("rows" : Str) = "crates") ∧ ¬ (("rows" : Str) = "plates") ∧ ¬ (("rows" : Str) = "near")) ∧
    (¬ (("cells" : Str) = "entry") ∧ ¬ (("cells" : Str) = "mouths") ∧ ¬ (("cells" : Str) = "crates") ∧ ¬ (("cells" : Str) = "plates") ∧ ¬ (("cells" : Str) = "near")) ∧
    (¬ (("entry" : Str) = "mouths") ∧ ¬ (("entry" : Str) = "crates") ∧ ¬ (("entry" : Str) = "plates") ∧ ¬ (("entry" : Str) = "near")) ∧ (¬ (("mouths" : Str) = "crates") ∧ ¬ (("mouths" : Str) = "plates") ∧ ¬ (("mouths" : Str) = "near")) ∧
    (¬ (("crates" : Str) = "plates") ∧ ¬ (("crates" : Str) = "near")) ∧ ¬ (("plates" : Str) = "near") := by decide +kernel
theorem putF6 (a b c d e f : V) : putF "plates" f (putF "crates" e (putF "mouths" d (putF "entry" c (putF "cells" b (putF "rows" a []))))) = ([("rows", a), ("cells", b), ("entry", c), ("mouths", d), ("crates", e), ("plates", f)] : List (Str × V)) := by
  obtain ⟨⟨r1, r2, r3, r4, r5, r6⟩, ⟨c1, c2, c3, c4, c5⟩, ⟨e1, e2, e3, e4⟩, ⟨m1, m2, m3⟩, ⟨t1, t2⟩, p1⟩ := fne
  simp only [putF, r1, r2, r3, r4, r5, r6, c1, c2, c3, c4, c5, e1, e2, e3, e4, m1, m2, m3, t1, t2, p1, if_false]
theorem putF7 (a b c d e f g : V) : putF "near" g ([("rows", a), ("cells", b), ("entry", c), ("mouths", d), ("crates", e), ("plates", f)] : List (Str × V)) = ([("rows", a), ("cells", b), ("entry", c), ("mouths", d), ("crates", e), ("plates", f), ("near", g)] : List (Str × V)) := by
  obtain ⟨⟨r1, r2, r3, r4, r5, r6⟩, ⟨c1, c2, c3, c4, c5⟩, ⟨e1, e2, e3, e4⟩, ⟨m1, m2, m3⟩, ⟨t1, t2⟩, p1⟩ := fne
  simp only [putF, r1, r2, r3, r4, r5, r6, c1, c2, c3, c4, c5, e1, e2, e3, e4, m1, m2, m3, t1, t2, p1, if_false]
theorem merge4 (a b c d : V) : mergeK [] ([(.inr "u", a), (.inr "d", b), (.inr "l", c), (.inr "r", d)] : List (Key × V)) = [(.inr "u", a), (.inr "d", b), (.inr "l", c), (.inr "r", d)] := by
  have h : (¬ (("u" : Str) = "d") ∧ ¬ (("u" : Str) = "l") ∧ ¬ (("u" : Str) = "r")) ∧ (¬ (("d" : Str) = "l") ∧ ¬ (("d" : Str) = "r")) ∧ ¬ (("l" : Str) = "r") := by decide +kernel
  obtain ⟨⟨h1, h2, h3⟩, ⟨h4, h5⟩, h6⟩ := h
  simp [mergeK, putK, h1, h2, h3, h4, h5, h6]
theorem flat_joinL : ∀ ps : List (List Nat), TL.joinL [] ps = ps.flatten
  | [] => rfl
  | [p] => by simp [TL.joinL]
  | p :: q :: r => by
    show p ++ ([] ++ TL.joinL [] (q :: r)) = _
    rw [flat_joinL (q :: r)]
    simp
theorem join_cps (rows : List Str) : (Txt.join "" rows).cps.toList = (rows.map fun r => r.cps.toList).flatten := by
  rw [TL.join_eq]
  exact (TL.tl_join "" rows).trans (flat_joinL _)
theorem join_sum (rows : List Str) : (Txt.join "" rows).length = (rows.map (·.length)).sum := by
  have h := congrArg List.length (join_cps rows)
  rw [List.length_flatten, List.map_map] at h
  exact h
theorem sum_rows {rows : List Str} {wd : Nat} (h : ∀ r ∈ rows, r.length = wd) : (rows.map (·.length)).sum = rows.length * wd := by
  induction rows with
  | nil => simp
  | cons r rs ih =>
    rw [List.map_cons, List.sum_cons, ih fun x hx => h x (List.mem_cons_of_mem _ hx), h r (List.mem_cons_self ..), List.length_cons, Nat.succ_mul, Nat.add_comm]
theorem join_len {rows : List Str} {wd : Nat} (R : RowsOk rows wd) : (Txt.join "" rows).length = rows.length * wd := (join_sum rows).trans (sum_rows R.al)
def strOf : V → Str
  | .str s => s
  | _ => ""
theorem lineOk_str {y : V} (h : lineOk y = true) : y = .str (strOf y) ∧ lineS (strOf y) = true := by
  cases y <;> first | exact ⟨rfl, h⟩ | cases h
theorem rows_of {xs : List V} (h : rowsFault xs = none) : ∃ rows wd, xs = rows.map V.str ∧ RowsOk rows wd ∧ ∀ r ∈ rows, lineS r = true := by
  unfold rowsFault at h
  split at h
  case isFalse => cases h
  rename_i hn
  have hf : (List.range xs.length).find? (badAt xs) = none := by
    cases e : (List.range xs.length).find? (badAt xs) with
    | none => rfl
    | some i => rw [e] at h; cases h
  have good : ∀ i, i < xs.length → badAt xs i = false := fun i hi => by
    have := List.find?_range_eq_none.mp hf i hi
    simpa using this
  have at2 : ∀ i, (hi : i < xs.length) → lineOk xs[i] = true ∧ vlen xs[i] = vlen (xs[i - 1]'(by omega)) := fun i hi => by
    have b := good i hi
    unfold badAt at b
    rw [List.getElem?_eq_getElem hi, List.getElem?_eq_getElem (show i - 1 < xs.length by omega)] at b
    have b' : (!lineOk xs[i] || decide (vlen xs[i] ≠ vlen (xs[i - 1]'(by omega)))) = false := b
    obtain ⟨b1, b2⟩ := Bool.or_eq_false_iff.mp b'
    exact ⟨by simpa using b1, by simpa using b2⟩
  have all : ∀ i, (hi : i < xs.length) → vlen xs[i] = vlen (xs[0]'(by omega)) := by
    intro i
    induction i with
    | zero => intro hi; rfl
    | succ k ih => intro hi; exact (at2 (k + 1) hi).2.trans (ih (by omega))
  have line : ∀ y ∈ xs, lineOk y = true := fun y hy => by
    obtain ⟨i, hi, rfl⟩ := List.getElem_of_mem hy
    exact (at2 i hi).1
  have len : ∀ y ∈ xs, vlen y = vlen (xs[0]'(by omega)) := fun y hy => by
    obtain ⟨i, hi, rfl⟩ := List.getElem_of_mem hy
    exact all i hi
  have e1 : xs = (xs.map strOf).map V.str := by
    rw [List.map_map]
    have : ∀ y ∈ xs, (V.str ∘ strOf) y = id y := fun y hy => (lineOk_str (line y hy)).1.symm
    rw [List.map_congr_left this, List.map_id]
  have l0 : lineS (strOf (xs[0]'(by omega))) = true := (lineOk_str (line _ (List.getElem_mem _))).2
  have v0 : vlen (xs[0]'(by omega)) = (strOf (xs[0]'(by omega))).length := by
    have := (lineOk_str (line _ (List.getElem_mem (show 0 < xs.length by omega)))).1
    rw [this]; rfl
  have b0 : 1 ≤ (strOf (xs[0]'(by omega))).length ∧ (strOf (xs[0]'(by omega))).length ≤ 6 := by
    unfold lineS at l0
    simp only [Bool.and_eq_true, decide_eq_true_eq] at l0
    exact ⟨l0.1, l0.2.1⟩
  refine ⟨xs.map strOf, vlen (xs[0]'(by omega)), e1, ⟨by simpa using hn.1, by simpa using hn.2, by rw [v0]; exact b0.1, by rw [v0]; exact b0.2, ?_⟩, ?_⟩
  · intro r hr
    obtain ⟨y, hy, rfl⟩ := List.mem_map.mp hr
    rw [← len y hy]
    have := (lineOk_str (line y hy)).1
    rw [this]; rfl
  · intro r hr
    obtain ⟨y, hy, rfl⟩ := List.mem_map.mp hr
    exact (lineOk_str (line y hy)).2
def spRoomInit (K : PySem.W.Frag) (C CB : Addr) : Sp := fun vs H Q E => ∃ (x dx : Addr) (v : V) (M : Addr → Prop), vs = [.ref x, v] ∧ H x = some (.ins C dx []) ∧
  ((∃ t, (∀ H', Same H H' → TyX K H' v t) ∧ PySem.W.kitAny K t [.type "list", .type "tuple"] = some false ∧ ∀ H' d, Same H H' → H' d = none → E (.ref CB) (some d) (upd H' d (.xd [("value", .int (-1))]))) ∨
   (∃ a xs, v = .ref a ∧ (H a = some (.lst xs) ∨ H a = some (.tup xs)) ∧ (∀ y ∈ xs, Elem M H y) ∧ (∀ i, rowsFault xs = some i → ∀ H' d, Same H H' → H' d = none → E (.ref CB) (some d) (upd H' d (.xd [("value", .int i)]))) ∧
     (∀ rows wd, xs = rows.map V.str → RowsOk rows wd → (∀ r ∈ rows, lineS r = true) → (wholeZ (Txt.join "" rows) = false → ∀ H' d, Same H H' → H' d = none → E (.ref CB) (some d) (upd H' d (.xd [("value", .int (-1))]))) ∧
       ∀ H', RoomAt C H' x rows wd → (∀ b o, H b = some o → b ≠ x → H' b = some o) → Q .non H')))
theorem ok_room_init {f : Addr} {fd : FuncData} (F : Fun K "__init__" "Room.__init__" s_Room_init f fd) (T : RoomT P K mg CB fB) (cl : Cls K C) (n_rows : NoAttr K C "rows") (n_cells : NoAttr K C "cells") (n_entry : NoAttr K C "entry") (n_mouths : NoAttr K C "mouths") (n_crates : NoAttr K C "crates") (n_plates : NoAttr K C "plates") (n_near : NoAttr K C "near")
    (c__need_lines : CalG P w K mg base 3 "_need_lines" (spNeed K CB)) (c__is_whole_room : CalG P w K mg base 2 "_is_whole_room" spWR) (c__many : CalG P w K mg base 1 "_many" spMany) (c__places : CalG P w K mg base 1 "_places" spPlaces) (c__neighbours : CalG P w K mg base 1 "_neighbours" (spNeigh K)) :
    FnG P w K mg base (CXe P w) 4 f fd ["self", "rows"] (spRoomInit K C CB) := by
  refine F.okG sc_Room_init (fun vs H Q E h => ?_) (fun cdv A outer s H vs Q E hgd hr h => ?_)
  · obtain ⟨x, dx, v, M, rfl, _⟩ := h; rfl
  · obtain ⟨x, dx, v, M, rfl, hx, h⟩ := h
    refine ⟨_, (pss_cons (ps_expr (pg_cS c__need_lines hgd hr (by decide) (fun σ => passAt (takes_of rfl rfl rfl rfl) σ) (pa_cons (pv 1) pa_nil)))
      (pss_cons (ps_set (i := 2) sc_Room_init.nd rfl (Or.inl rfl) (pe_m1 PySem.F.slot_str_join PySem.F.type_str_join mt_join pe_str (pv 1)))
      (pss_cons (ps_if (pt_not (pt_val (pg_c c__is_whole_room hgd hr (by first | decide | omega) (pa_cons (pv 2) pa_nil)))) (pss_one (ps_raiseErr rfl T.x_BadRoom hr (takes_of rfl rfl rfl rfl) (pa_cons (pe_un un_neg pe_int) pa_nil))) pss_nil)
      (pss_cons (ps_fld (pv 0) (pe_callTy cr_tup2 (by rfl) T.n_tuple (by decide +kernel) (pa_cons (pv 1) pa_nil)) rfl)
      (pss_cons (ps_fld (pv 0) (pv 2) rfl)
      (pss_cons (ps_fld (pv 0) (pe_m1 PySem.F.slot_str_find PySem.F.type_str_find mt_find (pv 2) pe_str) rfl)
      (pss_cons (ps_fld (pv 0) (pg_c c__many hgd hr (by first | decide | omega) (pa_cons (pv 2) (pa_cons pe_str pa_nil))) rfl)
      (pss_cons (ps_fld (pv 0) (pg_c c__places hgd hr (by first | decide | omega) (pa_cons (pv 2) (pa_cons pe_str pa_nil))) rfl)
      (pss_cons (ps_fld (pv 0) (pg_c c__places hgd hr (by first | decide | omega) (pa_cons (pv 2) (pa_cons pe_str pa_nil))) rfl)
      (pss_one (ps_fld (pv 0) (pe_disp (pps_cons pe_str (pg_c c__neighbours hgd hr (by first | decide | omega) (pa_cons (pe_fld (pv 0) rfl) (pa_cons (pe_un un_neg pe_int) (pa_cons pe_int pa_nil)))) (pps_cons pe_str (pg_c c__neighbours hgd hr (by first | decide | omega) (pa_cons (pe_fld (pv 0) rfl) (pa_cons pe_int (pa_cons pe_int pa_nil)))) (pps_cons pe_str (pg_c c__neighbours hgd hr (by first | decide | omega) (pa_cons (pe_fld (pv 0) rfl) (pa_cons pe_int (pa_cons (pe_un un_neg pe_int) pa_nil)))) (pps_cons pe_str (pg_c c__neighbours hgd hr (by first | decide | omega) (pa_cons (pe_fld (pv 0) rfl) (pa_cons pe_int (pa_cons pe_int pa_nil)))) pps_nil)))) (by rfl) (by rfl) (fun z => by cases z) (by decide)) rfl))))))))))), ?_⟩
    walk_at "rd"
    rcases h with ⟨t, ty, e, kE⟩ | ⟨a, xs, rfl, hxs, hel, kE, kQ⟩
    · exact ⟨v, M, rfl, .inl ⟨t, ty, e, kE⟩⟩
    refine ⟨.ref a, M, rfl, .inr ⟨a, xs, rfl, hxs, hel, kE, fun hf H1 s1 => ?_⟩⟩
    obtain ⟨rows, wd, rfl, R, hl⟩ := rows_of hf
    obtain ⟨kW, kK⟩ := kQ rows wd rfl R hl
    walk_at "rd"
    have sq : SqL K H1 a (rows.map V.str) ∨ SqT K H1 a (rows.map V.str) := hxs.imp (fun q => SqL.of (s1 _ _ q)) (fun q => SqT.of (s1 _ _ q))
    have hz : (Txt.join "" rows).length = rows.length * wd := join_len R
    have hs := sum_rows R.al
    have b5 := R.h5
    have b6 := R.w6
    have bn : rows.length * wd ≤ 5 * 6 := Nat.mul_le_mul b5 b6
    refine ⟨⟨_, rfl⟩, _, rfl, "", a, rows, rfl, rfl, sq, ?_, ?_⟩
    · rw [hs]
      show _ + rows.length * 0 ≤ _
      omega
    obtain ⟨z, ez⟩ : ∃ z, z = Txt.join "" rows := ⟨_, rfl⟩
    rw [← ez] at hz kW
    rw [← ez]
    walk_at "rd"
    refine ⟨by rw [hz]; exact Nat.le_of_lt (small1000 (by omega)), fun H2 s2 => ?_⟩
    refine ⟨_, rfl, ?_⟩
    cases hw : wholeZ z with
    | false => exact iteT ⟨1, rfl, _, rfl, fun d hd => kW hw H2 d (s1.trans s2) hd⟩
    | true =>
      refine iteF ?_
      walk_at "rd"
      have s02 := s1.trans s2
      have hx2 := s02 _ _ hx
      have hxs2 : H2 a = some (.lst (rows.map V.str)) ∨ H2 a = some (.tup (rows.map V.str)) := hxs.imp (fun q => s02 _ _ q) (fun q => s02 _ _ q)
      refine ⟨a, _, rfl, hxs2, fun t H3 s3 ht3 ht => ?_⟩
      have hx3 := s3 _ _ hx2
      have htx : t ≠ x := fun z => by rw [z, hx3] at ht3; cases ht3
      refine ⟨_, rfl, x, C, dx, _, rfl, hx3, cl, n_rows, (by refine Nat.lt_of_le_of_lt (m := 0) ?_ (by decide); exact Nat.le_refl _), ?_⟩
      have pl1 : (putF "rows" (.ref t) []).length ≤ 1 := Nat.le_trans (putF_len _ _ _) (Nat.succ_le_succ (Nat.le_refl _))
      have o4 : Off (fun b => b = x) H3 (upd H3 x (.ins C dx (putF "rows" (.ref t) []))) := Off.mut rfl
      have hx4 : upd H3 x (.ins C dx (putF "rows" (.ref t) [])) x = some (.ins C dx (putF "rows" (.ref t) [])) := upd_same
      generalize upd H3 x (.ins C dx (putF "rows" (.ref t) [])) = H4 at o4 hx4 ⊢
      have ht4 := o4 _ _ htx ht3
      walk_at "rd"
      refine ⟨x, C, dx, _, rfl, hx4, cl, n_cells, (by refine Nat.lt_of_le_of_lt (m := 1) ?_ (by decide); exact pl1), ?_⟩
      have pl2 : (putF "cells" (.str z) (putF "rows" (.ref t) [])).length ≤ 2 := Nat.le_trans (putF_len _ _ _) (Nat.succ_le_succ pl1)
      have o5 : Off (fun b => b = x) H4 (upd H4 x (.ins C dx (putF "cells" (.str z) (putF "rows" (.ref t) [])))) := Off.mut rfl
      have hx5 : upd H4 x (.ins C dx (putF "cells" (.str z) (putF "rows" (.ref t) []))) x = some (.ins C dx (putF "cells" (.str z) (putF "rows" (.ref t) []))) := upd_same
      generalize upd H4 x (.ins C dx (putF "cells" (.str z) (putF "rows" (.ref t) []))) = H5 at o5 hx5 ⊢
      have ht5 := o5 _ _ htx ht4
      refine ⟨_, rfl, ⟨_, rfl⟩, z, "@", rfl, rfl, ?_⟩
      walk_at "rd"
      refine ⟨x, C, dx, _, rfl, hx5, cl, n_entry, (by refine Nat.lt_of_le_of_lt (m := 2) ?_ (by decide); exact pl2), ?_⟩
      have pl3 : (putF "entry" (.int (Txt.find z "@")) (putF "cells" (.str z) (putF "rows" (.ref t) []))).length ≤ 3 := Nat.le_trans (putF_len _ _ _) (Nat.succ_le_succ pl2)
      have o6 : Off (fun b => b = x) H5 (upd H5 x (.ins C dx (putF "entry" (.int (Txt.find z "@")) (putF "cells" (.str z) (putF "rows" (.ref t) []))))) := Off.mut rfl
      have hx6 : upd H5 x (.ins C dx (putF "entry" (.int (Txt.find z "@")) (putF "cells" (.str z) (putF "rows" (.ref t) [])))) x = some (.ins C dx (putF "entry" (.int (Txt.find z "@")) (putF "cells" (.str z) (putF "rows" (.ref t) [])))) := upd_same
      generalize upd H5 x (.ins C dx (putF "entry" (.int (Txt.find z "@")) (putF "cells" (.str z) (putF "rows" (.ref t) [])))) = H6 at o6 hx6 ⊢
      have ht6 := o6 _ _ htx ht5
      walk_at "rd"
      refine ⟨z, "12", rfl, by decide +kernel, fun H7 s7 => ?_⟩
      have hx7 := s7 _ _ hx6
      have ht7 := s7 _ _ ht6
      walk_at "rd"
      refine ⟨x, C, dx, _, rfl, hx7, cl, n_mouths, (by refine Nat.lt_of_le_of_lt (m := 3) ?_ (by decide); exact pl3), ?_⟩
      have pl4 : (putF "mouths" (.int (manyZ z "12")) (putF "entry" (.int (Txt.find z "@")) (putF "cells" (.str z) (putF "rows" (.ref t) [])))).length ≤ 4 := Nat.le_trans (putF_len _ _ _) (Nat.succ_le_succ pl3)
      have o8 : Off (fun b => b = x) H7 (upd H7 x (.ins C dx (putF "mouths" (.int (manyZ z "12")) (putF "entry" (.int (Txt.find z "@")) (putF "cells" (.str z) (putF "rows" (.ref t) [])))))) := Off.mut rfl
      have hx8 : upd H7 x (.ins C dx (putF "mouths" (.int (manyZ z "12")) (putF "entry" (.int (Txt.find z "@")) (putF "cells" (.str z) (putF "rows" (.ref t) []))))) x = some (.ins C dx (putF "mouths" (.int (manyZ z "12")) (putF "entry" (.int (Txt.find z "@")) (putF "cells" (.str z) (putF "rows" (.ref t) []))))) := upd_same
      generalize upd H7 x (.ins C dx (putF "mouths" (.int (manyZ z "12")) (putF "entry" (.int (Txt.find z "@")) (putF "cells" (.str z) (putF "rows" (.ref t) []))))) = H8 at o8 hx8 ⊢
      have ht8 := o8 _ _ htx ht7
      walk_at "rd"
      refine ⟨z, 111, rfl, by rw [hz]; omega, fun ct H9 nct s9 hct9 => ?_⟩
      have hx9 := s9 _ _ hx8
      have ht9 := s9 _ _ ht8
      have hctx : ct ≠ x := fun y => by rw [y, hx8] at nct; cases nct
      walk_at "rd"
      refine ⟨x, C, dx, _, rfl, hx9, cl, n_crates, (by refine Nat.lt_of_le_of_lt (m := 4) ?_ (by decide); exact pl4), ?_⟩
      have pl5 : (putF "crates" (.ref ct) (putF "mouths" (.int (manyZ z "12")) (putF "entry" (.int (Txt.find z "@")) (putF "cells" (.str z) (putF "rows" (.ref t) []))))).length ≤ 5 := Nat.le_trans (putF_len _ _ _) (Nat.succ_le_succ pl4)
      have o10 : Off (fun b => b = x) H9 (upd H9 x (.ins C dx (putF "crates" (.ref ct) (putF "mouths" (.int (manyZ z "12")) (putF "entry" (.int (Txt.find z "@")) (putF "cells" (.str z) (putF "rows" (.ref t) []))))))) := Off.mut rfl
      have hx10 : upd H9 x (.ins C dx (putF "crates" (.ref ct) (putF "mouths" (.int (manyZ z "12")) (putF "entry" (.int (Txt.find z "@")) (putF "cells" (.str z) (putF "rows" (.ref t) [])))))) x = some (.ins C dx (putF "crates" (.ref ct) (putF "mouths" (.int (manyZ z "12")) (putF "entry" (.int (Txt.find z "@")) (putF "cells" (.str z) (putF "rows" (.ref t) [])))))) := upd_same
      generalize upd H9 x (.ins C dx (putF "crates" (.ref ct) (putF "mouths" (.int (manyZ z "12")) (putF "entry" (.int (Txt.find z "@")) (putF "cells" (.str z) (putF "rows" (.ref t) [])))))) = H10 at o10 hx10 ⊢
      have ht10 := o10 _ _ htx ht9
      have hct10 := o10 _ _ hctx hct9
      walk_at "rd"
      refine ⟨z, 112, rfl, by rw [hz]; omega, fun pt H11 npt s11 hpt11 => ?_⟩
      have hx11 := s11 _ _ hx10
      have ht11 := s11 _ _ ht10
      have hct11 := s11 _ _ hct10
      have hptx : pt ≠ x := fun y => by rw [y, hx10] at npt; cases npt
      walk_at "rd"
      refine ⟨x, C, dx, _, rfl, hx11, cl, n_plates, (by refine Nat.lt_of_le_of_lt (m := 5) ?_ (by decide); exact pl5), ?_⟩
      have pl6 : (putF "plates" (.ref pt) (putF "crates" (.ref ct) (putF "mouths" (.int (manyZ z "12")) (putF "entry" (.int (Txt.find z "@")) (putF "cells" (.str z) (putF "rows" (.ref t) [])))))).length ≤ 6 := Nat.le_trans (putF_len _ _ _) (Nat.succ_le_succ pl5)
      have o12 : Off (fun b => b = x) H11 (upd H11 x (.ins C dx (putF "plates" (.ref pt) (putF "crates" (.ref ct) (putF "mouths" (.int (manyZ z "12")) (putF "entry" (.int (Txt.find z "@")) (putF "cells" (.str z) (putF "rows" (.ref t) [])))))))) := Off.mut rfl
      have hx12 : upd H11 x (.ins C dx (putF "plates" (.ref pt) (putF "crates" (.ref ct) (putF "mouths" (.int (manyZ z "12")) (putF "entry" (.int (Txt.find z "@")) (putF "cells" (.str z) (putF "rows" (.ref t) []))))))) x = some (.ins C dx (putF "plates" (.ref pt) (putF "crates" (.ref ct) (putF "mouths" (.int (manyZ z "12")) (putF "entry" (.int (Txt.find z "@")) (putF "cells" (.str z) (putF "rows" (.ref t) []))))))) := upd_same
      generalize upd H11 x (.ins C dx (putF "plates" (.ref pt) (putF "crates" (.ref ct) (putF "mouths" (.int (manyZ z "12")) (putF "entry" (.int (Txt.find z "@")) (putF "cells" (.str z) (putF "rows" (.ref t) []))))))) = H12 at o12 hx12 ⊢
      have ht12 := o12 _ _ htx ht11
      have hct12 := o12 _ _ hctx hct11
      have hpt12 := o12 _ _ hptx hpt11
      have ef : (putF "plates" (.ref pt) (putF "crates" (.ref ct) (putF "mouths" (.int (manyZ z "12")) (putF "entry" (.int (Txt.find z "@")) (putF "cells" (.str z) (putF "rows" (.ref t) [])))))) = ([("rows", .ref t), ("cells", .str z), ("entry", .int (Txt.find z "@")), ("mouths", .int (manyZ z "12")), ("crates", .ref ct), ("plates", .ref pt)] : List (Str × V)) := putF6 _ _ _ _ _ _
      rw [ef] at hx12
      refine fun dn hdn => ?_
      have sA : Same H12 (upd H12 dn (.dK [])) := same_new hdn
      have hdnA : upd H12 dn (.dK []) dn = some (.dK []) := upd_same
      generalize upd H12 dn (.dK []) = HA at sA hdnA ⊢
      have dnx : dn ≠ x := fun y => by rw [y, hx12] at hdn; cases hdn
      have hxA := sA _ _ hx12
      have htA := sA _ _ ht12
      walk_at "rd"
      refine ⟨x, C, dx, _, _, rfl, hxA, cl, n_rows, rfl, ?_⟩
      walk_at "rd"
      refine ⟨t, rows, wd, (-1), (0), rfl, R, htA, by decide, by decide, by decide, by decide, fun nu HB nnu sB hnu => ?_⟩
      have hxB := sB _ _ hxA
      have htB := sB _ _ htA
      walk_at "rd"
      refine ⟨x, C, dx, _, _, rfl, hxB, cl, n_rows, rfl, ?_⟩
      walk_at "rd"
      refine ⟨t, rows, wd, (1), (0), rfl, R, htB, by decide, by decide, by decide, by decide, fun nd HC nnd sC hnd => ?_⟩
      have hxC := sC _ _ hxB
      have htC := sC _ _ htB
      walk_at "rd"
      refine ⟨x, C, dx, _, _, rfl, hxC, cl, n_rows, rfl, ?_⟩
      walk_at "rd"
      refine ⟨t, rows, wd, (0), (-1), rfl, R, htC, by decide, by decide, by decide, by decide, fun nl HD nnl sD hnl => ?_⟩
      have hxD := sD _ _ hxC
      have htD := sD _ _ htC
      walk_at "rd"
      refine ⟨x, C, dx, _, _, rfl, hxD, cl, n_rows, rfl, ?_⟩
      walk_at "rd"
      refine ⟨t, rows, wd, (0), (1), rfl, R, htD, by decide, by decide, by decide, by decide, fun nr HF nnr sF hnr => ?_⟩
      have hxF := sF _ _ hxD
      have htF := sF _ _ htD
      have sAF : Same HA HF := ((sB.trans sC).trans sD).trans sF
      have hdnF := sAF _ _ hdnA
      refine ⟨hdnF, [(.inr "u", .ref nu), (.inr "d", .ref nd), (.inr "l", .ref nl), (.inr "r", .ref nr)], rfl, by simp, ?_⟩
      have em : mergeK [] ([(.inr "u", .ref nu), (.inr "d", .ref nd), (.inr "l", .ref nl), (.inr "r", .ref nr)] : List (Key × V)) = [(.inr "u", .ref nu), (.inr "d", .ref nd), (.inr "l", .ref nl), (.inr "r", .ref nr)] := merge4 _ _ _ _
      rw [em]
      have ne : ∀ {b : Addr} {o : HO}, HF b = some o → (∀ q, o ≠ .dK q) → b ≠ dn := fun e q z => by rw [z, hdnF] at e; cases e; exact q _ rfl
      have hxG : upd HF dn (.dK [(.inr "u", .ref nu), (.inr "d", .ref nd), (.inr "l", .ref nl), (.inr "r", .ref nr)]) x = some (.ins C dx ([("rows", .ref t), ("cells", .str z), ("entry", .int (Txt.find z "@")), ("mouths", .int (manyZ z "12")), ("crates", .ref ct), ("plates", .ref pt)] : List (Str × V))) := by
        rw [upd_ne (Ne.symm dnx)]; exact hxF
      walk_at "rd"
      refine ⟨x, C, dx, _, rfl, hxG, cl, n_near, by simp, ?_⟩
      rw [putF7]
      have off : Off (fun b => b = x) H H12 := ((((((((Off.same (s02.trans s3)).trans o4).trans o5).trans o6).trans (Off.same s7)).trans o8).trans (Off.same s9)).trans o10).trans ((Off.same s11).trans o12)
      have fin : ∀ b ys, HF b = some (.tup ys) → upd (upd HF dn (.dK [(.inr "u", .ref nu), (.inr "d", .ref nd), (.inr "l", .ref nl), (.inr "r", .ref nr)])) x (.ins C dx [("rows", .ref t), ("cells", .str z), ("entry", .int (Txt.find z "@")), ("mouths", .int (manyZ z "12")), ("crates", .ref ct), ("plates", .ref pt), ("near", .ref dn)]) b = some (.tup ys) := fun b ys e => by
        have h1 : b ≠ x := fun y => by rw [y, hxF] at e; cases e
        have h2 : b ≠ dn := fun y => by rw [y, hdnF] at e; cases e
        rw [upd_ne h1, upd_ne h2]
        exact e
      have s1F : Same H12 HF := sA.trans sAF
      subst ez
      refine kK _ ⟨R, hl, hw, dx, t, ct, pt, dn, upd_same, fin _ _ (s1F _ _ ht12), fin _ _ (s1F _ _ hct12), fin _ _ (s1F _ _ hpt12), ⟨nu, nd, nl, nr, by rw [upd_ne dnx, upd_same], fin _ _ (((sC.trans sD).trans sF) _ _ hnu), fin _ _ ((sD.trans sF) _ _ hnd), fin _ _ (sF _ _ hnl), fin _ _ hnr⟩⟩ fun b o e hb => ?_
      have e12 := off b o hb e
      rw [upd_ne hb, upd_ne (ne_of_none e12 hdn)]
      exact s1F _ _ e12
end
end K88
end
section
set_option Elab.async false
set_option linter.all false
set_option maxRecDepth 100000
set_option maxHeartbeats 2000000
namespace K88
open PySem L2
local macro_rules | `(tactic| walk_at "hp") => `(tactic| first | assumption | exact upd_same | (refine (upd_ne (by first | assumption | (apply Ne.symm; assumption))).trans ?_; walk_at "hp"))
local macro_rules | `(tactic| walk_at "rd1") => `(tactic| first
  | (refine ⟨_, rfl, ?_⟩)
  | (refine ⟨_, _, rfl, rfl, ?_⟩)
  | (refine ⟨(rfl : scal _ _ = true), ?_⟩)
  | (refine And.intro (by show (0 : Int) < _; decide) ?_)
  | (refine And.intro (And.intro (by decide) (by decide)) ?_)
  | (refine And.intro (by assumption) ?_)
  | (refine Or.inl ⟨_, rfl, ?_⟩))
local macro_rules | `(tactic| walk_at "rd") => `(tactic| repeat walk_at "rd1")
theorem sc__law_mark : FnScope ["pool", "marks", "crates", "keys", "mark", "other"] ["pool", "marks", "crates", "keys"] (defScope s__law_mark) := ⟨rfl, rfl, rfl, by decide +kernel, rfl, by decide +kernel, by decide +kernel⟩
theorem sc__law_room_of : FnScope ["pool", "high", "wide", "mouths", "marks", "k", "free", "sign", "at", "mark"] ["pool", "high", "wide", "mouths"] (defScope s__law_room_of) := ⟨rfl, rfl, rfl, by decide +kernel, rfl, by decide +kernel, by decide +kernel⟩
theorem sc__law_small : FnScope ["pool", "mouths", "shapes", "high", "wide"] ["pool", "mouths"] (defScope s__law_small) := ⟨rfl, rfl, rfl, by decide +kernel, rfl, by decide +kernel, by decide +kernel⟩
theorem sc__law_room_drawn : FnScope ["pool", "mouths", "shapes", "high", "wide"] ["pool", "mouths"] (defScope s__law_room_drawn) := ⟨rfl, rfl, rfl, by decide +kernel, rfl, by decide +kernel, by decide +kernel⟩
theorem sc__law_tree : FnScope ["pool", "most", "is_small", "mouths", "children", "left", "k", "share", "child"] ["pool", "most", "is_small"] (defScope s__law_tree) := ⟨rfl, rfl, rfl, by decide +kernel, rfl, by decide +kernel, by decide +kernel⟩
theorem sc__law_level_drawn : FnScope ["pool", "most"] ["pool", "most"] (defScope s__law_level_drawn) := ⟨rfl, rfl, rfl, by decide +kernel, rfl, by decide +kernel, by decide +kernel⟩
theorem sc__law_level : FnScope ["level", "child"] ["level"] (defScope s__law_level) := ⟨rfl, rfl, rfl, by decide +kernel, rfl, by decide +kernel, by decide +kernel⟩
section
variable {P : Program} {w : World} {K : PySem.W.Frag} {mg : Str → Option Value} {base : Heap} {C CB fB : Addr}
/-- a sign in the place of '.' -/
theorem count_put {cs : List Nat} {j c x : Nat} (h : cs[j]? = some 46) (hx : x ≠ 46) : (cs.set j c).count x = cs.count x + if c = x then 1 else 0 := by
  induction cs generalizing j with
  | nil => cases h
  | cons a r ih =>
    cases j with
    | zero =>
      have : a = 46 := by simpa using h
      subst this
      simp [List.count_cons, Ne.symm hx]
    | succ j =>
      have h' : r[j]? = some 46 := by simpa using h
      rw [List.set_cons_succ, List.count_cons, List.count_cons, ih h']
      omega
/-- cells with free places ms, each a '.' -/
structure Cells (n : Nat) (cs : List Nat) (ms : List Int) : Prop where
  len : cs.length = n
  free : ∀ m ∈ ms, ∃ j : Nat, m = (j : Int) ∧ cs[j]? = some 46
  nd : ms.Nodup
  inM : ∀ c ∈ cs, c ∈ marksS.cps.toList
theorem Cells.lt {n : Nat} {cs : List Nat} {ms : List Int} (h : Cells n cs ms) {j : Nat} (e : cs[j]? = some 46) : j < n := by
  have := (List.getElem?_eq_some_iff.mp e).1
  rw [h.len] at this
  exact this
/-- one place is filled, and is free no more -/
theorem Cells.put {n : Nat} {cs : List Nat} {ms ms' : List Int} {m : Int} {j c : Nat} (h : Cells n cs ms) (pm : ms.Perm (m :: ms')) (ej : m = (j : Int)) (e : cs[j]? = some 46) (hc : c ∈ marksS.cps.toList) : Cells n (cs.set j c) ms' where
  len := by rw [List.length_set]; exact h.len
  nd := ((pm.nodup_iff).mp h.nd).tail
  free := fun x hx => by
    obtain ⟨i, ei, hi⟩ := h.free x (pm.mem_iff.mpr (List.mem_cons_of_mem _ hx))
    refine ⟨i, ei, ?_⟩
    have hne : j ≠ i := fun z => by
      have hn := (pm.nodup_iff).mp h.nd
      have : m = x := by rw [ej, ei, z]
      rw [List.nodup_cons] at hn
      exact hn.1 (this ▸ hx)
    rw [List.getElem?_set_ne hne]
    exact hi
  inM := fun x hx => by
    rcases List.mem_or_eq_of_mem_set hx with z | z
    · exact h.inM x z
    · rw [z]; exact hc
theorem Cells.drop {n : Nat} {cs : List Nat} {ms ms' : List Int} {m : Int} (h : Cells n cs ms) (pm : ms.Perm (m :: ms')) : Cells n cs ms' where
  len := h.len
  nd := ((pm.nodup_iff).mp h.nd).tail
  free := fun x hx => h.free x (pm.mem_iff.mpr (List.mem_cons_of_mem _ hx))
  inM := h.inM
theorem Cells.begin (n : Nat) {ms : List Int} (pm : ms.Perm ((List.range n).map Int.ofNat)) : Cells n (List.replicate n 46) ms where
  len := List.length_replicate
  nd := (pm.nodup_iff).mpr (by rw [List.Nodup, List.pairwise_map]; exact List.Pairwise.imp (fun {a b} h z => h (Int.ofNat.inj z)) List.nodup_range)
  free := fun m hm => by
    obtain ⟨j, hj, rfl⟩ := List.mem_map.mp (pm.mem_iff.mp hm)
    exact ⟨j, rfl, by rw [List.getElem?_replicate, if_pos (List.mem_range.mp hj)]⟩
  inM := fun c hc => by rw [List.eq_of_mem_replicate hc]; decide +kernel
/-- the last of a list, and the others -/
theorem perm_last {ms : List Int} {m : Int} (h : ms[ms.length - 1]? = some m) : ms.Perm (m :: ms.dropLast) := by
  have hne : ms ≠ [] := fun z => by rw [z] at h; cases h
  have e : ms = ms.dropLast ++ [m] := by
    have := List.dropLast_concat_getLast hne
    have l : ms.getLast hne = m := by
      rw [List.getLast_eq_getElem]
      exact (List.getElem?_eq_some_iff.mp h).2
    rw [l] at this
    exact this.symm
  conv => lhs; rw [e]
  exact List.perm_append_comm
theorem rep_flat {α : Type} (n : Nat) (x : α) : (List.replicate n [x]).flatten = List.replicate n x := by
  induction n with
  | zero => rfl
  | succ n ih => rw [List.replicate_succ, List.flatten_cons, ih]; rfl
def cellV (c : Nat) : V := .str ⟨#[c]⟩
theorem join_cells (cs : List Nat) : (Txt.join "" (cs.map fun c => (⟨#[c]⟩ : Str))).cps.toList = cs := by
  rw [join_cps, List.map_map]
  induction cs with
  | nil => rfl
  | cons a r ih => rw [List.map_cons, List.flatten_cons, ih]; rfl
theorem same_str (x y : Str) : Spec.same (.str x) (.str y) = decide (x = y) := by
  unfold Spec.same
  rfl
theorem count_nat (x : Str) (c : Nat) : Txt.count x ⟨#[c]⟩ = ((x.cps.toList.count c : Nat) : Int) := by
  rw [PyProof.Rows.count_is]
  generalize x.cps.toList = l
  induction l with
  | nil => rfl
  | cons a r ih =>
    rw [List.map_cons, List.count_cons]
    unfold Spec.countIn
    rw [ih, same_str]
    by_cases h : a = c
    · subst h; simp; omega
    · have : ¬ ((⟨#[a]⟩ : Str) = ⟨#[c]⟩) := fun z => h (by injection z with z; simpa using z)
      simp [h, this]

theorem dropLast_mapV (ns : List Int) : (ns.map V.int).dropLast = ns.dropLast.map V.int := by simp
theorem set_mapC (cs : List Nat) (j c : Nat) : (cs.map cellV).set j (cellV c) = (cs.set j c).map cellV := by
  rw [List.map_set]
def kindOf (c : Nat) : Int := if c = 111 then 0 else if c ∈ [97, 98, 65, 66] then 1 else 2
theorem kind_eq (c : Nat) : ((2 : Int) - (if decide (c ∈ ("abAB" : Str).cps.toList) = true then 1 else 0)) - 2 * (if decide (V.str ⟨#[c]⟩ = V.str "o") = true then 1 else 0) = kindOf c := by
  have e1 : ("abAB" : Str).cps.toList = [97, 98, 65, 66] := by decide +kernel
  have e2 : (V.str ⟨#[c]⟩ = V.str "o") ↔ c = 111 := by
    have : ("o" : Str) = ⟨#[111]⟩ := by decide +kernel
    rw [this]; simp
  rw [e1]
  unfold kindOf
  by_cases h : c = 111
  · subst h
    rw [decide_eq_true (e2.mpr rfl)]
    simp
  · rw [decide_eq_false (fun z => h (e2.mp z)), if_neg h]
    by_cases h2 : c ∈ [97, 98, 65, 66]
    · rw [decide_eq_true h2, if_pos h2]; simp
    · rw [decide_eq_false h2, if_neg h2]; simp
theorem star_eq (c : Nat) : (!decide (cellV c = V.str "*")) = !decide (c = 42) := by
  have : V.str "*" = cellV 42 := by
    have : ("*" : Str) = ⟨#[42]⟩ := by decide +kernel
    rw [this]; rfl
  rw [this]
  congr 1
  unfold cellV
  simp
theorem flat_cells (cs : List Nat) : (cs.map cellV).all flatV = true := by
  rw [List.all_map, List.all_eq_true]
  intro c _
  rfl
theorem in_cells (cs : List Nat) : (!inV (V.str "*") (cs.map cellV)) = !decide (42 ∈ cs) := by
  have : V.str "*" = cellV 42 := by
    have : ("*" : Str) = ⟨#[42]⟩ := by decide +kernel
    rw [this]; rfl
  rw [this]
  congr 1
  unfold inV
  rw [List.any_map]
  induction cs with
  | nil => rfl
  | cons a r ih =>
    rw [List.any_cons, ih]
    show ((⟨#[a]⟩ : Str) == ⟨#[42]⟩ || decide (42 ∈ r)) = decide (42 ∈ a :: r)
    by_cases h : a = 42
    · subst h; simp
    · have : ((⟨#[a]⟩ : Str) == ⟨#[42]⟩) = false := by
        simp [h]
      rw [this]
      simp [Ne.symm h]
/-- cells[free.pop()] = c -/
theorem pop_set {B : Hp} {Fr Cc : Addr} {ms : List Int} {cs : List Nat} {n j c : Nat} {m0 : Int} {R : Hp → Prop} (hms : B Fr = some (.lst (ms.map V.int))) (hC : B Cc = some (.lst (cs.map cellV))) (hFC : Fr ≠ Cc) (K0 : Cells n cs ms) (hm : ms[ms.length - 1]? = some m0) (ej : m0 = (j : Int)) (e46 : cs[j]? = some 46)
    (k : ∀ B', B' Fr = some (.lst (ms.dropLast.map V.int)) → B' Cc = some (.lst ((cs.set j c).map cellV)) → Off (fun b => b = Fr ∨ b = Cc) B B' → R B') : rPop (.ref Fr) [] B (fun i H2 => rSetL (.ref Cc) i (cellV c) H2 R) := by
  refine ⟨Fr, _, .int m0, rfl, rfl, hms, by rw [List.length_map, List.getElem?_map, hm]; rfl, ?_⟩
  have hj : j < (cs.map cellV).length := by rw [List.length_map]; exact (List.getElem?_eq_some_iff.mp e46).1
  refine ⟨Cc, cs.map cellV, m0, j, rfl, rfl, by rw [upd_ne (Ne.symm hFC)]; exact hC, by rw [ej]; unfold ixN; rw [if_pos (by omega), if_pos (by omega)]; rfl, ?_⟩
  refine k _ (by rw [upd_ne hFC, upd_same, dropLast_mapV]) (by rw [upd_same, set_mapC]) (fun b o hb e => ?_)
  rw [upd_ne (fun z => hb (.inr z)), upd_ne (fun z => hb (.inl z))]
  exact e
/-- cells as they are strewn at last -/
structure Strewn (n : Nat) (cs : List Nat) : Prop where
  len : cs.length = n
  inM : ∀ c ∈ cs, c ∈ marksS.cps.toList
  c64 : cs.count 64 = 1
  c49 : cs.count 49 ≤ 1
  c50 : cs.count 50 ≤ cs.count 49
  c42 : cs.count 42 ≤ 1
  c111 : cs.count 111 ≤ 3
  cab : cs.count 97 + cs.count 98 + cs.count 65 + cs.count 66 ≤ 4
theorem chunks (w : Nat) : ∀ (h : Nat) (cs : List Nat), cs.length = h * w → ((List.range h).map fun k => (cs.drop (w * k)).take w).flatten = cs
  | 0, cs, e => by
    have : cs = [] := List.eq_nil_of_length_eq_zero (by simpa using e)
    rw [this]; rfl
  | h + 1, cs, e => by
    have ih := chunks w h (cs.drop w) (by rw [List.length_drop, e, Nat.succ_mul]; omega)
    rw [List.range_succ_eq_map, List.map_cons, List.flatten_cons, List.map_map]
    have e2 : ((fun k => (cs.drop (w * k)).take w) ∘ Nat.succ) = fun k => ((cs.drop w).drop (w * k)).take w := by
      funext k
      simp [List.drop_drop, Nat.mul_succ, Nat.add_comm]
    rw [e2, ih, Nat.mul_zero, List.drop_zero, List.take_append_drop]
theorem manyZ_keys (z : Str) : manyZ z "abAB" = Txt.count z "a" + Txt.count z "b" + Txt.count z "A" + Txt.count z "B" := by
  have e : ("abAB" : Str).cps.toList = [97, 98, 65, 66] := by decide +kernel
  have ea : ("a" : Str) = ⟨#[97]⟩ := by decide +kernel
  have eb : ("b" : Str) = ⟨#[98]⟩ := by decide +kernel
  have eA : ("A" : Str) = ⟨#[65]⟩ := by decide +kernel
  have eB : ("B" : Str) = ⟨#[66]⟩ := by decide +kernel
  unfold manyZ
  rw [e, ea, eb, eA, eB]
  simp
  omega
theorem cnts (z : Str) : Txt.count z "@" = (z.cps.toList.count 64 : Nat) ∧ Txt.count z "*" = (z.cps.toList.count 42 : Nat) ∧ Txt.count z "1" = (z.cps.toList.count 49 : Nat) ∧ Txt.count z "2" = (z.cps.toList.count 50 : Nat) ∧ Txt.count z "o" = (z.cps.toList.count 111 : Nat) ∧
    Txt.count z "a" = (z.cps.toList.count 97 : Nat) ∧ Txt.count z "b" = (z.cps.toList.count 98 : Nat) ∧ Txt.count z "A" = (z.cps.toList.count 65 : Nat) ∧ Txt.count z "B" = (z.cps.toList.count 66 : Nat) := by
  refine ⟨?_, ?_, ?_, ?_, ?_, ?_, ?_, ?_, ?_⟩
  · rw [← count_nat]; congr 1
  · rw [← count_nat]; congr 1
  · rw [← count_nat]; congr 1
  · rw [← count_nat]; congr 1
  · rw [← count_nat]; congr 1
  · rw [← count_nat]; congr 1
  · rw [← count_nat]; congr 1
  · rw [← count_nat]; congr 1
  · rw [← count_nat]; congr 1
/-- the same, told by numbers -/
theorem wholeZ_iff (z : Str) : wholeZ z = true ↔ (z.length ≤ 24 ∧ z.cps.toList.count 64 = 1) ∧ (z.cps.toList.count 42 ≤ 1 ∧ z.cps.toList.count 49 ≤ 1 ∧ z.cps.toList.count 50 ≤ z.cps.toList.count 49) ∧ z.cps.toList.count 111 ≤ 3 ∧
    z.cps.toList.count 97 + z.cps.toList.count 98 + z.cps.toList.count 65 + z.cps.toList.count 66 ≤ 4 := by
  obtain ⟨a1, a2, a3, a4, a5, a6, a7, a8, a9⟩ := cnts z
  unfold wholeZ
  rw [manyZ_keys, a1, a2, a3, a4, a5, a6, a7, a8, a9]
  have m50 : 50 ∈ z.cps.toList ↔ 0 < z.cps.toList.count 50 := List.count_pos_iff.symm
  have m49 : 49 ∈ z.cps.toList ↔ 0 < z.cps.toList.count 49 := List.count_pos_iff.symm
  simp only [Bool.and_eq_true, Bool.not_eq_true', Bool.or_eq_false_iff, decide_eq_true_eq, decide_eq_false_iff_not, Bool.not_eq_false', Bool.and_eq_false_iff, m50, m49]
  omega
theorem cut_at (z : Str) {a b : Nat} (h : a ≤ b) (hb : b ≤ z.length) : (cutS z (some (a : Int)) (some (b : Int))).cps.toList = (z.cps.toList.drop a).take (b - a) := by
  have e : ∀ (c d : Nat), c ≤ z.length → HT.sIx z.length d (some (c : Int)) = c := fun c d hc => by
    show (if (c : Int) < 0 then ((c : Int) + (z.length : Int)).toNat else min (c : Int).toNat z.length) = c
    rw [if_neg (by omega), Int.toNat_natCast]
    omega
  unfold cutS
  rw [e b _ hb, e a _ (by omega)]
theorem str_cps {x y : Str} (h : x.cps.toList = y.cps.toList) : x = y := by
  cases x; cases y
  simp only [Str.mk.injEq]
  exact Array.toList_inj.mp h
/-- the rows of a line of cells -/
def rowsOf (z : Str) (h w : Nat) : List Str := (List.range h).map fun k => cutS z (some ((w * k : Nat) : Int)) (some ((w * k + w : Nat) : Int))
theorem rowsOf_join {z : Str} {h w : Nat} (e : z.length = h * w) : Txt.join "" (rowsOf z h w) = z := by
  refine str_cps ?_
  rw [join_cps, rowsOf, List.map_map]
  have e2 : z.cps.toList.length = h * w := by rw [Array.length_toList]; exact e
  rw [← chunks w h z.cps.toList e2]
  congr 1
  refine List.map_congr_left fun k hk => ?_
  have hk' := List.mem_range.mp hk
  have : w * k + w ≤ z.length := by
    rw [e, ← Nat.mul_succ, Nat.mul_comm]
    exact Nat.mul_le_mul_right _ hk'
  show (cutS z _ _).cps.toList = _
  rw [cut_at z (by omega) this, Nat.add_sub_cancel_left]
theorem rowsOf_mem {z : Str} {h w : Nat} (e : z.length = h * w) {r : Str} (hr : r ∈ rowsOf z h w) : r.length = w ∧ ∀ c ∈ r.cps.toList, c ∈ z.cps.toList := by
  obtain ⟨k, hk, rfl⟩ := List.mem_map.mp hr
  have hk' := List.mem_range.mp hk
  have : w * k + w ≤ z.length := by
    rw [e, ← Nat.mul_succ, Nat.mul_comm]
    exact Nat.mul_le_mul_right _ hk'
  have ec := cut_at z (show w * k ≤ w * k + w by omega) this
  rw [Nat.add_sub_cancel_left] at ec
  refine ⟨?_, fun c hc => ?_⟩
  · have : (cutS z (some ((w * k : Nat) : Int)) (some ((w * k + w : Nat) : Int))).cps.toList.length = w := by
      rw [ec, List.length_take, List.length_drop, Array.length_toList]
      have : z.cps.size = z.length := rfl
      omega
    rw [Array.length_toList] at this
    exact this
  · rw [ec] at hc
    exact List.mem_of_mem_drop (List.mem_of_mem_take hc)
theorem lineS_of {r : Str} (h1 : 1 ≤ r.length) (h6 : r.length ≤ 6) (h : ∀ c ∈ r.cps.toList, c ∈ marksS.cps.toList) : lineS r = true := by
  have a1 : decide (1 ≤ r.length) = true := by simpa using h1
  have a2 : decide (r.length ≤ 6) = true := by simpa using h6
  have a3 : (r.cps.toList.all fun c => decide (c ∈ marksS.cps.toList)) = true := by
    rw [List.all_eq_true]
    exact fun c hc => by simpa using h c hc
  unfold lineS
  rw [a1, a2, a3]; rfl
theorem Strewn.whole {n : Nat} {z : Str} (h : Strewn n z.cps.toList) (hn : n ≤ 24) : wholeZ z = true := by
  rw [wholeZ_iff]
  have : z.length = n := by rw [← h.len, Array.length_toList]; rfl
  exact ⟨⟨by omega, h.c64⟩, ⟨h.c42, h.c49, h.c50⟩, h.c111, h.cab⟩
end
end K88
end
section
set_option Elab.async false
set_option linter.all false
set_option maxRecDepth 100000
set_option maxHeartbeats 2000000
namespace K88
open PySem L2
local macro_rules | `(tactic| walk_at "hp") => `(tactic| first | assumption | exact upd_same | (refine (upd_ne (by first | assumption | (apply Ne.symm; assumption))).trans ?_; walk_at "hp"))
local macro_rules | `(tactic| walk_at "rd1") => `(tactic| first
  | (refine ⟨_, rfl, ?_⟩)
  | (refine ⟨_, _, rfl, rfl, ?_⟩)
  | (refine ⟨(rfl : scal _ _ = true), ?_⟩)
  | (refine And.intro (by show (0 : Int) < _; decide) ?_)
  | (refine And.intro (And.intro (by decide) (by decide)) ?_)
  | (refine And.intro (Or.inr (And.intro (by decide) (by decide))) ?_)
  | (refine And.intro (And.intro (by decide) (And.intro (by decide) (by decide))) ?_)
  | (refine And.intro (by assumption) ?_)
  | (refine And.intro (And.intro (by omega) (by omega)) ?_)
  | (refine And.intro (Or.inl (And.intro (by omega) (by omega))) ?_)
  | (refine' ⟨_, _, _, _, rfl, rfl, Or.inl (Or.inl ?h1), ?h2, ?h3⟩; (case h1 => walk_at "hp"); (case h2 => rfl))
  | (refine' ⟨_, _, _, _, rfl, rfl, ?h1, ?h2, ?h3⟩; (case h1 => walk_at "hp"); (case h2 => rfl))
  | (refine' ⟨_, _, rfl, Or.inl (Or.inl (Or.inl ?h1)), ?h3⟩; (case h1 => walk_at "hp"))
  | (refine Or.inl ⟨_, rfl, ?_⟩))
local macro_rules | `(tactic| walk_at "rd") => `(tactic| repeat walk_at "rd1")

/-! ### marks -/
def alph : List Nat := [46, 35, 42, 97, 65, 98, 66, 111, 120, 112, 103, 94, 118, 60, 62]
def keyC (cs : List Nat) : Nat := cs.count 97 + cs.count 98 + cs.count 65 + cs.count 66
theorem count_set' {c x : Nat} : ∀ {cs : List Nat} {j : Nat} (hj : j < cs.length), (cs.set j c).count x + (if cs[j] = x then 1 else 0) = cs.count x + (if c = x then 1 else 0)
  | y :: r, 0, _ => by
    simp only [List.set_cons_zero, List.count_cons, List.getElem_cons_zero, beq_iff_eq]
    omega
  | y :: r, j + 1, h => by
    have ih := count_set' (c := c) (x := x) (cs := r) (j := j) (by simpa using h)
    simp only [List.set_cons_succ, List.count_cons, List.getElem_cons_succ, beq_iff_eq]
    omega
theorem sgn {m c : Nat} {z : Str} (hz : z = ⟨#[c]⟩) : (decide (V.str ⟨#[m]⟩ = V.str z) = true) ↔ m = c := by
  subst hz
  constructor
  · intro h
    have h := of_decide_eq_true h
    simpa using h
  · rintro rfl
    simp
structure Mk (cr ke : Nat) (cs : List Nat) : Prop where
  al : ∀ c ∈ cs, c ∈ alph
  c42 : cs.count 42 ≤ 1
  c111 : cs.count 111 ≤ cr
  key : keyC cs ≤ ke
/-- a mark that may follow -/
def NextOk (cr ke : Nat) (cs : List Nat) (c : Nat) : Prop := c ∈ alph ∧ (c = 42 → 42 ∉ cs) ∧ (c = 111 → cs.count 111 < cr) ∧ (c ∈ [97, 98, 65, 66] → keyC cs < ke)
theorem Mk.snoc {cr ke : Nat} {cs : List Nat} {c : Nat} (h : Mk cr ke cs) (n : NextOk cr ke cs c) : Mk cr ke (cs ++ [c]) where
  al := fun x hx => by
    rcases List.mem_append.mp hx with z | z
    · exact h.al x z
    · rw [List.mem_singleton.mp z]; exact n.1
  c42 := by
    rw [List.count_append]
    have := h.c42
    by_cases e : c = 42
    · have := List.count_eq_zero.mpr (n.2.1 e)
      simp [e]; omega
    · simp [e]; omega
  c111 := by
    rw [List.count_append]
    have := h.c111
    by_cases e : c = 111
    · have := n.2.2.1 e
      simp [e]; omega
    · simp [e]; omega
  key := by
    have hk := h.key
    unfold keyC at hk ⊢
    have hn := n.2.2.2
    unfold keyC at hn
    simp only [List.count_append, List.count_singleton, beq_iff_eq]
    by_cases e : c ∈ [97, 98, 65, 66]
    · have := hn e
      simp only [List.mem_cons, List.not_mem_nil, or_false] at e
      rcases e with rfl | rfl | rfl | rfl <;> simp <;> omega
    · simp only [List.mem_cons, List.not_mem_nil, or_false, not_or] at e
      simp [e]; omega
theorem eqV_cell (c m : Nat) {z : Str} (hz : z = ⟨#[m]⟩) : eqV (cellV c) (.str z) = decide (c = m) := by
  subst hz
  show eqV (.str ⟨#[c]⟩) (.str ⟨#[m]⟩) = _
  have : eqV (.str (⟨#[c]⟩ : Str)) (.str ⟨#[m]⟩) = Spec.same (.str (⟨#[c]⟩ : Str)) (.str ⟨#[m]⟩) := rfl
  rw [this, same_str]
  exact decide_eq_decide.mpr ⟨fun h => by simpa using h, fun h => by rw [h]⟩
theorem countP_cells (cs : List Nat) (m : Nat) {z : Str} (hz : z = ⟨#[m]⟩) : ((cs.map cellV).countP fun v => eqV v (.str z)) = cs.count m := by
  induction cs with
  | nil => rfl
  | cons c r ih =>
    rw [List.map_cons, List.countP_cons, ih, List.count_cons, eqV_cell c m hz]
    simp
theorem inV_cells (cs : List Nat) (m : Nat) {z : Str} (hz : z = ⟨#[m]⟩) : inV (.str z) (cs.map cellV) = decide (m ∈ cs) := by
  unfold inV
  induction cs with
  | nil => rfl
  | cons c r ih =>
    rw [List.map_cons, List.any_cons, ih, eqV_cell c m hz]
    by_cases e : c = m
    · simp [e]
    · have : ¬ m = c := fun z => e z.symm
      simp [e, this]
def isK (c : Nat) : Bool := decide (c ∈ ("abAB" : Str).cps.toList)
theorem isK_eq (c : Nat) : isK c = decide (c ∈ [97, 98, 65, 66]) := by
  have : ("abAB" : Str).cps.toList = [97, 98, 65, 66] := by decide +kernel
  unfold isK
  rw [this]
theorem keys_len (cs : List Nat) : (cs.filter isK).length = keyC cs := by
  unfold keyC
  induction cs with
  | nil => rfl
  | cons c r ih =>
    simp only [List.filter_cons, List.count_cons, beq_iff_eq]
    rw [isK_eq]
    by_cases e : c ∈ [97, 98, 65, 66]
    · rw [if_pos (by simpa using e), List.length_cons, ih]
      simp only [List.mem_cons, List.not_mem_nil, or_false] at e
      rcases e with rfl | rfl | rfl | rfl <;> simp <;> omega
    · rw [if_neg (by simpa using e), ih]
      simp only [List.mem_cons, List.not_mem_nil, or_false, not_or] at e
      simp [e]
theorem take_flt {α : Type} (f : α → Bool) {ps : List α} {i : Nat} (hi : i < ps.length) : (ps.take (i + 1)).filter f = if f ps[i] = true then (ps.take i).filter f ++ [ps[i]] else (ps.take i).filter f := by
  rw [List.take_add_one, List.getElem?_eq_getElem hi, List.filter_append]
  by_cases h : f ps[i] = true <;> simp [h]
theorem sz {n : Nat} (h : n ≤ 1000) : n < sizeLine := by rw [sizeLine_eq]; omega
section
variable {P : Program} {w : World} {K : PySem.W.Frag} {mg : Str → Option Value} {base : Heap}
/-- a thing of a list or a sign of a text is picked -/
def spPk (K : PySem.W.Frag) : Sp := fun vs H Q _ => ∃ (p : Addr) (v : V), vs = [.ref p, v] ∧ PoolAt H p ∧
  ((∃ a xs, v = .ref a ∧ H a = some (.lst xs) ∧ a ≠ p ∧ 0 < xs.length ∧ xs.length < 1000000 ∧ ∀ x H', x ∈ xs → Off (fun b => b = p) H H' → PoolK H H' p → Q x H') ∨
   (∃ z : Str, v = .str z ∧ 0 < z.length ∧ z.length < 1000000 ∧ ∀ c H', c ∈ z.cps.toList → Off (fun b => b = p) H H' → PoolK H H' p → Q (.str ⟨#[c]⟩) H'))
theorem ok_pk {f : Addr} {fd : FuncData} (F : Fun K "_law_pick" "_law_pick" s__law_pick f fd) (T : Blt mg) (c__law_draw : CalG P w K mg base 1 "_law_draw" (spDraw K)) : FnG P w K mg base (CXe P w) 2 f fd ["pool", "items"] (spPk K) := by
  refine F.okG sc__law_pick (fun vs H Q E h => ?_) (fun cdv A outer s H vs Q E hgd hr h => ?_)
  · obtain ⟨p, v, rfl, _⟩ := h; rfl
  · obtain ⟨p, v, rfl, hp, h⟩ := h
    refine ⟨_, (pss_one (ps_ret (pe_ix ix_seq (pv 1) (pg_c c__law_draw hgd hr (by first | decide | omega) (pa_cons (pv 0) (pa_cons (pe_callB (call_or call_len_seq call_len_str) (by rfl) T.n_len (by decide +kernel) (pa_cons (pv 1) pa_nil)) pa_nil))) (fun _ _ => rfl)))), ?_⟩
    rcases h with ⟨a, xs, rfl, ha, hap, h0, h1, k⟩ | ⟨z, rfl, h0, h1, k⟩
    · refine ⟨_, rfl, _, rfl, _, rfl, .inl ⟨a, xs, rfl, .inl (SqL.of ha), p, xs.length, rfl, hp, by omega, by omega, fun r H' r0 r1 off hp' => ?_⟩⟩
      obtain ⟨j, rfl⟩ := Int.eq_ofNat_of_zero_le r0
      have hj : j < xs.length := by omega
      exact .inl ⟨a, xs, j, xs[j], rfl, rfl, SqL.of (off _ _ hap ha), atI_nat (List.getElem?_eq_getElem hj), k _ _ (List.getElem_mem hj) off hp'⟩
    · have hzl : z.length ≤ sizeLine := by rw [sizeLine_eq]; omega
      refine ⟨_, rfl, _, rfl, _, rfl, .inr ⟨z, rfl, hzl, p, z.length, rfl, hp, by omega, by omega, fun r H' r0 r1 off hp' => ?_⟩⟩
      obtain ⟨j, rfl⟩ := Int.eq_ofNat_of_zero_le r0
      have hj : j < z.cps.toList.length := by rw [Array.length_toList]; have : z.length = z.cps.size := rfl; omega
      exact .inr (.inr ⟨z, j, z.cps.toList[j], rfl, rfl, hzl, atI_nat (List.getElem?_eq_getElem hj), k _ _ (List.getElem_mem hj) off hp'⟩)
def spMark (K : PySem.W.Frag) : Sp := fun vs H Q _ => ∃ (p M : Addr) (cs : List Nat) (cr ke : Nat), vs = [.ref p, .ref M, .int cr, .int ke] ∧ PoolAt H p ∧ M ≠ p ∧ H M = some (.lst (cs.map cellV)) ∧ cs.length ≤ 24 ∧
  ∀ c H', NextOk cr ke cs c → Off (fun b => b = p) H H' → PoolK H H' p → Q (cellV c) H'
theorem ok_mark {f : Addr} {fd : FuncData} (F : Fun K "_law_mark" "_law_mark" s__law_mark f fd) (T : Rb mg) (c__law_pick : CalG P w K mg base 2 "_law_pick" (spPk K)) : FnG P w K mg base (CXe P w) 3 f fd ["pool", "marks", "crates", "keys"] (spMark K) := by
  refine F.okG sc__law_mark (fun vs H Q E h => ?_) (fun cdv A outer s H vs Q E hgd hr h => ?_)
  · obtain ⟨p, M, cs, cr, ke, rfl, _⟩ := h; rfl
  · obtain ⟨p, M, cs, cr, ke, rfl, hp, hMp, hM, hl, k⟩ := h
    refine ⟨_, (pss_cons (ps_set (i := 4) sc__law_mark.nd rfl (Or.inl rfl) (pg_c c__law_pick hgd hr (by first | decide | omega) (pa_cons (pv 0) (pa_cons pe_str pa_nil))))
      (C8.pss_cut (ps_if (PW.pt (pw_and (pt_cmpR op_eq (pv 4) pe_str (nomark _)) (pw_and1 (pt_cmpR op_in_seq pe_str (pv 1) (by rfl))))) (pss_one (ps_ret pe_str)) pss_nil)
      (C8.pss_cut (ps_if (PW.pt (pw_and (pt_cmpR op_eq (pv 4) pe_str (nomark _)) (pw_and1 (pt_cmpR op_ge (pe_bm PySem.F.plainAttrs_list PySem.F.slot_list_count PySem.F.type_list_count mt_lcountF (pv 1) (pa_cons pe_str pa_nil)) (pv 2) (nomark _))))) (pss_one (ps_ret pe_str)) pss_nil)
      (pss_cons (ps_if (PW.pt (pw_and (pt_cmpR op_in_sign (pv 4) pe_str (by rfl)) (pw_and1 (pt_cmpR op_ge (pe_callB call_len_seq (by rfl) T.n_len (by decide +kernel) (pa_cons (pe_lc (own := [("other", 5)]) (g := gName 5) rfl sc__law_mark.nd (pi_list (pv 1)) (blkOk_by (own := [("other", 5)]) (N := ["pool", "marks", "crates", "keys", "mark", "other"]) (sc := defScope s__law_mark) (by decide +kernel)) (fun _ _ _ _ _ => pg_name (i := 5) sc__law_mark.nd rfl (Or.inl rfl)) (fun _ _ _ _ _ => pts_one (pt_cmpR op_in_sign (pv 5) pe_str (by rfl))) (fun _ _ _ _ _ => (pv 5))) pa_nil)) (pv 3) (nomark _))))) (pss_one (ps_ret pe_str)) pss_nil)
      (pss_one (ps_ret (pv 4))))))), ?_⟩
    have ez : ("........##***aaAAbBooxxppgg^v<>" : Str).cps.toList = [46, 46, 46, 46, 46, 46, 46, 46, 35, 35, 42, 42, 42, 97, 97, 65, 65, 98, 66, 111, 111, 120, 120, 112, 112, 103, 103, 94, 118, 60, 62] := by decide +kernel
    refine ⟨_, rfl, p, .str "........##***aaAAbBooxxppgg^v<>", rfl, hp, .inr ⟨_, rfl, by decide +kernel, by decide +kernel, fun c H1 hc o1 hp1 => ?_⟩⟩
    have hca : c ∈ alph := by
      rw [ez] at hc
      revert hc
      unfold alph
      simp only [List.mem_cons, List.not_mem_nil, or_false]
      omega
    have hM1 := o1 _ _ hMp hM
    have dot : ∀ H', Off (fun b => b = p) H H' → PoolK H H' p → Q (.str ".") H' := fun H' o hp' => by
      have e : (V.str ".") = cellV 46 := by have : ("." : Str) = ⟨#[46]⟩ := by decide +kernel
                                            rw [this]; rfl
      rw [e]
      exact k 46 H' ⟨by decide, (fun z => by cases z), (fun z => by cases z), (fun z => absurd z (by decide))⟩ o hp'
    have fl : (cs.map cellV).all flatV = true := flat_cells cs
    have s42 : ("*" : Str) = ⟨#[42]⟩ := by decide +kernel
    have s111 : ("o" : Str) = ⟨#[111]⟩ := by decide +kernel
    refine ⟨fun σ' H' => σ' = [some (.ref p), some (.ref M), some (.int cr), some (.int ke), some (.str ⟨#[c]⟩), none] ∧ H' = H1 ∧ (c = 42 → 42 ∉ cs), ?_, ?_⟩
    · refine ⟨_, rfl, (rfl : scal _ _ = true), _, rfl, ?_⟩
      by_cases e : c = 42
      case neg => exact iteF' (fun z => e ((sgn s42).mp z)) (iteF ⟨rfl, rfl, fun z => absurd z e⟩)
      refine iteT' ((sgn s42).mpr e) ?_
      refine ⟨_, rfl, M, _, rfl, .inl (SqL.of hM1), rfl, fl, _, rfl, ?_⟩
      have ev := inV_cells cs 42 s42
      by_cases hm : 42 ∈ cs
      · exact iteT' (ev.trans (decide_eq_true hm)) (dot _ o1 hp1)
      · exact iteF' (fun z => by have := ev.symm.trans z; simp [hm] at this) ⟨rfl, rfl, fun _ => hm⟩
    rintro σ' H2 ⟨rfl, rfl, n42⟩
    refine ⟨fun σ' H' => σ' = [some (.ref p), some (.ref M), some (.int cr), some (.int ke), some (.str ⟨#[c]⟩), none] ∧ H' = H2 ∧ (c = 111 → cs.count 111 < cr), ?_, ?_⟩
    · refine ⟨_, rfl, (rfl : scal _ _ = true), _, rfl, ?_⟩
      by_cases e : c = 111
      case neg => exact iteF' (fun z => e ((sgn s111).mp z)) (iteF ⟨rfl, rfl, fun z => absurd z e⟩)
      refine iteT' ((sgn s111).mpr e) ?_
      refine ⟨_, rfl, .inl ⟨rfl, _, SqL.of hM1⟩, M, _, _, rfl, rfl, SqL.of hM1, rfl, fl, _, rfl, _, _, rfl, rfl, _, rfl, ?_⟩
      rw [countP_cells cs 111 s111]
      by_cases hm : cs.count 111 < cr
      · exact iteF' (by simp; omega) ⟨rfl, rfl, fun _ => hm⟩
      · exact iteT' (decide_eq_true (by omega)) (dot _ o1 hp1)
    rintro σ' H3 ⟨rfl, rfl, n111⟩
    have last : (c ∈ [97, 98, 65, 66] → keyC cs < ke) → ∀ H', Off (fun b => b = p) H H' → PoolK H H' p → Q (.str ⟨#[c]⟩) H' := fun q H' o hp' => k c H' ⟨hca, n42, n111, q⟩ o hp'
    refine ⟨_, rfl, c, "abAB", rfl, rfl, _, rfl, ?_⟩
    have ek := isK_eq c
    unfold isK at ek
    by_cases e : c ∈ [97, 98, 65, 66]
    case neg => exact iteF' (fun z => by have := ek.symm.trans z; simp only [decide_eq_true_eq] at this; exact e this) (iteF ⟨_, rfl, last (fun z => absurd z e) _ o1 hp1⟩)
    refine iteT' (ek.trans (decide_eq_true e)) ?_
    refine ⟨_, rfl, M, rfl, ⟨_, SqL.of hM1⟩, fun D hD => lc_it (walk_list (xs := cs.map cellV)) (fun i H' => H' D = some (.lst (((cs.take i).filter isK).map cellV)) ∧ Off (fun b => b = D) H3 H') ⟨upd_same, Off.new hD⟩ (fun i H' _ z => SqL.of (z.2 _ _ (ne_of_none hM1 hD) hM1)) ?_ ?_⟩
    · rintro i y Ha Hb hi ⟨hacc, off⟩ ⟨rfl, hy⟩
      rw [List.length_map] at hi
      rw [List.getElem?_map, List.getElem?_eq_getElem hi] at hy
      cases Option.some.inj hy
      rw [take_flt _ hi]
      refine And.intro rfl ?_
      refine ⟨_, rfl, cs[i], "abAB", rfl, rfl, _, rfl, ?_⟩
      by_cases hk : isK cs[i] = true
      · rw [if_pos hk]
        refine iteT' hk ⟨_, rfl, _, hacc, sz ?_, ?_, off.trans (Off.mut rfl)⟩
        · rw [List.length_map]
          exact Nat.le_trans (List.length_filter_le ..) (Nat.le_trans (List.length_take_le' ..) (by omega))
        · rw [upd_same, List.map_append]; rfl
      · rw [if_neg hk]
        exact iteF' hk ⟨hacc, off⟩
    rintro H4 ⟨hacc, off⟩
    rw [List.length_map, List.take_length] at hacc
    have s4 : Same H3 H4 := fun b o e => off b o (ne_of_none e hD) e
    refine ⟨D, _, rfl, .inl (SqL.of hacc), _, rfl, _, _, rfl, rfl, _, rfl, ?_⟩
    rw [List.length_map, keys_len]
    have o4 := o1.trans (Off.same s4)
    have hp4 : PoolK H H4 p := hp1.same s4
    by_cases hm : keyC cs < ke
    · exact iteF' (by simp; omega) ⟨_, rfl, last (fun _ => hm) _ o4 hp4⟩
    · exact iteT' (decide_eq_true (by omega)) (dot _ o4 hp4)
end
end K88
end
section
set_option Elab.async false
set_option linter.all false
set_option maxRecDepth 100000
set_option maxHeartbeats 2000000
namespace K88
open PySem L2
local macro_rules | `(tactic| walk_at "hp") => `(tactic| first | assumption | exact upd_same | (refine (upd_ne (by first | assumption | (apply Ne.symm; assumption))).trans ?_; walk_at "hp"))
local macro_rules | `(tactic| walk_at "rd1") => `(tactic| first
  | (refine ⟨_, rfl, ?_⟩)
  | (refine ⟨_, _, rfl, rfl, ?_⟩)
  | (refine ⟨(rfl : scal _ _ = true), ?_⟩)
  | (refine And.intro (by show (0 : Int) < _; decide) ?_)
  | (refine And.intro (And.intro (by decide) (by decide)) ?_)
  | (refine And.intro (Or.inr (And.intro (by decide) (by decide))) ?_)
  | (refine And.intro (And.intro (by decide) (And.intro (by decide) (by decide))) ?_)
  | (refine And.intro (by assumption) ?_)
  | (refine And.intro (And.intro (by omega) (by omega)) ?_)
  | (refine And.intro (Or.inl (And.intro (by omega) (by omega))) ?_)
  | (refine' ⟨_, _, _, _, rfl, rfl, Or.inl (Or.inl ?h1), ?h2, ?h3⟩; (case h1 => walk_at "hp"); (case h2 => rfl))
  | (refine' ⟨_, _, _, _, rfl, rfl, ?h1, ?h2, ?h3⟩; (case h1 => walk_at "hp"); (case h2 => rfl))
  | (refine' ⟨_, _, rfl, Or.inl (Or.inl (Or.inl ?h1)), ?h3⟩; (case h1 => walk_at "hp"))
  | (refine Or.inl ⟨_, rfl, ?_⟩))
local macro_rules | `(tactic| walk_at "rd") => `(tactic| repeat walk_at "rd1")

theorem eraseIdx_mapV (ns : List Int) (k : Nat) : (ns.map V.int).eraseIdx k = (ns.eraseIdx k).map V.int := by
  induction ns generalizing k with
  | nil => rfl
  | cons x r ih => cases k with
    | zero => rfl
    | succ k => simp [List.eraseIdx, ih]
theorem getElem_eraseIdx : ∀ {ns : List Int} {k : Nat} (h : k < ns.length), (ns[k] :: ns.eraseIdx k).Perm ns
  | x :: r, 0, _ => .refl _
  | x :: r, k + 1, h => by
    show (r[k]'(by simpa using h) :: x :: r.eraseIdx k).Perm (x :: r)
    exact (List.Perm.swap x _ _).trans (List.Perm.cons x (getElem_eraseIdx (by simpa using h)))
def marksL : List Nat := [35, 46, 94, 118, 60, 62, 97, 98, 65, 66, 111, 120, 112, 103, 42, 64, 49, 50]
theorem marksL_is : marksS.cps.toList = marksL := by decide +kernel
theorem alph_marks : ∀ c ∈ alph, c ∈ marksL := by decide
/-- cells under way: i signs are placed, fr are the places that are free -/
structure Laid (n i : Nat) (cs : List Nat) (fr : List Int) : Prop where
  len : cs.length = n
  al : ∀ c ∈ cs, c ∈ marksL
  free : ∀ x ∈ fr, ∃ j : Nat, x = (j : Int) ∧ ∃ h : j < cs.length, cs[j] ∈ alph
  nd : fr.Nodup
  fl : fr.length + i = n
  c64 : cs.count 64 = if 1 ≤ i then 1 else 0
  c49 : cs.count 49 = if 2 ≤ i then 1 else 0
  c50 : cs.count 50 = if 3 ≤ i then 1 else 0
  c42 : cs.count 42 ≤ 1
  c111 : cs.count 111 ≤ 2
  key : keyC cs ≤ 3
theorem mem_set' {cs : List Nat} {j c x : Nat} (h : x ∈ cs.set j c) : x ∈ cs ∨ x = c := List.mem_or_eq_of_mem_set h
theorem set_key {cs : List Nat} {j c : Nat} (hj : j < cs.length) (hc : c ∉ [97, 98, 65, 66]) : keyC (cs.set j c) ≤ keyC cs := by
  simp only [List.mem_cons, List.not_mem_nil, or_false, not_or] at hc
  obtain ⟨n1, n2, n3, n4⟩ := hc
  have e1 := count_set' (c := c) (x := 97) hj
  have e2 := count_set' (c := c) (x := 98) hj
  have e3 := count_set' (c := c) (x := 65) hj
  have e4 := count_set' (c := c) (x := 66) hj
  rw [if_neg n1] at e1
  rw [if_neg n2] at e2
  rw [if_neg n3] at e3
  rw [if_neg n4] at e4
  unfold keyC
  omega
theorem set_le {cs : List Nat} {j c x : Nat} (hj : j < cs.length) (hc : c ≠ x) : (cs.set j c).count x ≤ cs.count x := by
  have e := count_set' (c := c) (x := x) hj
  rw [if_neg hc] at e
  omega
theorem set_eq' {cs : List Nat} {j c x : Nat} (hj : j < cs.length) (ha : cs[j] ∈ alph) (hx : x ∉ alph) : (cs.set j c).count x = cs.count x + (if c = x then 1 else 0) := by
  have e := count_set' (c := c) (x := x) hj
  have hn : ¬ cs[j] = x := fun z => hx (by rw [← z]; exact ha)
  rw [if_neg hn] at e
  omega
def signI : Nat → Nat
  | 0 => 64
  | 1 => 49
  | _ => 50
theorem Laid.put {n i r : Nat} {cs : List Nat} {fr : List Int} {j : Nat} (h : Laid n i cs fr) (hi : i < 3) (hr : r < fr.length) (ej : fr[r] = (j : Int)) (hj : j < cs.length) (ha : cs[j] ∈ alph) : Laid n (i + 1) (cs.set j (signI i)) (fr.eraseIdx r) := by
  have hs : signI i = 64 ∨ signI i = 49 ∨ signI i = 50 := by
    match i, hi with
    | 0, _ => exact .inl rfl
    | 1, _ => exact .inr (.inl rfl)
    | 2, _ => exact .inr (.inr rfl)
  have n64 : (64 : Nat) ∉ alph := by decide
  have n49 : (49 : Nat) ∉ alph := by decide
  have n50 : (50 : Nat) ∉ alph := by decide
  have e64 := set_eq' (c := signI i) hj ha n64
  have e49 := set_eq' (c := signI i) hj ha n49
  have e50 := set_eq' (c := signI i) hj ha n50
  have c64 := h.c64
  have c49 := h.c49
  have c50 := h.c50
  refine ⟨by rw [List.length_set]; exact h.len, fun c hc => ?_, fun x hx => ?_, h.nd.sublist (List.eraseIdx_sublist ..), ?_, ?_, ?_, ?_, ?_, ?_, ?_⟩
  · rcases mem_set' hc with z | z
    · exact h.al c z
    · rw [z]; rcases hs with e | e | e <;> rw [e] <;> decide
  · obtain ⟨j', e1, h1, h2⟩ := h.free x (List.mem_of_mem_eraseIdx hx)
    have hne : j ≠ j' := fun z => by
      subst z
      have hm : fr[r] ∈ fr.eraseIdx r := by rw [ej, ← e1]; exact hx
      have pm : (fr[r] :: fr.eraseIdx r).Perm fr := getElem_eraseIdx hr
      exact (List.nodup_cons.mp (pm.nodup_iff.mpr h.nd)).1 hm
    refine ⟨j', e1, by rw [List.length_set]; exact h1, ?_⟩
    rw [List.getElem_set_ne hne]
    exact h2
  · have := h.fl
    rw [List.length_eraseIdx_of_lt hr]
    omega
  · match i, hi with
    | 0, _ => rw [e64, c64]; rfl
    | 1, _ => rw [e64, c64]; rfl
    | 2, _ => rw [e64, c64]; rfl
  · match i, hi with
    | 0, _ => rw [e49, c49]; rfl
    | 1, _ => rw [e49, c49]; rfl
    | 2, _ => rw [e49, c49]; rfl
  · match i, hi with
    | 0, _ => rw [e50, c50]; rfl
    | 1, _ => rw [e50, c50]; rfl
    | 2, _ => rw [e50, c50]; rfl
  · exact Nat.le_trans (set_le hj (by rcases hs with e | e | e <;> rw [e] <;> decide)) h.c42
  · exact Nat.le_trans (set_le hj (by rcases hs with e | e | e <;> rw [e] <;> decide)) h.c111
  · exact Nat.le_trans (set_key hj (by rcases hs with e | e | e <;> rw [e] <;> decide)) h.key
/-- the walls and the one-way floor made floor -/
def flatM (m : Nat) : Nat := if m ∈ [35, 94, 118, 60, 62] then 46 else m
theorem count_map_iff {f : Nat → Nat} {c d : Nat} (h : ∀ x, f x = c ↔ x = d) (L : List Nat) : (L.map f).count c = L.count d := by
  induction L with
  | nil => rfl
  | cons x r ih =>
    rw [List.map_cons, List.count_cons, List.count_cons, ih]
    congr 1
    by_cases e : x = d
    · rw [if_pos (by simpa using (h x).mpr e), if_pos (by simpa using e)]
    · rw [if_neg (by simpa using fun z => e ((h x).mp z)), if_neg (by simpa using e)]
theorem flatM_iff {k : Nat} (h : k ∉ [35, 94, 118, 60, 62, 46]) (x : Nat) : flatM x = k ↔ x = k := by
  simp only [List.mem_cons, List.not_mem_nil, or_false, not_or] at h
  unfold flatM
  simp only [List.mem_cons, List.not_mem_nil, or_false]
  split
  · constructor <;> intro z <;> omega
  · rfl
theorem flatM_in {m : Nat} {L : List Nat} (h46 : 46 ∈ L) (h : m ∈ L) : flatM m ∈ L := by
  unfold flatM
  split
  · exact h46
  · exact h
theorem Laid.flat {n i : Nat} {cs : List Nat} {fr : List Int} (h : Laid n i cs fr) : Laid n i (cs.map flatM) fr where
  len := by rw [List.length_map]; exact h.len
  al := fun c hc => by
    obtain ⟨d, hd, rfl⟩ := List.mem_map.mp hc
    exact flatM_in (by decide) (h.al d hd)
  free := fun x hx => by
    obtain ⟨j, e, h1, h2⟩ := h.free x hx
    exact ⟨j, e, by rw [List.length_map]; exact h1, by rw [List.getElem_map]; exact flatM_in (by decide) h2⟩
  nd := h.nd
  fl := h.fl
  c64 := by rw [count_map_iff (flatM_iff (by decide))]; exact h.c64
  c49 := by rw [count_map_iff (flatM_iff (by decide))]; exact h.c49
  c50 := by rw [count_map_iff (flatM_iff (by decide))]; exact h.c50
  c42 := by rw [count_map_iff (flatM_iff (by decide))]; exact h.c42
  c111 := by rw [count_map_iff (flatM_iff (by decide))]; exact h.c111
  key := by
    unfold keyC
    rw [count_map_iff (flatM_iff (by decide)), count_map_iff (flatM_iff (by decide)), count_map_iff (flatM_iff (by decide)), count_map_iff (flatM_iff (by decide))]
    exact h.key
/-- a free place, or one of floor, gets another mark that is no key and no star -/
theorem Laid.mark {n i j c : Nat} {cs : List Nat} {fr : List Int} (h : Laid n i cs fr) (hj : j < cs.length) (ha : cs[j] ∈ alph) (hc : c ∈ [111, 120, 112, 103]) (h1 : c = 111 → cs.count 111 = 0) : Laid n i (cs.set j c) fr := by
  have n64 : (64 : Nat) ∉ alph := by decide
  have n49 : (49 : Nat) ∉ alph := by decide
  have n50 : (50 : Nat) ∉ alph := by decide
  have hc' := hc
  simp only [List.mem_cons, List.not_mem_nil, or_false] at hc'
  have ca : c ∈ alph := by rcases hc' with rfl | rfl | rfl | rfl <;> decide
  refine ⟨by rw [List.length_set]; exact h.len, fun x hx => ?_, fun x hx => ?_, h.nd, h.fl, ?_, ?_, ?_, ?_, ?_, ?_⟩
  · rcases mem_set' hx with z | z
    · exact h.al x z
    · rw [z]; exact alph_marks c ca
  · obtain ⟨j', e, q1, q2⟩ := h.free x hx
    refine ⟨j', e, by rw [List.length_set]; exact q1, ?_⟩
    rw [List.getElem_set]
    split
    · exact ca
    · exact q2
  · rw [set_eq' hj ha n64, if_neg (by omega), Nat.add_zero]; exact h.c64
  · rw [set_eq' hj ha n49, if_neg (by omega), Nat.add_zero]; exact h.c49
  · rw [set_eq' hj ha n50, if_neg (by omega), Nat.add_zero]; exact h.c50
  · exact Nat.le_trans (set_le hj (by omega)) h.c42
  · by_cases e : c = 111
    · have := count_set' (c := c) (x := 111) hj
      rw [if_pos e] at this
      have := h1 e
      omega
    · exact Nat.le_trans (set_le hj e) h.c111
  · exact Nat.le_trans (set_key hj (by rcases hc' with rfl | rfl | rfl | rfl <;> decide)) h.key
theorem Laid.begin {n : Nat} {cs : List Nat} (h : Mk 2 3 cs) (hn : cs.length = n) {fr : List Int} (ef : fr = (List.range n).map Int.ofNat) : Laid n 0 cs fr where
  len := hn
  al := fun c hc => alph_marks c (h.al c hc)
  free := fun x hx => by
    rw [ef] at hx
    obtain ⟨j, hj, rfl⟩ := List.mem_map.mp hx
    have hj' : j < cs.length := by rw [hn]; exact List.mem_range.mp hj
    exact ⟨j, rfl, hj', h.al _ (List.getElem_mem hj')⟩
  nd := by
    rw [ef]
    exact List.Pairwise.map _ (fun a b q z => q (Int.ofNat.inj z)) List.nodup_range
  fl := by rw [ef, List.length_map, List.length_range]; rfl
  c64 := List.count_eq_zero.mpr fun z => absurd (h.al _ z) (by decide)
  c49 := List.count_eq_zero.mpr fun z => absurd (h.al _ z) (by decide)
  c50 := List.count_eq_zero.mpr fun z => absurd (h.al _ z) (by decide)
  c42 := h.c42
  c111 := h.c111
  key := h.key
/-- the rows of these cells -/
def rowK (cs : List Nat) (wd k : Nat) : Str := ⟨((cs.drop (wd * k)).take wd).toArray⟩
def rowsK (cs : List Nat) (h wd : Nat) : List Str := (List.range h).map (rowK cs wd)
theorem rowsK_join {cs : List Nat} {h wd : Nat} (e : cs.length = h * wd) : (Txt.join "" (rowsK cs h wd)).cps.toList = cs := by
  rw [join_cps]
  unfold rowsK
  rw [List.map_map]
  exact chunks wd h cs e
theorem rowK_len {cs : List Nat} {h wd k : Nat} (e : cs.length = h * wd) (hk : k < h) : (rowK cs wd k).length = wd := by
  show ((cs.drop (wd * k)).take wd).toArray.size = wd
  rw [List.size_toArray, List.length_take, List.length_drop, e]
  have : wd * k + wd ≤ h * wd := by
    have := Nat.mul_le_mul_right wd (show k + 1 ≤ h from hk)
    rw [Nat.mul_comm wd k]
    rw [Nat.succ_mul] at this
    exact this
  omega
theorem Laid.rows {h wd mo : Nat} {cs : List Nat} {fr : List Int} (L : Laid (h * wd) (1 + mo) cs fr) (h1 : 1 ≤ h) (h5 : h ≤ 5) (w1 : 1 ≤ wd) (w6 : wd ≤ 6) (hn : h * wd ≤ 24) (hm : mo ≤ 2) :
    RowsOk (rowsK cs h wd) wd ∧ (∀ r ∈ rowsK cs h wd, lineS r = true) ∧ wholeZ (Txt.join "" (rowsK cs h wd)) = true ∧ manyZ (Txt.join "" (rowsK cs h wd)) "12" = (mo : Int) := by
  have ej := rowsK_join L.len
  have len : ∀ r ∈ rowsK cs h wd, r.length = wd := fun r hr => by
    obtain ⟨k, hk, rfl⟩ := List.mem_map.mp hr
    exact rowK_len L.len (List.mem_range.mp hk)
  refine ⟨⟨by unfold rowsK; rw [List.length_map, List.length_range]; exact h1, by unfold rowsK; rw [List.length_map, List.length_range]; exact h5, w1, w6, len⟩, fun r hr => ?_, ?_, ?_⟩
  · refine lineS_of (by rw [len r hr]; exact w1) (by rw [len r hr]; exact w6) fun c hc => ?_
    obtain ⟨k, hk, rfl⟩ := List.mem_map.mp hr
    rw [marksL_is]
    exact L.al c (List.mem_of_mem_drop (List.mem_of_mem_take (show c ∈ ((cs.drop (wd * k)).take wd).toArray.toList from hc)))
  · rw [wholeZ_iff, ej]
    have hl : (Txt.join "" (rowsK cs h wd)).length = h * wd := by
      have := congrArg List.length ej
      rw [Array.length_toList] at this
      have l2 := L.len
      show (Txt.join "" (rowsK cs h wd)).cps.size = _
      omega
    have c64 := L.c64
    have c49 := L.c49
    have c50 := L.c50
    have ck := L.key
    unfold keyC at ck
    have c111 := L.c111
    rw [if_pos (by omega)] at c64
    refine ⟨⟨by omega, c64⟩, ⟨L.c42, ?_, ?_⟩, by omega, by omega⟩
    · rw [c49]; split <;> omega
    · rw [c49, c50]; split <;> split <;> omega
  · have : ("12" : Str).cps.toList = [49, 50] := by decide +kernel
    unfold manyZ
    rw [this]
    show Txt.count _ ⟨#[49]⟩ + (Txt.count _ ⟨#[50]⟩ + 0) = _
    rw [Int.add_zero, count_nat, count_nat, ej, L.c49, L.c50]
    have : mo = 0 ∨ mo = 1 ∨ mo = 2 := by omega
    rcases this with rfl | rfl | rfl <;> rfl
end K88
end
section
set_option Elab.async false
set_option linter.all false
set_option maxRecDepth 100000
set_option maxHeartbeats 2000000
namespace K88
open PySem L2
local macro_rules | `(tactic| walk_at "hp") => `(tactic| first | assumption | exact upd_same | (refine (upd_ne (by first | assumption | (apply Ne.symm; assumption))).trans ?_; walk_at "hp"))
local macro_rules | `(tactic| walk_at "rd1") => `(tactic| first
  | (refine ⟨_, rfl, ?_⟩)
  | (refine ⟨_, _, rfl, rfl, ?_⟩)
  | (refine ⟨(rfl : scal _ _ = true), ?_⟩)
  | (refine And.intro (by show (0 : Int) < _; decide) ?_)
  | (refine And.intro (And.intro (by decide) (by decide)) ?_)
  | (refine And.intro (Or.inr (And.intro (by decide) (by decide))) ?_)
  | (refine And.intro (And.intro (by decide) (And.intro (by decide) (by decide))) ?_)
  | (refine And.intro (by assumption) ?_)
  | (refine And.intro (And.intro (by omega) (by omega)) ?_)
  | (refine And.intro (Or.inl (And.intro (by omega) (by omega))) ?_)
  | (refine' ⟨_, _, _, _, rfl, rfl, Or.inl (Or.inl ?h1), ?h2, ?h3⟩; (case h1 => walk_at "hp"); (case h2 => rfl))
  | (refine' ⟨_, _, _, _, rfl, rfl, ?h1, ?h2, ?h3⟩; (case h1 => walk_at "hp"); (case h2 => rfl))
  | (refine' ⟨_, _, rfl, Or.inl (Or.inl (Or.inl ?h1)), ?h3⟩; (case h1 => walk_at "hp"))
  | (refine Or.inl ⟨_, rfl, ?_⟩))
local macro_rules | `(tactic| walk_at "rd") => `(tactic| repeat walk_at "rd1")

theorem off2 {p D : Addr} {H H' : Hp} (hD : H D = none) (o : Off (fun b => b = p ∨ b = D) H H') : Off (fun b => b = p) H H' := fun b u n e => o b u (fun z => z.elim n fun q => by rw [q, hD] at e; cases e) e
theorem off3 {p D : Addr} {H H' : Hp} (o : Off (fun b => b = p) H H') : Off (fun b => b = p ∨ b = D) H H' := fun b u n e => o b u (fun z => n (.inl z)) e
theorem NextOk.mono {cr ke cr' ke' : Nat} {cs : List Nat} {c : Nat} (h : NextOk cr ke cs c) (h1 : cr ≤ cr') (h2 : ke ≤ ke') : NextOk cr' ke' cs c :=
  ⟨h.1, h.2.1, fun z => Nat.lt_of_lt_of_le (h.2.2.1 z) h1, fun z => Nat.lt_of_lt_of_le (h.2.2.2 z) h2⟩
theorem cutV_row {cs : List Nat} {wd k h : Nat} (e : cs.length = h * wd) (hk : k < h) {lo hi : Int} (e1 : lo = ((wd * k : Nat) : Int)) (e2 : hi = ((wd * k + wd : Nat) : Int)) : cutV (cs.map cellV) (some lo) (some hi) = ((((cs.drop (wd * k)).take wd).map fun c => (⟨#[c]⟩ : Str))).map V.str := by
  have le : wd * k + wd ≤ h * wd := by
    have := Nat.mul_le_mul_right wd (show k + 1 ≤ h from hk)
    rw [Nat.mul_comm wd k]
    rw [Nat.succ_mul] at this
    exact this
  subst e1 e2
  unfold cutV
  rw [HT.sIx_nat, HT.sIx_nat, List.length_map, e, Nat.min_eq_left le, Nat.min_eq_left (by omega), Nat.add_sub_cancel_left, ← List.map_drop, ← List.map_take, List.map_map]
  rfl
theorem row_join {cs : List Nat} {wd k : Nat} : Txt.join "" ((((cs.drop (wd * k)).take wd).map fun c => (⟨#[c]⟩ : Str))) = rowK cs wd k := by
  have h := join_cells ((cs.drop (wd * k)).take wd)
  unfold rowK
  generalize Txt.join "" ((((cs.drop (wd * k)).take wd).map fun c => (⟨#[c]⟩ : Str))) = z at h ⊢
  rw [← h]
theorem cells_sum (L : List Nat) : ((L.map fun c => (⟨#[c]⟩ : Str)).map fun x => x.length).sum = L.length := by
  induction L with
  | nil => rfl
  | cons a r ih => rw [List.map_cons, List.map_cons, List.sum_cons, ih, List.length_cons]; show 1 + _ = _; omega
section
variable {P : Program} {w : World} {K : PySem.W.Frag} {mg : Str → Option Value} {base : Heap}
def spRoomOf (K : PySem.W.Frag) : Sp := fun vs H Q _ => ∃ (p : Addr) (h wd mo : Nat), vs = [.ref p, .int h, .int wd, .int mo] ∧ PoolAt H p ∧ 1 ≤ h ∧ h ≤ 5 ∧ 1 ≤ wd ∧ wd ≤ 6 ∧ h * wd ≤ 24 ∧ mo ≤ 2 ∧ mo + 1 ≤ h * wd ∧
  ∀ t rows H', Off (fun b => b = p) H H' → PoolK H H' p → H' t = some (.tup (rows.map V.str)) → RowsOk rows wd → (∀ r ∈ rows, lineS r = true) → wholeZ (Txt.join "" rows) = true → manyZ (Txt.join "" rows) "12" = (mo : Int) → rows.length = h → Q (.ref t) H'
theorem ok_room_of {f : Addr} {fd : FuncData} (F : Fun K "_law_room_of" "_law_room_of" s__law_room_of f fd) (T : Rb mg) (c__law_draw : CalG P w K mg base 1 "_law_draw" (spDraw K)) (c__law_pick : CalG P w K mg base 2 "_law_pick" (spPk K)) (c__law_mark : CalG P w K mg base 3 "_law_mark" (spMark K)) :
    FnG P w K mg base (CXe P w) 4 f fd ["pool", "high", "wide", "mouths"] (spRoomOf K) := by
  refine F.okG sc__law_room_of (fun vs H Q E h => ?_) (fun cdv A outer s H vs Q E hgd hr h => ?_)
  · obtain ⟨p, hh, wd, mo, rfl, _⟩ := h; rfl
  · obtain ⟨p, hh, wd, mo, rfl, hp, h1, h5, w1, w6, hn24, hm2, hmn, k⟩ := h
    refine ⟨_, (pss_cons (ps_set (i := 4) sc__law_room_of.nd rfl (Or.inr rfl) (pe_lstA pa_nil))
      (pss_cons (ps_for (passes_of rfl) rfl (pi_range1 (by rfl) T.n_range (pa_cons (pe_op op_mul (pv 1) (pv 2)) pa_nil)) (pg_name (i := 5) sc__law_room_of.nd rfl (Or.inl rfl))
      (pss_one (ps_if (pt_cmpR op_gt (pe_op op_mul (pv 1) (pv 2)) pe_int (nomark _)) (pss_one (ps_expr (pe_bm PySem.F.plainAttrs_list PySem.F.slot_list_append PySem.F.type_list_append mt_append (pv 4) (pa_cons (pg_c c__law_mark hgd hr (by first | decide | omega) (pa_cons (pv 0) (pa_cons (pv 4) (pa_cons pe_int (pa_cons pe_int pa_nil))))) pa_nil)))) (pss_one (ps_expr (pe_bm PySem.F.plainAttrs_list PySem.F.slot_list_append PySem.F.type_list_append mt_append (pv 4) (pa_cons (pg_c c__law_mark hgd hr (by first | decide | omega) (pa_cons (pv 0) (pa_cons (pv 4) (pa_cons pe_int (pa_cons pe_int pa_nil))))) pa_nil)))))))
      (pss_cons (ps_set (i := 6) sc__law_room_of.nd rfl (Or.inl rfl) (pe_listRg rfl (by rfl) T.n_list (prg_1 (by rfl) T.n_range (pe_op op_mul (pv 1) (pv 2)))))
      (pss_cons (ps_for (passes_of rfl) rfl (pi_str (pe_slice sl_str pe_str po_none (po_some (pe_op op_add pe_int (pv 3))))) (pg_name (i := 7) sc__law_room_of.nd rfl (Or.inl rfl))
      (pss_cons (ps_set (i := 8) sc__law_room_of.nd rfl (Or.inl rfl) (pe_bm PySem.F.plainAttrs_list PySem.F.slot_list_pop PySem.F.type_list_pop mt_popAt (pv 6) (pa_cons (pg_c c__law_draw hgd hr (by first | decide | omega) (pa_cons (pv 0) (pa_cons (pe_callB call_len_seq (by rfl) T.n_len (by decide +kernel) (pa_cons (pv 6) pa_nil)) pa_nil))) pa_nil)))
      (pss_one (ps_asg (pv 7) (pg_sub (pv 4) (pv 8) set_list)))))
      (C8.pss_cut (ps_if (pt_cmpR op_eq (pg_c c__law_draw hgd hr (by first | decide | omega) (pa_cons (pv 0) (pa_cons pe_int pa_nil))) pe_int (nomark _)) (pss_cons (ps_set (i := 4) sc__law_room_of.nd rfl (Or.inr rfl) (pe_lc (own := [("mark", 9)]) (g := gName 9) (tt := tYes) rfl sc__law_room_of.nd (pi_list (pv 4)) (blkOk_by (own := [("mark", 9)]) (N := ["pool", "high", "wide", "mouths", "marks", "k", "free", "sign", "at", "mark"]) (sc := defScope s__law_room_of) (by decide +kernel)) (fun _ _ _ _ _ => pg_name (i := 9) sc__law_room_of.nd rfl (Or.inl rfl)) (fun _ _ _ _ _ => pts_nil) (fun _ _ _ _ _ => (pe_ifExp (pt_cmpR op_in_sign (pv 9) pe_str (by rfl)) pe_str (pv 9)))))
      (C8.pss_cut (ps_if (PW.pt (pw_and (pt_cmpR op_notIn_seq pe_str (pv 4) (by rfl)) (pw_and1 (pt_cmpR op_gt (pe_callB call_len_seq (by rfl) T.n_len (by decide +kernel) (pa_cons (pv 6) pa_nil)) pe_int (nomark _))))) (pss_one (ps_asg pe_str (pg_sub (pv 4) (pg_c c__law_pick hgd hr (by first | decide | omega) (pa_cons (pv 0) (pa_cons (pv 6) pa_nil))) set_list))) pss_nil)
      (pss_cons (ps_set (i := 8) sc__law_room_of.nd rfl (Or.inl rfl) (pe_ix ix_list (pe_op op_cat (pv 6) (pe_lstA (pa_cons pe_int pa_nil))) (pg_c c__law_draw hgd hr (by first | decide | omega) (pa_cons (pv 0) (pa_cons (pe_op op_add (pe_callB call_len_seq (by rfl) T.n_len (by decide +kernel) (pa_cons (pv 6) pa_nil)) pe_int) pa_nil))) (fun _ _ => rfl)))
      (pss_one (ps_if (pt_cmpR op_eq (pe_ix ix_list (pv 4) (pv 8) (fun _ _ => rfl)) pe_str (nomark _)) (pss_one (ps_asg (pg_c c__law_pick hgd hr (by first | decide | omega) (pa_cons (pv 0) (pa_cons pe_str pa_nil))) (pg_sub (pv 4) (pv 8) set_list))) pss_nil))))) pss_nil)
      (pss_one (ps_ret (pe_callTy call_tuple_of (by rfl) T.n_tuple (by decide +kernel) (pa_cons (pe_lc (own := [("k", 5)]) (g := gName 5) (tt := tYes) rfl sc__law_room_of.nd (pi_range1 (by rfl) T.n_range (pa_cons (pv 1) pa_nil)) (blkOk_by (own := [("k", 5)]) (N := ["pool", "high", "wide", "mouths", "marks", "k", "free", "sign", "at", "mark"]) (sc := defScope s__law_room_of) (by decide +kernel)) (fun _ _ _ _ _ => pg_name (i := 5) sc__law_room_of.nd rfl (Or.inl rfl)) (fun _ _ _ _ _ => pts_nil) (fun _ _ _ _ _ => (pe_m1 PySem.F.slot_str_join PySem.F.type_str_join (show MtR _ "str.join" (fun x xs H Q => ∃ a p, ∃ ys : List Str, x = .str a ∧ xs = [.ref p] ∧ (SqL K H p (ys.map V.str) ∨ SqT K H p (ys.map V.str)) ∧ (ys.map (·.length)).sum + ys.length * a.length ≤ 16777216 ∧ Q (.str (Txt.join a ys)) H) from mt_join) pe_str (pe_slice (show SlR _ (rSlL K) from sl_list) (pv 4) (po_some (pe_op op_mul (pv 5) (pv 2))) (po_some (pe_op op_mul (pe_op op_add (pv 5) pe_int) (pv 2))))))) pa_nil))))))))), ?_⟩
    obtain ⟨n, hn⟩ : ∃ n, hh * wd = n := ⟨_, rfl⟩
    have hnI : (hh : Int) * (wd : Int) = (n : Int) := by rw [← hn]; push_cast; rfl
    have en : V.int ((hh : Int) * (wd : Int)) = V.int (n : Int) := congrArg V.int hnI
    have cmul : CMul (hh : Int) (wd : Int) := .inl ⟨by omega, by omega⟩
    rw [hn] at hn24 hmn
    refine And.intro (Nat.zero_le _) fun M H1 n1 => ?_
    have hMp : M ≠ p := hp.ne n1.free
    have hp1 := hp.k n1.same
    have ap1 : Apart H1 p M := (hp.apart n1.free).same hp n1.same
    refine ⟨_, rfl, _, rfl, _, _, rfl, rfl, cmul, (n : Int), congrArg (fun x => [x]) en, by omega, by omega, ?_⟩
    rw [Int.toNat_natCast]
    have mk0 : Mk 2 3 [] := ⟨fun c hc => by simp at hc, Nat.zero_le _, Nat.zero_le _, Nat.zero_le _⟩
    refine for_range (n := n) (fun i σ H' => ∃ (kv : Option V) (cs : List Nat), σ = [some (.ref p), some (.int hh), some (.int wd), some (.int mo), some (.ref M), kv, none, none, none, none] ∧ H' M = some (.lst (cs.map cellV)) ∧ cs.length = i ∧ Mk 2 3 cs ∧ PoolK H H' p ∧ Apart H' p M ∧ Off (fun b => b = p ∨ b = M) H1 H') ⟨none, [], rfl, n1.at_, rfl, mk0, hp1, ap1, Off.refl _⟩ ?_ ?_
    · rintro i σ H2 hi ⟨kv, cs, rfl, hM2, hlen, mk, hp2, ap2, o2⟩
      have add : ∀ c H', NextOk 2 3 cs c → Off (fun b => b = p) H2 H' → PoolK H2 H' p → H' M = some (.lst (cs.map cellV)) ∧ (cs.map cellV).length < sizeLine ∧ ∃ (kv : Option V) (cs' : List Nat), [some (.ref p), some (.int hh), some (.int wd), some (.int mo), some (.ref M), some (V.int (0 + (i : Int))), none, none, none, none] = [some (.ref p), some (.int hh), some (.int wd), some (.int mo), some (.ref M), kv, none, none, none, none] ∧ upd H' M (.lst (cs.map cellV ++ [cellV c])) M = some (.lst (cs'.map cellV)) ∧ cs'.length = i + 1 ∧ Mk 2 3 cs' ∧ PoolK H (upd H' M (.lst (cs.map cellV ++ [cellV c]))) p ∧ Apart (upd H' M (.lst (cs.map cellV ++ [cellV c]))) p M ∧ Off (fun b => b = p ∨ b = M) H1 (upd H' M (.lst (cs.map cellV ++ [cellV c]))) := fun c H' nx o hp' => by
        have ap := (hp'.2 M (by rw [hM2]; simp) ap2).2
        exact ⟨o _ _ hMp hM2, sz (by rw [List.length_map]; omega), _, cs ++ [c], rfl, by rw [upd_same, List.map_append]; rfl, by rw [List.length_append, hlen]; rfl, mk.snoc nx, (hp2.trans hp').mut ap, ap.upd hMp, (o2.trans (off3 o)).trans (Off.mut (.inr rfl))⟩
      refine ⟨_, rfl, _, rfl, _, _, rfl, rfl, cmul, (n : Int), 6, en, rfl, ?_⟩
      refine ⟨_, rfl, ?_⟩
      refine ite2 (fun _ => ?_) (fun _ => ?_)
      · refine ⟨_, rfl, .inl ⟨rfl, _, SqL.of hM2⟩, _, rfl, _, rfl, p, M, cs, 1, 2, rfl, hp2.1, hMp, hM2, by omega, fun c H' nx o hp' => ?_⟩
        exact ⟨_, _, _, rfl, rfl, add c H' (nx.mono (by decide) (by decide)) o hp'⟩
      · refine ⟨_, rfl, .inl ⟨rfl, _, SqL.of hM2⟩, _, rfl, _, rfl, p, M, cs, 2, 3, rfl, hp2.1, hMp, hM2, by omega, fun c H' nx o hp' => ?_⟩
        exact ⟨_, _, _, rfl, rfl, add c H' nx o hp'⟩
    rintro σ H2 ⟨kv, cs, rfl, hM2, hlen, mk, hp2, ap2, o2⟩
    refine ⟨_, rfl, _, rfl, _, _, rfl, rfl, cmul, (n : Int), en, RgOk.of_le (by omega) (by omega) (by omega) (by omega), fun q hq => ?_⟩
    have eR : rgV 0 ((n : Nat) : Int) = ((List.range n).map Int.ofNat).map V.int := by
      unfold rgV
      rw [List.map_map]
      simp
    rw [eR]
    have sR : Same H2 (upd H2 q (.lst (((List.range n).map Int.ofNat).map V.int))) := same_new hq
    have hF3 : upd H2 q (.lst (((List.range n).map Int.ofNat).map V.int)) q = some (.lst (((List.range n).map Int.ofNat).map V.int)) := upd_same
    have apq := (hp2.1.apart hq).same hp2.1 sR
    have hqp : q ≠ p := hp2.1.ne hq
    have hqM : q ≠ M := fun z => by rw [z, hM2] at hq; cases hq
    have hqH : H q = none := by
      cases e : H q with
      | none => rfl
      | some o =>
        have e1 := n1.same _ _ e
        have e2 := o2 q o (fun z => z.elim hqp hqM) e1
        rw [hq] at e2; cases e2
    generalize upd H2 q (.lst (((List.range n).map Int.ofNat).map V.int)) = H3 at sR hF3 apq ⊢
    have hp3 := hp2.same sR
    have hM3 := sR _ _ hM2
    have ap3 := ap2.same hp2.1 sR
    have L0 : Laid n 0 cs ((List.range n).map Int.ofNat) := Laid.begin mk hlen rfl
    have o3 : Off (fun b => b = p ∨ b = M ∨ b = q) H H3 := fun b u nb e => sR _ _ (o2 b u (fun z => nb (z.elim .inl fun y => .inr (.inl y))) (n1.same _ _ e))
    obtain ⟨u, hu⟩ : ∃ u, u = cutS "@12" none (some (1 + (mo : Int))) := ⟨_, rfl⟩
    have eu : u.cps.toList = [64, 49, 50].take (1 + mo) := by
      have : mo = 0 ∨ mo = 1 ∨ mo = 2 := by omega
      rcases this with rfl | rfl | rfl <;> (rw [hu]; decide +kernel)
    have zu : u.cps.size = 1 + mo := by
      have := congrArg List.length eu
      rw [List.length_take] at this
      have h2 : u.cps.toList.length = u.cps.size := Array.length_toList
      rw [← h2, this]
      show min (1 + mo) 3 = 1 + mo
      omega
    refine ⟨_, rfl, _, _, rfl, rfl, _, rfl, "@12", rfl, (by decide +kernel), ?_⟩
    refine ⟨u, by rw [hu], for_it walk_str (fun i σ H' => ∃ (o7 o8 : Option V) (cs : List Nat) (fr : List Int), σ = [some (.ref p), some (.int hh), some (.int wd), some (.int mo), some (.ref M), kv, some (.ref q), o7, o8, none] ∧ H' M = some (.lst (cs.map cellV)) ∧ H' q = some (.lst (fr.map V.int)) ∧ Laid n i cs fr ∧ PoolK H H' p ∧ Apart H' p M ∧ Apart H' p q ∧ Off (fun b => b = p ∨ b = M ∨ b = q) H H') ⟨none, none, cs, _, rfl, hM3, hF3, L0, hp3, ap3, apq, o3⟩ (fun _ _ _ _ _ => trivial) ?_ ?_⟩
    · rintro i x σ Ha Hb hi ⟨o7, o8, cs, fr, rfl, hMa, hFa, La, hpa, apM, apF, oa⟩ ⟨rfl, c, hc, rfl⟩
      rw [zu] at hi
      have hcu : signI i = c := by
        have h1 : u.cps.toList[i]? = some c := by simpa using hc
        rw [eu, List.getElem?_take_of_lt hi] at h1
        have : i = 0 ∨ i = 1 ∨ i = 2 := by omega
        rcases this with rfl | rfl | rfl <;> (cases h1; rfl)
      have lfr := La.fl
      refine ⟨_, rfl, .inl ⟨rfl, _, SqL.of hFa⟩, _, rfl, _, rfl, q, _, rfl, .inl (SqL.of hFa), ?_⟩
      rw [List.length_map]
      refine ⟨p, fr.length, rfl, hpa.1, by omega, by omega, fun r H4 ra rb o4 hp4 => ?_⟩
      have hM4 := o4 _ _ hMp hMa
      have hF4 := o4 _ _ hqp hFa
      obtain ⟨_, apM4⟩ := hp4.2 M (by rw [hMa]; simp) apM
      obtain ⟨_, apF4⟩ := hp4.2 q (by rw [hFa]; simp) apF
      have hrk : r.toNat < fr.length := by omega
      refine ⟨q, _, r, r.toNat, .int fr[r.toNat], rfl, rfl, hF4, by omega, by omega, ?_, by rw [List.getElem?_map, List.getElem?_eq_getElem hrk]; rfl, ?_⟩
      · rw [List.length_map]
        exact seqIndex_of ra (by omega)
      obtain ⟨j, ej, hj, hja⟩ := La.free _ (List.getElem_mem hrk)
      have hM5 : upd H4 q (.lst ((fr.map V.int).eraseIdx r.toNat)) M = some (.lst (cs.map cellV)) := by rw [upd_ne (Ne.symm hqM)]; exact hM4
      rw [ej]
      refine ⟨_, rfl, _, rfl, _, rfl, M, cs.map cellV, (j : Int), j, rfl, rfl, hM5, by unfold ixN; rw [List.length_map, if_pos (by omega), if_pos (by omega)]; rfl, ?_⟩
      have hMF : M ≠ q := Ne.symm hqM
      refine ⟨_, _, cs.set j c, fr.eraseIdx r.toNat, rfl, upd_same.trans (congrArg (fun l => some (HO.lst l)) (set_mapC cs j c)), (upd_ne hqM).trans (upd_same.trans (congrArg (fun l => some (HO.lst l)) (eraseIdx_mapV fr r.toNat))), by rw [← hcu]; exact La.put (by omega) hrk ej hj hja, ((hpa.trans hp4).mut apF4).mut (apM4.upd hqp), (apM4.upd hqp).upd hMp, (apF4.upd hqp).upd hMp, ?_⟩
      exact ((oa.trans (fun b u nb e => o4 b u (fun z => nb (.inl z)) e)).trans (Off.mut (.inr (.inr rfl)))).trans (Off.mut (.inr (.inl rfl)))
    rintro σ Hb ⟨o7, o8, cs, fr, rfl, hMb, hFb, Lb, hpb, apM, apF, ob⟩
    rw [zu] at Lb
    have off1 : Off (fun b => b = p) H Hb := fun b u nb e => ob b u (fun z => z.elim nb (fun y => y.elim (fun x => by rw [x, n1.free] at e; cases e) (fun x => by rw [x, hqH] at e; cases e))) e
    have dead : ∀ {H' : Hp} {a : Addr}, Off (fun b => b = p) H H' → PoolAt H' p → H' a = none → H a = none := fun {H' a} o hp' e => by
      cases e1 : H a with
      | none => rfl
      | some u =>
        have := o a u (hp'.ne e) e1
        rw [e] at this; cases this
    have stay : ∀ {H' : Hp} {a : Addr} {x : HO}, H a = none → Off (fun b => b = p) H H' → Off (fun b => b = p) H (upd H' a x) := fun {H' a x} e o b u nb e1 => by
      rw [upd_ne (fun z => by rw [z, e] at e1; cases e1)]
      exact o b u nb e1
    refine ⟨fun σ' H' => ∃ (N : Addr) (o8 o9 : Option V) (cs : List Nat) (fr : List Int), σ' = [some (.ref p), some (.int hh), some (.int wd), some (.int mo), some (.ref N), kv, some (.ref q), o7, o8, o9] ∧ H' N = some (.lst (cs.map cellV)) ∧ Laid n (1 + mo) cs fr ∧ PoolK H H' p ∧ Off (fun b => b = p) H H', ?_, ?_⟩
    · refine ⟨_, rfl, p, 2, rfl, hpb.1, by decide, by decide, fun r H4 ra rb o4 hp4 => ?_⟩
      refine ⟨(rfl : scal _ _ = true), _, rfl, ?_⟩
      have hM4 := o4 _ _ hMp hMb
      have hF4 := o4 _ _ hqp hFb
      refine ite2 (fun _ => ?_) (fun _ => ⟨M, _, _, cs, fr, rfl, hM4, Lb, hpb.trans hp4, off1.trans o4⟩)
      have apF4 := (hp4.2 q (by rw [hFb]; simp) apF).2
      have hp5 := hpb.trans hp4
      have off5 := off1.trans o4
      refine ⟨_, rfl, M, rfl, ⟨_, SqL.of hM4⟩, fun D hD => lc_it (walk_list (xs := cs.map cellV)) (fun i H' => H' D = some (.lst (((cs.take i).map flatM).map cellV)) ∧ Off (fun b => b = D) H4 H') ⟨upd_same, Off.new hD⟩ (fun i H' _ z => SqL.of (z.2 _ _ (ne_of_none hM4 hD) hM4)) ?_ ?_⟩
      · rintro i y Ha Hc hi ⟨hacc, off⟩ ⟨rfl, hy⟩
        rw [List.length_map] at hi
        rw [List.getElem?_map, List.getElem?_eq_getElem hi] at hy
        cases Option.some.inj hy
        refine And.intro rfl (yes_of (iteT ?_))
        refine ⟨_, rfl, cs[i], "#^v<>", rfl, rfl, _, rfl, ?_⟩
        have el : ("#^v<>" : Str).cps.toList = [35, 94, 118, 60, 62] := by decide +kernel
        have s46 : (V.str ".") = cellV 46 := by
          have e : ("." : Str) = ⟨#[46]⟩ := by decide +kernel
          rw [e]; rfl
        have fin : ∀ y, y = cellV (flatM cs[i]) → ∃ acc, Hc D = some (HO.lst acc) ∧ acc.length < sizeLine ∧ upd Hc D (.lst (acc ++ [y])) D = some (.lst (((cs.take (i + 1)).map flatM).map cellV)) ∧ Off (fun b => b = D) H4 (upd Hc D (.lst (acc ++ [y]))) := fun y ey =>
          ⟨_, hacc, sz (by rw [List.length_map, List.length_map]; exact Nat.le_trans (List.length_take_le' ..) (by have := Lb.len; omega)), by rw [upd_same, List.take_add_one, List.getElem?_eq_getElem hi, List.map_append, List.map_append, ey]; rfl, off.trans (Off.mut rfl)⟩
        by_cases hm : cs[i] ∈ [35, 94, 118, 60, 62]
        · exact iteT' (by rw [el]; simpa using hm) (fin _ (by rw [s46]; unfold flatM; rw [if_pos hm]))
        · exact iteF' (by rw [el]; simpa using hm) ⟨_, rfl, fin _ (by unfold flatM; rw [if_neg hm])⟩
      rintro H6 ⟨hacc, off⟩
      rw [List.length_map, List.take_length] at hacc
      have Lf := Lb.flat
      have s6 : Same H4 H6 := fun b o e => off b o (ne_of_none e hD) e
      have hp6 := hp5.same s6
      have off6 := off5.trans (Off.same s6)
      have hDH := dead off5 hp5.1 hD
      have hDp : D ≠ p := hp5.1.ne hD
      have hDq : q ≠ D := ne_of_none hF4 hD
      have apD6 := (hp5.1.apart hD).same hp5.1 s6
      have hF6 := s6 _ _ hF4
      have apF6 := apF4.same hp5.1 s6
      have flc : ∀ cs : List Nat, (cs.map cellV).all flatV = true := flat_cells
      have s111 : ("o" : Str) = ⟨#[111]⟩ := by decide +kernel
      generalize hcf : cs.map flatM = cf at hacc Lf
      refine ⟨fun σ' H' => ∃ (cs : List Nat), σ' = [some (.ref p), some (.int hh), some (.int wd), some (.int mo), some (.ref D), kv, some (.ref q), o7, o8, none] ∧ H' D = some (.lst (cs.map cellV)) ∧ H' q = some (.lst (fr.map V.int)) ∧ Apart H' p D ∧ Laid n (1 + mo) cs fr ∧ PoolK H H' p ∧ Off (fun b => b = p) H H', ?_, ?_⟩
      · refine ⟨_, rfl, D, _, rfl, .inl (SqL.of hacc), rfl, flc cf, _, rfl, ?_⟩
        have no : ∃ (cs : List Nat), [some (.ref p), some (.int hh), some (.int wd), some (.int mo), some (.ref D), kv, some (.ref q), o7, o8, none] = [some (.ref p), some (.int hh), some (.int wd), some (.int mo), some (.ref D), kv, some (.ref q), o7, o8, none] ∧ H6 D = some (.lst (cs.map cellV)) ∧ H6 q = some (.lst (fr.map V.int)) ∧ Apart H6 p D ∧ Laid n (1 + mo) cs fr ∧ PoolK H H6 p ∧ Off (fun b => b = p) H H6 := ⟨cf, rfl, hacc, hF6, apD6, Lf, hp6, off6⟩
        have ev := inV_cells cf 111 s111
        by_cases hm : 111 ∈ cf
        · refine iteF' (fun z => ?_) (iteF no)
          have z2 : inV (.str "o") (cf.map cellV) = true := ev.trans (decide_eq_true hm)
          have z3 : (!inV (.str "o") (cf.map cellV)) = true := z
          rw [z2] at z3; cases z3
        refine iteT' ?_ ?_
        · show (!inV (.str "o") (cf.map cellV)) = true
          rw [ev]; simp [hm]
        refine ⟨_, rfl, q, _, rfl, .inl (SqL.of hF6), _, _, rfl, rfl, _, rfl, ?_⟩
        rw [List.length_map]
        refine ite2 (fun hl => ?_) (fun _ => no)
        have hl' : 0 < fr.length := by simpa using hl
        refine ⟨_, rfl, _, rfl, _, rfl, p, .ref q, rfl, hp6.1, .inl ⟨q, _, rfl, hF6, hqp, by rw [List.length_map]; exact hl', by rw [List.length_map]; have := Lf.fl; omega, fun x H8 hx o8' hp8 => ?_⟩⟩
        obtain ⟨z, hz, rfl⟩ := List.mem_map.mp hx
        obtain ⟨j, rfl, hj, hja⟩ := Lf.free z hz
        have hD8 := o8' _ _ hDp hacc
        have hF8 := o8' _ _ hqp hF6
        have apD8 := (hp8.2 D (by rw [hacc]; simp) apD6).2
        refine ⟨D, cf.map cellV, (j : Int), j, rfl, rfl, hD8, by unfold ixN; rw [List.length_map, if_pos (by omega), if_pos (by omega)]; rfl, ?_⟩
        refine ⟨cf.set j 111, rfl, upd_same.trans (congrArg (fun l => some (HO.lst l)) (by rw [s111]; exact set_mapC cf j 111)), (upd_ne hDq).trans hF8, apD8.upd hDp, Lf.mark hj hja (by decide) (fun _ => List.count_eq_zero.mpr hm), (hp6.trans hp8).mut apD8, stay hDH (off6.trans o8')⟩
      rintro σ' H9 ⟨cg, rfl, hD9, hF9, apD9, Lg, hp9, off9⟩
      have hlg := Lg.len
      have flg := Lg.fl
      refine ⟨_, rfl, And.intro (Nat.le_of_ble_eq_true rfl) fun Z H10 n10 => ?_⟩
      have hD10 := n10.same _ _ hD9
      have hF10 := n10.same _ _ hF9
      have hp10 := hp9.same n10.same
      have apD10 := apD9.same hp9.1 n10.same
      refine ⟨q, Z, fr.map V.int, [V.int 0], rfl, rfl, hF10, n10.at_, Nat.le_of_lt (sz (by rw [List.length_map]; show _ + 1 ≤ 1000; omega)), fun C hC => ?_⟩
      have sC : Same H10 (upd H10 C (.lst (fr.map V.int ++ [V.int 0]))) := same_new hC
      have hC11 : upd H10 C (.lst (fr.map V.int ++ [V.int 0])) C = some (.lst (fr.map V.int ++ [V.int 0])) := upd_same
      have hCp : C ≠ p := hp10.1.ne hC
      generalize upd H10 C (.lst (fr.map V.int ++ [V.int 0])) = H11 at sC hC11 ⊢
      have hD11 := sC _ _ hD10
      have hF11 := sC _ _ hF10
      have hp11 := hp10.same sC
      have apD11 := apD10.same hp10.1 sC
      have off11 := (off9.trans n10.off).trans (Off.same sC)
      refine ⟨_, rfl, _, rfl, q, _, rfl, .inl (SqL.of hF11), _, _, rfl, rfl, p, (fr.length : Int) + 1, by rw [List.length_map], hp11.1, by omega, by omega, fun r H12 ra rb o12 hp12 => ?_⟩
      have hD12 := o12 _ _ hDp hD11
      have hC12 := o12 _ _ hCp hC11
      have apD12 := (hp12.2 D (by rw [hD11]; simp) apD11).2
      obtain ⟨j, hj, hat⟩ : ∃ j : Nat, j < cg.length ∧ atI (fr.map V.int ++ [V.int 0]) r = some (V.int (j : Int)) := by
        obtain ⟨rn, rfl⟩ := Int.eq_ofNat_of_zero_le ra
        by_cases hr2 : rn < fr.length
        · obtain ⟨j, ej, hj, _⟩ := Lg.free _ (List.getElem_mem hr2)
          refine ⟨j, hj, atI_nat ?_⟩
          rw [List.getElem?_append_left (by rw [List.length_map]; exact hr2), List.getElem?_map, List.getElem?_eq_getElem hr2, ← ej]
          rfl
        · have e : rn = fr.length := by omega
          refine ⟨0, by omega, atI_nat ?_⟩
          rw [List.getElem?_append_right (by rw [List.length_map]; omega), List.length_map, e, Nat.sub_self]
          rfl
      refine ⟨C, _, r, V.int (j : Int), rfl, rfl, SqL.of hC12, hat, ?_⟩
      have s46 : ("." : Str) = ⟨#[46]⟩ := by decide +kernel
      have hp13 := hp11.trans hp12
      have off13 := off11.trans o12
      refine ⟨_, rfl, _, rfl, D, _, (j : Int), cellV cg[j], rfl, rfl, SqL.of hD12, atI_nat (by rw [List.getElem?_map, List.getElem?_eq_getElem hj]; rfl), ?_⟩
      refine ⟨(rfl : scal _ _ = true), _, rfl, ?_⟩
      by_cases hdot : cg[j] = 46
      case neg => exact iteF' (fun z => hdot ((sgn s46).mp z)) ⟨D, _, _, cg, fr, rfl, hD12, Lg, hp13, off13⟩
      refine iteT' ((sgn s46).mpr hdot) ?_
      have ez : ("xxpg" : Str).cps.toList = [120, 120, 112, 103] := by decide +kernel
      refine ⟨_, rfl, p, .str "xxpg", rfl, hp13.1, .inr ⟨_, rfl, by decide +kernel, by decide +kernel, fun c H14 hc o14 hp14 => ?_⟩⟩
      rw [ez] at hc
      have hD14 := o14 _ _ hDp hD12
      have apD14 := (hp14.2 D (by rw [hD12]; simp) apD12).2
      refine ⟨_, rfl, _, rfl, D, cg.map cellV, (j : Int), j, rfl, rfl, hD14, by unfold ixN; rw [List.length_map, if_pos (by omega), if_pos (by omega)]; rfl, ?_⟩
      have hc2 : c ∈ [111, 120, 112, 103] := by revert hc; simp only [List.mem_cons, List.not_mem_nil, or_false]; omega
      refine ⟨D, _, _, cg.set j c, fr, rfl, upd_same.trans (congrArg (fun l => some (HO.lst l)) (set_mapC cg j c)), Lg.mark hj (by rw [hdot]; decide) hc2 (fun z => ?_), (hp13.trans hp14).mut apD14, stay hDH (off13.trans o14)⟩
      exfalso
      revert hc
      rw [z]
      decide
    rintro σ' H7 ⟨N, o8, o9, cs, fr, rfl, hN7, L7, hp7, off7⟩
    have hlen7 := L7.len
    have hlen7' : cs.length = hh * wd := by rw [hlen7, hn]
    refine ⟨_, rfl, _, rfl, by omega, by omega, ?_⟩
    rw [Int.toNat_natCast]
    refine fun D hD => lc_it walk_range (fun i H' => H' D = some (.lst (((List.range i).map (rowK cs wd)).map V.str)) ∧ Off (fun b => b = D) H7 H') ⟨upd_same, Off.new hD⟩ (fun _ _ _ _ => trivial) ?_ ?_
    · rintro i x H1' H2' hi ⟨hacc, off⟩ ⟨rfl, rfl⟩
      have hi2 : i < hh := hi
      refine And.intro rfl (yes_of (iteT ?_))
      have hND : N ≠ D := ne_of_none hN7 hD
      have cm1 : CMul (0 + (i : Int)) (wd : Int) := .inl ⟨by omega, by omega⟩
      have cm2 : CMul (0 + (i : Int) + 1) (wd : Int) := .inl ⟨by omega, by omega⟩
      have e1 : (0 + (i : Int)) * (wd : Int) = ((wd * i : Nat) : Int) := by rw [Int.zero_add, Nat.mul_comm]; push_cast; rfl
      have e2 : (0 + (i : Int) + 1) * (wd : Int) = ((wd * i + wd : Nat) : Int) := by rw [Int.zero_add, Int.add_mul, Int.one_mul, Int.mul_comm]; push_cast; rfl
      have hN2 := off _ _ hND hN7
      refine ⟨⟨_, rfl⟩, _, rfl, _, rfl, _, rfl, _, _, rfl, rfl, cm1, _, rfl, _, rfl, _, _, rfl, rfl, _, rfl, _, _, rfl, rfl, cm2, _, rfl, N, _, rfl, SqL.of hN2, fun g hg => ?_⟩
      rw [cutV_row hlen7' hi2 e1 e2]
      have hDg : D ≠ g := ne_of_none hacc hg
      refine ⟨"", g, ((cs.drop (wd * i)).take wd).map fun c => (⟨#[c]⟩ : Str), rfl, rfl, .inl (SqL.of upd_same), ?_, ?_⟩
      · rw [cells_sum]
        show _ + _ * 0 ≤ _
        rw [List.length_take]
        omega
      refine ⟨_, (upd_ne hDg).trans hacc, sz (by rw [List.length_map, List.length_map, List.length_range]; omega), ?_, ?_⟩
      · rw [upd_same, row_join, List.range_succ, List.map_append, List.map_append]; rfl
      · exact (off.trans (Off.same (same_new hg))).trans (Off.mut rfl)
    rintro H8 ⟨hacc, off⟩
    have s8 : Same H7 H8 := fun b o e => off b o (ne_of_none e hD) e
    rw [← hn] at L7
    have o8 := off7.trans (Off.same s8)
    have hp8 := hp7.same s8
    obtain ⟨R, lin, who, man⟩ := L7.rows h1 h5 w1 w6 (by omega) hm2
    exact ⟨D, _, rfl, .inl ⟨SqL.of hacc, fun l hl => k l (rowsK cs hh wd) _ (o8.trans (Off.same (same_new hl))) (hp8.same (same_new hl)) upd_same R lin who man (by unfold rowsK; rw [List.length_map, List.length_range])⟩⟩
end
end K88
end
section
set_option Elab.async false
set_option linter.all false
set_option maxRecDepth 100000
set_option maxHeartbeats 400000
namespace K88
open PySem L2
local macro_rules | `(tactic| walk_at "hp") => `(tactic| first | assumption | exact upd_same | (refine (upd_ne (by first | assumption | (apply Ne.symm; assumption))).trans ?_; walk_at "hp"))
local macro_rules | `(tactic| walk_at "rd1") => `(tactic| first
  | (refine ⟨_, rfl, ?_⟩)
  | (refine ⟨_, _, rfl, rfl, ?_⟩)
  | (refine ⟨(rfl : scal _ _ = true), ?_⟩)
  | (refine And.intro (by show (0 : Int) < _; decide) ?_)
  | (refine And.intro (And.intro (by decide) (by decide)) ?_)
  | (refine And.intro (Or.inr (And.intro (by decide) (by decide))) ?_)
  | (refine And.intro (And.intro (by decide) (And.intro (by decide) (by decide))) ?_)
  | (refine And.intro (by assumption) ?_)
  | (refine And.intro (And.intro (by omega) (by omega)) ?_)
  | (refine And.intro (Or.inl (And.intro (by omega) (by omega))) ?_)
  | (refine' ⟨_, _, _, _, rfl, rfl, Or.inl (Or.inl ?h1), ?h2, ?h3⟩; (case h1 => walk_at "hp"); (case h2 => rfl))
  | (refine' ⟨_, _, _, _, rfl, rfl, ?h1, ?h2, ?h3⟩; (case h1 => walk_at "hp"); (case h2 => rfl))
  | (refine' ⟨_, _, rfl, Or.inl (Or.inl (Or.inl ?h1)), ?h3⟩; (case h1 => walk_at "hp"))
  | (refine Or.inl ⟨_, rfl, ?_⟩))
local macro_rules | `(tactic| walk_at "rd") => `(tactic| repeat walk_at "rd1")

/-- right rows with that many mouths, told by their place -/
def RowsAt (H : Hp) (t : Addr) (mo : Nat) (rows : List Str) (wd : Nat) : Prop := H t = some (.tup (rows.map V.str)) ∧ RowsOk rows wd ∧ (∀ r ∈ rows, lineS r = true) ∧ wholeZ (Txt.join "" rows) = true ∧ manyZ (Txt.join "" rows) "12" = (mo : Int)
def Sh (H : Hp) (v : V) : Prop := ∃ (a : Addr) (h w : Nat), v = .ref a ∧ H a = some (.tup [.int h, .int w]) ∧ 1 ≤ h ∧ h ≤ 4 ∧ 1 ≤ w ∧ w ≤ 6 ∧ 3 ≤ h * w ∧ h * w ≤ 9
theorem Sh.same {H H' : Hp} {v : V} (s : Same H H') (h : Sh H v) : Sh H' v := by
  obtain ⟨a, h1, w, e, ha, r⟩ := h
  exact ⟨a, h1, w, e, s _ _ ha, r⟩
abbrev Shg (h w : Nat) : Prop := 1 ≤ h ∧ h ≤ 4 ∧ 1 ≤ w ∧ w ≤ 6 ∧ 3 ≤ h * w ∧ h * w ≤ 9
def ShA (ta : TA) (n : Nat) : Prop := ∀ (σ : St) (H : Hp) (Q : List V → Hp → Prop), (∀ vs H', Same H H' → (∀ v ∈ vs, Sh H' v) → vs.length = n → Q vs H') → ta σ H Q
theorem seq_of {t u : TS} {D : Ends} {σ : St} {H : Hp} (h : t { D with nx := u D } σ H) : tSeq t u D σ H := h
theorem asg_of {te : TE} {g : TG} {D : Ends} {σ : St} {H : Hp} (h : te σ H fun x H1 => g x σ H1 D.nx) : tAsg te g D σ H := h
theorem sh_nil : ShA tNil 0 := fun σ H Q k => k [] H (Same.refl _) (fun v hv => by cases hv) rfl
theorem sh_cons (x y : Int) (h w : Nat) (ex : x = (h : Int)) (ey : y = (w : Int)) (g : Shg h w) {ta : TA} {n : Nat} (r : ShA ta n) : ShA (tCons (tTupA (tCons (tC (.int x)) (tCons (tC (.int y)) tNil))) ta) (n + 1) := fun σ H Q k => by
  subst ex ey
  refine And.intro (Nat.le_of_ble_eq_true rfl) fun t H1 n1 => ?_
  refine r σ H1 _ fun vs H' s hs hl => ?_
  refine k _ H' (n1.same.trans s) (fun v hv => ?_) (by rw [List.length_cons, hl])
  rcases List.mem_cons.mp hv with e | e
  · exact ⟨t, h, w, e, s _ _ n1.at_, g⟩
  · exact hs v e
theorem sh_lst {ta : TA} {n : Nat} (r : ShA ta n) (hn : n ≤ 100) {σ : St} {H : Hp} {Q : V → Hp → Prop} (k : ∀ xs S H1 H2, Same H H1 → (∀ v ∈ xs, Sh H1 v) → xs.length = n → New H1 H2 S (.lst xs) → Q (.ref S) H2) : tLstA ta σ H Q :=
  r σ H _ fun vs H1 s hs hl => ⟨Nat.le_of_lt (sz (by rw [hl]; omega)), fun S H2 n2 => k vs S H1 H2 s hs hl n2⟩
theorem shapes7 : ShA (tCons (tTupA (tCons (tC (.int 1)) (tCons (tC (.int 3)) tNil))) (tCons (tTupA (tCons (tC (.int 1)) (tCons (tC (.int 4)) tNil))) (tCons (tTupA (tCons (tC (.int 1)) (tCons (tC (.int 5)) tNil))) (tCons (tTupA (tCons (tC (.int 1)) (tCons (tC (.int 6)) tNil))) (tCons (tTupA (tCons (tC (.int 2)) (tCons (tC (.int 2)) tNil))) (tCons (tTupA (tCons (tC (.int 2)) (tCons (tC (.int 3)) tNil))) (tCons (tTupA (tCons (tC (.int 3)) (tCons (tC (.int 2)) tNil))) tNil))))))) 7 :=
  sh_cons _ _ 1 3 rfl rfl (by decide) (sh_cons _ _ 1 4 rfl rfl (by decide) (sh_cons _ _ 1 5 rfl rfl (by decide) (sh_cons _ _ 1 6 rfl rfl (by decide) (sh_cons _ _ 2 2 rfl rfl (by decide) (sh_cons _ _ 2 3 rfl rfl (by decide) (sh_cons _ _ 3 2 rfl rfl (by decide) sh_nil))))))
theorem shapes8 : ShA (tCons (tTupA (tCons (tC (.int 2)) (tCons (tC (.int 3)) tNil))) (tCons (tTupA (tCons (tC (.int 3)) (tCons (tC (.int 2)) tNil))) (tCons (tTupA (tCons (tC (.int 2)) (tCons (tC (.int 4)) tNil))) (tCons (tTupA (tCons (tC (.int 4)) (tCons (tC (.int 2)) tNil))) (tCons (tTupA (tCons (tC (.int 2)) (tCons (tC (.int 4)) tNil))) (tCons (tTupA (tCons (tC (.int 3)) (tCons (tC (.int 3)) tNil))) (tCons (tTupA (tCons (tC (.int 3)) (tCons (tC (.int 3)) tNil))) (tCons (tTupA (tCons (tC (.int 3)) (tCons (tC (.int 3)) tNil))) tNil)))))))) 8 :=
  sh_cons _ _ 2 3 rfl rfl (by decide) (sh_cons _ _ 3 2 rfl rfl (by decide) (sh_cons _ _ 2 4 rfl rfl (by decide) (sh_cons _ _ 4 2 rfl rfl (by decide) (sh_cons _ _ 2 4 rfl rfl (by decide) (sh_cons _ _ 3 3 rfl rfl (by decide) (sh_cons _ _ 3 3 rfl rfl (by decide) (sh_cons _ _ 3 3 rfl rfl (by decide) sh_nil)))))))
theorem shapes5 : ShA (tCons (tTupA (tCons (tC (.int 1)) (tCons (tC (.int 3)) tNil))) (tCons (tTupA (tCons (tC (.int 1)) (tCons (tC (.int 4)) tNil))) (tCons (tTupA (tCons (tC (.int 1)) (tCons (tC (.int 4)) tNil))) (tCons (tTupA (tCons (tC (.int 2)) (tCons (tC (.int 2)) tNil))) (tCons (tTupA (tCons (tC (.int 1)) (tCons (tC (.int 5)) tNil))) tNil))))) 5 :=
  sh_cons _ _ 1 3 rfl rfl (by decide) (sh_cons _ _ 1 4 rfl rfl (by decide) (sh_cons _ _ 1 4 rfl rfl (by decide) (sh_cons _ _ 2 2 rfl rfl (by decide) (sh_cons _ _ 1 5 rfl rfl (by decide) sh_nil))))
theorem cut_1 {xs : List V} (h : 1 ≤ xs.length) : cutV xs (some 1) none = xs.drop 1 := by
  unfold cutV
  rw [show HT.sIx xs.length 0 (some 1) = 1 from by rw [show (some (1 : Int)) = some ((1 : Nat) : Int) from rfl, HT.sIx_nat]; omega]
  rw [HT.sIx_none, List.take_of_length_le (by rw [List.length_drop]; omega)]
section
variable {P : Program} {w : World} {K : PySem.W.Frag} {mg : Str → Option Value} {base : Heap}
def spRD (K : PySem.W.Frag) : Sp := fun vs H Q _ => ∃ (p : Addr) (mo : Nat), vs = [.ref p, .int mo] ∧ PoolAt H p ∧ mo ≤ 2 ∧ ∀ t rows wd H', Off (fun b => b = p) H H' → PoolK H H' p → RowsAt H' t mo rows wd → (rows.length ≤ 4 ∧ rows.length * wd ≤ 9) → Q (.ref t) H'
theorem ok_rd {f : Addr} {fd : FuncData} (F : Fun K "_law_room_drawn" "_law_room_drawn" s__law_room_drawn f fd) (T : Rb mg) (c__law_pick : CalG P w K mg base 2 "_law_pick" (spPk K)) (c__law_room_of : CalG P w K mg base 4 "_law_room_of" (spRoomOf K)) :
    FnG P w K mg base (CXe P w) 5 f fd ["pool", "mouths"] (spRD K) := by
  refine F.okG sc__law_room_drawn (fun vs H Q E h => ?_) (fun cdv A outer s H vs Q E hgd hr h => ?_)
  · obtain ⟨p, mo, rfl, _⟩ := h; rfl
  · obtain ⟨p, mo, rfl, hp, hmo, k⟩ := h
    refine ⟨_, (pss_cons (ps_set (i := 2) sc__law_room_drawn.nd rfl (Or.inl rfl) (pe_lstA (pa_cons (pe_tupA (pa_cons pe_int (pa_cons pe_int pa_nil))) (pa_cons (pe_tupA (pa_cons pe_int (pa_cons pe_int pa_nil))) (pa_cons (pe_tupA (pa_cons pe_int (pa_cons pe_int pa_nil))) (pa_cons (pe_tupA (pa_cons pe_int (pa_cons pe_int pa_nil))) (pa_cons (pe_tupA (pa_cons pe_int (pa_cons pe_int pa_nil))) (pa_cons (pe_tupA (pa_cons pe_int (pa_cons pe_int pa_nil))) (pa_cons (pe_tupA (pa_cons pe_int (pa_cons pe_int pa_nil))) pa_nil)))))))))
      (C8.pss_cut (ps_if (pt_cmpR op_lt (pv 1) pe_int (nomark _)) (pss_one (ps_set (i := 2) sc__law_room_drawn.nd rfl (Or.inl rfl) (pe_op op_cat (pv 2) (pe_lstA (pa_cons (pe_tupA (pa_cons pe_int (pa_cons pe_int pa_nil))) (pa_cons (pe_tupA (pa_cons pe_int (pa_cons pe_int pa_nil))) (pa_cons (pe_tupA (pa_cons pe_int (pa_cons pe_int pa_nil))) (pa_cons (pe_tupA (pa_cons pe_int (pa_cons pe_int pa_nil))) (pa_cons (pe_tupA (pa_cons pe_int (pa_cons pe_int pa_nil))) (pa_cons (pe_tupA (pa_cons pe_int (pa_cons pe_int pa_nil))) (pa_cons (pe_tupA (pa_cons pe_int (pa_cons pe_int pa_nil))) (pa_cons (pe_tupA (pa_cons pe_int (pa_cons pe_int pa_nil))) pa_nil)))))))))))) pss_nil)
      (C8.pss_cut (ps_if (pt_cmpR op_eq (pv 1) pe_int (nomark _)) (pss_one (ps_set (i := 2) sc__law_room_drawn.nd rfl (Or.inl rfl) (pe_slice sl_list (pv 2) (po_some pe_int) po_none))) pss_nil)
      (pss_cons (ps_asg (pg_c c__law_pick hgd hr (by first | decide | omega) (pa_cons (pv 0) (pa_cons (pv 2) pa_nil))) (pg_tup (by rfl) (pgs_cons (pg_name (i := 3) sc__law_room_drawn.nd rfl (Or.inl rfl)) (pgs_cons (pg_name (i := 4) sc__law_room_drawn.nd rfl (Or.inl rfl)) pgs_nil))))
      (pss_one (ps_ret (pg_c c__law_room_of hgd hr (by first | decide | omega) (pa_cons (pv 0) (pa_cons (pv 3) (pa_cons (pv 4) (pa_cons (pv 1) pa_nil))))))))))), ?_⟩
    refine seq_of (asg_of (sh_lst shapes7 (by decide) fun xs S H1 H2 s1 hs1 hl1 n2 => ?_))
    have hp2 := hp.k (s1.trans n2.same)
    have o2 : Off (fun b => b = p) H H2 := Off.same (s1.trans n2.same)
    refine ⟨fun σ' H' => ∃ (S : Addr) (xs : List V), σ' = [some (.ref p), some (.int mo), some (.ref S), none, none] ∧ H' S = some (.lst xs) ∧ S ≠ p ∧ (∀ v ∈ xs, Sh H' v) ∧ 2 ≤ xs.length ∧ xs.length ≤ 15 ∧ PoolK H H' p ∧ Off (fun b => b = p) H H', ?_, ?_⟩
    · refine ⟨_, rfl, _, _, rfl, rfl, _, rfl, ?_⟩
      refine ite2 (fun _ => ?_) (fun _ => ⟨S, xs, rfl, n2.at_, (hp.same s1).ne n2.free, fun v hv => (hs1 v hv).same n2.same, by rw [hl1]; decide, by rw [hl1]; decide, hp2, o2⟩)
      refine ⟨_, rfl, ?_⟩
      refine sh_lst shapes8 (by decide) fun ys Z H3 H4 s3 hs3 hl3 n4 => ?_
      refine ⟨S, Z, xs, ys, rfl, rfl, n4.same _ _ (s3 _ _ n2.at_), n4.at_, Nat.le_of_lt (sz (by rw [hl1, hl3]; decide)), fun C hC => ?_⟩
      have s4 := (s3.trans n4.same).trans (same_new (o := .lst (xs ++ ys)) hC)
      refine ⟨C, xs ++ ys, rfl, upd_same, ((hp2.1.same s3).same n4.same).ne hC, fun v hv => ?_, by rw [List.length_append, hl1, hl3]; decide, by rw [List.length_append, hl1, hl3]; decide, hp2.same s4, o2.trans (Off.same s4)⟩
      rcases List.mem_append.mp hv with e | e
      · exact ((hs1 v e).same n2.same).same s4
      · exact ((hs3 v e).same n4.same).same (same_new hC)
    rintro σ' H5 ⟨S, xs, rfl, hS, hSp, hxs, hl, hu, hp5, o5⟩
    refine ⟨fun σ' H' => ∃ (S : Addr) (xs : List V), σ' = [some (.ref p), some (.int mo), some (.ref S), none, none] ∧ H' S = some (.lst xs) ∧ S ≠ p ∧ (∀ v ∈ xs, Sh H' v) ∧ 1 ≤ xs.length ∧ xs.length ≤ 15 ∧ PoolK H H' p ∧ Off (fun b => b = p) H H', ?_, ?_⟩
    · refine ⟨_, rfl, (rfl : scal _ _ = true), _, rfl, ?_⟩
      refine ite2 (fun _ => ?_) (fun _ => ⟨S, xs, rfl, hS, hSp, hxs, by omega, hu, hp5, o5⟩)
      refine ⟨_, rfl, _, rfl, S, xs, rfl, SqL.of hS, fun C hC => ?_⟩
      rw [cut_1 (by omega)]
      have s6 : Same H5 (upd H5 C (.lst (xs.drop 1))) := same_new hC
      exact ⟨C, xs.drop 1, rfl, upd_same, hp5.1.ne hC, fun v hv => (hxs v (List.mem_of_mem_drop hv)).same s6, by rw [List.length_drop]; omega, by rw [List.length_drop]; omega, hp5.same s6, o5.trans (Off.same s6)⟩
    rintro σ' H6 ⟨S, xs, rfl, hS, hSp, hxs, hl, hu, hp6, o6⟩
    refine ⟨_, rfl, _, rfl, p, .ref S, rfl, hp6.1, .inl ⟨S, xs, rfl, hS, hSp, by omega, by omega, fun x H7 hx o7 hp7 => ?_⟩⟩
    obtain ⟨a, h, wd, rfl, ha, h1, h5, w1, w6, hn3, hn24⟩ := hxs x hx
    have ha7 := o7 _ _ (hp6.1.notTup ha) ha
    refine ⟨a, [V.int h, V.int wd], rfl, SqT.of ha7, rfl, ?_⟩
    refine ⟨_, _, rfl, _, _, rfl, rfl, _, rfl, _, rfl, _, rfl, _, rfl, p, h, wd, mo, rfl, hp7.1, h1, by omega, w1, w6, by omega, hmo, by omega, fun t rows H8 o8 hp8 ht R lin who man hlen => ?_⟩
    exact k t rows wd H8 ((o6.trans o7).trans o8) ((hp6.trans hp7).trans hp8) ⟨ht, R, lin, who, man⟩ ⟨by omega, by rw [hlen]; omega⟩
theorem ok_small {f : Addr} {fd : FuncData} (F : Fun K "_law_small" "_law_small" s__law_small f fd) (T : Rb mg) (c__law_pick : CalG P w K mg base 2 "_law_pick" (spPk K)) (c__law_room_of : CalG P w K mg base 4 "_law_room_of" (spRoomOf K)) :
    FnG P w K mg base (CXe P w) 5 f fd ["pool", "mouths"] (spRD K) := by
  refine F.okG sc__law_small (fun vs H Q E h => ?_) (fun cdv A outer s H vs Q E hgd hr h => ?_)
  · obtain ⟨p, mo, rfl, _⟩ := h; rfl
  · obtain ⟨p, mo, rfl, hp, hmo, k⟩ := h
    refine ⟨_, (pss_cons (ps_set (i := 2) sc__law_small.nd rfl (Or.inl rfl) (pe_lstA (pa_cons (pe_tupA (pa_cons pe_int (pa_cons pe_int pa_nil))) (pa_cons (pe_tupA (pa_cons pe_int (pa_cons pe_int pa_nil))) (pa_cons (pe_tupA (pa_cons pe_int (pa_cons pe_int pa_nil))) (pa_cons (pe_tupA (pa_cons pe_int (pa_cons pe_int pa_nil))) (pa_cons (pe_tupA (pa_cons pe_int (pa_cons pe_int pa_nil))) pa_nil)))))))
      (C8.pss_cut (ps_if (pt_cmpR op_eq (pv 1) pe_int (nomark _)) (pss_one (ps_set (i := 2) sc__law_small.nd rfl (Or.inl rfl) (pe_slice sl_list (pv 2) (po_some pe_int) po_none))) pss_nil)
      (pss_cons (ps_asg (pg_c c__law_pick hgd hr (by first | decide | omega) (pa_cons (pv 0) (pa_cons (pv 2) pa_nil))) (pg_tup (by rfl) (pgs_cons (pg_name (i := 3) sc__law_small.nd rfl (Or.inl rfl)) (pgs_cons (pg_name (i := 4) sc__law_small.nd rfl (Or.inl rfl)) pgs_nil))))
      (pss_one (ps_ret (pg_c c__law_room_of hgd hr (by first | decide | omega) (pa_cons (pv 0) (pa_cons (pv 3) (pa_cons (pv 4) (pa_cons (pv 1) pa_nil)))))))))), ?_⟩
    refine seq_of (asg_of (sh_lst shapes5 (by decide) fun xs S H1 H2 s1 hs1 hl1 n2 => ?_))
    have hp2 := hp.k (s1.trans n2.same)
    have o2 : Off (fun b => b = p) H H2 := Off.same (s1.trans n2.same)
    refine ⟨fun σ' H' => ∃ (S : Addr) (xs : List V), σ' = [some (.ref p), some (.int mo), some (.ref S), none, none] ∧ H' S = some (.lst xs) ∧ S ≠ p ∧ (∀ v ∈ xs, Sh H' v) ∧ 1 ≤ xs.length ∧ xs.length ≤ 15 ∧ PoolK H H' p ∧ Off (fun b => b = p) H H', ?_, ?_⟩
    · refine ⟨_, rfl, (rfl : scal _ _ = true), _, rfl, ?_⟩
      refine ite2 (fun _ => ?_) (fun _ => ⟨S, xs, rfl, n2.at_, (hp.same s1).ne n2.free, fun v hv => (hs1 v hv).same n2.same, by rw [hl1]; decide, by rw [hl1]; decide, hp2, o2⟩)
      refine ⟨_, rfl, _, rfl, S, xs, rfl, SqL.of n2.at_, fun C hC => ?_⟩
      rw [cut_1 (by rw [hl1]; decide)]
      have s6 : Same H2 (upd H2 C (.lst (xs.drop 1))) := same_new hC
      exact ⟨C, xs.drop 1, rfl, upd_same, hp2.1.ne hC, fun v hv => ((hs1 v (List.mem_of_mem_drop hv)).same n2.same).same s6, by rw [List.length_drop, hl1]; decide, by rw [List.length_drop, hl1]; decide, hp2.same s6, o2.trans (Off.same s6)⟩
    rintro σ' H6 ⟨S, xs, rfl, hS, hSp, hxs, hl, hu, hp6, o6⟩
    refine ⟨_, rfl, _, rfl, p, .ref S, rfl, hp6.1, .inl ⟨S, xs, rfl, hS, hSp, by omega, by omega, fun x H7 hx o7 hp7 => ?_⟩⟩
    obtain ⟨a, h, wd, rfl, ha, h1, h5, w1, w6, hn3, hn24⟩ := hxs x hx
    have ha7 := o7 _ _ (hp6.1.notTup ha) ha
    refine ⟨a, [V.int h, V.int wd], rfl, SqT.of ha7, rfl, ?_⟩
    refine ⟨_, _, rfl, _, _, rfl, rfl, _, rfl, _, rfl, _, rfl, _, rfl, p, h, wd, mo, rfl, hp7.1, h1, by omega, w1, w6, by omega, hmo, by omega, fun t rows H8 o8 hp8 ht R lin who man hlen => ?_⟩
    exact k t rows wd H8 ((o6.trans o7).trans o8) ((hp6.trans hp7).trans hp8) ⟨ht, R, lin, who, man⟩ ⟨by omega, by rw [hlen]; omega⟩
end
end K88
end
section
set_option Elab.async false
set_option linter.all false
set_option maxRecDepth 100000
set_option maxHeartbeats 2000000
namespace K88
open PySem L2
local macro_rules | `(tactic| walk_at "hp") => `(tactic| first | assumption | exact upd_same | (refine (upd_ne (by first | assumption | (apply Ne.symm; assumption))).trans ?_; walk_at "hp"))
local macro_rules | `(tactic| walk_at "rd1") => `(tactic| first
  | (refine ⟨_, rfl, ?_⟩)
  | (refine ⟨_, _, rfl, rfl, ?_⟩)
  | (refine ⟨(rfl : scal _ _ = true), ?_⟩)
  | (refine And.intro (by show (0 : Int) < _; decide) ?_)
  | (refine And.intro (And.intro (by decide) (by decide)) ?_)
  | (refine And.intro (Or.inr (And.intro (by decide) (by decide))) ?_)
  | (refine And.intro (And.intro (by decide) (And.intro (by decide) (by decide))) ?_)
  | (refine And.intro (by assumption) ?_)
  | (refine And.intro (And.intro (by omega) (by omega)) ?_)
  | (refine And.intro (Or.inl (And.intro (by omega) (by omega))) ?_)
  | (refine' ⟨_, _, _, _, rfl, rfl, Or.inl (Or.inl ?h1), ?h2, ?h3⟩; (case h1 => walk_at "hp"); (case h2 => rfl))
  | (refine' ⟨_, _, _, _, rfl, rfl, ?h1, ?h2, ?h3⟩; (case h1 => walk_at "hp"); (case h2 => rfl))
  | (refine' ⟨_, _, rfl, Or.inl (Or.inl (Or.inl ?h1)), ?h3⟩; (case h1 => walk_at "hp"))
  | (refine Or.inl ⟨_, rfl, ?_⟩))
local macro_rules | `(tactic| walk_at "rd") => `(tactic| repeat walk_at "rd1")

inductive Tr where
  | nd (rows : List Str) (wd : Nat) (ch : List Tr)
theorem Tr.ind {R : Tr → Prop} (h : ∀ rows wd ch, (∀ c ∈ ch, R c) → R (.nd rows wd ch)) : ∀ t, R t
  | .nd rows wd ch => h rows wd ch fun c _ => Tr.ind h c
def Tr.cnt : Tr → Nat
  | .nd _ _ ch => 1 + (ch.map Tr.cnt).sum
theorem cnt_nd (rows : List Str) (wd : Nat) (ch : List Tr) : (Tr.nd rows wd ch).cnt = 1 + (ch.map Tr.cnt).sum := by rw [Tr.cnt]
inductive TreeAt (H : Hp) : V → Tr → Prop
  | mk {a r c : Addr} {rows : List Str} {wd : Nat} {vs : List V} {ch : List Tr} : H a = some (.tup [.ref r, .ref c]) → RowsAt H r ch.length rows wd → H c = some (.tup vs) → vs.length = ch.length → (∀ (i : Nat) (v : V) (t : Tr), vs[i]? = some v → ch[i]? = some t → TreeAt H v t) → TreeAt H (.ref a) (.nd rows wd ch)
theorem TreeAt.keep {H H' : Hp} (k : ∀ (a : Addr) (xs : List V), H a = some (.tup xs) → H' a = some (.tup xs)) {v : V} {t : Tr} (h : TreeAt H v t) : TreeAt H' v t := by
  induction h with
  | mk h1 h2 h3 h4 _ ih => exact .mk (k _ _ h1) ⟨k _ _ h2.1, h2.2⟩ (k _ _ h3) h4 ih
theorem TreeAt.same {H H' : Hp} (s : Same H H') {v : V} {t : Tr} (h : TreeAt H v t) : TreeAt H' v t := h.keep fun _ _ e => s _ _ e
theorem TreeAt.off {H H' : Hp} {p : Addr} (hp : PoolAt H p) (o : Off (fun b => b = p) H H') {v : V} {t : Tr} (h : TreeAt H v t) : TreeAt H' v t := h.keep fun _ _ e => o _ _ (hp.notTup e) e
/-- all rooms are of four lines at most -/
inductive Low : Tr → Prop
  | mk {rows : List Str} {wd : Nat} {ch : List Tr} : (rows.length ≤ 4 ∧ rows.length * wd ≤ 9) → (∀ c ∈ ch, Low c) → Low (.nd rows wd ch)
/-- more built-ins that stand -/
structure LvB (mg : Str → Option Value) : Prop where
  n_len : mg "len" = none
  n_range : mg "range" = none
  n_tuple : mg "tuple" = none
  n_list : mg "list" = none
  n_min : mg "min" = none
  n_sum : mg "sum" = none
  n_max : mg "max" = none
  n_isinstance : mg "isinstance" = none
  n_enumerate : mg "enumerate" = none
/-- what stands below n -/
def below (sp : Nat → Sp) (n : Nat) : Sp := fun vs H Q E => ∃ m, m < n ∧ sp m vs H Q E
def TsAt (H : Hp) (vs : List V) (ts : List Tr) : Prop := vs.length = ts.length ∧ ∀ (i : Nat) (v : V) (t : Tr), vs[i]? = some v → ts[i]? = some t → TreeAt H v t
theorem TsAt.keep {H H' : Hp} {vs : List V} {ts : List Tr} (h : TsAt H vs ts) (k : ∀ (a : Addr) (xs : List V), H a = some (.tup xs) → H' a = some (.tup xs)) : TsAt H' vs ts := ⟨h.1, fun i v t e1 e2 => (h.2 i v t e1 e2).keep k⟩
theorem TsAt.snoc {H : Hp} {vs : List V} {ts : List Tr} {v : V} {t : Tr} (h : TsAt H vs ts) (h2 : TreeAt H v t) : TsAt H (vs ++ [v]) (ts ++ [t]) := ⟨by rw [List.length_append, List.length_append, h.1]; rfl, fun i x y e1 e2 => by
  by_cases hi : i < vs.length
  · rw [List.getElem?_append_left hi] at e1
    rw [List.getElem?_append_left (by rw [← h.1]; exact hi)] at e2
    exact h.2 i x y e1 e2
  · rw [List.getElem?_append_right (by omega)] at e1
    rw [List.getElem?_append_right (by rw [← h.1]; omega), ← h.1] at e2
    cases hk : i - vs.length with
    | zero =>
      rw [hk] at e1 e2
      cases e1; cases e2; exact h2
    | succ k => rw [hk] at e1; cases e1⟩
section
variable {P : Program} {w : World} {K : PySem.W.Frag} {mg : Str → Option Value} {base : Heap}
def spTree (K : PySem.W.Frag) (n : Nat) : Sp := fun vs H Q _ => ∃ (p : Addr) (sm : Bool), vs = [.ref p, .int (n + 1 : Nat), .bl sm] ∧ PoolAt H p ∧ n < 1000 ∧ ∀ v t H', Off (fun b => b = p) H H' → PoolK H H' p → TreeAt H' v t → t.cnt ≤ n + 1 → Low t → Q v H'
theorem ok_tree {f : Addr} {fd : FuncData} {n : Nat} (F : Fun K "_law_tree" "_law_tree" s__law_tree f fd) (T : LvB mg) (c__law_draw : CalG P w K mg base 1 "_law_draw" (spDraw K)) (c__law_pick : CalG P w K mg base 2 "_law_pick" (spPk K)) (c__law_small : CalG P w K mg base 5 "_law_small" (spRD K)) (c__law_room_drawn : CalG P w K mg base 5 "_law_room_drawn" (spRD K))
    (c__law_tree : CalG P w K mg base (5 + n) "_law_tree" (below (spTree K) n)) : FnG P w K mg base (CXe P w) (5 + n + 1) f fd ["pool", "most", "is_small"] (spTree K n) := by
  refine F.okG sc__law_tree (fun vs H Q E h => ?_) (fun cdv A outer s H vs Q E hgd hr h => ?_)
  · obtain ⟨p, sm, rfl, _⟩ := h; rfl
  · obtain ⟨p, sm, rfl, hp, hn, k⟩ := h
    refine ⟨_, (pss_cons (ps_set (i := 3) sc__law_tree.nd rfl (Or.inl rfl) pe_int)
      (C8.pss_cut (ps_if (pt_cmpR op_gt (pv 1) pe_int (nomark _)) (pss_one (ps_set (i := 3) sc__law_tree.nd rfl (Or.inl rfl) (pg_c c__law_pick hgd hr (by omega) (pa_cons (pv 0) (pa_cons (pe_lstA (pa_cons pe_int (pa_cons pe_int (pa_cons pe_int (pa_cons pe_int (pa_cons pe_int pa_nil)))))) pa_nil))))) pss_nil)
      (pss_cons (ps_set (i := 3) sc__law_tree.nd rfl (Or.inl rfl) (pe_callB (call_min2 rfl) (by rfl) T.n_min (by decide +kernel) (pa_cons (pv 3) (pa_cons (pe_op op_sub (pv 1) pe_int) pa_nil))))
      (pss_cons (ps_set (i := 4) sc__law_tree.nd rfl (Or.inl rfl) (pe_lstA pa_nil))
      (pss_cons (ps_set (i := 5) sc__law_tree.nd rfl (Or.inl rfl) (pe_op op_sub (pv 1) pe_int))
      (pss_cons (ps_for (passes_of rfl) rfl (pi_range1 (by rfl) T.n_range (pa_cons (pv 3) pa_nil)) (pg_name (i := 6) sc__law_tree.nd rfl (Or.inl rfl))
      (pss_cons (ps_set (i := 7) sc__law_tree.nd rfl (Or.inl rfl) (pe_op op_sub (pv 5) (pe_op op_sub (pe_op op_sub (pv 3) pe_int) (pv 6))))
      (C8.pss_cut (ps_if (pt_cmpR op_lt (pe_op op_add (pv 6) pe_int) (pv 3) (nomark _)) (pss_one (ps_set (i := 7) sc__law_tree.nd rfl (Or.inl rfl) (pe_op op_add pe_int (pg_c c__law_draw hgd hr (by omega) (pa_cons (pv 0) (pa_cons (pv 7) pa_nil)))))) pss_nil)
      (pss_cons (ps_set (i := 8) sc__law_tree.nd rfl (Or.inl rfl) (pg_c c__law_tree hgd hr (by omega) (pa_cons (pv 0) (pa_cons (pv 7) (pa_cons (pv 2) pa_nil)))))
      (pss_cons (ps_expr (pe_bm PySem.F.plainAttrs_list PySem.F.slot_list_append PySem.F.type_list_append mt_append (pv 4) (pa_cons (pv 8) pa_nil)))
      (pss_one (ps_set (i := 5) sc__law_tree.nd rfl (Or.inl rfl) (pe_op op_sub (pv 5) (pv 7)))))))))
      (pss_cons (ps_if (pt_val (pv 2)) (pss_one (ps_ret (pe_tupA (pa_cons (pg_c c__law_small hgd hr (by omega) (pa_cons (pv 0) (pa_cons (pv 3) pa_nil))) (pa_cons (pe_callTy call_tuple_of (by rfl) T.n_tuple (by decide +kernel) (pa_cons (pv 4) pa_nil)) pa_nil))))) pss_nil)
      (pss_one (ps_ret (pe_tupA (pa_cons (pg_c c__law_room_drawn hgd hr (by omega) (pa_cons (pv 0) (pa_cons (pv 3) pa_nil))) (pa_cons (pe_callTy call_tuple_of (by rfl) T.n_tuple (by decide +kernel) (pa_cons (pv 4) pa_nil)) pa_nil)))))))))))), ?_⟩
    refine ⟨fun σ' H' => ∃ mo : Nat, σ' = [some (.ref p), some (.int (n + 1 : Nat)), some (.bl sm), some (.int mo), none, none, none, none, none] ∧ mo ≤ 2 ∧ PoolK H H' p ∧ Off (fun b => b = p) H H', ?_, ?_⟩
    · refine ⟨_, rfl, _, _, rfl, rfl, _, rfl, ?_⟩
      refine ite2 (fun _ => ?_) (fun _ => ⟨0, rfl, by decide, .refl hp, Off.refl _⟩)
      refine ⟨_, rfl, And.intro (Nat.le_of_ble_eq_true rfl) fun L H1 n1 => ?_⟩
      refine ⟨p, .ref L, rfl, hp.same n1.same, .inl ⟨L, _, rfl, n1.at_, hp.ne n1.free, by decide, by decide, fun x H2 hx o2 hp2 => ?_⟩⟩
      have : ∃ mo : Nat, x = .int mo ∧ mo ≤ 2 := by
        simp only [List.mem_cons, List.not_mem_nil, or_false] at hx
        rcases hx with rfl | rfl | rfl | rfl | rfl
        · exact ⟨0, rfl, by decide⟩
        · exact ⟨1, rfl, by decide⟩
        · exact ⟨1, rfl, by decide⟩
        · exact ⟨1, rfl, by decide⟩
        · exact ⟨2, rfl, by decide⟩
      obtain ⟨mo, rfl, hmo⟩ := this
      exact ⟨mo, rfl, hmo, (hp.k n1.same).trans hp2, n1.off.trans o2⟩
    rintro σ' H1 ⟨mo, rfl, hmo, hp1, o1⟩
    have e : V.int (if ((n + 1 : Nat) : Int) - 1 < (mo : Int) then ((n + 1 : Nat) : Int) - 1 else (mo : Int)) = V.int ((min mo n : Nat) : Int) := by
      congr 1
      split <;> omega
    obtain ⟨m2, hm2⟩ : ∃ m2, m2 = min mo n := ⟨_, rfl⟩
    refine ⟨_, rfl, _, rfl, _, _, rfl, rfl, _, _, rfl, ?_⟩
    rw [e, ← hm2]
    refine And.intro (Nat.zero_le _) fun C H3 n3 => ?_
    have hp3 := hp1.same n3.same
    have ap3 := (hp1.1.apart n3.free).same hp1.1 n3.same
    have hCp : C ≠ p := hp1.1.ne n3.free
    have o3 := o1.trans n3.off
    have hCH : H C = none := by
      cases e1 : H C with
      | none => rfl
      | some u =>
        have := o1 C u hCp e1
        rw [n3.free] at this; cases this
    refine ⟨_, rfl, _, _, rfl, rfl, ?_⟩
    refine ⟨_, rfl, _, rfl, by omega, by omega, ?_⟩
    rw [Int.toNat_natCast]
    have en : V.int (((n + 1 : Nat) : Int) - 1) = V.int (n : Int) := congrArg V.int (by omega)
    refine for_range (n := m2) (fun i σ H' => ∃ (left : Nat) (o6 o7 o8 : Option V) (vs : List V) (ts : List Tr), σ = [some (.ref p), some (.int (n + 1 : Nat)), some (.bl sm), some (.int m2), some (.ref C), some (.int left), o6, o7, o8] ∧ H' C = some (.lst vs) ∧ vs.length = i ∧ TsAt H' vs ts ∧ (∀ c ∈ ts, Low c) ∧ (ts.map Tr.cnt).sum + left ≤ n ∧ m2 ≤ left + i ∧ PoolK H H' p ∧ Apart H' p C ∧ Off (fun b => b = p) H H') ⟨n, none, none, none, [], [], by rw [← en]; rfl, n3.at_, rfl, ⟨rfl, fun i v t e1 _ => by simp at e1⟩, (fun c hc => by cases hc), Nat.le_of_eq (Nat.zero_add n), by omega, hp3, ap3, o3⟩ ?_ ?_
    · rintro i σ H4 hi ⟨left, o6, o7, o8, vs, ts, rfl, hC4, hvl, hts, hlow, hsum, hle, hp4, ap4, o4⟩
      refine ⟨_, rfl, _, rfl, _, _, rfl, rfl, _, rfl, _, _, rfl, rfl, _, _, rfl, rfl, ?_⟩
      obtain ⟨sh, hsh⟩ : ∃ sh : Nat, sh = left + i + 1 - m2 := ⟨_, rfl⟩
      have es : V.int ((left : Int) - ((m2 : Int) - 1 - (0 + (i : Int)))) = V.int (sh : Int) := congrArg V.int (by omega)
      refine ⟨fun σ' H' => ∃ sh : Nat, σ' = [some (.ref p), some (.int (n + 1 : Nat)), some (.bl sm), some (.int m2), some (.ref C), some (.int left), some (.int (0 + (i : Int))), some (.int sh), o8] ∧ 1 ≤ sh ∧ sh + m2 ≤ left + i + 1 ∧ PoolK H4 H' p ∧ Off (fun b => b = p) H4 H', ?_, ?_⟩
      · refine ⟨_, rfl, _, _, rfl, rfl, _, rfl, _, _, rfl, rfl, _, rfl, ?_⟩
        refine ite2 (fun _ => ?_) (fun _ => ⟨sh, by rw [← es]; rfl, by omega, by omega, .refl hp4.1, Off.refl _⟩)
        refine ⟨_, rfl, _, rfl, p, (sh : Int), congrArg (fun x => [V.ref p, x]) es, hp4.1, by omega, by omega, fun r H5 ra rb o5 hp5 => ?_⟩
        obtain ⟨rn, rfl⟩ := Int.eq_ofNat_of_zero_le ra
        exact ⟨_, _, rfl, rfl, 1 + rn, by push_cast; rfl, by omega, by omega, hp5, o5⟩
      rintro σ' H5 ⟨sh, rfl, hs1, hs2, hp5, o5⟩
      obtain ⟨m, rfl⟩ : ∃ m, sh = m + 1 := ⟨sh - 1, by omega⟩
      have hC5 := o5 _ _ hCp hC4
      refine ⟨_, rfl, _, rfl, _, rfl, m, by omega, p, sm, rfl, hp5.1, by omega, fun v t H6 o6' hp6 ht hc htl => ?_⟩
      have hC6 := o6' _ _ hCp hC5
      have ap5 := (hp5.2 C (by rw [hC4]; simp) ap4).2
      have ap6 := (hp6.2 C (by rw [hC5]; simp) ap5).2
      refine ⟨_, rfl, .inl ⟨rfl, _, SqL.of hC6⟩, _, rfl, _, _, _, rfl, rfl, hC6, sz (by omega), ?_⟩
      have o56 := o5.trans o6'
      have off7 : Off (fun b => b = p) H (upd H6 C (.lst (vs ++ [v]))) := fun b u nb e1 => by
        rw [upd_ne (fun z => by rw [z, hCH] at e1; cases e1)]
        exact (o4.trans o56) b u nb e1
      have kp : ∀ (a : Addr) (xs : List V), H6 a = some (.tup xs) → upd H6 C (.lst (vs ++ [v])) a = some (.tup xs) := fun a xs e1 => by
        rw [upd_ne (fun z => by rw [z, hC6] at e1; cases e1)]; exact e1
      have hts6 := (hts.keep (fun a xs e1 => o56 _ _ (hp4.1.notTup e1) e1)).snoc ht
      refine ⟨_, rfl, _, rfl, _, _, rfl, rfl, left - (m + 1), some (V.int (0 + (i : Int))), some (V.int ((m + 1 : Nat) : Int)), some v, vs ++ [v], ts ++ [t], ?_, upd_same, by rw [List.length_append, hvl]; rfl, hts6.keep kp, (fun c hc => by
          rcases List.mem_append.mp hc with hc | hc
          · exact hlow c hc
          · simp only [List.mem_cons, List.not_mem_nil, or_false] at hc; subst hc; exact htl), ?_, by omega, ((hp4.trans hp5).trans hp6).mut ap6, ap6.upd hCp, off7⟩
      · have : (left : Int) - ((m + 1 : Nat) : Int) = ((left - (m + 1) : Nat) : Int) := by omega
        show [_, _, _, _, _, some (V.int ((left : Int) - ((m + 1 : Nat) : Int))), _, _, _] = _
        rw [this]
      · rw [List.map_append, List.sum_append]
        show _ + (t.cnt + 0) + _ ≤ n
        omega
    rintro σ H4 ⟨left, o6, o7, o8, vs, ts, rfl, hC4, hvl, hts, hlow, hsum, hle, hp4, ap4, o4⟩
    have fin : ∀ r rows wd H5, Off (fun b => b = p) H4 H5 → PoolK H4 H5 p → RowsAt H5 r m2 rows wd → (rows.length ≤ 4 ∧ rows.length * wd ≤ 9) → ∀ l, H5 l = none → ∀ a H7, New (upd H5 l (HO.tup vs)) H7 a (.tup [.ref r, .ref l]) → Q (.ref a) H7 := fun r rows wd H5 o5 hp5 hR hrl l hl a H7 n7 => by
      have hC5 := o5 _ _ hCp hC4
      have s6 : Same H5 (upd H5 l (HO.tup vs)) := same_new hl
      have s7 := s6.trans n7.same
      refine k _ (.nd rows wd ts) H7 ((o4.trans o5).trans (Off.same s7)) ((hp4.trans hp5).same s7) ?_ ?_ (.mk hrl hlow)
      · refine .mk n7.at_ ⟨s7 _ _ hR.1, ?_⟩ (n7.same _ _ upd_same) hts.1 fun i v t e1 e2 => ?_
        · rw [show ts.length = m2 from by rw [← hts.1, hvl]]; exact hR.2
        · exact ((hts.2 i v t e1 e2).keep fun a xs e => o5 _ _ (hp4.1.notTup e) e).same s7
      · rw [cnt_nd]; omega
    have fin2 : ∀ r H5, Off (fun b => b = p) H4 H5 → PoolK H4 H5 p → (∃ rows wd, RowsAt H5 r m2 rows wd ∧ rows.length ≤ 4 ∧ rows.length * wd ≤ 9) → H5 C = some (.lst vs) ∧ ∀ l, H5 l = none → ∀ a H7, New (upd H5 l (HO.tup vs)) H7 a (.tup [.ref r, .ref l]) → Q (.ref a) H7 := fun r H5 o5 hp5 ⟨rows, wd, hR, hrl⟩ => ⟨o5 _ _ hCp hC4, fin r rows wd H5 o5 hp5 hR hrl⟩
    cases sm with
    | true =>
      refine ⟨_, rfl, _, rfl, iteT ?_⟩
      refine ⟨_, rfl, _, rfl, p, m2, rfl, hp4.1, by omega, fun r rows wd H5 o5 hp5 hR hrl => ?_⟩
      obtain ⟨hC5, f2⟩ := fin2 r H5 o5 hp5 ⟨rows, wd, hR, hrl⟩
      exact ⟨_, rfl, C, vs, rfl, .inl ⟨SqL.of hC5, fun l hl => And.intro (Nat.le_of_ble_eq_true rfl) (f2 l hl)⟩⟩
    | false =>
      refine ⟨_, rfl, _, rfl, iteF ?_⟩
      refine ⟨_, rfl, _, rfl, p, m2, rfl, hp4.1, by omega, fun r rows wd H5 o5 hp5 hR hrl => ?_⟩
      obtain ⟨hC5, f2⟩ := fin2 r H5 o5 hp5 ⟨rows, wd, hR, hrl⟩
      exact ⟨_, rfl, C, vs, rfl, .inl ⟨SqL.of hC5, fun l hl => And.intro (Nat.le_of_ble_eq_true rfl) (f2 l hl)⟩⟩
end
end K88
end
section
set_option Elab.async false
set_option linter.all false
set_option maxRecDepth 100000
set_option maxHeartbeats 2000000
namespace K88
open PySem L2
local macro_rules | `(tactic| walk_at "hp") => `(tactic| first | assumption | exact upd_same | (refine (upd_ne (by first | assumption | (apply Ne.symm; assumption))).trans ?_; walk_at "hp"))
local macro_rules | `(tactic| walk_at "rd1") => `(tactic| first
  | (refine ⟨_, rfl, ?_⟩)
  | (refine ⟨_, _, rfl, rfl, ?_⟩)
  | (refine ⟨(rfl : scal _ _ = true), ?_⟩)
  | (refine And.intro (by show (0 : Int) < _; decide) ?_)
  | (refine And.intro (And.intro (by decide) (by decide)) ?_)
  | (refine And.intro (Or.inr (And.intro (by decide) (by decide))) ?_)
  | (refine And.intro (And.intro (by decide) (And.intro (by decide) (by decide))) ?_)
  | (refine And.intro (by assumption) ?_)
  | (refine And.intro (And.intro (by omega) (by omega)) ?_)
  | (refine And.intro (Or.inl (And.intro (by omega) (by omega))) ?_)
  | (refine' ⟨_, _, _, _, rfl, rfl, Or.inl (Or.inl ?h1), ?h2, ?h3⟩; (case h1 => walk_at "hp"); (case h2 => rfl))
  | (refine' ⟨_, _, _, _, rfl, rfl, ?h1, ?h2, ?h3⟩; (case h1 => walk_at "hp"); (case h2 => rfl))
  | (refine' ⟨_, _, rfl, Or.inl (Or.inl (Or.inl ?h1)), ?h3⟩; (case h1 => walk_at "hp"))
  | (refine Or.inl ⟨_, rfl, ?_⟩))
local macro_rules | `(tactic| walk_at "rd") => `(tactic| repeat walk_at "rd1")

theorem mem_le_sum {x : Nat} : ∀ {L : List Nat}, x ∈ L → x ≤ L.sum
  | y :: r, h => by
    rw [List.sum_cons]
    rcases List.mem_cons.mp h with rfl | h
    · omega
    · have := mem_le_sum h
      omega
theorem cnt_pos : ∀ t : Tr, 1 ≤ t.cnt
  | .nd rows wd ch => by rw [cnt_nd]; omega
theorem cnt_child {rows : List Str} {wd n : Nat} {ch : List Tr} {t : Tr} (h : (Tr.nd rows wd ch).cnt ≤ n + 1) (m : t ∈ ch) : t.cnt ≤ n ∧ 1 ≤ n := by
  rw [cnt_nd] at h
  have h1 := mem_le_sum (List.mem_map_of_mem (f := Tr.cnt) m)
  have h2 := cnt_pos t
  omega
theorem sum_cast (L : List Tr) : (L.map fun t => (t.cnt : Int)).sum = ((L.map Tr.cnt).sum : Nat) := by
  induction L with
  | nil => rfl
  | cons a r ih => rw [List.map_cons, List.map_cons, List.sum_cons, List.sum_cons, ih]; push_cast; rfl
section
variable {P : Program} {w : World} {K : PySem.W.Frag} {mg : Str → Option Value} {base : Heap}
def atMost (N : Nat) (sp : Nat → Sp) : Sp := fun vs H Q E => ∃ n, n ≤ N ∧ sp n vs H Q E
def spLD (K : PySem.W.Frag) (N : Nat) : Sp := fun vs H Q _ => ∃ (p : Addr) (n : Nat), vs = [.ref p, .int (n + 1 : Nat)] ∧ PoolAt H p ∧ n ≤ N ∧ N < 1000 ∧ ∀ v t H', Off (fun b => b = p) H H' → PoolK H H' p → TreeAt H' v t → t.cnt ≤ n + 1 → Low t → Q v H'
theorem ok_ld {f : Addr} {fd : FuncData} {N : Nat} (F : Fun K "_law_level_drawn" "_law_level_drawn" s__law_level_drawn f fd) (c__law_tree : CalG P w K mg base (5 + N + 1) "_law_tree" (atMost N (spTree K))) : FnG P w K mg base (CXe P w) (5 + N + 2) f fd ["pool", "most"] (spLD K N) := by
  refine F.okG sc__law_level_drawn (fun vs H Q E h => ?_) (fun cdv A outer s H vs Q E hgd hr h => ?_)
  · obtain ⟨p, n, rfl, _⟩ := h; rfl
  · obtain ⟨p, n, rfl, hp, hn, hN, k⟩ := h
    refine ⟨_, (pss_one (ps_ret (pg_c c__law_tree hgd hr (by omega) (pa_cons (pv 0) (pa_cons (pv 1) (pa_cons pe_bl pa_nil)))))), ?_⟩
    exact ⟨_, rfl, _, rfl, n, hn, p, false, rfl, hp, by omega, k⟩
def spRms (K : PySem.W.Frag) (n : Nat) : Sp := fun vs H Q _ => ∃ (v : V) (t : Tr), vs = [v] ∧ TreeAt H v t ∧ t.cnt ≤ n + 1 ∧ n < 1000 ∧ ∀ H', Same H H' → Q (.int t.cnt) H'
end
end K88
end
section
set_option Elab.async false
set_option linter.all false
set_option maxRecDepth 100000
set_option maxHeartbeats 2000000
namespace K88
open PySem L2
local macro_rules | `(tactic| walk_at "hp") => `(tactic| first | assumption | exact upd_same | (refine (upd_ne (by first | assumption | (apply Ne.symm; assumption))).trans ?_; walk_at "hp"))
local macro_rules | `(tactic| walk_at "rd1") => `(tactic| first
  | (refine ⟨_, rfl, ?_⟩)
  | (refine ⟨_, _, rfl, rfl, ?_⟩)
  | (refine ⟨(rfl : scal _ _ = true), ?_⟩)
  | (refine And.intro (by show (0 : Int) < _; decide) ?_)
  | (refine And.intro (And.intro (by decide) (by decide)) ?_)
  | (refine And.intro (Or.inr (And.intro (by decide) (by decide))) ?_)
  | (refine And.intro (And.intro (by decide) (And.intro (by decide) (by decide))) ?_)
  | (refine And.intro (by assumption) ?_)
  | (refine And.intro (And.intro (by omega) (by omega)) ?_)
  | (refine And.intro (Or.inl (And.intro (by omega) (by omega))) ?_)
  | (refine' ⟨_, _, _, _, rfl, rfl, Or.inl (Or.inl ?h1), ?h2, ?h3⟩; (case h1 => walk_at "hp"); (case h2 => rfl))
  | (refine' ⟨_, _, _, _, rfl, rfl, ?h1, ?h2, ?h3⟩; (case h1 => walk_at "hp"); (case h2 => rfl))
  | (refine' ⟨_, _, rfl, Or.inl (Or.inl (Or.inl ?h1)), ?h3⟩; (case h1 => walk_at "hp"))
  | (refine Or.inl ⟨_, rfl, ?_⟩))
local macro_rules | `(tactic| walk_at "rd") => `(tactic| repeat walk_at "rd1")
theorem sc_Level_init : FnScope ["self", "room", "children", "at", "child", "rooms"] ["self", "room", "children"] (defScope s_Level_init) := ⟨rfl, rfl, rfl, by decide +kernel, rfl, by decide +kernel, by decide +kernel⟩
theorem sc_need_room : FnScope ["room"] ["room"] (defScope s_need_room) := ⟨rfl, rfl, rfl, by decide +kernel, rfl, by decide +kernel, by decide +kernel⟩
theorem sc_need_level : FnScope ["level"] ["level"] (defScope s_need_level) := ⟨rfl, rfl, rfl, by decide +kernel, rfl, by decide +kernel, by decide +kernel⟩
theorem rowsFault_none {rows : List Str} {wd : Nat} (R : RowsOk rows wd) (hl : ∀ r ∈ rows, lineS r = true) : rowsFault (rows.map V.str) = none := by
  unfold rowsFault
  rw [if_pos ⟨by simpa using R.h1, by simpa using R.h5⟩, List.find?_range_eq_none.mpr fun i hi => ?_]
  · rfl
  · rw [List.length_map] at hi
    have h1 : (rows.map V.str)[i]? = some (.str rows[i]) := by rw [List.getElem?_map, List.getElem?_eq_getElem hi]; rfl
    have h2 : (rows.map V.str)[i - 1]? = some (.str (rows[i - 1]'(by omega))) := by rw [List.getElem?_map, List.getElem?_eq_getElem (show i - 1 < rows.length by omega)]; rfl
    unfold badAt
    rw [h1, h2]
    show (!(!lineS rows[i] || decide (rows[i].length ≠ (rows[i - 1]'(by omega)).length))) = true
    rw [hl _ (List.getElem_mem _), R.al _ (List.getElem_mem _), R.al _ (List.getElem_mem _)]
    simp
theorem strOf_map (rows : List Str) : (rows.map V.str).map strOf = rows := by
  rw [List.map_map]
  have : strOf ∘ V.str = id := rfl
  rw [this, List.map_id]

def levelF (R c n d : V) : List (Str × V) := [("room", R), ("children", c), ("rooms", n), ("depth", d)]
theorem putF4 (a b c d : V) : putF "depth" d (putF "rooms" c (putF "children" b (putF "room" a []))) = levelF a b c d := by
  have e1 : ¬ (("room" : Str) = "children") := by decide +kernel
  have e2 : ¬ (("room" : Str) = "rooms") := by decide +kernel
  have e3 : ¬ (("room" : Str) = "depth") := by decide +kernel
  have e4 : ¬ (("children" : Str) = "rooms") := by decide +kernel
  have e5 : ¬ (("children" : Str) = "depth") := by decide +kernel
  have e6 : ¬ (("rooms" : Str) = "depth") := by decide +kernel
  simp only [putF, e1, e2, e3, e4, e5, e6, if_false, levelF]
def Tr.dep : Tr → Nat
  | .nd _ _ ch => 1 + (ch.map Tr.dep).foldr max 0
theorem dep_nd (rows : List Str) (wd : Nat) (ch : List Tr) : (Tr.nd rows wd ch).dep = 1 + (ch.map Tr.dep).foldr max 0 := by rw [Tr.dep]
theorem max_fold : ∀ {L : List Nat} {m : Int}, (m ∈ L.map (fun n : Nat => (n : Int)) ∧ ∀ y, y ∈ L.map (fun n : Nat => (n : Int)) → y ≤ m) ∨ L.map (fun n : Nat => (n : Int)) = [] ∧ m = 0 → m = ((L.foldr max 0 : Nat) : Int) := by
  have up : ∀ (L : List Nat) (x : Nat), x ∈ L → x ≤ L.foldr max 0 := fun L x h => by
    induction L with
    | nil => cases h
    | cons a r ih =>
      rw [List.foldr_cons]
      rcases List.mem_cons.mp h with rfl | h
      · exact Nat.le_max_left ..
      · exact Nat.le_trans (ih h) (Nat.le_max_right ..)
  have lo : ∀ (L : List Nat) (k : Nat), (∀ x ∈ L, x ≤ k) → L.foldr max 0 ≤ k := fun L k h => by
    induction L with
    | nil => exact Nat.zero_le _
    | cons a r ih =>
      rw [List.foldr_cons]
      exact Nat.max_le.mpr ⟨h a (List.mem_cons_self ..), ih fun x hx => h x (List.mem_cons_of_mem _ hx)⟩
  intro L m h
  rcases h with ⟨h1, h2⟩ | ⟨h1, rfl⟩
  · obtain ⟨n, hn, rfl⟩ := List.mem_map.mp h1
    have a := up L n hn
    have b := lo L n fun x hx => by have := h2 _ (List.mem_map_of_mem hx); omega
    omega
  · have : L = [] := List.map_eq_nil_iff.mp h1
    rw [this]; rfl
theorem cast_sum (L : List Nat) : (L.map fun n : Nat => (n : Int)).sum = (L.sum : Nat) := by
  induction L with
  | nil => rfl
  | cons a r ih => rw [List.map_cons, List.sum_cons, List.sum_cons, ih]; push_cast; rfl
theorem RoomAt.keepI {C : Addr} {H H' : Hp} {CV dv : Addr} (k : ∀ (b : Addr) (o : HO), H b = some o → o ≠ HO.ins CV dv [] → H' b = some o) {x : Addr} {rows : List Str} {wd : Nat} (h : RoomAt C H x rows wd) : RoomAt C H' x rows wd := by
  obtain ⟨ok, ln, wh, dx, t, ct, pt, nd, h1, h2, h3, h4, u, d, l, r, g1, g2, g3, g4, g5⟩ := h
  have nt : ∀ ys, HO.tup ys ≠ HO.ins CV dv [] := fun ys z => by cases z
  exact ⟨ok, ln, wh, dx, t, ct, pt, nd, k _ _ h1 (fun z => by injection z with _ _ z; cases z), k _ _ h2 (nt _), k _ _ h3 (nt _), k _ _ h4 (nt _), u, d, l, r, k _ _ g1 (fun z => by cases z), k _ _ g2 (nt _), k _ _ g3 (nt _), k _ _ g4 (nt _), k _ _ g5 (nt _)⟩
/-- the program's own empty tuple -/
def EmptyC (K : PySem.W.Frag) (c : Addr) : Prop := ∃ od us n sl, K.lookup c = some ⟨.type "tuple", od, .seq us n, sl⟩ ∧ us.toList = []
/-- a tuple of children -/
def ChT (K : PySem.W.Frag) (H : Hp) (c : Addr) (vs : List V) : Prop := H c = some (.tup vs) ∨ (vs = [] ∧ EmptyC K c)
theorem EmptyC.sq {K : PySem.W.Frag} {H : Hp} {c : Addr} (h : EmptyC K c) : SqT K H c [] := by
  obtain ⟨od, us, n, sl, l, r⟩ := h
  refine .inr ⟨_, us, n, l, rfl, rfl, ?_, ?_⟩
  · rw [← Array.length_toList, r]
    exact Nat.zero_le _
  · rw [r]
    exact .nil
theorem ChT.sq {K : PySem.W.Frag} {H : Hp} {c : Addr} {vs : List V} (h : ChT K H c vs) : SqT K H c vs := by
  rcases h with h | ⟨rfl, h⟩
  · exact SqT.of h
  · exact h.sq
theorem ChT.keep {K : PySem.W.Frag} {H H' : Hp} {c : Addr} {vs : List V} (k : H c = some (.tup vs) → H' c = some (.tup vs)) (h : ChT K H c vs) : ChT K H' c vs := h.imp k id
theorem ChT.same {K : PySem.W.Frag} {H H' : Hp} {c : Addr} {vs : List V} (s : Same H H') (h : ChT K H c vs) : ChT K H' c vs := h.keep (s _ _)
/-- a level stands at v -/
inductive LevelAt (K : PySem.W.Frag) (CR CV : Addr) (H : Hp) : V → Tr → Prop
  | mk {x dx R c : Addr} {rows : List Str} {wd n d : Nat} {vs : List V} {ch : List Tr} : H x = some (.ins CV dx (levelF (.ref R) (.ref c) (.int n) (.int d))) → n = (Tr.nd rows wd ch).cnt → d = (Tr.nd rows wd ch).dep → RoomAt CR H R rows wd → manyZ (Txt.join "" rows) "12" = (ch.length : Int) → ChT K H c vs → vs.length = ch.length →
      (∀ (i : Nat) (v : V) (t : Tr), vs[i]? = some v → ch[i]? = some t → LevelAt K CR CV H v t) → LevelAt K CR CV H (.ref x) (.nd rows wd ch)
theorem LevelAt.keepI {CR CV dv : Addr} {H H' : Hp} (k : ∀ (b : Addr) (o : HO), H b = some o → o ≠ HO.ins CV dv [] → H' b = some o) {v : V} {t : Tr} (h : LevelAt K CR CV H v t) : LevelAt K CR CV H' v t := by
  induction h with
  | mk a1 a2 a3 a4 a5 a6 a7 _ ih => exact .mk (k _ _ a1 (fun z => by injection z with _ _ z; cases z)) a2 a3 (a4.keepI k) a5 (a6.keep fun e => k _ _ e (fun z => by cases z)) a7 ih
theorem LevelAt.same {CR CV : Addr} {H H' : Hp} (s : Same H H') {v : V} {t : Tr} (h : LevelAt K CR CV H v t) : LevelAt K CR CV H' v t := h.keepI (dv := 0) fun _ _ e _ => s _ _ e
section
variable {P : Program} {w : World} {K : PySem.W.Frag} {mg : Str → Option Value} {base : Heap} {C CR CV CB fB CE fE CT : Addr}
/-- a room is made of right rows -/
theorem make_room {H : Hp} {Q : VK} {E : XK} {x dx a : Addr} {rows : List Str} {wd : Nat} (nx : H x = none) (ndx : H dx = none) (ha : H a = some (.lst (rows.map V.str)) ∨ H a = some (.tup (rows.map V.str))) (R : RowsOk rows wd)
    (hl : ∀ r ∈ rows, lineS r = true) (hw : wholeZ (Txt.join "" rows) = true) (k : ∀ H1, Same H H1 → RoomAt C H1 x rows wd → Q .non H1) :
    spRoomInit K C CB [.ref x, .ref a] (upd (upd H dx (.own x)) x (.ins C dx [])) Q E := by
  have s1 : Same H (upd (upd H dx (.own x)) x (.ins C dx [])) := fun b o e => by
    rw [upd_ne (ne_of_none e nx), upd_ne (ne_of_none e ndx)]
    exact e
  refine ⟨x, dx, .ref a, fun _ => False, rfl, upd_same, .inr ⟨a, rows.map V.str, rfl, ha.imp (s1 _ _) (s1 _ _), fun y hy => ?_, fun i hi => ?_, fun rows' wd' e' R' hl' => ⟨fun hw' => ?_, fun H1 q keep => ?_⟩⟩⟩
  · obtain ⟨r, hr, rfl⟩ := List.mem_map.mp hy
    exact ⟨⟨true, _, .str r⟩, fun z ez => by
      cases ez
      rw [R.al r hr]
      exact Nat.le_trans R.w6 (by decide +kernel)⟩
  · rw [rowsFault_none R hl] at hi
    cases hi
  · have er : rows = rows' := by
      have := congrArg (List.map strOf) e'
      rwa [strOf_map, strOf_map] at this
    subst er
    rw [hw] at hw'
    cases hw'
  · have er : rows = rows' := by
      have := congrArg (List.map strOf) e'
      rwa [strOf_map, strOf_map] at this
    subst er
    have ew : wd' = wd := by
      have h1 := R.h1
      cases rows with
      | nil => simp at h1
      | cons r t => exact (R'.al r (List.mem_cons_self ..)).symm.trans (R.al r (List.mem_cons_self ..))
    subst ew
    exact k H1 (fun b o e => keep b o (s1 _ _ e) (ne_of_none e nx)) q
structure LevT (P : Program) (w : World) (K : PySem.W.Frag) (mg : Str → Option Value) (CR CV CB fB CE fE CT : Addr) : Prop extends RoomT P K mg CB fB where
  n_min : mg "min" = none
  icR : C8.InsC K CR
  icV : C8.InsC K CV
  clR : Cls K CR
  clV : Cls K CV
  g_Room : mg "Room" = some (.ref CR)
  g_Level : mg "Level" = some (.ref CV)
  x_BadLevel : RX.ErrT P K mg "BadLevel" "value" CE fE
  x_TooMany : ErrN K mg "TooMany" CT
  n_mouths : NoAttr K CR "mouths"
  n_room : NoAttr K CV "room"
  n_children : NoAttr K CV "children"
  n_rooms : NoAttr K CV "rooms"
  n_depth : NoAttr K CV "depth"
  k_MOST_ROOMS : ∃ t, mg "MOST_ROOMS" = some (.int 60 t)
def spNeedC (K : PySem.W.Frag) (C CB : Addr) : Sp := fun vs H Q E => ∃ (v : V) (t : Value) (b : Bool), vs = [v] ∧ TyX K H v t ∧ PySem.W.kitOne K t (.ref C) = some b ∧ (b = true → Q .non H) ∧ (b = false → ∀ d, H d = none → E (.ref CB) (some d) (upd H d (.xd [("value", v)])))
theorem insTy {C a dx : Addr} {H : Hp} {fs : List (Str × V)} (ic : C8.InsC K C) (h : H a = some (.ins C dx fs)) : TyOf K H (.ref a) (.ref C) := .ins h ic.cl ic.ha ic.hn ic.htk ic.hm
/-- the levels of a list, each with what it is -/
def LvsAt (K : PySem.W.Frag) (CR CV : Addr) (H : Hp) (vs : List V) (ch : List Tr) : Prop := vs.length = ch.length ∧ ∀ (i : Nat) (v : V) (t : Tr), vs[i]? = some v → ch[i]? = some t → LevelAt K CR CV H v t
def spLInit (K : PySem.W.Frag) (CR CV CT : Addr) : Sp := fun vs H Q E => ∃ (x dx R c : Addr) (rows : List Str) (wd : Nat) (ls : List V) (ch : List Tr), vs = [.ref x, .ref R, .ref c] ∧ H x = some (.ins CV dx []) ∧ RoomAt CR H R rows wd ∧ manyZ (Txt.join "" rows) "12" = (ch.length : Int) ∧ (H c = some (.lst ls) ∨ H c = some (.tup ls)) ∧ LvsAt K CR CV H ls ch ∧
  (60 < (Tr.nd rows wd ch).cnt → ∀ H', Same H H' → E (.ref CT) none H') ∧ ((Tr.nd rows wd ch).cnt ≤ 60 → ∀ H', LevelAt K CR CV H' (.ref x) (.nd rows wd ch) → (∀ b o, H b = some o → b ≠ x → H' b = some o) → Q .non H')
theorem op_of {r : R2} {ta tb : TE} {σ : St} {H : Hp} {Q : VK} (h : ta σ H fun x H1 => tb σ H1 fun y H2 => r x y H2 Q) : tOp r ta tb σ H Q := h
theorem tc_of {v : V} {σ : St} {H : Hp} {Q : VK} (h : Q v H) : tC v σ H Q := h
theorem cb_of {r : List V → Hp → VK → Prop} {t : TA} {σ : St} {H : Hp} {Q : VK} (h : t σ H fun vs H1 => r vs H1 Q) : tCB r t σ H Q := h
theorem ckw_of {r : List V → List V → Hp → VK → Prop} {t tk : TA} {σ : St} {H : Hp} {Q : VK} (h : t σ H fun vs H1 => tk σ H1 fun zs H2 => r vs zs H2 Q) : tCKw r t tk σ H Q := h
theorem cons_of {ta : TE} {tr : TA} {σ : St} {H : Hp} {Q : List V → Hp → Prop} (h : ta σ H fun x H1 => tr σ H1 fun xs H2 => Q (x :: xs) H2) : tCons ta tr σ H Q := h
theorem sfld_of {K : PySem.W.Frag} {ta tv : TE} {f : Str} {D : Ends} {σ : St} {H : Hp} (h : tv σ H fun y H1 => ta σ H1 fun x H2 => ∃ a C dx fs, x = .ref a ∧ H2 a = some (.ins C dx fs) ∧ Cls K C ∧ NoAttr K C f ∧ fs.length < 1000 ∧ D.nx σ (upd H2 a (.ins C dx (putF f y fs)))) : sFld K ta tv f D σ H := h
theorem many2 {z : Str} (h : wholeZ z = true) : manyZ z "12" ≤ 2 := by
  obtain ⟨_, ⟨_, h1, h2⟩, _⟩ := (wholeZ_iff _).mp h
  have : ("12" : Str).cps.toList = [49, 50] := by decide +kernel
  unfold manyZ
  rw [this]
  show Txt.count _ ⟨#[49]⟩ + (Txt.count _ ⟨#[50]⟩ + 0) ≤ _
  rw [Int.add_zero, count_nat, count_nat]
  omega
theorem lc_fld {cl : Cls K CV} {fld : Str} {na : NoAttr K CV fld} {g : Tr → Nat} {x R c : Addr} {o3 o4 o5 : Option V} {H : Hp} {Q : VK} {ls : List V} {ch : List Tr} (hc : H c = some (.lst ls) ∨ H c = some (.tup ls)) (hl : ls.length = ch.length) (hn : ch.length ≤ 100)
    (hch : ∀ (i : Nat) (v : V) (t : Tr), ls[i]? = some v → ch[i]? = some t → ∃ y ydx fs, v = .ref y ∧ H y = some (.ins CV ydx fs) ∧ fs.lookup fld = some (.int (g t : Nat)))
    (k : ∀ D H', Same H H' → H' D = some (.lst ((ch.map g).map fun n : Nat => V.int n)) → Q (.ref D) H') :
    tLc (iSeq K (tVar 2)) (gName 4) tYes (tFld K (tVar 4) fld) [4] [some (.ref x), some (.ref R), some (.ref c), o3, o4, o5] H Q := by
  rcases hc with h | h
  · refine ⟨_, rfl, c, rfl, .inl ⟨⟨_, SqL.of h⟩, fun D hD => lc_it (walk_list (xs := ls)) (fun i H' => H' D = some (.lst (((ch.take i).map g).map fun n : Nat => V.int n)) ∧ Off (fun b => b = D) H H') ⟨upd_same, Off.new hD⟩ (fun i H' _ z => SqL.of (z.2 _ _ (ne_of_none h hD) h)) ?_ ?_⟩⟩
    · rintro i y Ha Hb hi ⟨hacc, off⟩ ⟨rfl, hy⟩
      have hi2 : i < ch.length := by rw [← hl]; exact hi
      obtain ⟨b, ydx, fs, rfl, hb, hf⟩ := hch i y ch[i] hy (List.getElem?_eq_getElem hi2)
      have s : Same H Hb := fun b o e => off b o (ne_of_none e hD) e
      refine And.intro rfl (yes_of (iteT ?_))
      refine ⟨_, rfl, b, CV, ydx, fs, _, rfl, s _ _ hb, cl, na, hf, _, hacc, sz ?_, ?_, off.trans (Off.mut rfl)⟩
      · rw [List.length_map, List.length_map]
        exact Nat.le_trans (List.length_take_le' ..) (by omega)
      · rw [upd_same, List.take_add_one, List.getElem?_eq_getElem hi2, List.map_append, List.map_append]; rfl
    rintro H4 ⟨hacc, off⟩
    rw [hl, List.take_length] at hacc
    exact k D H4 (fun b o e => off b o (ne_of_none e hD) e) hacc
  · refine ⟨_, rfl, c, rfl, .inr ⟨⟨_, SqT.of h⟩, fun D hD => lc_it (walk_tup (xs := ls)) (fun i H' => H' D = some (.lst (((ch.take i).map g).map fun n : Nat => V.int n)) ∧ Off (fun b => b = D) H H') ⟨upd_same, Off.new hD⟩ (fun i H' _ z => SqT.of (z.2 _ _ (ne_of_none h hD) h)) ?_ ?_⟩⟩
    · rintro i y Ha Hb hi ⟨hacc, off⟩ ⟨rfl, hy⟩
      have hi2 : i < ch.length := by rw [← hl]; exact hi
      obtain ⟨b, ydx, fs, rfl, hb, hf⟩ := hch i y ch[i] hy (List.getElem?_eq_getElem hi2)
      have s : Same H Hb := fun b o e => off b o (ne_of_none e hD) e
      refine And.intro rfl (yes_of (iteT ?_))
      refine ⟨_, rfl, b, CV, ydx, fs, _, rfl, s _ _ hb, cl, na, hf, _, hacc, sz ?_, ?_, off.trans (Off.mut rfl)⟩
      · rw [List.length_map, List.length_map]
        exact Nat.le_trans (List.length_take_le' ..) (by omega)
      · rw [upd_same, List.take_add_one, List.getElem?_eq_getElem hi2, List.map_append, List.map_append]; rfl
    rintro H4 ⟨hacc, off⟩
    rw [hl, List.take_length] at hacc
    exact k D H4 (fun b o e => off b o (ne_of_none e hD) e) hacc
theorem ok_linit {f : Addr} {fd : FuncData} {dvs : List V} (F : FunD K "__init__" "Level.__init__" (defArgs s_Level_init) (defBody s_Level_init) (defScope s_Level_init) dvs [] f fd) (T : LevT P w K mg CR CV CB fB CE fE CT) (c_need_room : CalG P w K mg base 3 "need_room" (spNeedC K CR CB)) (c_is_row : CalG P w K mg base 1 "is_row" (spIsRow K)) :
    FnG P w K mg base (CXe P w) 4 f fd ["self", "room", "children"] (spLInit K CR CV CT) := by
  refine F.okG sc_Level_init (fun vs H Q E h => ?_) (fun cdv A outer s H vs Q E hgd hr h => ?_)
  · obtain ⟨x, dx, R, c, rows, wd, ls, ch, rfl, _⟩ := h; rfl
  · obtain ⟨x, dx, R, c, rows, wd, ls, ch, rfl, hx, hR, hmo, hc, hl, kE, kQ⟩ := h
    refine ⟨_, (pss_cons (ps_expr (pg_cS c_need_room hgd hr (by decide) (fun σ => passAt (takes_of rfl rfl rfl rfl) σ) (pa_cons (pv 1) pa_nil)))
      (pss_cons (ps_if (PW.pt (pw_or (pt_not (pt_val (pg_c c_is_row hgd hr (by decide) (pa_cons (pv 2) pa_nil)))) (pw_or1 (pt_cmpR op_ne (pe_callB call_len_seq (by rfl) T.n_len (by decide +kernel) (pa_cons (pv 2) pa_nil)) (pe_fld (pv 1) rfl) (nomark _))))) (pss_one (ps_raiseErr rfl T.x_BadLevel hr (takes_of rfl rfl rfl rfl) (pa_cons (pe_un un_neg pe_int) pa_nil))) pss_nil)
      (pss_cons (ps_for (passes_of rfl) rfl (pi_enum2 (by rfl) T.n_enumerate (pa_cons (pv 2) pa_nil)) (pg_tup (by rfl) (pgs_cons (pg_name (i := 3) sc_Level_init.nd rfl (Or.inl rfl)) (pgs_cons (pg_name (i := 4) sc_Level_init.nd rfl (Or.inl rfl)) pgs_nil)))
      (pss_one (ps_if (pt_not (pt_val (pe_callB call_isi (by rfl) T.n_isinstance (by decide +kernel) (pa_cons (pv 4) (pa_cons (pe_glob (v := .ref _) rfl T.g_Level rfl) pa_nil))))) (pss_one (ps_raiseErr rfl T.x_BadLevel hr (takes_of rfl rfl rfl rfl) (pa_cons (pv 3) pa_nil))) pss_nil)))
      (pss_cons (ps_set (i := 5) sc_Level_init.nd rfl (Or.inl rfl) (pe_op op_add pe_int (pe_callB (cr_sum rfl) (by rfl) T.n_sum (by decide +kernel) (pa_cons (pe_lc (own := [("child", 4)]) (g := gName 4) (tt := tYes) rfl sc_Level_init.nd (pi_seq (pv 2)) (blkOk_by (own := [("child", 4)]) (N := ["self", "room", "children", "at", "child", "rooms"]) (sc := defScope s_Level_init) (by decide +kernel)) (fun _ _ _ _ _ => pg_name (i := 4) sc_Level_init.nd rfl (Or.inl rfl)) (fun _ _ _ _ _ => pts_nil) (fun _ _ _ _ _ => (show PE _ _ (tFld K (tVar 4) "rooms") from pe_fld (pv 4) rfl))) pa_nil))))
      (pss_cons (ps_if (pt_cmpR op_gt (pv 5) (pe_glob (v := .int 60) rfl (Exists.choose_spec T.k_MOST_ROOMS) ⟨_, rfl⟩) (nomark _)) (pss_one (ps_raiseN rfl T.x_TooMany (takes_of rfl rfl rfl rfl))) pss_nil)
      (pss_cons (ps_fld (pv 0) (pv 1) rfl)
      (pss_cons (ps_fld (pv 0) (pe_callTy cr_tup2 (by rfl) T.n_tuple (by decide +kernel) (pa_cons (pv 2) pa_nil)) rfl)
      (pss_cons (ps_fld (pv 0) (pv 5) rfl)
      (pss_one (ps_fld (pv 0) (pe_op op_add pe_int (pe_callBK (cr_maxDf rfl) (by rfl) T.n_max (by decide +kernel) (pa_cons (pe_lc (own := [("child", 4)]) (g := gName 4) (tt := tYes) rfl sc_Level_init.nd (pi_seq (pv 2)) (blkOk_by (own := [("child", 4)]) (N := ["self", "room", "children", "at", "child", "rooms"]) (sc := defScope s_Level_init) (by decide +kernel)) (fun _ _ _ _ _ => pg_name (i := 4) sc_Level_init.nd rfl (Or.inl rfl)) (fun _ _ _ _ _ => pts_nil) (fun _ _ _ _ _ => (show PE _ _ (tFld K (tVar 4) "depth") from pe_fld (pv 4) rfl))) pa_nil) (pk_cons pe_int pk_nil))) rfl)))))))))), ?_⟩
    obtain ⟨Rdx, Rt, Rct, Rpt, Rnd, hRx, _⟩ := id hR.ex
    obtain ⟨hll, hlv⟩ := id hl
    have child : ∀ (i : Nat) (v : V) (t : Tr), ls[i]? = some v → ch[i]? = some t → ∃ y ydx r c', v = .ref y ∧ H y = some (.ins CV ydx (levelF r c' (.int (t.cnt : Nat)) (.int (t.dep : Nat)))) := fun i v t e1 e2 => by
      cases hlv i v t e1 e2 with
      | mk a1 a2 a3 _ _ _ _ _ => rw [a2, a3] at a1; exact ⟨_, _, _, _, rfl, a1⟩
    have hn2 : ch.length ≤ 100 := by have := many2 hR.whole; omega
    refine ⟨_, rfl, .ref R, .ref CR, true, rfl, .base (insTy T.icR hRx), T.icR.me, fun _ => ?_, fun z => nomatch z⟩
    obtain ⟨ty, tyx, ek⟩ : ∃ t, (∀ H', Same H H' → TyX K H' (.ref c) t) ∧ PySem.W.kitAny K t [.type "list", .type "tuple"] = some true := by
      rcases hc with q | q
      · exact ⟨_, fun H' s' => .base (.lst (s' _ _ q)), kitAny_ty (show kitB "list" "list" = some true by decide +kernel) (show kitB "list" "tuple" = some false by decide +kernel)⟩
      · exact ⟨_, fun H' s' => .base (.tup (s' _ _ q)), kitAny_ty (show kitB "tuple" "list" = some false by decide +kernel) (show kitB "tuple" "tuple" = some true by decide +kernel)⟩
    refine ⟨_, rfl, .ref c, ty, true, rfl, tyx _ (Same.refl _), tyx, ek, fun H1 s1 => ?_⟩
    have hc1 : H1 c = some (.lst ls) ∨ H1 c = some (.tup ls) := hc.imp (s1 _ _) (s1 _ _)
    have sq : ∀ {H'}, Same H H' → (SqL K H' c ls ∨ SqT K H' c ls) := fun s => hc.imp (fun q => SqL.of (s _ _ q)) (fun q => SqT.of (s _ _ q))
    refine ⟨_, rfl, iteF' (by simp) ?_⟩
    refine ⟨_, rfl, c, ls, rfl, sq s1, _, rfl, R, CR, Rdx, _, _, rfl, s1 _ _ hRx, T.clR, T.n_mouths, rfl, ?_⟩
    refine ⟨(rfl : scal _ _ = true), _, rfl, ?_⟩
    refine iteF' (fun z => ?_) ?_
    · have e : V.int (ls.length : Nat) = V.int (manyZ (Txt.join "" rows) "12") := by rw [hmo, hll]
      revert z
      simp [e]
    refine ⟨_, rfl, c, ls, rfl, sq s1, fun J G wk hG => for_it wk (fun i σ H' => (∃ o3 o4, σ = [some (.ref x), some (.ref R), some (.ref c), o3, o4, none]) ∧ Same H1 H') ⟨⟨none, none, rfl⟩, Same.refl _⟩ (fun i σ H' _ q => hG H' q.2) ?_ ?_⟩
    · rintro i y σ H2 H3 hi ⟨⟨o3, o4, rfl⟩, s2⟩ ⟨T', x1, y1, rfl, hT, rfl, e1, e2⟩
      cases e1
      have e2 : ls[i]? = some y1 := e2
      have s3 : Same H2 (upd H2 T' (.tup [.int (i : Nat), y1])) := same_new hT
      have hi2 : i < ch.length := by rw [← hll]; exact hi
      obtain ⟨b, ydx, r', c', rfl, hb⟩ := child i y1 ch[i] e2 (List.getElem?_eq_getElem hi2)
      refine ⟨T', _, rfl, SqT.of upd_same, rfl, _, _, rfl, _, _, rfl, rfl, ?_⟩
      refine ⟨_, rfl, _, _, _, _, _, rfl, .own CV, .base (insTy T.icV (s3 _ _ (s2 _ _ (s1 _ _ hb)))), T.icV.me, _, rfl, ?_⟩
      exact iteF' (by simp) ⟨⟨_, _, rfl⟩, s2.trans s3⟩
    rintro σ H2 ⟨⟨o3, o4, rfl⟩, s2⟩
    have hc2 : H2 c = some (.lst ls) ∨ H2 c = some (.tup ls) := hc1.imp (s2 _ _) (s2 _ _)
    have s02 := s1.trans s2
    refine seq_of (asg_of (op_of (tc_of (cb_of (cons_of (lc_fld (cl := T.clV) (na := T.n_rooms) (g := Tr.cnt) hc2 hll hn2 (fun i v t e1 e2 => ?_) fun D H3 s3 hD => ?_))))))
    · obtain ⟨y, ydx, r', c', rfl, hy⟩ := child i v t e1 e2
      exact ⟨y, ydx, _, rfl, s02 _ _ hy, rfl⟩
    have ec : V.int (1 + ((ch.map Tr.cnt).map fun n : Nat => (n : Int)).sum) = V.int ((Tr.nd rows wd ch).cnt : Nat) := by
      rw [cast_sum, cnt_nd]; push_cast; rfl
    refine ⟨D, (ch.map Tr.cnt).map fun n : Nat => (n : Int), rfl, SqL.of (by rw [List.map_map]; exact hD), 1, _, rfl, rfl, ?_⟩
    have ec' : (fun i j => V.int (i + j)) 1 ((ch.map Tr.cnt).map fun n : Nat => (n : Int)).sum = V.int ((Tr.nd rows wd ch).cnt : Nat) := ec
    rw [ec']
    have s03 := s02.trans s3
    refine ⟨_, rfl, _, _, rfl, rfl, _, rfl, ?_⟩
    refine ite2 (fun h60 => ?_) (fun h60 => ?_)
    · exact kE (by have := of_decide_eq_true h60; omega) H3 s03
    have h60' : (Tr.nd rows wd ch).cnt ≤ 60 := by
      have : ¬ ((60 : Int) < ((Tr.nd rows wd ch).cnt : Nat)) := fun z => h60 (decide_eq_true z)
      omega
    have o3 : Off (fun b => b = x) H H3 := Off.same s03
    have hx3 := s03 _ _ hx
    refine ⟨_, rfl, _, rfl, x, CV, dx, [], rfl, hx3, T.clV, T.n_room, by decide, ?_⟩
    have o4 : Off (fun b => b = x) H3 (upd H3 x (.ins CV dx (putF "room" (.ref R) []))) := Off.mut rfl
    have hx4 : upd H3 x (.ins CV dx (putF "room" (.ref R) [])) x = some (.ins CV dx (putF "room" (.ref R) [])) := upd_same
    generalize upd H3 x (.ins CV dx (putF "room" (.ref R) [])) = H4 at o4 hx4 ⊢
    have hcx : c ≠ x := fun z => by rw [z, hx] at hc; rcases hc with q | q <;> cases q
    have o04 := o3.trans o4
    have hc4 : H4 c = some (.lst ls) ∨ H4 c = some (.tup ls) := hc.imp (o04 _ _ hcx) (o04 _ _ hcx)
    refine ⟨_, rfl, c, ls, rfl, hc4, fun tp H5 s5 htp _ => ?_⟩
    have hx5 := s5 _ _ hx4
    have o05 := o04.trans (Off.same s5)
    refine ⟨_, rfl, x, CV, dx, _, rfl, hx5, T.clV, T.n_children, Nat.lt_of_le_of_lt (putF_len ..) (by decide), ?_⟩
    have pl1 : (putF "room" (.ref R) []).length ≤ 1 := putF_len ..
    have pl2 : (putF "children" (.ref tp) (putF "room" (.ref R) [])).length ≤ 2 := Nat.le_trans (putF_len ..) (by omega)
    have htx : tp ≠ x := fun z => by rw [z, hx5] at htp; cases htp
    have o6 : Off (fun b => b = x) H5 (upd H5 x (.ins CV dx (putF "children" (.ref tp) (putF "room" (.ref R) [])))) := Off.mut rfl
    have hx6 : upd H5 x (.ins CV dx (putF "children" (.ref tp) (putF "room" (.ref R) []))) x = some (.ins CV dx (putF "children" (.ref tp) (putF "room" (.ref R) []))) := upd_same
    generalize upd H5 x (.ins CV dx (putF "children" (.ref tp) (putF "room" (.ref R) []))) = H6 at o6 hx6 ⊢
    refine ⟨_, rfl, _, rfl, x, CV, dx, _, rfl, hx6, T.clV, T.n_rooms, Nat.lt_of_le_of_lt pl2 (by decide), ?_⟩
    have pl3 : (putF "rooms" (.int (Tr.nd rows wd ch).cnt) (putF "children" (.ref tp) (putF "room" (.ref R) []))).length ≤ 3 := Nat.le_trans (putF_len ..) (by omega)
    have o7 : Off (fun b => b = x) H6 (upd H6 x (.ins CV dx (putF "rooms" (.int (Tr.nd rows wd ch).cnt) (putF "children" (.ref tp) (putF "room" (.ref R) []))))) := Off.mut rfl
    have hx7 : upd H6 x (.ins CV dx (putF "rooms" (.int (Tr.nd rows wd ch).cnt) (putF "children" (.ref tp) (putF "room" (.ref R) [])))) x = some (.ins CV dx (putF "rooms" (.int (Tr.nd rows wd ch).cnt) (putF "children" (.ref tp) (putF "room" (.ref R) [])))) := upd_same
    generalize upd H6 x (.ins CV dx (putF "rooms" (.int (Tr.nd rows wd ch).cnt) (putF "children" (.ref tp) (putF "room" (.ref R) [])))) = H7 at o7 hx7 ⊢
    have o07 := (o05.trans o6).trans o7
    have hc7 : H7 c = some (.lst ls) ∨ H7 c = some (.tup ls) := hc.imp (o07 _ _ hcx) (o07 _ _ hcx)
    refine sfld_of (op_of (tc_of (ckw_of (cons_of (lc_fld (cl := T.clV) (na := T.n_depth) (g := Tr.dep) hc7 hll hn2 (fun i v t e1 e2 => ?_) fun D' H8 s8 hD8 => ?_)))))
    · obtain ⟨y, ydx, r', c', rfl, hy⟩ := child i v t e1 e2
      exact ⟨y, ydx, _, rfl, o07 _ _ (fun z => by rw [z, hx] at hy; injection hy with hy; injection hy with _ _ hy; cases hy) hy, rfl⟩
    refine ⟨D', (ch.map Tr.dep).map fun n : Nat => (n : Int), 0, rfl, rfl, SqL.of (by rw [List.map_map]; exact hD8), fun m hm => ?_⟩
    have hx8 := s8 _ _ hx7
    refine ⟨_, _, rfl, rfl, _, rfl, x, CV, dx, _, rfl, hx8, T.clV, T.n_depth, Nat.lt_of_le_of_lt pl3 (by decide), ?_⟩
    have em : V.int (1 + m) = V.int ((Tr.nd rows wd ch).dep : Nat) := by
      rw [max_fold hm, dep_nd]; push_cast; rfl
    have em' : (fun i j => V.int (i + j)) 1 m = V.int ((Tr.nd rows wd ch).dep : Nat) := em
    rw [em', putF4]
    have o08 := (o07.trans (Off.same s8)).trans (Off.mut (H := H8) (o := .ins CV dx (levelF (.ref R) (.ref tp) (.int (Tr.nd rows wd ch).cnt) (.int (Tr.nd rows wd ch).dep))) rfl)
    have kp : ∀ (b : Addr) (o : HO), H b = some o → o ≠ HO.ins CV dx [] → upd H8 x (.ins CV dx (levelF (.ref R) (.ref tp) (.int (Tr.nd rows wd ch).cnt) (.int (Tr.nd rows wd ch).dep))) b = some o := fun b o e ne => o08 b o (fun z => ne (by rw [z, hx] at e; exact (Option.some.inj e).symm)) e
    have ht8 := s8 _ _ (o7 _ _ htx (o6 _ _ htx htp))
    exact kQ h60' _ (.mk upd_same rfl rfl (hR.keepI kp) hmo (.inl ((upd_ne htx).trans ht8)) hll fun i v t e1 e2 => (hlv i v t e1 e2).keepI kp) fun b o e ne => o08 b o ne e
end
end K88
end
section
set_option Elab.async false
set_option linter.all false
set_option maxRecDepth 100000
set_option maxHeartbeats 2000000
namespace K88
open PySem L2
local macro_rules | `(tactic| walk_at "hp") => `(tactic| first | assumption | exact upd_same | (refine (upd_ne (by first | assumption | (apply Ne.symm; assumption))).trans ?_; walk_at "hp"))
local macro_rules | `(tactic| walk_at "rd1") => `(tactic| first
  | (refine ⟨_, rfl, ?_⟩)
  | (refine ⟨_, _, rfl, rfl, ?_⟩)
  | (refine ⟨(rfl : scal _ _ = true), ?_⟩)
  | (refine And.intro (by show (0 : Int) < _; decide) ?_)
  | (refine And.intro (And.intro (by decide) (by decide)) ?_)
  | (refine And.intro (Or.inr (And.intro (by decide) (by decide))) ?_)
  | (refine And.intro (And.intro (by decide) (And.intro (by decide) (by decide))) ?_)
  | (refine And.intro (by assumption) ?_)
  | (refine And.intro (And.intro (by omega) (by omega)) ?_)
  | (refine And.intro (Or.inl (And.intro (by omega) (by omega))) ?_)
  | (refine' ⟨_, _, _, _, rfl, rfl, Or.inl (Or.inl ?h1), ?h2, ?h3⟩; (case h1 => walk_at "hp"); (case h2 => rfl))
  | (refine' ⟨_, _, _, _, rfl, rfl, ?h1, ?h2, ?h3⟩; (case h1 => walk_at "hp"); (case h2 => rfl))
  | (refine' ⟨_, _, rfl, Or.inl (Or.inl (Or.inl ?h1)), ?h3⟩; (case h1 => walk_at "hp"))
  | (refine Or.inl ⟨_, rfl, ?_⟩))
local macro_rules | `(tactic| walk_at "rd") => `(tactic| repeat walk_at "rd1")

theorem RoomAt.same {C : Addr} {H H' : Hp} (s : Same H H') {x : Addr} {rows : List Str} {wd : Nat} (h : RoomAt C H x rows wd) : RoomAt C H' x rows wd := h.keepI (CV := 0) (dv := 0) fun _ _ e _ => s _ _ e
theorem RoomAt.keepL {C : Addr} {H H' : Hp} (k : ∀ (b : Addr) (o : HO), H b = some o → (∀ xs, o ≠ HO.lst xs) → H' b = some o) {x : Addr} {rows : List Str} {wd : Nat} (h : RoomAt C H x rows wd) : RoomAt C H' x rows wd := by
  obtain ⟨ok, ln, wh, dx, t, ct, pt, nd, h1, h2, h3, h4, u, d, l, r, g1, g2, g3, g4, g5⟩ := h
  have nt : ∀ ys xs, HO.tup ys ≠ HO.lst xs := fun ys xs z => by cases z
  exact ⟨ok, ln, wh, dx, t, ct, pt, nd, k _ _ h1 (fun _ z => by cases z), k _ _ h2 (nt _), k _ _ h3 (nt _), k _ _ h4 (nt _), u, d, l, r, k _ _ g1 (fun _ z => by cases z), k _ _ g2 (nt _), k _ _ g3 (nt _), k _ _ g4 (nt _), k _ _ g5 (nt _)⟩
theorem LevelAt.keepL {CR CV : Addr} {H H' : Hp} (k : ∀ (b : Addr) (o : HO), H b = some o → (∀ xs, o ≠ HO.lst xs) → H' b = some o) {v : V} {t : Tr} (h : LevelAt K CR CV H v t) : LevelAt K CR CV H' v t := by
  induction h with
  | mk a1 a2 a3 a4 a5 a6 a7 _ ih => exact .mk (k _ _ a1 (fun _ z => by cases z)) a2 a3 (a4.keepL k) a5 (a6.keep fun e => k _ _ e (fun _ z => by cases z)) a7 ih
theorem LvsAt.keepL {CR CV : Addr} {H H' : Hp} (k : ∀ (b : Addr) (o : HO), H b = some o → (∀ xs, o ≠ HO.lst xs) → H' b = some o) {vs : List V} {ts : List Tr} (h : LvsAt K CR CV H vs ts) : LvsAt K CR CV H' vs ts := ⟨h.1, fun i v t e1 e2 => (h.2 i v t e1 e2).keepL k⟩
theorem LvsAt.snoc {CR CV : Addr} {H : Hp} {vs : List V} {ts : List Tr} {v : V} {t : Tr} (h : LvsAt K CR CV H vs ts) (h2 : LevelAt K CR CV H v t) : LvsAt K CR CV H (vs ++ [v]) (ts ++ [t]) := ⟨by rw [List.length_append, List.length_append, h.1]; rfl, fun i x y e1 e2 => by
  by_cases hi : i < vs.length
  · rw [List.getElem?_append_left hi] at e1
    rw [List.getElem?_append_left (by rw [← h.1]; exact hi)] at e2
    exact h.2 i x y e1 e2
  · rw [List.getElem?_append_right (by omega)] at e1
    rw [List.getElem?_append_right (by rw [← h.1]; omega), ← h.1] at e2
    cases hk : i - vs.length with
    | zero =>
      rw [hk] at e1 e2
      cases e1; cases e2; exact h2
    | succ k => rw [hk] at e1; cases e1⟩
theorem same_two {H : Hp} {x dx : Addr} {o o' : HO} (nx : H x = none) (nd : H dx = none) : Same H (upd (upd H dx o) x o') := fun b u e => by
  rw [upd_ne (ne_of_none e nx), upd_ne (ne_of_none e nd)]
  exact e
theorem cnt_len : ∀ L : List Tr, L.length ≤ (L.map Tr.cnt).sum
  | [] => Nat.le_refl _
  | a :: r => by rw [List.map_cons, List.sum_cons, List.length_cons]; have := cnt_pos a; have := cnt_len r; omega
section
variable {P : Program} {w : World} {K : PySem.W.Frag} {mg : Str → Option Value} {base : Heap} {C CR CV CB fB CE fE CT : Addr}
def spLL (K : PySem.W.Frag) (CR CV : Addr) (n : Nat) : Sp := fun vs H Q _ => ∃ (v : V) (t : Tr), vs = [v] ∧ TreeAt H v t ∧ t.cnt ≤ n + 1 ∧ n < 60 ∧ ∀ v' H', Same H H' → LevelAt K CR CV H' v' t → Q v' H'
theorem ok_ll {f : Addr} {fd : FuncData} {n : Nat} (F : Fun K "_law_level" "_law_level" s__law_level f fd) (T : LevT P w K mg CR CV CB fB CE fE CT) (m_Room : MakG P w K mg base 4 "Room" CR (spRoomInit K CR CB) []) (m_Level : MakG P w K mg base 4 "Level" CV (spLInit K CR CV CT) []) (c__law_level : CalG P w K mg base (5 + n) "_law_level" (below (spLL K CR CV) n)) :
    FnG P w K mg base (CXe P w) (5 + n + 1) f fd ["level"] (spLL K CR CV n) := by
  refine F.okG sc__law_level (fun vs H Q E h => ?_) (fun cdv A outer s H vs Q E hgd hr h => ?_)
  · obtain ⟨v, t, rfl, _⟩ := h; rfl
  · obtain ⟨v, t, rfl, ht, hc, hn, k⟩ := h
    refine ⟨_, (pss_one (ps_ret (pg_mk m_Level hgd hr (by first | decide | omega) (pa_cons (pg_mk m_Room hgd hr (by first | decide | omega) (pa_cons (pe_ix ix_tup (pv 0) pe_int (fun _ _ => rfl)) pa_nil)) (pa_cons (pe_lc (own := [("child", 1)]) (g := gName 1) (tt := tYes) rfl sc__law_level.nd (pi_tup (pe_ix ix_tup (pv 0) pe_int (fun _ _ => rfl))) (blkOk_by (own := [("child", 1)]) (N := ["level", "child"]) (sc := defScope s__law_level) (by decide +kernel)) (fun _ _ _ _ _ => pg_name (i := 1) sc__law_level.nd rfl (Or.inl rfl)) (fun _ _ _ _ _ => pts_nil) (fun _ _ _ _ _ => (pg_c c__law_level hgd hr (by omega) (pa_cons (pv 1) pa_nil)))) pa_nil))))), ?_⟩
    cases ht with
    | @mk a r c rows wd vs ch h1 h2 h3 h4 h5 =>
      obtain ⟨hr', R, lin, who, man⟩ := h2
      refine ⟨_, rfl, a, [V.ref r, V.ref c], 0, V.ref r, rfl, rfl, SqT.of h1, rfl, fun y dy ny ndy ney => make_room ny ndy (.inr hr') R lin who fun H1 s1 hY => ⟨rfl, ?_⟩⟩
      have h31 := s1 _ _ h3
      have hlen : ch.length ≤ n := by
        have e := cnt_nd rows wd ch
        have := cnt_len ch
        omega
      refine ⟨_, rfl, a, [V.ref r, V.ref c], 1, V.ref c, rfl, rfl, SqT.of (s1 _ _ h1), rfl, c, rfl, ⟨_, SqT.of h31⟩, fun D hD => lc_it (walk_tup (xs := vs)) (fun i H' => ∃ ls, H' D = some (.lst ls) ∧ LvsAt K CR CV H' ls (ch.take i) ∧ Off (fun b => b = D) H1 H') ⟨[], upd_same, ⟨rfl, fun i v t e _ => by simp at e⟩, Off.new hD⟩ (fun i H' _ ⟨_, _, _, z⟩ => SqT.of (z _ _ (ne_of_none h31 hD) h31)) ?_ ?_⟩
      · rintro i x Ha Hb hi ⟨ls, hacc, hls, off⟩ ⟨rfl, hx⟩
        have hi2 : i < ch.length := by rw [← h4]; exact hi
        have e2 : ch[i]? = some ch[i] := List.getElem?_eq_getElem hi2
        have ht := h5 i x ch[i] hx e2
        obtain ⟨hcc, hn1⟩ := cnt_child hc (List.getElem_mem hi2)
        have sb : Same H1 Hb := fun b o e => off b o (ne_of_none e hD) e
        refine And.intro rfl (yes_of (iteT ?_))
        refine ⟨_, rfl, n - 1, by omega, x, ch[i], rfl, ht.same (s1.trans sb), by omega, by omega, fun v' H' s hv' => ?_⟩
        have hacc' := s _ _ hacc
        have kp : ∀ (b : Addr) (o : HO), H' b = some o → (∀ xs, o ≠ HO.lst xs) → upd H' D (.lst (ls ++ [v'])) b = some o := fun b o e q => by
          rw [upd_ne (fun z => by rw [z, hacc'] at e; exact q _ (Option.some.inj e).symm)]; exact e
        have hls' : LvsAt K CR CV H' ls (ch.take i) := ⟨hls.1, fun i v t e1 e2 => (hls.2 i v t e1 e2).same s⟩
        refine ⟨ls, hacc', sz (by rw [hls.1]; exact Nat.le_trans (List.length_take_le' ..) (by omega)), ls ++ [v'], upd_same, ?_, (off.trans (Off.same s)).trans (Off.mut rfl)⟩
        rw [List.take_add_one, e2]
        exact (hls'.snoc hv').keepL kp
      rintro H4 ⟨ls, hacc, hls, off⟩
      rw [h4, List.take_length] at hls
      have s4 : Same H1 H4 := fun b o e => off b o (ne_of_none e hD) e
      refine fun x dx nx ndx nex => ?_
      have s5 : Same H4 (upd (upd H4 dx (.own x)) x (.ins CV dx [])) := same_two nx ndx
      refine ⟨x, dx, y, D, rows, wd, ls, ch, rfl, upd_same, (hY.same s4).same s5, man, .inl (s5 _ _ hacc), ⟨hls.1, fun i v t e1 e2 => (hls.2 i v t e1 e2).same s5⟩, fun z => by omega, fun _ H' hL kp => ⟨rfl, k _ H' ?_ hL⟩⟩
      have s14 := s1.trans s4
      exact fun b o e => kp b o (s5 _ _ (s14 _ _ e)) (ne_of_none (s14 _ _ e) nx)
end
end K88
end
section
set_option Elab.async false
set_option linter.all false
set_option maxRecDepth 100000
set_option maxHeartbeats 2000000
namespace K88
open PySem L2
local macro_rules | `(tactic| walk_at "hp") => `(tactic| first | assumption | exact upd_same | (refine (upd_ne (by first | assumption | (apply Ne.symm; assumption))).trans ?_; walk_at "hp"))
local macro_rules | `(tactic| walk_at "rd1") => `(tactic| first
  | (refine ⟨_, rfl, ?_⟩)
  | (refine ⟨_, _, rfl, rfl, ?_⟩)
  | (refine ⟨(rfl : scal _ _ = true), ?_⟩)
  | (refine And.intro (by show (0 : Int) < _; decide) ?_)
  | (refine And.intro (And.intro (by decide) (by decide)) ?_)
  | (refine And.intro (Or.inr (And.intro (by decide) (by decide))) ?_)
  | (refine And.intro (And.intro (by decide) (And.intro (by decide) (by decide))) ?_)
  | (refine And.intro (by assumption) ?_)
  | (refine And.intro (And.intro (by omega) (by omega)) ?_)
  | (refine And.intro (Or.inl (And.intro (by omega) (by omega))) ?_)
  | (refine' ⟨_, _, _, _, rfl, rfl, Or.inl (Or.inl ?h1), ?h2, ?h3⟩; (case h1 => walk_at "hp"); (case h2 => rfl))
  | (refine' ⟨_, _, _, _, rfl, rfl, ?h1, ?h2, ?h3⟩; (case h1 => walk_at "hp"); (case h2 => rfl))
  | (refine' ⟨_, _, rfl, Or.inl (Or.inl (Or.inl ?h1)), ?h3⟩; (case h1 => walk_at "hp"))
  | (refine Or.inl ⟨_, rfl, ?_⟩))
local macro_rules | `(tactic| walk_at "rd") => `(tactic| repeat walk_at "rd1")
theorem sc_need_row : FnScope ["room", "end"] ["room", "end"] (defScope s_need_row) := ⟨rfl, rfl, rfl, by decide +kernel, rfl, by decide +kernel, by decide +kernel⟩
theorem sc_row_of : FnScope ["room", "end", "number", "level", "_"] ["room", "end", "number"] (defScope s_row_of) := ⟨rfl, rfl, rfl, by decide +kernel, rfl, by decide +kernel, by decide +kernel⟩
section
variable {P : Program} {w : World} {K : PySem.W.Frag} {mg : Str → Option Value} {base : Heap} {C CR CV CB fB CE fE CT : Addr}
theorem ok_needM {f : Addr} {fd : FuncData} (F : Fun K "need_room" "need_room" s_need_room f fd) (T : LevT P w K mg CR CV CB fB CE fE CT) : FnG P w K mg base (CXe P w) 3 f fd ["room"] (spNeedC K CR CB) := by
  refine F.okG sc_need_room (fun vs H Q E h => ?_) (fun cdv A outer s H vs Q E hgd hr h => ?_)
  · obtain ⟨v, t, b, rfl, _⟩ := h; rfl
  · obtain ⟨v, t, b, rfl, ty, e, k1, k2⟩ := h
    refine ⟨_, (pss_one (ps_if (pt_not (pt_val (pe_callB call_isi (by rfl) T.n_isinstance (by decide +kernel) (pa_cons (pv 0) (pa_cons (pe_glob (v := .ref _) rfl T.g_Room rfl) pa_nil))))) (pss_one (ps_raiseErr rfl T.x_BadRoom hr (takes_of rfl rfl rfl rfl) (pa_cons (pv 0) pa_nil))) pss_nil)), ?_⟩
    refine ⟨_, rfl, _, _, _, _, _, rfl, .own CR, ty, e, _, rfl, ?_⟩
    cases b with
    | true => exact iteF (k1 rfl)
    | false => exact iteT ⟨_, rfl, _, rfl, fun d hd => k2 rfl d hd⟩
theorem ok_needL {f : Addr} {fd : FuncData} (F : Fun K "need_level" "need_level" s_need_level f fd) (T : LevT P w K mg CR CV CB fB CE fE CT) : FnG P w K mg base (CXe P w) 3 f fd ["level"] (spNeedC K CV CE) := by
  refine F.okG sc_need_level (fun vs H Q E h => ?_) (fun cdv A outer s H vs Q E hgd hr h => ?_)
  · obtain ⟨v, t, b, rfl, _⟩ := h; rfl
  · obtain ⟨v, t, b, rfl, ty, e, k1, k2⟩ := h
    refine ⟨_, (pss_one (ps_if (pt_not (pt_val (pe_callB call_isi (by rfl) T.n_isinstance (by decide +kernel) (pa_cons (pv 0) (pa_cons (pe_glob (v := .ref _) rfl T.g_Level rfl) pa_nil))))) (pss_one (ps_raiseErr rfl T.x_BadLevel hr (takes_of rfl rfl rfl rfl) (pa_cons (pv 0) pa_nil))) pss_nil)), ?_⟩
    refine ⟨_, rfl, _, _, _, _, _, rfl, .own CV, ty, e, _, rfl, ?_⟩
    cases b with
    | true => exact iteF (k1 rfl)
    | false => exact iteT ⟨_, rfl, _, rfl, fun d hd => k2 rfl d hd⟩
/-- what a thing is, for the refusals of a row: no room, a room of other mouths, no level, or all of it right -/
def NoRoom (K : PySem.W.Frag) (CR : Addr) (H : Hp) (v : V) : Prop := (∃ t, TyX K H v t ∧ PySem.W.kitOne K t (.ref CR) = some false) ∨ ∃ R rows wd, v = .ref R ∧ RoomAt CR H R rows wd ∧ manyZ (Txt.join "" rows) "12" ≠ 1
def spNR (K : PySem.W.Frag) (CR CV CB CE : Addr) : Sp := fun vs H Q E => ∃ (r e : V), vs = [r, e] ∧
  ((NoRoom K CR H r ∧ ∀ d, H d = none → E (.ref CB) (some d) (upd H d (.xd [("value", r)]))) ∨
   ∃ R rows wd, r = .ref R ∧ RoomAt CR H R rows wd ∧ manyZ (Txt.join "" rows) "12" = 1 ∧
    (((∃ t, TyX K H e t ∧ PySem.W.kitOne K t (.ref CV) = some false) ∧ ∀ d, H d = none → E (.ref CE) (some d) (upd H d (.xd [("value", e)]))) ∨ (∃ t, LevelAt K CR CV H e t) ∧ Q .non H))
theorem ok_nr {f : Addr} {fd : FuncData} (F : Fun K "need_row" "need_row" s_need_row f fd) (T : LevT P w K mg CR CV CB fB CE fE CT) (c_need_room : CalG P w K mg base 3 "need_room" (spNeedC K CR CB)) (c_need_level : CalG P w K mg base 3 "need_level" (spNeedC K CV CE)) :
    FnG P w K mg base (CXe P w) 4 f fd ["room", "end"] (spNR K CR CV CB CE) := by
  refine F.okG sc_need_row (fun vs H Q E h => ?_) (fun cdv A outer s H vs Q E hgd hr h => ?_)
  · obtain ⟨r, e, rfl, _⟩ := h; rfl
  · obtain ⟨r, e, rfl, h⟩ := h
    refine ⟨_, (pss_cons (ps_expr (pg_cS c_need_room hgd hr (by decide) (fun σ => passAt (takes_of rfl rfl rfl rfl) σ) (pa_cons (pv 0) pa_nil)))
      (pss_cons (ps_if (pt_cmpR op_ne (pe_fld (pv 0) rfl) pe_int (nomark _)) (pss_one (ps_raiseErr rfl T.x_BadRoom hr (takes_of rfl rfl rfl rfl) (pa_cons (pv 0) pa_nil))) pss_nil)
      (pss_one (ps_expr (pg_cS c_need_level hgd hr (by decide) (fun σ => passAt (takes_of rfl rfl rfl rfl) σ) (pa_cons (pv 1) pa_nil)))))), ?_⟩
    have isR : ∀ {R rows wd}, RoomAt CR H R rows wd → ∃ dx fs, H R = some (.ins CR dx fs) ∧ fs.lookup ("mouths" : Str) = some (V.int (manyZ (Txt.join "" rows) "12")) := fun h => by
      obtain ⟨dx, t, ct, pt, nd, hx, _⟩ := h.ex
      exact ⟨dx, _, hx, rfl⟩
    rcases h with ⟨⟨t, ty, e1⟩ | ⟨R, rows, wd, rfl, hR, hm⟩, kE⟩ | ⟨R, rows, wd, rfl, hR, hm, h⟩
    · exact ⟨_, rfl, r, t, false, rfl, ty, e1, (fun z => nomatch z), fun _ d hd => kE d hd⟩
    · obtain ⟨dx, fs, hx, hf⟩ := isR hR
      refine ⟨_, rfl, .ref R, .ref CR, true, rfl, .base (insTy T.icR hx), T.icR.me, fun _ => ?_, fun z => nomatch z⟩
      refine ⟨_, rfl, R, CR, dx, fs, _, rfl, hx, T.clR, T.n_mouths, hf, (rfl : scal _ _ = true), _, rfl, ?_⟩
      exact iteT' (by simp [hm]) ⟨_, rfl, _, rfl, fun d hd => kE d hd⟩
    · obtain ⟨dx, fs, hx, hf⟩ := isR hR
      refine ⟨_, rfl, .ref R, .ref CR, true, rfl, .base (insTy T.icR hx), T.icR.me, fun _ => ?_, fun z => nomatch z⟩
      refine ⟨_, rfl, R, CR, dx, fs, _, rfl, hx, T.clR, T.n_mouths, hf, (rfl : scal _ _ = true), _, rfl, ?_⟩
      refine iteF' (by simp [hm]) ?_
      rcases h with ⟨⟨t, ty, e1⟩, kE⟩ | ⟨⟨t, ht⟩, k⟩
      · exact ⟨_, rfl, e, t, false, rfl, ty, e1, (fun z => nomatch z), fun _ d hd => kE d hd⟩
      · cases ht with
        | mk a1 a2 a3 a4 a5 a6 a7 a8 => exact ⟨_, rfl, _, .ref CV, true, rfl, .base (insTy T.icV a1), T.icV.me, fun _ => k, (fun z => nomatch z)⟩
end
end K88
end
section
set_option Elab.async false
set_option linter.all false
set_option maxRecDepth 100000
set_option maxHeartbeats 2000000
namespace K88
open PySem L2
local macro_rules | `(tactic| walk_at "hp") => `(tactic| first | assumption | exact upd_same | (refine (upd_ne (by first | assumption | (apply Ne.symm; assumption))).trans ?_; walk_at "hp"))
local macro_rules | `(tactic| walk_at "rd1") => `(tactic| first
  | (refine ⟨_, rfl, ?_⟩)
  | (refine ⟨_, _, rfl, rfl, ?_⟩)
  | (refine ⟨(rfl : scal _ _ = true), ?_⟩)
  | (refine And.intro (by show (0 : Int) < _; decide) ?_)
  | (refine And.intro (And.intro (by decide) (by decide)) ?_)
  | (refine And.intro (Or.inr (And.intro (by decide) (by decide))) ?_)
  | (refine And.intro (And.intro (by decide) (And.intro (by decide) (by decide))) ?_)
  | (refine And.intro (by assumption) ?_)
  | (refine And.intro (And.intro (by omega) (by omega)) ?_)
  | (refine And.intro (Or.inl (And.intro (by omega) (by omega))) ?_)
  | (refine' ⟨_, _, _, _, rfl, rfl, Or.inl (Or.inl ?h1), ?h2, ?h3⟩; (case h1 => walk_at "hp"); (case h2 => rfl))
  | (refine' ⟨_, _, _, _, rfl, rfl, ?h1, ?h2, ?h3⟩; (case h1 => walk_at "hp"); (case h2 => rfl))
  | (refine' ⟨_, _, rfl, Or.inl (Or.inl (Or.inl ?h1)), ?h3⟩; (case h1 => walk_at "hp"))
  | (refine Or.inl ⟨_, rfl, ?_⟩))
local macro_rules | `(tactic| walk_at "rd") => `(tactic| repeat walk_at "rd1")

def rowT (rows : List Str) (wd : Nat) (t : Tr) : Nat → Tr
  | 0 => t
  | k + 1 => .nd rows wd [rowT rows wd t k]
theorem rowT_cnt (rows : List Str) (wd : Nat) (t : Tr) : ∀ k, (rowT rows wd t k).cnt = k + t.cnt
  | 0 => (Nat.zero_add _).symm
  | k + 1 => by
    show (Tr.nd rows wd [rowT rows wd t k]).cnt = _
    rw [cnt_nd]
    show 1 + ((rowT rows wd t k).cnt + 0) = _
    rw [rowT_cnt rows wd t k]
    omega
section
variable {P : Program} {w : World} {K : PySem.W.Frag} {mg : Str → Option Value} {base : Heap} {C CR CV CB fB CE fE CT CN fN : Addr}
/-- no count of a row -/
def NoCount (K : PySem.W.Frag) (H : Hp) (v : V) : Prop := ∃ t b1 b2, TyX K H v t ∧ PySem.W.kitOne K t (.type "int") = some b1 ∧ PySem.W.kitOne K t (.type "bool") = some b2 ∧ ((b1 && !b2) = false ∨ ∃ i : Int, v = .int i ∧ (i < 0 ∨ 59 < i))
structure RowT (P : Program) (w : World) (K : PySem.W.Frag) (mg : Str → Option Value) (CR CV CB fB CE fE CT CN fN : Addr) : Prop extends LevT P w K mg CR CV CB fB CE fE CT where
  x_BadCount : RX.ErrT P K mg "BadCount" "value" CN fN
  k_MOST_IN_ROW : ∃ t, mg "MOST_IN_ROW" = some (.int 59 t)
def spRow (K : PySem.W.Frag) (CR CV CB CE CT CN : Addr) : Sp := fun vs H Q E => ∃ (r e n : V), vs = [r, e, n] ∧
  ((NoRoom K CR H r ∧ ∀ d, H d = none → E (.ref CB) (some d) (upd H d (.xd [("value", r)]))) ∨
   ∃ R rows wd, r = .ref R ∧ RoomAt CR H R rows wd ∧ manyZ (Txt.join "" rows) "12" = 1 ∧
    (((∃ t, TyX K H e t ∧ PySem.W.kitOne K t (.ref CV) = some false) ∧ ∀ d, H d = none → E (.ref CE) (some d) (upd H d (.xd [("value", e)]))) ∨
     ∃ t, LevelAt K CR CV H e t ∧ ((NoCount K H n ∧ ∀ d, H d = none → E (.ref CN) (some d) (upd H d (.xd [("value", n)]))) ∨
      ∃ k : Nat, n = .int k ∧ k ≤ 59 ∧ t.cnt ≤ 60 ∧ (60 < k + t.cnt → ∀ H', Same H H' → E (.ref CT) none H') ∧ (k + t.cnt ≤ 60 → ∀ v' H', Same H H' → LevelAt K CR CV H' v' (rowT rows wd t k) → Q v' H'))))
theorem ok_row {f : Addr} {fd : FuncData} (F : Fun K "row_of" "row_of" s_row_of f fd) (T : RowT P w K mg CR CV CB fB CE fE CT CN fN) (c_is_whole : CalG P w K mg base 1 "is_whole" (spWhole K)) (c_need_row : CalG P w K mg base 4 "need_row" (spNR K CR CV CB CE)) (m_Level : MakG P w K mg base 4 "Level" CV (spLInit K CR CV CT) []) :
    FnG P w K mg base (CXe P w) 6 f fd ["room", "end", "number"] (spRow K CR CV CB CE CT CN) := by
  refine F.okG sc_row_of (fun vs H Q E h => ?_) (fun cdv A outer s H vs Q E hgd hr h => ?_)
  · obtain ⟨r, e, n, rfl, _⟩ := h; rfl
  · obtain ⟨r, e, n, rfl, h⟩ := h
    refine ⟨_, (pss_cons (ps_expr (pg_cS c_need_row hgd hr (by decide) (fun σ => passAt (takes_of rfl rfl rfl rfl) σ) (pa_cons (pv 0) (pa_cons (pv 1) pa_nil))))
      (pss_cons (ps_if (PW.pt (pw_or (pt_not (pt_val (pg_c c_is_whole hgd hr (by first | decide | omega) (pa_cons (pv 2) pa_nil)))) (pw_or1 (pt_not (pt_chain op_le op_le pe_int (pv 2) (pe_glob (v := .int 59) rfl (Exists.choose_spec T.k_MOST_IN_ROW) ⟨_, rfl⟩)))))) (pss_one (ps_raiseErr rfl T.x_BadCount hr (takes_of rfl rfl rfl rfl) (pa_cons (pv 2) pa_nil))) pss_nil)
      (pss_cons (ps_set (i := 3) sc_row_of.nd rfl (Or.inl rfl) (pv 1))
      (pss_cons (ps_for (passes_of rfl) rfl (pi_range1 (by rfl) T.n_range (pa_cons (pv 2) pa_nil)) (pg_name (i := 4) sc_row_of.nd rfl (Or.inl rfl))
      (pss_one (ps_set (i := 3) sc_row_of.nd rfl (Or.inl rfl) (pg_mkS m_Level hgd hr (by decide) (fun σ => passAt (takes_of rfl rfl rfl rfl) σ) (pa_cons (pv 0) (pa_cons (pe_lstA (pa_cons (pv 3) pa_nil)) pa_nil))))))
      (pss_one (ps_ret (pv 3))))))), ?_⟩
    rcases h with ⟨hN, kE⟩ | ⟨R, rows, wd, rfl, hR, hm, ⟨hL, kE⟩ | ⟨t, ht, h⟩⟩
    · exact ⟨_, rfl, _, rfl, r, e, rfl, .inl ⟨hN, fun d hd => kE d hd⟩⟩
    · exact ⟨_, rfl, _, rfl, .ref R, e, rfl, .inr ⟨R, rows, wd, rfl, hR, hm, .inl ⟨hL, fun d hd => kE d hd⟩⟩⟩
    refine ⟨_, rfl, _, rfl, .ref R, e, rfl, .inr ⟨R, rows, wd, rfl, hR, hm, .inr ⟨⟨t, ht⟩, ?_⟩⟩⟩
    rcases h with ⟨⟨ty, b1, b2, hty, e1, e2, hb⟩, kE⟩ | ⟨k, rfl, hk, htc, kE, kQ⟩
    · refine ⟨_, rfl, n, ty, b1, b2, rfl, hty, e1, e2, _, rfl, ?_⟩
      cases hbb : (b1 && !b2) with
      | false => exact iteT (iteT ⟨_, rfl, _, rfl, fun d hd => kE d hd⟩)
      | true =>
        rcases hb with hb | ⟨i, rfl, hi⟩
        · rw [hbb] at hb; cases hb
        refine iteF ?_
        refine ⟨_, rfl, _, _, rfl, rfl, _, rfl, ?_⟩
        refine ite2 (fun h0 => ?_) (fun _ => ?_)
        rotate_left
        · first | exact ⟨_, rfl, iteT ⟨_, rfl, _, rfl, fun d hd => kE d hd⟩⟩ | exact iteT ⟨_, rfl, _, rfl, _, rfl, fun d hd => kE d hd⟩ | exact ⟨_, rfl, _, rfl, _, rfl, fun d hd => kE d hd⟩
        refine ⟨_, _, rfl, rfl, _, rfl, ?_⟩
        have h0' : (0 : Int) ≤ i := of_decide_eq_true h0
        rw [show decide (i ≤ 59) = false from decide_eq_false (by omega)]
        exact iteT ⟨_, rfl, _, rfl, fun d hd => kE d hd⟩
    obtain ⟨_, kb1, kb2⟩ : ∃ _ : Unit, PySem.W.kitOne K (.type "int") (.type "int") = some true ∧ PySem.W.kitOne K (.type "int") (.type "bool") = some false := ⟨(), kit_ty (show kitB "int" "int" = some true by decide +kernel), kit_ty (show kitB "int" "bool" = some false by decide +kernel)⟩
    refine ⟨_, rfl, .int k, .type "int", true, false, rfl, .base (.int _), kb1, kb2, _, rfl, ?_⟩
    refine iteF ?_
    refine ⟨_, rfl, _, _, rfl, rfl, _, rfl, ?_⟩
    refine ite2 (fun _ => ?_) (fun z => absurd (decide_eq_true (by omega)) z)
    refine ⟨_, _, rfl, rfl, _, rfl, ?_⟩
    rw [show decide ((k : Int) ≤ 59) = true from decide_eq_true (by omega)]
    refine iteF ?_
    refine ⟨_, rfl, _, rfl, _, rfl, by omega, by omega, ?_⟩
    rw [Int.toNat_natCast]
    refine for_range (n := k) (fun i σ H' => ∃ (lv : V) (o4 : Option V), σ = [some (.ref R), some e, some (.int k), some lv, o4] ∧ i + t.cnt ≤ 60 ∧ Same H H' ∧ LevelAt K CR CV H' lv (rowT rows wd t i)) ⟨e, none, rfl, by omega, Same.refl _, ht⟩ ?_ ?_
    · rintro i σ H1 hi ⟨lv, o4, rfl, hc, s1, hl⟩
      refine ⟨_, rfl, _, rfl, And.intro (Nat.le_of_ble_eq_true rfl) fun D H2 n2 => ?_⟩
      refine fun x dx nx ndx nex => ?_
      have s2 := n2.same
      have s3 : Same H2 (upd (upd H2 dx (.own x)) x (.ins CV dx [])) := same_two nx ndx
      have s03 := (s1.trans s2).trans s3
      have ec : (Tr.nd rows wd [rowT rows wd t i]).cnt = i + 1 + t.cnt := rowT_cnt rows wd t (i + 1)
      refine ⟨x, dx, R, D, rows, wd, [lv], [rowT rows wd t i], rfl, upd_same, hR.same s03, hm, .inl (s3 _ _ n2.at_), ⟨rfl, fun j v u e1 e2 => ?_⟩, fun z H' s => ?_, fun z H' hL kp => ⟨rfl, .ref x, _, rfl, by omega, ?_, hL⟩⟩
      · cases j with
        | zero => cases e1; cases e2; exact hl.same (s2.trans s3)
        | succ j => cases e1
      · exact kE (by omega) H' (s03.trans s)
      · have s12 := s1.trans s2
        exact fun b o z => kp b o (s3 _ _ (s12 _ _ z)) (ne_of_none (s12 _ _ z) nx)
    rintro σ H1 ⟨lv, o4, rfl, hc, s1, hl⟩
    exact ⟨_, rfl, kQ hc lv H1 s1 hl⟩
end
end K88
end
section
set_option Elab.async false
set_option linter.all false
set_option maxRecDepth 100000
set_option maxHeartbeats 2000000
namespace K88
open PySem L2
local macro_rules | `(tactic| walk_at "hp") => `(tactic| first | assumption | exact upd_same | (refine (upd_ne (by first | assumption | (apply Ne.symm; assumption))).trans ?_; walk_at "hp"))
local macro_rules | `(tactic| walk_at "rd1") => `(tactic| first
  | (refine ⟨_, rfl, ?_⟩)
  | (refine ⟨_, _, rfl, rfl, ?_⟩)
  | (refine ⟨(rfl : scal _ _ = true), ?_⟩)
  | (refine And.intro (by show (0 : Int) < _; decide) ?_)
  | (refine And.intro (And.intro (by decide) (by decide)) ?_)
  | (refine And.intro (Or.inr (And.intro (by decide) (by decide))) ?_)
  | (refine And.intro (And.intro (by decide) (And.intro (by decide) (by decide))) ?_)
  | (refine And.intro (by assumption) ?_)
  | (refine And.intro (And.intro (by omega) (by omega)) ?_)
  | (refine And.intro (Or.inl (And.intro (by omega) (by omega))) ?_)
  | (refine' ⟨_, _, _, _, rfl, rfl, Or.inl (Or.inl ?h1), ?h2, ?h3⟩; (case h1 => walk_at "hp"); (case h2 => rfl))
  | (refine' ⟨_, _, _, _, rfl, rfl, ?h1, ?h2, ?h3⟩; (case h1 => walk_at "hp"); (case h2 => rfl))
  | (refine' ⟨_, _, rfl, Or.inl (Or.inl (Or.inl ?h1)), ?h3⟩; (case h1 => walk_at "hp"))
  | (refine Or.inl ⟨_, rfl, ?_⟩))
local macro_rules | `(tactic| walk_at "rd") => `(tactic| repeat walk_at "rd1")
theorem sc_Level_part : FnScope ["self", "path"] ["self", "path"] (defScope s_Level_part) := ⟨rfl, rfl, rfl, by decide +kernel, rfl, by decide +kernel, by decide +kernel⟩
def Tr.ch : Tr → List Tr
  | .nd _ _ ch => ch
/-- the part at a path of numbers from 1 -/
def Tr.go : Tr → List Nat → Option Tr
  | t, [] => some t
  | t, p :: r => if 1 ≤ p then (match t.ch[p - 1]? with | some c => c.go r | none => none) else none
theorem go_cons {t u : Tr} {p : Nat} {r : List Nat} (h : t.go (p :: r) = some u) : 1 ≤ p ∧ ∃ c, t.ch[p - 1]? = some c ∧ c.go r = some u := by
  unfold Tr.go at h
  split at h
  · rename_i hp
    cases e : t.ch[p - 1]? with
    | none => rw [e] at h; cases h
    | some c => rw [e] at h; exact ⟨hp, c, rfl, h⟩
  · cases h
section
variable {P : Program} {w : World} {K : PySem.W.Frag} {mg : Str → Option Value} {base : Heap} {C CR CV CB fB CE fE CT CN fN CA fA : Addr}
structure PartT (P : Program) (w : World) (K : PySem.W.Frag) (mg : Str → Option Value) (CR CV CB fB CE fE CT CA fA : Addr) : Prop extends LevT P w K mg CR CV CB fB CE fE CT where
  x_BadPath : RX.ErrT P K mg "BadPath" "path" CA fA
def spPart (K : PySem.W.Frag) (CR CV : Addr) : Sp := fun vs H Q _ => ∃ (x p : Addr) (t u : Tr) (ps : List Nat), vs = [.ref x, .ref p] ∧ LevelAt K CR CV H (.ref x) t ∧ H p = some (.tup (ps.map fun n : Nat => V.int n)) ∧ t.go ps = some u ∧ ∀ v, LevelAt K CR CV H v u → Q v H
end
end K88
end
section
set_option Elab.async false
set_option linter.all false
set_option maxRecDepth 100000
set_option maxHeartbeats 2000000
namespace K88
open PySem L2
local macro_rules | `(tactic| walk_at "hp") => `(tactic| first | assumption | exact upd_same | (refine (upd_ne (by first | assumption | (apply Ne.symm; assumption))).trans ?_; walk_at "hp"))
local macro_rules | `(tactic| walk_at "rd1") => `(tactic| first
  | (refine ⟨_, rfl, ?_⟩)
  | (refine ⟨_, _, rfl, rfl, ?_⟩)
  | (refine ⟨(rfl : scal _ _ = true), ?_⟩)
  | (refine And.intro (by show (0 : Int) < _; decide) ?_)
  | (refine And.intro (And.intro (by decide) (by decide)) ?_)
  | (refine And.intro (Or.inr (And.intro (by decide) (by decide))) ?_)
  | (refine And.intro (And.intro (by decide) (And.intro (by decide) (by decide))) ?_)
  | (refine And.intro (by assumption) ?_)
  | (refine And.intro (And.intro (by omega) (by omega)) ?_)
  | (refine And.intro (Or.inl (And.intro (by omega) (by omega))) ?_)
  | (refine' ⟨_, _, _, _, rfl, rfl, Or.inl (Or.inl ?h1), ?h2, ?h3⟩; (case h1 => walk_at "hp"); (case h2 => rfl))
  | (refine' ⟨_, _, _, _, rfl, rfl, ?h1, ?h2, ?h3⟩; (case h1 => walk_at "hp"); (case h2 => rfl))
  | (refine' ⟨_, _, rfl, Or.inl (Or.inl (Or.inl ?h1)), ?h3⟩; (case h1 => walk_at "hp"))
  | (refine Or.inl ⟨_, rfl, ?_⟩))
local macro_rules | `(tactic| walk_at "rd") => `(tactic| repeat walk_at "rd1")
theorem sc_Room_eq : FnScope ["self", "other"] ["self", "other"] (defScope s_Room_eq) := ⟨rfl, rfl, rfl, by decide +kernel, rfl, by decide +kernel, by decide +kernel⟩
theorem DpAll_strs {K : PySem.W.Frag} {H : Hp} (rows : List Str) : DpAll K H (rows.map V.str) (rows.map PyData.str) := by
  induction rows with
  | nil => exact .nil
  | cons a r ih => exact .cons (.str a) ih
theorem eqvAll_strs : ∀ (a b : List Str), PyData.eqvAll (a.map PyData.str) (b.map PyData.str) = decide (a = b)
  | [], [] => rfl
  | [], _ :: _ => rfl
  | _ :: _, [] => rfl
  | x :: a, y :: b => by
    show (PyData.eqv (.str x) (.str y) && PyData.eqvAll (a.map PyData.str) (b.map PyData.str)) = _
    rw [eqvAll_strs a b]
    have : PyData.eqv (.str x) (.str y) = decide (x = y) := rfl
    rw [this]
    by_cases h1 : x = y <;> by_cases h2 : a = b <;> simp [h1, h2]
theorem strOk_line {r : Str} (h : lineS r = true) : PyData.strOk r = true := by
  show (r.cps.all fun x => decide (x < 1114112)) = true
  rw [← Array.all_toList, List.all_eq_true]
  intro c hc
  unfold lineS at h
  have h2 : (r.cps.toList.all fun c => decide (c ∈ marksS.cps.toList)) = true := by
    cases hh : r.cps.toList.all fun c => decide (c ∈ marksS.cps.toList) with
    | true => rfl
    | false => rw [hh] at h; simp at h
  have hm : c ∈ marksS.cps.toList := by simpa using (List.all_eq_true.mp h2) c hc
  exact (show ∀ c ∈ marksS.cps.toList, decide (c < 1114112) = true by decide +kernel) c hm
theorem depth_strs (rows : List Str) : PyData.depthAll (rows.map PyData.str) ≤ 1 := by
  induction rows with
  | nil => decide
  | cons a r ih =>
    simp [PyData.depth, PyData.depthAll] at ih ⊢
    omega
theorem lays_strs (rows : List Str) (h : ∀ r ∈ rows, lineS r = true) : PyData.canLayAll0 (rows.map PyData.str) = true := by
  induction rows with
  | nil => decide
  | cons a r ih =>
    have h1 := ih (fun x hx => h x (List.mem_cons_of_mem _ hx))
    simp [PyData.canLay0, PyData.canLayAll0] at h1 ⊢
    exact ⟨strOk_line (h a (List.mem_cons_self ..)), h1⟩
theorem shapedT {rows : List Str} (h : ∀ r ∈ rows, lineS r = true) : SeqAt.shaped (.tuple (rows.map PyData.str)) = true := by
  unfold SeqAt.shaped
  have h1 := lays_strs rows h
  have h2 := depth_strs rows
  simp [PyData.canLay0, PyData.depth, h1]
  omega
section
variable {P : Program} {w : World} {K : PySem.W.Frag} {mg : Str → Option Value} {base : Heap} {C CR CV CB fB CE fE CT : Addr}
/-- a room, with anything -/
def RmB (K : PySem.W.Frag) (CR : Addr) : EqB := fun x y H b => ∃ a rows wd, x = .ref a ∧ RoomAt CR H a rows wd ∧ ((∃ a' rows' wd', y = .ref a' ∧ RoomAt CR H a' rows' wd' ∧ (b = true ↔ rows = rows')) ∨ (b = false ∧ NoIns K CR H y))
theorem monB_rm : MonB (RmB K CR) := fun x y H H' b e d => by
  obtain ⟨a, rows, wd, rfl, hA, h⟩ := d
  refine ⟨a, rows, wd, rfl, hA.same e, h.imp (fun h => ?_) fun h => ⟨h.1, h.2.ext e⟩⟩
  obtain ⟨a', rows', wd', rfl, hB, hb⟩ := h
  exact ⟨a', rows', wd', rfl, hB.same e, hb⟩
theorem ok_reqB {f : Addr} {fd : FuncData} (F : Fun K "__eq__" "Room.__eq__" s_Room_eq f fd) (T : LevT P w K mg CR CV CB fB CE fE CT) (a_rows : NoAttr K CR "rows") : FnG P w K mg base (CXe P w) 1 f fd ["self", "other"] (spEqB (RmB K CR)) := by
  refine F.okG sc_Room_eq (fun vs H Q E h => ?_) (fun cdv A outer s H vs Q E hgd hr h => ?_)
  · obtain ⟨x, y, b, rfl, _⟩ := h; rfl
  · obtain ⟨_, _, b, rfl, ⟨a, rows, wd, rfl, hA, h⟩, k⟩ := h
    refine ⟨_, (pss_one (ps_ret (pe_and (pe_callB call_isi (by rfl) T.n_isinstance (by decide +kernel) (pa_cons (pv 1) (pa_cons (pe_glob (v := .ref _) rfl T.g_Room rfl) pa_nil))) (pe_one (pe_cmpR (op_eqD hr.units) (pe_fld (pv 0) rfl) (pe_fld (pv 1) rfl) (nomark _)))))), ?_⟩
    obtain ⟨dx, tt, ct, pt, nd, hx, ht, _⟩ := hA.ex
    rcases h with ⟨a', rows', wd', rfl, hB, hb⟩ | ⟨rfl, ty, hty, hk, _⟩
    · obtain ⟨dx', tt', ct', pt', nd', hx', ht', _⟩ := hB.ex
      refine ⟨_, rfl, _, _, _, _, _, rfl, .own CR, .base (insTy T.icR hx'), T.icR.me, _, rfl, iteT ?_⟩
      refine ⟨_, rfl, a, CR, dx, _, _, rfl, hx, T.clR, a_rows, rfl, ?_⟩
      refine ⟨_, rfl, a', CR, dx', _, _, rfl, hx', T.clR, a_rows, rfl, ?_⟩
      refine ⟨_, _, .tup (SqT.of ht) (DpAll_strs rows), .tup (SqT.of ht') (DpAll_strs rows'), shapedT hA.lines, shapedT hB.lines, ?_⟩
      have e2 : PyData.eqv (.tuple (rows.map PyData.str)) (.tuple (rows'.map PyData.str)) = decide (rows = rows') := eqvAll_strs rows rows'
      rw [e2, show decide (rows = rows') = b from by cases b <;> simp_all]
      exact k H Ext.rfl'
    · refine ⟨_, rfl, _, _, _, _, _, rfl, .own CR, .base hty, hk, _, rfl, iteF ?_⟩
      exact k H Ext.rfl'
/-- what the top says of Room.__eq__, and what follows: == and != of rooms -/
theorem rcX_rm {X : Cx} (ic : C8.InsC X.K CR) {f : Addr} {fd : FuncData} {op : CmpOp} (hop : op = .Eq ∨ op = .NotEq) (T : EqC X.K CR f) (F : FnG X.prog X.w X.K X.mg X.base (CXe X.prog X.w) 1 f fd ["self", "other"] (spEqB (RmB X.K CR))) (hb : Binds X.K fd ["self", "other"] []) : RcX X op 2 (RmB X.K CR) :=
  (rcX_ins (E := E0) hop T F hb passL).imp fun x y H b d => by
    obtain ⟨a, rows, wd, rfl, hA, h⟩ := id d
    obtain ⟨dx, tt, ct, pt, nd, hx, ht, _⟩ := hA.ex
    refine ⟨⟨a, _, _, rfl, hx⟩, ?_, d⟩
    rcases h with ⟨a', rows', wd', rfl, hB, hb⟩ | ⟨rfl, ty, hty, hk, hn⟩
    · obtain ⟨dx', tt', ct', pt', nd', hx', ht', _⟩ := hB.ex
      exact ⟨.ref CR, insTy ic hx', by simp [PySem.W.notFirst]⟩
    · exact ⟨ty, hty, hn⟩
end
end K88
end
section
set_option Elab.async false
set_option linter.all false
set_option maxRecDepth 100000
set_option maxHeartbeats 2000000
namespace K88
open PySem L2
local macro_rules | `(tactic| walk_at "hp") => `(tactic| first | assumption | exact upd_same | (refine (upd_ne (by first | assumption | (apply Ne.symm; assumption))).trans ?_; walk_at "hp"))
local macro_rules | `(tactic| walk_at "rd1") => `(tactic| first
  | (refine ⟨_, rfl, ?_⟩)
  | (refine ⟨_, _, rfl, rfl, ?_⟩)
  | (refine ⟨(rfl : scal _ _ = true), ?_⟩)
  | (refine And.intro (by show (0 : Int) < _; decide) ?_)
  | (refine And.intro (And.intro (by decide) (by decide)) ?_)
  | (refine And.intro (Or.inr (And.intro (by decide) (by decide))) ?_)
  | (refine And.intro (And.intro (by decide) (And.intro (by decide) (by decide))) ?_)
  | (refine And.intro (by assumption) ?_)
  | (refine And.intro (And.intro (by omega) (by omega)) ?_)
  | (refine And.intro (Or.inl (And.intro (by omega) (by omega))) ?_)
  | (refine' ⟨_, _, _, _, rfl, rfl, Or.inl (Or.inl ?h1), ?h2, ?h3⟩; (case h1 => walk_at "hp"); (case h2 => rfl))
  | (refine' ⟨_, _, _, _, rfl, rfl, ?h1, ?h2, ?h3⟩; (case h1 => walk_at "hp"); (case h2 => rfl))
  | (refine' ⟨_, _, rfl, Or.inl (Or.inl (Or.inl ?h1)), ?h3⟩; (case h1 => walk_at "hp"))
  | (refine Or.inl ⟨_, rfl, ?_⟩))
local macro_rules | `(tactic| walk_at "rd") => `(tactic| repeat walk_at "rd1")
theorem sc_Level_eq : FnScope ["self", "other"] ["self", "other"] (defScope s_Level_eq) := ⟨rfl, rfl, rfl, by decide +kernel, rfl, by decide +kernel, by decide +kernel⟩
section
variable {P : Program} {w : World} {K : PySem.W.Frag} {mg : Str → Option Value} {base : Heap} {C CR CV CB fB CE fE CT : Addr}
theorem dep_child {rows : List Str} {wd m : Nat} {ch : List Tr} {t : Tr} (h : (Tr.nd rows wd ch).dep ≤ m + 1) (q : t ∈ ch) : t.dep ≤ m := by
  rw [dep_nd] at h
  have up : ∀ (L : List Nat) (x : Nat), x ∈ L → x ≤ L.foldr max 0 := fun L x h => by
    induction L with
    | nil => cases h
    | cons a r ih =>
      rw [List.foldr_cons]
      rcases List.mem_cons.mp h with rfl | h
      · exact Nat.le_max_left ..
      · exact Nat.le_trans (ih h) (Nat.le_max_right ..)
  have := up _ _ (List.mem_map_of_mem (f := Tr.dep) q)
  omega
/-- the rows of a room in the heap are one -/
theorem RoomAt.rows_inj {H : Hp} {R : Addr} {rows rows' : List Str} {wd wd' : Nat} (h : RoomAt CR H R rows wd) (h' : RoomAt CR H R rows' wd') : rows = rows' := by
  obtain ⟨dx, tt, ct, pt, nd, hx, ht, _⟩ := h.ex
  obtain ⟨dx', tt', ct', pt', nd', hx', ht', _⟩ := h'.ex
  rw [hx] at hx'
  injection hx' with hx'
  injection hx' with _ _ hx'
  have e : tt = tt' := by
    have := congrArg (fun fs => fs.lookup ("rows" : Str)) hx'
    injection this with this
    injection this
  rw [e, ht'] at ht
  injection ht with ht
  injection ht with ht
  have := congrArg (List.map strOf) ht
  rw [strOf_map, strOf_map] at this
  exact this.symm
theorem wd_inj {rows : List Str} {wd wd' : Nat} (R : RowsOk rows wd) (R' : RowsOk rows wd') : wd = wd' := by
  have h1 := R.h1
  cases rows with
  | nil => simp at h1
  | cons r t => exact (R.al r (List.mem_cons_self ..)).symm.trans (R'.al r (List.mem_cons_self ..))
theorem LevelAt.inj {H : Hp} {v : V} {t u : Tr} (h : LevelAt K CR CV H v t) (h' : LevelAt K CR CV H v u) : t = u := by
  induction h generalizing u with
  | @mk x dx R c rows wd n d vs ch a1 a2 a3 a4 a5 a6 a7 _ ih =>
    cases h' with
    | @mk _ dx' R' c' rows' wd' n' d' vs' ch' b1 b2 b3 b4 b5 b6 b7 b8 =>
      rw [a1] at b1
      injection b1 with b1
      injection b1 with _ _ b1
      injection b1 with b1 b2'
      injection b1 with _ b1
      injection b1 with b1
      injection b2' with b2' _
      injection b2' with _ b2'
      injection b2' with b2'
      subst b1; subst b2'
      have er := a4.rows_inj b4
      subst er
      have ew := wd_inj a4.ok b4.ok
      subst ew
      have ec : vs = vs' := by
        have hl : vs.length = vs'.length := by have := a5.symm.trans b5; omega
        rcases a6 with a6 | ⟨rfl, _⟩
        · rcases b6 with b6 | ⟨rfl, _⟩
          · rw [a6] at b6
            injection b6 with b6
            injection b6
          · exact List.eq_nil_of_length_eq_zero hl
        · exact (List.eq_nil_of_length_eq_zero hl.symm).symm
      subst ec
      congr 1
      refine List.ext_getElem? fun i => ?_
      by_cases hi : i < vs.length
      · have e1 := List.getElem?_eq_getElem hi
        have e2 := List.getElem?_eq_getElem (show i < ch.length by omega)
        have e3 := List.getElem?_eq_getElem (show i < ch'.length by omega)
        rw [e2, e3, ih i _ _ e1 e2 (b8 i _ _ e1 e3)]
      · rw [List.getElem?_eq_none (by omega), List.getElem?_eq_none (by omega)]
theorem level_ins {H : Hp} {v : V} {t : Tr} (h : LevelAt K CR CV H v t) : ∃ a dx fs, v = .ref a ∧ H a = some (.ins CV dx fs) := by
  cases h with
  | mk a1 _ _ _ _ _ _ _ => exact ⟨_, _, _, rfl, a1⟩
/-- a level no deeper than m, with anything -/
def LvQ (K : PySem.W.Frag) (CR CV : Addr) (m : Nat) : EqB := fun x y H b => ∃ t, LevelAt K CR CV H x t ∧ t.dep ≤ m ∧ ((∃ u, LevelAt K CR CV H y u ∧ (b = true ↔ t = u)) ∨ (b = false ∧ NoIns K CV H y))
theorem monB_lv {m : Nat} : MonB (LvQ K CR CV m) := fun x y H H' b e d => by
  obtain ⟨t, h1, h2, h⟩ := d
  exact ⟨t, h1.same e, h2, h.imp (fun ⟨u, a, b⟩ => ⟨u, a.same e, b⟩) fun h => ⟨h.1, h.2.ext e⟩⟩
theorem lv_same {m : Nat} (me : PySem.W.kitOne K (.ref CV) (.ref CV) = some true) (icV : C8.InsC K CV) (x y : V) (H : Hp) (b : Bool) (d : LvQ K CR CV m x y H b) : (∃ a, x = .ref a) ∧ (x = y → b = true) := by
  obtain ⟨t, h1, h2, h⟩ := d
  obtain ⟨a, dx, fs, rfl, ha⟩ := level_ins h1
  refine ⟨⟨a, rfl⟩, fun z => ?_⟩
  subst z
  rcases h with ⟨u, hu, hb⟩ | ⟨_, ty, hty, hk, _⟩
  · exact hb.mpr (h1.inj hu)
  · exfalso
    cases hty with
    | lst e => rw [ha] at e; cases e
    | frz e => rw [ha] at e; cases e
    | tup e => rw [ha] at e; cases e
    | dK e => rw [ha] at e; cases e
    | dT e => rw [ha] at e; cases e
    | ins e _ _ _ _ _ =>
      rw [ha] at e
      cases e
      rw [me] at hk
      cases hk
theorem prs_lv {m : Nat} {H : Hp} : ∀ {vs ws : List V} {ch ch' : List Tr}, LvsAt K CR CV H vs ch → LvsAt K CR CV H ws ch' → (∀ t ∈ ch, t.dep ≤ m) → ∃ b, (b = true ↔ ch = ch') ∧ PrsB (LvQ K CR CV m) H vs ws b
  | [], [], ch, ch', h, h', hd => by
    have e1 : ch = [] := List.length_eq_zero_iff.mp h.1.symm
    have e2 : ch' = [] := List.length_eq_zero_iff.mp h'.1.symm
    subst e1; subst e2
    exact ⟨true, by simp, .nil⟩
  | [], y :: ys, ch, ch', h, h', hd => by
    have e1 : ch = [] := List.length_eq_zero_iff.mp h.1.symm
    subst e1
    refine ⟨false, ?_, .more⟩
    have := h'.1
    cases ch' with
    | nil => simp at this
    | cons a r => simp
  | x :: xs, [], ch, ch', h, h', hd => by
    have e1 : ch' = [] := List.length_eq_zero_iff.mp h'.1.symm
    subst e1
    refine ⟨false, ?_, .less⟩
    have := h.1
    cases ch with
    | nil => simp at this
    | cons a r => simp
  | x :: xs, y :: ys, ch, ch', h, h', hd => by
    have l1 := h.1
    have l2 := h'.1
    cases ch with
    | nil => simp at l1
    | cons t r =>
      cases ch' with
      | nil => simp at l2
      | cons u r' =>
        have a1 := h.2 0 x t rfl rfl
        have a2 := h'.2 0 y u rfl rfl
        by_cases e : t = u
        · obtain ⟨b, hb, p⟩ := prs_lv (vs := xs) (ws := ys) (ch := r) (ch' := r') ⟨by simpa using l1, fun i v t e1 e2 => h.2 (i + 1) v t e1 e2⟩ ⟨by simpa using l2, fun i v t e1 e2 => h'.2 (i + 1) v t e1 e2⟩ (fun t ht => hd t (List.mem_cons_of_mem _ ht))
          exact ⟨b, by rw [hb]; simp [e], .same ⟨t, a1, hd t (List.mem_cons_self ..), .inl ⟨u, a2, by simp [e]⟩⟩ p⟩
        · exact ⟨false, by simp [e], .diff ⟨t, a1, hd t (List.mem_cons_self ..), .inl ⟨u, a2, by simp [e]⟩⟩⟩
theorem rcX_lv {X : Cx} {f : Addr} {fd : FuncData} {op : CmpOp} {n m : Nat} (ic : C8.InsC X.K CV) (hop : op = .Eq ∨ op = .NotEq) (T : EqC X.K CV f) (F : FnG X.prog X.w X.K X.mg X.base (CXe X.prog X.w) n f fd ["self", "other"] (spEqB (LvQ X.K CR CV m))) (hb : Binds X.K fd ["self", "other"] []) : RcX X op (n + 1) (LvQ X.K CR CV m) :=
  (rcX_ins (E := E0) hop T F hb passL).imp fun x y H b d => by
    obtain ⟨t, h1, h2, h⟩ := id d
    obtain ⟨a, dx, fs, rfl, ha⟩ := level_ins h1
    refine ⟨⟨a, _, _, rfl, ha⟩, ?_, d⟩
    rcases h with ⟨u, hu, hb⟩ | ⟨rfl, ty, hty, hk, hn⟩
    · obtain ⟨a', dx', fs', rfl, ha'⟩ := level_ins hu
      exact ⟨.ref CV, insTy ic ha', by simp [PySem.W.notFirst]⟩
    · exact ⟨ty, hty, hn⟩
theorem op_rm {X : Cx} {f : Addr} {fd : FuncData} {op : CmpOp} (ic : C8.InsC X.K CR) (hop : op = .Eq ∨ op = .NotEq) (T : EqC X.K CR f) (F : FnG X.prog X.w X.K X.mg X.base (CXe X.prog X.w) 1 f fd ["self", "other"] (spEqB (RmB X.K CR))) (hb : Binds X.K fd ["self", "other"] []) (hgd : X.A.guards = some []) (hr : Room 2 X.A) : OpR X (compareOp op) (rOpB op (RmB X.K CR)) := op_X hop (rcX_rm ic hop T F hb) hgd hr
theorem eqX_lv {X : Cx} {f : Addr} {fd : FuncData} {n m : Nat} (ic : C8.InsC X.K CV) (T : EqC X.K CV f) (F : FnG X.prog X.w X.K X.mg X.base (CXe X.prog X.w) n f fd ["self", "other"] (spEqB (LvQ X.K CR CV m))) (hb : Binds X.K fd ["self", "other"] []) : EqX X (n + 1) (LvQ X.K CR CV m) := (rcX_lv ic (.inl rfl) T F hb).eqX (lv_same ic.me ic)
theorem op_lvs {X : Cx} {f : Addr} {fd : FuncData} {n m : Nat} (ic : C8.InsC X.K CV) (T : EqC X.K CV f) (F : FnG X.prog X.w X.K X.mg X.base (CXe X.prog X.w) n f fd ["self", "other"] (spEqB (LvQ X.K CR CV m))) (hb : Binds X.K fd ["self", "other"] []) (hgd : X.A.guards = some []) (hr : Room (n + 2) X.A) : OpR X (compareOp .Eq) (rOpB .Eq (DTupB X.K (LvQ X.K CR CV m))) := op_X (.inl rfl) (rcX_tup (.inl rfl) monB_lv (eqX_lv ic T F hb)) hgd hr
/-- what the top says of the two own == -/
structure EqsT (P : Program) (w : World) (K : PySem.W.Frag) (mg : Str → Option Value) (base : Heap) (CR CV fr fv : Addr) (fdr fdv : FuncData) : Prop where
  eR : EqC K CR fr
  bR : Binds K fdr ["self", "other"] []
  qR : FnG P w K mg base (CXe P w) 1 fr fdr ["self", "other"] (spEqB (RmB K CR))
  eV : EqC K CV fv
  bV : Binds K fdv ["self", "other"] []
theorem okB_level {fr fv : Addr} {fdr fdv : FuncData} {m : Nat} (F : Fun K "__eq__" "Level.__eq__" s_Level_eq fv fdv) (T : LevT P w K mg CR CV CB fB CE fE CT) (S : EqsT P w K mg base CR CV fr fv fdr fdv)
    (IH : FnG P w K mg base (CXe P w) (3 * m + 2) fv fdv ["self", "other"] (spEqB (LvQ K CR CV m))) : FnG P w K mg base (CXe P w) (3 * m + 4 + 1) fv fdv ["self", "other"] (spEqB (LvQ K CR CV (m + 1))) := by
  refine F.okG sc_Level_eq (fun vs H Q E h => ?_) (fun cdv A outer s H vs Q E hgd hr h => ?_)
  · obtain ⟨x, y, b, rfl, _⟩ := h; rfl
  · obtain ⟨_, y, b, rfl, ⟨t, hA, hd, h⟩, k⟩ := h
    refine ⟨_, (pss_one (ps_ret (pe_and (pe_callB call_isi (by rfl) T.n_isinstance (by decide +kernel) (pa_cons (pv 1) (pa_cons (pe_glob (v := .ref _) rfl T.g_Level rfl) pa_nil))) (pe_and (pe_cmpR (op_rm (op := .Eq) (by exact T.icR) (.inl rfl) (by exact S.eR) (by exact S.qR) (by exact S.bR) (by exact hgd) (by exact hr.mono (by omega))) (pe_fld (pv 0) rfl) (pe_fld (pv 1) rfl) (nomark _)) (pe_one (pe_cmpR (op_lvs (n := 3 * m + 2) (by exact T.icV) (by exact S.eV) (by exact IH) (by exact S.bV) (by exact hgd) (by exact hr)) (pe_fld (pv 0) rfl) (pe_fld (pv 1) rfl) (nomark _))))))), ?_⟩
    cases hA with
    | @mk a dx R c rows wd n d vs ch a1 a2 a3 a4 a5 a6 a7 a8 =>
      rcases h with ⟨u, hB, hb⟩ | ⟨rfl, ty, hty, hk, _⟩
      · cases hB with
        | @mk a' dx' R' c' rows' wd' n' d' vs' ch' b1 b2 b3 b4 b5 b6 b7 b8 =>
          refine ⟨_, rfl, _, _, _, _, _, rfl, .own CV, .base (insTy T.icV b1), T.icV.me, _, rfl, iteT ?_⟩
          have hrm : ∀ rb, (rb = true ↔ rows = rows') → RmB K CR (.ref R) (.ref R') H rb := fun rb hrb => ⟨R, rows, wd, rfl, a4, .inl ⟨R', rows', wd', rfl, b4, hrb⟩⟩
          by_cases er : rows = rows'
          · refine ⟨_, rfl, a, CV, dx, _, _, rfl, a1, T.clV, T.n_room, rfl, _, rfl, a', CV, dx', _, _, rfl, b1, T.clV, T.n_room, rfl, true, hrm true (by simp [er]), fun H1 e1 => ⟨_, rfl, iteT ?_⟩⟩
            obtain ⟨bb, hbb, pp⟩ := prs_lv (K := K) (m := m) (H := H1) (vs := vs) (ws := vs') (ch := ch) (ch' := ch') ⟨a7, fun i v t q1 q2 => (a8 i v t q1 q2).same e1⟩ ⟨b7, fun i v t q1 q2 => (b8 i v t q1 q2).same e1⟩ (fun t ht => dep_child hd ht)
            refine ⟨_, rfl, a, CV, dx, _, _, rfl, e1 _ _ a1, T.clV, T.n_children, rfl, _, rfl, a', CV, dx', _, _, rfl, e1 _ _ b1, T.clV, T.n_children, rfl, bb, ⟨c, c', vs, vs', rfl, rfl, (a6.same e1).sq, (b6.same e1).sq, pp⟩, fun H2 e2 => ?_⟩
            have eb : bb = b := by
              have hw : wd = wd' := by subst er; exact wd_inj a4.ok b4.ok
              have : (b = true) ↔ (bb = true) := by
                rw [hb, hbb]
                subst er; subst hw
                exact ⟨fun z => by injection z, fun z => by rw [z]⟩
              cases b <;> cases bb <;> simp_all
            subst eb
            exact k H2 (e1.trans e2)
          · have eb : b = false := by
              cases b with
              | false => rfl
              | true => exact absurd (by have := hb.mp rfl; injection this) er
            subst eb
            refine ⟨_, rfl, a, CV, dx, _, _, rfl, a1, T.clV, T.n_room, rfl, _, rfl, a', CV, dx', _, _, rfl, b1, T.clV, T.n_room, rfl, false, hrm false (by simp [er]), fun H1 e1 => ⟨_, rfl, iteF ?_⟩⟩
            exact k H1 e1
      · refine ⟨_, rfl, _, _, _, _, _, rfl, .own CV, .base hty, hk, _, rfl, iteF ?_⟩
        exact k H Ext.rfl'
theorem okB_levels {fr fv : Addr} {fdr fdv : FuncData} (F : Fun K "__eq__" "Level.__eq__" s_Level_eq fv fdv) (T : LevT P w K mg CR CV CB fB CE fE CT) (S : EqsT P w K mg base CR CV fr fv fdr fdv) : ∀ m, FnG P w K mg base (CXe P w) (3 * m + 2) fv fdv ["self", "other"] (spEqB (LvQ K CR CV m))
  | 0 => by
    refine F.okG sc_Level_eq (fun vs H Q E h => ?_) (fun cdv A outer s H vs Q E hgd hr h => ?_)
    · obtain ⟨x, y, b, rfl, _⟩ := h; rfl
    · obtain ⟨_, y, b, rfl, ⟨t, hA, hd, h⟩, k⟩ := h
      cases hA with
      | mk => rw [dep_nd] at hd; omega
  | m + 1 => (okB_level F T S (okB_levels F T S m)).mono (by omega)
/-- a def that calls itself on less: the fold of its contract -/
theorem cal_below {x : Str} {sp : Nat → Sp} {r : Nat} {f : Addr} {fd : FuncData} {ps : List Str} (hm : mg x = some (.ref f)) (kp : PySem.W.keepIn K (.ref f) = true) (hb : Binds K fd ps [])
    (step : ∀ n, CalG P w K mg base (r + n) x (below sp n) → FnG P w K mg base (CXe P w) (r + n + 1) f fd ps (sp n)) : ∀ n, FnG P w K mg base (CXe P w) (r + n) f fd ps (below sp n)
  | 0 => ⟨fun _ _ _ _ h => by obtain ⟨m, h, _⟩ := h; omega, fun _ _ _ _ _ _ _ _ _ _ _ _ _ _ h => by obtain ⟨m, h, _⟩ := h; omega⟩
  | n + 1 => by
    have F := cal_below hm kp hb step n
    have G := step n ⟨f, fd, ps, F, hm, kp, hb⟩
    refine ⟨fun vs H Q E h => ?_, fun A o s H a us vs Q E hg hr he hbb hv h => ?_⟩
    · obtain ⟨m, hmn, h⟩ := h
      by_cases e : m = n
      · subst e; exact G.len _ _ _ _ h
      · exact F.len _ _ _ _ ⟨m, by omega, h⟩
    · obtain ⟨m, hmn, h⟩ := h
      by_cases e : m = n
      · subst e; exact G.run A o s H a us vs Q E hg hr he hbb hv h
      · exact F.run A o s H a us vs Q E hg (hr.mono (by omega)) he hbb hv ⟨m, by omega, h⟩
theorem cal_most {x : Str} {sp : Nat → Sp} {r N : Nat} {f : Addr} {fd : FuncData} {ps : List Str} (hm : mg x = some (.ref f)) (kp : PySem.W.keepIn K (.ref f) = true) (hb : Binds K fd ps [])
    (step : ∀ n, CalG P w K mg base (r + n) x (below sp n) → FnG P w K mg base (CXe P w) (r + n + 1) f fd ps (sp n)) : CalG P w K mg base (r + N + 1) x (atMost N sp) :=
  ⟨f, fd, ps, (cal_below hm kp hb step (N + 1)).imp fun vs H Q E h => by obtain ⟨n, a, b⟩ := h; exact ⟨n, by omega, b⟩, hm, kp, hb⟩
theorem dep_le_cnt : ∀ t : Tr, t.dep ≤ t.cnt := Tr.ind fun rows wd ch ih => by
  rw [dep_nd, cnt_nd]
  have : ∀ L : List Tr, (∀ c ∈ L, c.dep ≤ c.cnt) → (L.map Tr.dep).foldr max 0 ≤ (L.map Tr.cnt).sum := fun L h => by
    induction L with
    | nil => exact Nat.le_refl _
    | cons a r ih =>
      rw [List.map_cons, List.map_cons, List.foldr_cons, List.sum_cons]
      have h1 := h a (List.mem_cons_self ..)
      have h2 := ih fun c hc => h c (List.mem_cons_of_mem _ hc)
      exact Nat.max_le.mpr ⟨by omega, by omega⟩
  have := this ch ih
  omega
end
end K88
end
section
set_option Elab.async false
set_option linter.all false
set_option maxRecDepth 100000
set_option maxHeartbeats 2000000
namespace K88
open PySem L2
local macro_rules | `(tactic| walk_at "hp") => `(tactic| first | assumption | exact upd_same | (refine (upd_ne (by first | assumption | (apply Ne.symm; assumption))).trans ?_; walk_at "hp"))
local macro_rules | `(tactic| walk_at "rd1") => `(tactic| first
  | (refine ⟨_, rfl, ?_⟩)
  | (refine ⟨_, _, rfl, rfl, ?_⟩)
  | (refine ⟨(rfl : scal _ _ = true), ?_⟩)
  | (refine And.intro (by show (0 : Int) < _; decide) ?_)
  | (refine And.intro (And.intro (by decide) (by decide)) ?_)
  | (refine And.intro (Or.inr (And.intro (by decide) (by decide))) ?_)
  | (refine And.intro (And.intro (by decide) (And.intro (by decide) (by decide))) ?_)
  | (refine And.intro (by assumption) ?_)
  | (refine And.intro (And.intro (by omega) (by omega)) ?_)
  | (refine And.intro (Or.inl (And.intro (by omega) (by omega))) ?_)
  | (refine' ⟨_, _, _, _, rfl, rfl, Or.inl (Or.inl ?h1), ?h2, ?h3⟩; (case h1 => walk_at "hp"); (case h2 => rfl))
  | (refine' ⟨_, _, _, _, rfl, rfl, ?h1, ?h2, ?h3⟩; (case h1 => walk_at "hp"); (case h2 => rfl))
  | (refine' ⟨_, _, rfl, Or.inl (Or.inl (Or.inl ?h1)), ?h3⟩; (case h1 => walk_at "hp"))
  | (refine Or.inl ⟨_, rfl, ?_⟩))
local macro_rules | `(tactic| walk_at "rd") => `(tactic| repeat walk_at "rd1")
section
variable {P : Program} {w : World} {K : PySem.W.Frag} {mg : Str → Option Value} {base : Heap} {C CR CV CB fB CE fE CT CN fN CA fA : Addr}
def spLInit0 (K : PySem.W.Frag) (CR CV : Addr) : Sp := fun vs H Q E => ∃ (x dx R c : Addr) (rows : List Str) (wd : Nat), vs = [.ref x, .ref R, .ref c] ∧ H x = some (.ins CV dx []) ∧ RoomAt CR H R rows wd ∧ manyZ (Txt.join "" rows) "12" = 0 ∧ EmptyC K c ∧
  ∀ H', LevelAt K CR CV H' (.ref x) (.nd rows wd []) → (∀ b o, H b = some o → b ≠ x → H' b = some o) → Q .non H'
theorem lc_fld0 {cl : Cls K CV} {fld : Str} {x R c : Addr} {o3 o4 o5 : Option V} {H : Hp} {Q : VK} (hc : EmptyC K c) (k : ∀ D H', Same H H' → H' D = some (.lst []) → Q (.ref D) H') :
    tLc (iTup K (tVar 2)) (gName 4) tYes (tFld K (tVar 4) fld) [4] [some (.ref x), some (.ref R), some (.ref c), o3, o4, o5] H Q := by
  refine ⟨_, rfl, c, rfl, ⟨_, hc.sq⟩, fun D hD => lc_it (walk_tup (xs := [])) (fun i H' => H' D = some (.lst []) ∧ Off (fun b => b = D) H H') ⟨upd_same, Off.new hD⟩ (fun i H' _ z => hc.sq) ?_ ?_⟩
  · rintro i y Ha Hb hi
    simp at hi
  rintro H4 ⟨hacc, off⟩
  exact k D H4 (fun b o e => off b o (ne_of_none e hD) e) hacc
theorem ok_linit0 {f : Addr} {fd : FuncData} {dvs : List V} (F : FunD K "__init__" "Level.__init__" (defArgs s_Level_init) (defBody s_Level_init) (defScope s_Level_init) dvs [] f fd) (T : LevT P w K mg CR CV CB fB CE fE CT) (c_need_room : CalG P w K mg base 3 "need_room" (spNeedC K CR CB)) (c_is_row : CalG P w K mg base 1 "is_row" (spIsRow K)) :
    FnG P w K mg base (CXe P w) 4 f fd ["self", "room", "children"] (spLInit0 K CR CV) := by
  refine F.okG sc_Level_init (fun vs H Q E h => ?_) (fun cdv A outer s H vs Q E hgd hr h => ?_)
  · obtain ⟨x, dx, R, c, rows, wd, rfl, _⟩ := h; rfl
  · obtain ⟨x, dx, R, c, rows, wd, rfl, hx, hR, hmo, hc, kQ⟩ := h
    refine ⟨_, (pss_cons (ps_expr (pg_cS c_need_room hgd hr (by first | decide | omega) (fun σ => passAt (takes_of rfl rfl rfl rfl) σ) (pa_cons (pv 1) pa_nil)))
      (pss_cons (ps_if (PW.pt (pw_or (pt_not (pt_val (pg_c c_is_row hgd hr (by first | decide | omega) (pa_cons (pv 2) pa_nil)))) (pw_or1 (pt_cmpR op_ne (pe_callB call_len_seq (by rfl) T.n_len (by decide +kernel) (pa_cons (pv 2) pa_nil)) (pe_fld (pv 1) rfl) (nomark _))))) (pss_one (ps_raiseErr rfl T.x_BadLevel hr (takes_of rfl rfl rfl rfl) (pa_cons (pe_un un_neg pe_int) pa_nil))) pss_nil)
      (pss_cons (ps_for (passes_of rfl) rfl (pi_enum2 (by rfl) T.n_enumerate (pa_cons (pv 2) pa_nil)) (pg_tup (by rfl) (pgs_cons (pg_name (i := 3) sc_Level_init.nd rfl (Or.inl rfl)) (pgs_cons (pg_name (i := 4) sc_Level_init.nd rfl (Or.inl rfl)) pgs_nil)))
      (pss_one (ps_if (pt_not (pt_val (pe_callB call_isi (by rfl) T.n_isinstance (by decide +kernel) (pa_cons (pv 4) (pa_cons (pe_glob (v := .ref _) rfl T.g_Level rfl) pa_nil))))) (pss_one (ps_raiseErr rfl T.x_BadLevel hr (takes_of rfl rfl rfl rfl) (pa_cons (pv 3) pa_nil))) pss_nil)))
      (pss_cons (ps_set (i := 5) sc_Level_init.nd rfl (Or.inl rfl) (pe_op op_add pe_int (pe_callB (cr_sum rfl) (by rfl) T.n_sum (by decide +kernel) (pa_cons (pe_lc (own := [("child", 4)]) (g := gName 4) (tt := tYes) rfl sc_Level_init.nd (pi_tup (pv 2)) (blkOk_by (own := [("child", 4)]) (N := ["self", "room", "children", "at", "child", "rooms"]) (sc := defScope s_Level_init) (by decide +kernel)) (fun _ _ _ _ _ => pg_name (i := 4) sc_Level_init.nd rfl (Or.inl rfl)) (fun _ _ _ _ _ => pts_nil) (fun _ _ _ _ _ => (show PE _ _ (tFld K (tVar 4) "rooms") from pe_fld (pv 4) rfl))) pa_nil))))
      (pss_cons (ps_if (pt_cmpR op_gt (pv 5) (pe_glob (v := .int 60) rfl (Exists.choose_spec T.k_MOST_ROOMS) ⟨_, rfl⟩) (nomark _)) (pss_one (ps_raiseN rfl T.x_TooMany (takes_of rfl rfl rfl rfl))) pss_nil)
      (pss_cons (ps_fld (pv 0) (pv 1) rfl)
      (pss_cons (ps_fld (pv 0) (pe_callTy call_tuple_of (by rfl) T.n_tuple (by decide +kernel) (pa_cons (pv 2) pa_nil)) rfl)
      (pss_cons (ps_fld (pv 0) (pv 5) rfl)
      (pss_one (ps_fld (pv 0) (pe_op op_add pe_int (pe_callBK (cr_maxDf rfl) (by rfl) T.n_max (by decide +kernel) (pa_cons (pe_lc (own := [("child", 4)]) (g := gName 4) (tt := tYes) rfl sc_Level_init.nd (pi_tup (pv 2)) (blkOk_by (own := [("child", 4)]) (N := ["self", "room", "children", "at", "child", "rooms"]) (sc := defScope s_Level_init) (by decide +kernel)) (fun _ _ _ _ _ => pg_name (i := 4) sc_Level_init.nd rfl (Or.inl rfl)) (fun _ _ _ _ _ => pts_nil) (fun _ _ _ _ _ => (show PE _ _ (tFld K (tVar 4) "depth") from pe_fld (pv 4) rfl))) pa_nil) (pk_cons pe_int pk_nil))) rfl)))))))))), ?_⟩
    obtain ⟨Rdx, Rt, Rct, Rpt, Rnd, hRx, _⟩ := id hR.ex
    refine ⟨_, rfl, .ref R, .ref CR, true, rfl, .base (insTy T.icR hRx), T.icR.me, fun _ => ?_, fun z => nomatch z⟩
    obtain ⟨od, us, nn, sl, lk, emp⟩ := id hc
    refine ⟨_, rfl, .ref c, .type "tuple", true, rfl, .kTuple lk rfl, fun _ _ => .kTuple lk rfl, kitAny_ty (show kitB "tuple" "list" = some false by decide +kernel) (show kitB "tuple" "tuple" = some true by decide +kernel), fun H1 s1 => ?_⟩
    refine ⟨_, rfl, iteF' (by simp) ?_⟩
    refine ⟨_, rfl, c, [], rfl, .inr hc.sq, _, rfl, R, CR, Rdx, _, _, rfl, s1 _ _ hRx, T.clR, T.n_mouths, rfl, ?_⟩
    refine ⟨(rfl : scal _ _ = true), _, rfl, ?_⟩
    refine iteF' (fun z => ?_) ?_
    · have e : V.int (([] : List V).length : Nat) = V.int (manyZ (Txt.join "" rows) "12") := by rw [hmo]; rfl
      revert z
      simp [hmo]
    refine ⟨_, rfl, c, [], rfl, .inr hc.sq, fun J G wk hG => for_it wk (fun i σ H' => (∃ o3 o4, σ = [some (.ref x), some (.ref R), some (.ref c), o3, o4, none]) ∧ Same H1 H') ⟨⟨none, none, rfl⟩, Same.refl _⟩ (fun i σ H' _ q => hG H' q.2) ?_ ?_⟩
    · rintro i y σ H2 H3 hi
      simp at hi
    rintro σ H2 ⟨⟨o3, o4, rfl⟩, s2⟩
    have s02 := s1.trans s2
    refine seq_of (asg_of (op_of (tc_of (cb_of (cons_of (lc_fld0 (cl := T.clV) hc fun D H3 s3 hD => ?_))))))
    have ecn : (Tr.nd rows wd []).cnt = 1 := by rw [cnt_nd]; rfl
    have edp : (Tr.nd rows wd []).dep = 1 := by rw [dep_nd]; rfl
    refine ⟨D, [], rfl, SqL.of hD, 1, _, rfl, rfl, ?_⟩
    have s03 := s02.trans s3
    refine ⟨_, rfl, _, _, rfl, rfl, _, rfl, ?_⟩
    refine iteF' (by decide) ?_
    have o3' : Off (fun b => b = x) H H3 := Off.same s03
    have hx3 := s03 _ _ hx
    refine ⟨_, rfl, _, rfl, x, CV, dx, [], rfl, hx3, T.clV, T.n_room, by decide, ?_⟩
    have o4' : Off (fun b => b = x) H3 (upd H3 x (.ins CV dx (putF "room" (.ref R) []))) := Off.mut rfl
    have hx4 : upd H3 x (.ins CV dx (putF "room" (.ref R) [])) x = some (.ins CV dx (putF "room" (.ref R) [])) := upd_same
    generalize upd H3 x (.ins CV dx (putF "room" (.ref R) [])) = H4 at o4' hx4 ⊢
    refine ⟨_, rfl, c, [], rfl, .inr ⟨hc.sq, ?_⟩⟩
    refine ⟨_, rfl, x, CV, dx, _, rfl, hx4, T.clV, T.n_children, Nat.lt_of_le_of_lt (putF_len ..) (by decide), ?_⟩
    have pl1 : (putF "room" (.ref R) []).length ≤ 1 := putF_len ..
    have pl2 : (putF "children" (.ref c) (putF "room" (.ref R) [])).length ≤ 2 := Nat.le_trans (putF_len ..) (by omega)
    have o6 : Off (fun b => b = x) H4 (upd H4 x (.ins CV dx (putF "children" (.ref c) (putF "room" (.ref R) [])))) := Off.mut rfl
    have hx6 : upd H4 x (.ins CV dx (putF "children" (.ref c) (putF "room" (.ref R) []))) x = some (.ins CV dx (putF "children" (.ref c) (putF "room" (.ref R) []))) := upd_same
    generalize upd H4 x (.ins CV dx (putF "children" (.ref c) (putF "room" (.ref R) []))) = H6 at o6 hx6 ⊢
    refine ⟨_, rfl, _, rfl, x, CV, dx, _, rfl, hx6, T.clV, T.n_rooms, Nat.lt_of_le_of_lt pl2 (by decide), ?_⟩
    have e1 : ((fun i j : Int => V.int (i + j)) 1 ([] : List Int).sum) = V.int ((Tr.nd rows wd []).cnt : Nat) := by rw [ecn]; rfl
    rw [e1]
    have pl3 : (putF "rooms" (.int (Tr.nd rows wd []).cnt) (putF "children" (.ref c) (putF "room" (.ref R) []))).length ≤ 3 := Nat.le_trans (putF_len ..) (by omega)
    have o7 : Off (fun b => b = x) H6 (upd H6 x (.ins CV dx (putF "rooms" (.int (Tr.nd rows wd []).cnt) (putF "children" (.ref c) (putF "room" (.ref R) []))))) := Off.mut rfl
    have hx7 : upd H6 x (.ins CV dx (putF "rooms" (.int (Tr.nd rows wd []).cnt) (putF "children" (.ref c) (putF "room" (.ref R) [])))) x = some (.ins CV dx (putF "rooms" (.int (Tr.nd rows wd []).cnt) (putF "children" (.ref c) (putF "room" (.ref R) [])))) := upd_same
    generalize upd H6 x (.ins CV dx (putF "rooms" (.int (Tr.nd rows wd []).cnt) (putF "children" (.ref c) (putF "room" (.ref R) [])))) = H7 at o7 hx7 ⊢
    have o07 := ((o3'.trans o4').trans o6).trans o7
    refine sfld_of (op_of (tc_of (ckw_of (cons_of (lc_fld0 (cl := T.clV) hc fun D' H8 s8 hD8 => ?_)))))
    refine ⟨D', [], 0, rfl, rfl, SqL.of hD8, fun m hm => ?_⟩
    have hx8 := s8 _ _ hx7
    refine ⟨_, _, rfl, rfl, _, rfl, x, CV, dx, _, rfl, hx8, T.clV, T.n_depth, Nat.lt_of_le_of_lt pl3 (by decide), ?_⟩
    have em' : (fun i j => V.int (i + j)) 1 m = V.int ((Tr.nd rows wd []).dep : Nat) := by
      have := max_fold (L := []) (m := m) hm
      rw [this, edp]; rfl
    rw [em', putF4]
    have o08 := (o07.trans (Off.same s8)).trans (Off.mut (H := H8) (o := .ins CV dx (levelF (.ref R) (.ref c) (.int (Tr.nd rows wd []).cnt) (.int (Tr.nd rows wd []).dep))) rfl)
    have kp : ∀ (b : Addr) (o : HO), H b = some o → o ≠ HO.ins CV dx [] → upd H8 x (.ins CV dx (levelF (.ref R) (.ref c) (.int (Tr.nd rows wd []).cnt) (.int (Tr.nd rows wd []).dep))) b = some o := fun b o e ne => o08 b o (fun z => ne (by rw [z, hx] at e; exact (Option.some.inj e).symm)) e
    exact kQ _ (.mk upd_same rfl rfl (hR.keepI kp) hmo (.inr ⟨rfl, hc⟩) rfl fun i v t e1 e2 => by cases e1) fun b o e ne => o08 b o ne e
end
end K88
end
section
set_option Elab.async false
set_option linter.all false
set_option maxRecDepth 100000
set_option maxHeartbeats 2000000
namespace K88
open PySem L2
local macro_rules | `(tactic| walk_at "hp") => `(tactic| first | assumption | exact upd_same | (refine (upd_ne (by first | assumption | (apply Ne.symm; assumption))).trans ?_; walk_at "hp"))
local macro_rules | `(tactic| walk_at "rd1") => `(tactic| first
  | (refine ⟨_, rfl, ?_⟩)
  | (refine ⟨_, _, rfl, rfl, ?_⟩)
  | (refine ⟨(rfl : scal _ _ = true), ?_⟩)
  | (refine And.intro (by show (0 : Int) < _; decide) ?_)
  | (refine And.intro (And.intro (by decide) (by decide)) ?_)
  | (refine And.intro (Or.inr (And.intro (by decide) (by decide))) ?_)
  | (refine And.intro (And.intro (by decide) (And.intro (by decide) (by decide))) ?_)
  | (refine And.intro (by assumption) ?_)
  | (refine And.intro (And.intro (by omega) (by omega)) ?_)
  | (refine And.intro (Or.inl (And.intro (by omega) (by omega))) ?_)
  | (refine' ⟨_, _, _, _, rfl, rfl, Or.inl (Or.inl ?h1), ?h2, ?h3⟩; (case h1 => walk_at "hp"); (case h2 => rfl))
  | (refine' ⟨_, _, _, _, rfl, rfl, ?h1, ?h2, ?h3⟩; (case h1 => walk_at "hp"); (case h2 => rfl))
  | (refine' ⟨_, _, rfl, Or.inl (Or.inl (Or.inl ?h1)), ?h3⟩; (case h1 => walk_at "hp"))
  | (refine Or.inl ⟨_, rfl, ?_⟩))
local macro_rules | `(tactic| walk_at "rd") => `(tactic| repeat walk_at "rd1")
open PySem.Spec in
theorem join_split' (x y : Str) : Txt.join y (Txt.split x y) = x := by rw [TL.join_eq]; exact StrLaws.join_split x y
open PySem.Spec in
theorem split_join' {s : Nat} (hs : s < 256) {parts : List Str} (hne : parts ≠ []) (hp : ∀ p ∈ parts, s ∉ p.cps.toList) : Txt.split (Txt.join ⟨#[s]⟩ parts) ⟨#[s]⟩ = parts :=
  TL.split_join (y := ⟨#[s]⟩) (s := s) (S := []) rfl (by simp [hs]) hne hp
theorem many_sum (z : Str) : manyZ z "12" = Txt.count z "1" + Txt.count z "2" := by
  have : ("12" : Str).cps.toList = [49, 50] := by decide +kernel
  unfold manyZ
  rw [this]
  show Txt.count z ⟨#[49]⟩ + (Txt.count z ⟨#[50]⟩ + 0) = _
  rw [Int.add_zero]
  rfl
theorem many_nn (z : Str) : 0 ≤ manyZ z "12" := by
  obtain ⟨_, _, c1, c2, _⟩ := cnts z
  rw [many_sum, c1, c2]
  omega
/-- rows that are a room's -/
def OkRoom (rows : List Str) : Prop := ∃ wd, RowsOk rows wd ∧ (∀ r ∈ rows, lineS r = true) ∧ wholeZ (Txt.join "" rows) = true
def rowsL (l : Str) : List Str := Txt.split l "/"
open Classical in
/-- the mouths of a line that is a room -/
noncomputable def mo (l : Str) : Option Nat := if OkRoom (rowsL l) then some (manyZ (Txt.join "" (rowsL l)) "12").toNat else none
open Classical in
noncomputable def wdL (l : Str) : Nat := if h : OkRoom (rowsL l) then h.choose else 0
theorem mo_some {l : Str} {m : Nat} (h : mo l = some m) : RowsOk (rowsL l) (wdL l) ∧ (∀ r ∈ rowsL l, lineS r = true) ∧ wholeZ (Txt.join "" (rowsL l)) = true ∧ manyZ (Txt.join "" (rowsL l)) "12" = (m : Int) := by
  unfold mo at h
  split at h
  · rename_i ho
    have hc := ho.choose_spec
    cases h
    refine ⟨?_, hc.2.1, hc.2.2, ?_⟩
    · unfold wdL; rw [dif_pos ho]; exact hc.1
    · have : 0 ≤ manyZ (Txt.join "" (rowsL l)) "12" := many_nn _
      omega
  · cases h
theorem mo_of {l : Str} {wd : Nat} (h1 : RowsOk (rowsL l) wd) (h2 : ∀ r ∈ rowsL l, lineS r = true) (h3 : wholeZ (Txt.join "" (rowsL l)) = true) : mo l = some (manyZ (Txt.join "" (rowsL l)) "12").toNat := by
  unfold mo; rw [if_pos ⟨wd, h1, h2, h3⟩]
theorem mo_le {l : Str} {m : Nat} (h : mo l = some m) : m ≤ 2 := by
  obtain ⟨_, _, h3, h4⟩ := mo_some h
  have := many2 h3
  omega
/-- the number of the first line at which lines are none of a level's, from 1 -/
noncomputable def scan : List Str → Nat → Nat → Option Nat
  | [], M, k => if 0 < M then some (k + 1) else none
  | l :: r, M, k => if M = 0 then some (k + 1) else match mo l with
    | none => some (k + 1)
    | some m => scan r (M + m - 1) (k + 1)
theorem scan_cons {l : Str} {r : List Str} {M k m : Nat} (h0 : 0 < M) (h : mo l = some m) : scan (l :: r) M k = scan r (M + m - 1) (k + 1) := by
  rw [scan, if_neg (by omega), h]
theorem scan_zero {l : Str} {r : List Str} {k : Nat} : scan (l :: r) 0 k = some (k + 1) := by
  unfold scan; rw [if_pos rfl]
theorem scan_none {l : Str} {r : List Str} {M k : Nat} (h : mo l = none) : scan (l :: r) M k = some (k + 1) := by
  unfold scan
  split
  · rfl
  · rw [h]
theorem scan_good {l : Str} {r : List Str} {M k : Nat} (h : scan (l :: r) M k = none) : 0 < M ∧ ∃ m, mo l = some m ∧ scan r (M + m - 1) (k + 1) = none := by
  cases hm : mo l with
  | none => rw [scan_none hm] at h; cases h
  | some m =>
    cases M with
    | zero => rw [scan_zero] at h; cases h
    | succ M => rw [scan_cons (Nat.succ_pos _) hm] at h; exact ⟨Nat.succ_pos _, m, rfl, h⟩
/-- the levels that lines make, one behind another -/
noncomputable def forest : List Str → List Tr
  | [] => []
  | l :: r => match mo l with
    | none => []
    | some m => .nd (rowsL l) (wdL l) ((forest r).take m) :: (forest r).drop m
theorem forest_cons {l : Str} {r : List Str} {m : Nat} (h : mo l = some m) : forest (l :: r) = .nd (rowsL l) (wdL l) ((forest r).take m) :: (forest r).drop m := by
  show (match mo l with | none => [] | some m => _) = _
  rw [h]
theorem forest_len : ∀ (ls : List Str) {M k : Nat}, scan ls M k = none → (forest ls).length = M
  | [], M, k, h => by
    unfold scan at h
    split at h
    · cases h
    · show 0 = M; omega
  | l :: r, M, k, h => by
    obtain ⟨h0, m, hm, h'⟩ := scan_good h
    have ih := forest_len r h'
    rw [forest_cons hm, List.length_cons, List.length_drop, ih]
    omega
/-- a level's lines -/
def linesOf : Tr → List Str
  | .nd rows _ ch => Txt.join "/" rows :: (ch.map linesOf).flatten
theorem linesOf_nd (rows : List Str) (wd : Nat) (ch : List Tr) : linesOf (.nd rows wd ch) = Txt.join "/" rows :: (ch.map linesOf).flatten := by rw [linesOf]
theorem take_drop_flat {α β : Type} (f : α → List β) (xs : List α) (m : Nat) : ((xs.take m).map f).flatten ++ ((xs.drop m).map f).flatten = (xs.map f).flatten := by
  rw [← List.flatten_append, ← List.map_append, List.take_append_drop]
theorem forest_lines : ∀ (ls : List Str) {M k : Nat}, scan ls M k = none → ((forest ls).map linesOf).flatten = ls
  | [], M, k, h => rfl
  | l :: r, M, k, h => by
    obtain ⟨h0, m, hm, h'⟩ := scan_good h
    have ih := forest_lines r h'
    rw [forest_cons hm, List.map_cons, List.flatten_cons, linesOf_nd, List.cons_append, take_drop_flat, ih]
    unfold rowsL
    rw [join_split']
theorem sum_take_drop (xs : List Nat) (m : Nat) : (xs.take m).sum + (xs.drop m).sum = xs.sum := by
  rw [← List.sum_append, List.take_append_drop]
theorem forest_cnt : ∀ (ls : List Str) {M k : Nat}, scan ls M k = none → ((forest ls).map Tr.cnt).sum = ls.length
  | [], M, k, h => rfl
  | l :: r, M, k, h => by
    obtain ⟨h0, m, hm, h'⟩ := scan_good h
    have ih := forest_cnt r h'
    rw [forest_cons hm, List.map_cons, List.sum_cons, cnt_nd, List.length_cons]
    have := sum_take_drop ((forest r).map Tr.cnt) m
    rw [← List.map_take, ← List.map_drop] at this
    omega
theorem forest_one {ls : List Str} {k : Nat} (h : scan ls 1 k = none) : ∃ t, forest ls = [t] ∧ linesOf t = ls ∧ t.cnt = ls.length := by
  have h1 := forest_len ls h
  obtain ⟨t, ht⟩ := List.length_eq_one_iff.mp h1
  have h2 := forest_lines ls h
  have h3 := forest_cnt ls h
  rw [ht] at h2 h3
  exact ⟨t, ht, by simpa using h2, by simpa using h3⟩
theorem scan_ne {k : Nat} {ls : List Str} (h : scan ls 1 k = none) : ls ≠ [] := fun e => by
  rw [e] at h; unfold scan at h; simp at h
end K88
end
section
set_option Elab.async false
set_option linter.all false
set_option maxRecDepth 100000
set_option maxHeartbeats 2000000
namespace K88
open PySem L2
local macro_rules | `(tactic| walk_at "hp") => `(tactic| first | assumption | exact upd_same | (refine (upd_ne (by first | assumption | (apply Ne.symm; assumption))).trans ?_; walk_at "hp"))
local macro_rules | `(tactic| walk_at "rd1") => `(tactic| first
  | (refine ⟨_, rfl, ?_⟩)
  | (refine ⟨_, _, rfl, rfl, ?_⟩)
  | (refine ⟨(rfl : scal _ _ = true), ?_⟩)
  | (refine And.intro (by show (0 : Int) < _; decide) ?_)
  | (refine And.intro (And.intro (by decide) (by decide)) ?_)
  | (refine And.intro (Or.inr (And.intro (by decide) (by decide))) ?_)
  | (refine And.intro (And.intro (by decide) (And.intro (by decide) (by decide))) ?_)
  | (refine And.intro (by assumption) ?_)
  | (refine And.intro (And.intro (by omega) (by omega)) ?_)
  | (refine And.intro (Or.inl (And.intro (by omega) (by omega))) ?_)
  | (refine' ⟨_, _, _, _, rfl, rfl, Or.inl (Or.inl ?h1), ?h2, ?h3⟩; (case h1 => walk_at "hp"); (case h2 => rfl))
  | (refine' ⟨_, _, _, _, rfl, rfl, ?h1, ?h2, ?h3⟩; (case h1 => walk_at "hp"); (case h2 => rfl))
  | (refine' ⟨_, _, rfl, Or.inl (Or.inl (Or.inl ?h1)), ?h3⟩; (case h1 => walk_at "hp"))
  | (refine Or.inl ⟨_, rfl, ?_⟩))
local macro_rules | `(tactic| walk_at "rd") => `(tactic| repeat walk_at "rd1")
theorem sc__lines_in : FnScope ["text"] ["text"] (defScope s__lines_in) := ⟨rfl, rfl, rfl, by decide +kernel, rfl, by decide +kernel, by decide +kernel⟩
theorem sc__room_in : FnScope ["line"] ["line"] (defScope s__room_in) := ⟨rfl, rfl, rfl, by decide +kernel, rfl, by decide +kernel, by decide +kernel⟩
theorem sc__lines_of : FnScope ["level", "lines", "child"] ["level"] (defScope s__lines_of) := ⟨rfl, rfl, rfl, by decide +kernel, rfl, by decide +kernel, by decide +kernel⟩
theorem sc_write_level : FnScope ["level"] ["level"] (defScope s_write_level) := ⟨rfl, rfl, rfl, by decide +kernel, rfl, by decide +kernel, by decide +kernel⟩
section
variable {P : Program} {w : World} {K : PySem.W.Frag} {mg : Str → Option Value} {base : Heap} {CR CV CB fB CE fE CT CX fX : Addr}
structure TxT (P : Program) (w : World) (K : PySem.W.Frag) (mg : Str → Option Value) (CR CV CB fB CE fE CT CX fX : Addr) : Prop extends LevT P w K mg CR CV CB fB CE fE CT where
  x_BadText : RX.ErrT P K mg "BadText" "at" CX fX
def spLinesIn (K : PySem.W.Frag) (CX : Addr) : Sp := fun vs H Q E => ∃ v, vs = [v] ∧ ((∃ ty, TyOf K H v ty ∧ PySem.W.kitOne K ty (.type "str") = some false ∧ ∀ d, H d = none → E (.ref CX) (some d) (upd H d (.xd [("at", .int (-1))]))) ∨
  (∃ s : Str, v = .str s ∧ s.length ≤ 100000 ∧ ∀ q H', Same H H' → H q = none → H' q = some (.lst ((Txt.split s "\n").map V.str)) → Q (.ref q) H'))
theorem ok_lines_in {f : Addr} {fd : FuncData} (F : Fun K "_lines_in" "_lines_in" s__lines_in f fd) (T : TxT P w K mg CR CV CB fB CE fE CT CX fX) : FnG P w K mg base (CXe P w) 3 f fd ["text"] (spLinesIn K CX) := by
  refine F.okG sc__lines_in (fun vs H Q E h => ?_) (fun cdv A outer s H vs Q E hgd hr h => ?_)
  · obtain ⟨v, rfl, _⟩ := h; rfl
  · obtain ⟨v, rfl, h⟩ := h
    refine ⟨_, (pss_cons (ps_if (pt_not (pt_val (pe_callB call_isi (by rfl) T.n_isinstance (by decide +kernel) (pa_cons (pv 0) (pa_cons (pe_bltn (v := .ty "str") (u := .type "str") rfl T.n_str (by decide +kernel) rfl) pa_nil))))) (pss_one (ps_raiseErr rfl T.x_BadText hr (takes_of rfl rfl rfl rfl) (pa_cons (pe_un un_neg pe_int) pa_nil))) pss_nil)
      (pss_one (ps_ret (pe_m1 PySem.F.slot_str_split PySem.F.type_str_split mt_split (pv 0) pe_str)))), ?_⟩
    rcases h with ⟨ty, hty, hk, k⟩ | ⟨s, rfl, hl, k⟩
    · exact ⟨_, rfl, _, _, _, _, _, rfl, .ty _, .base hty, hk, _, rfl, iteT ⟨_, rfl, _, rfl, fun d hd => k d hd⟩⟩
    · refine ⟨_, rfl, _, _, _, _, true, rfl, .ty _, .base (.str s), kit_ty (show kitB "str" "str" = some true by decide +kernel), _, rfl, iteF ?_⟩
      exact ⟨_, rfl, ⟨s, rfl⟩, s, "\n", rfl, rfl, by decide, by rw [sizeLine_eq]; omega, fun q nq => k q _ (same_new nq) nq upd_same⟩
theorem sig_slash : ("/" : Str) = ⟨#[47]⟩ := by decide +kernel
theorem rowsL_ne (l : Str) : rowsL l ≠ [] := fun e => by
  have := PyProof.Rows.split_pos l "/"
  unfold rowsL at e
  rw [e] at this
  simp at this
theorem str_map_inj {a b : List Str} (h : a.map V.str = b.map V.str) : a = b := by
  have := congrArg (List.map strOf) h
  rwa [strOf_map, strOf_map] at this
def spRoomIn (CR : Addr) : Sp := fun vs H Q _ => ∃ l : Str, vs = [.str l] ∧ l.length ≤ 100000 ∧ (mo l = none → ∀ H', Same H H' → Q .non H') ∧ (∀ m, mo l = some m → ∀ R H', Same H H' → RoomAt CR H' R (rowsL l) (wdL l) → Q (.ref R) H')
theorem ok_room_in {f : Addr} {fd : FuncData} (F : Fun K "_room_in" "_room_in" s__room_in f fd) (T : TxT P w K mg CR CV CB fB CE fE CT CX fX) (m_Room : MakG P w K mg base 4 "Room" CR (spRoomInit K CR CB) []) : FnG P w K mg base (CXe P w) 6 f fd ["line"] (spRoomIn CR) := by
  refine F.okG sc__room_in (fun vs H Q E h => ?_) (fun cdv A outer s H vs Q E hgd hr h => ?_)
  · obtain ⟨l, rfl, _⟩ := h; rfl
  · obtain ⟨l, rfl, hl, k1, k2⟩ := h
    refine ⟨_, (pss_one (ps_try_clsN rfl rfl sc__room_in.nd takes0 (.only ⟨rfl, by decide, .inl T.x_BadRoom.gC⟩ (fun a oe cls d pn hz hf => (pss_one (ps_ret pe_non))) .nil)
      (fun W pn xe tk _ => (pss_one (ps_ret (pg_mkS m_Room hgd hr (by first | decide | omega) (fun σ => passAt tk σ) (pa_cons (pe_m1 PySem.F.slot_str_split PySem.F.type_str_split mt_split (pv 0) pe_str) pa_nil))))))), ?_⟩
    refine ⟨_, rfl, ⟨l, rfl⟩, l, "/", rfl, rfl, by decide, by rw [sizeLine_eq]; omega, fun a na => fun x dx nx ndx nex => ?_⟩
    have s1 : Same H (upd H a (.lst ((Txt.split l "/").map V.str))) := same_new na
    have ha : (upd H a (.lst ((Txt.split l "/").map V.str))) a = some (.lst ((rowsL l).map V.str)) := upd_same
    generalize upd H a (.lst ((Txt.split l "/").map V.str)) = H1 at s1 ha nx ndx ⊢
    have s2 : Same H1 (upd (upd H1 dx (.own x)) x (.ins CR dx [])) := same_two nx ndx
    refine ⟨x, dx, .ref a, fun _ => False, rfl, upd_same, .inr ⟨a, _, rfl, .inl (s2 _ _ ha), fun y hy => ?_, fun i hi H' d s3 nd => ?_, fun rows wd er R hl2 => ⟨fun hw H' d s3 nd => ?_, fun H' hR kp => ?_⟩⟩⟩
    · obtain ⟨r, hr, rfl⟩ := List.mem_map.mp hy
      exact ⟨⟨true, _, .str r⟩, fun z ez => by
        cases ez
        have := PyProof.Rows.part_short hr
        rw [sizeLine_eq]; omega⟩
    · have hno : mo l = none := by
        unfold mo
        rw [if_neg]
        rintro ⟨wd, R, hl2, _⟩
        rw [rowsFault_none R hl2] at hi
        cases hi
      exact ⟨true, T.x_BadRoom.te, fun _ b hb => k1 hno _ (((s1.trans s2).trans s3).trans (same_new nd)), fun z => nomatch z⟩
    · obtain rfl : rows = rowsL l := (str_map_inj er).symm
      have hno : mo l = none := by
        unfold mo
        rw [if_neg]
        rintro ⟨wd', R', hl', hw'⟩
        rw [hw] at hw'
        cases hw'
      exact ⟨true, T.x_BadRoom.te, fun _ b hb => k1 hno _ (((s1.trans s2).trans s3).trans (same_new nd)), fun z => nomatch z⟩
    · obtain rfl : rows = rowsL l := (str_map_inj er).symm
      have hm := mo_of R hl2 hR.whole
      have hwd : wd = wdL l := wd_inj R (mo_some hm).1
      subst hwd
      exact ⟨rfl, k2 _ hm x H' (fun b o e => kp b o (s2 _ _ (s1 _ _ e)) (ne_of_none (s1 _ _ e) nx)) hR⟩
/-! ### a level's lines -/
theorem lines_cnt : ∀ t : Tr, (linesOf t).length = t.cnt := by
  intro t
  induction t using Tr.ind with
  | h rows wd ch ih =>
    rw [linesOf_nd, List.length_cons, cnt_nd, List.length_flatten, List.map_map, Nat.add_comm]
    congr 2
    exact List.map_congr_left fun c hc => ih c hc
def spLinesOf (K : PySem.W.Frag) (CR CV : Addr) (n : Nat) : Sp := fun vs H Q _ => ∃ (v : V) (t : Tr), vs = [v] ∧ LevelAt K CR CV H v t ∧ t.cnt ≤ n + 1 ∧ n < 60 ∧ ∀ q H', Same H H' → H q = none → H' q = some (.lst ((linesOf t).map V.str)) → Q (.ref q) H'
theorem ok_lines_of {f : Addr} {fd : FuncData} {n : Nat} (F : Fun K "_lines_of" "_lines_of" s__lines_of f fd) (T : LevT P w K mg CR CV CB fB CE fE CT) (a_rows : NoAttr K CR "rows") (c__lines_of : CalG P w K mg base (1 + n) "_lines_of" (below (spLinesOf K CR CV) n)) : FnG P w K mg base (CXe P w) (1 + n + 1) f fd ["level"] (spLinesOf K CR CV n) := by
  refine F.okG sc__lines_of (fun vs H Q E h => ?_) (fun cdv A outer s H vs Q E hgd hr h => ?_)
  · obtain ⟨v, t, rfl, _⟩ := h; rfl
  · obtain ⟨v, t, rfl, ht, hc, hn, k⟩ := h
    refine ⟨_, (pss_cons (ps_set (i := 1) sc__lines_of.nd rfl (Or.inl rfl) (pe_lstA (pa_cons (pe_m1 PySem.F.slot_str_join PySem.F.type_str_join mt_join pe_str (pe_fld (pe_fld (pv 0) rfl) rfl)) pa_nil)))
      (pss_cons (ps_for (passes_of rfl) rfl (pi_tup (pe_fld (pv 0) rfl)) (pg_name (i := 2) sc__lines_of.nd rfl (Or.inl rfl))
      (pss_one (ps_expr (pe_bm PySem.F.plainAttrs_list PySem.F.slot_list_extend PySem.F.type_list_extend mt_extend (pv 1) (pa_cons (pg_c c__lines_of hgd hr (by omega) (pa_cons (pv 2) pa_nil)) pa_nil)))))
      (pss_one (ps_ret (pv 1))))), ?_⟩
    cases ht with
    | @mk x dx R c rows wd n0 d0 vs ch h1 h2 h3 h4 h5 h6 h7 h8 =>
      obtain ⟨rdx, rt, rct, rpt, rnd, r1, r2, _⟩ := id h4.ex
      have hlen : ch.length ≤ n := by
        have e := cnt_nd rows wd ch
        have := cnt_len ch
        omega
      refine ⟨⟨_, rfl⟩, _, rfl, x, CV, dx, _, _, rfl, h1, T.clV, T.n_room, rfl, R, CR, rdx, _, _, rfl, r1, T.clR, a_rows, rfl, "/", rt, rows, rfl, rfl, .inr (SqT.of r2), ?_, And.intro (Nat.le_of_ble_eq_true rfl) fun D H1 nD => ?_⟩
      · have := sum_rows h4.ok.al
        rw [this]
        have hw := h4.ok.w6
        have hh := h4.ok.h5
        have := Nat.mul_le_mul hh hw
        show _ + rows.length * 1 ≤ _
        omega
      refine ⟨_, rfl, x, CV, dx, _, _, rfl, nD.same _ _ h1, T.clV, T.n_children, rfl, c, rfl, ⟨_, (h6.same nD.same).sq⟩, for_it (walk_tup (xs := vs)) (fun i σ H' => (∃ o2, σ = [some (.ref x), some (.ref D), o2]) ∧ H' D = some (.lst ((Txt.join "/" rows :: ((ch.take i).map linesOf).flatten).map V.str)) ∧ Off (fun b => b = D) H H') ⟨⟨none, rfl⟩, nD.at_, Off.same nD.same⟩ (fun i σ H' _ q => (h6.keep (fun e => q.2.2 _ _ (ne_of_none e nD.free) e)).sq) ?_ ?_⟩
      · rintro i y σ Ha Hb hi ⟨⟨o2, rfl⟩, hD, off⟩ ⟨rfl, hy⟩
        have hi2 : i < ch.length := by rw [← h7]; exact hi
        have e2 : ch[i]? = some ch[i] := List.getElem?_eq_getElem hi2
        have hti := h8 i y ch[i] hy e2
        obtain ⟨hcc, hn1⟩ := cnt_child hc (List.getElem_mem hi2)
        have sb : Same H Hb := fun b o e => off b o (ne_of_none e nD.free) e
        have hb1 : ((ch.take i).map linesOf).flatten.length ≤ n := by
          have := sum_take_drop (ch.map Tr.cnt) i
          rw [List.length_flatten, List.map_map]
          have e3 : ((ch.take i).map (List.length ∘ linesOf)) = (ch.map Tr.cnt).take i := by
            rw [← List.map_take]; exact List.map_congr_left fun c _ => lines_cnt c
          rw [e3]
          rw [cnt_nd] at hc
          omega
        refine ⟨_, rfl, .inl ⟨rfl, _, SqL.of hD⟩, _, rfl, n - 1, by omega, y, ch[i], rfl, hti.same sb, by omega, by omega, fun q H' s nq hq => ?_⟩
        have hD' := s _ _ hD
        have hb2 : (linesOf ch[i]).length ≤ n := by rw [lines_cnt]; omega
        refine ⟨D, q, _, _, rfl, rfl, hD', hq, by rw [sizeLine_eq, List.length_map, List.length_map, List.length_cons]; omega, ⟨⟨_, rfl⟩, ?_, (off.trans (Off.same s)).trans (Off.mut rfl)⟩⟩
        have e4 : ch.take (i + 1) = ch.take i ++ [ch[i]] := by rw [List.take_add_one, e2]; rfl
        rw [upd_same, e4, List.map_append (f := linesOf), List.flatten_append]
        simp
      rintro σ H2 ⟨⟨o2, rfl⟩, hD, off⟩
      rw [h7, List.take_length] at hD
      exact ⟨_, rfl, k D H2 (fun b o e => off b o (ne_of_none e nD.free) e) nD.free (by rw [linesOf_nd]; exact hD)⟩
def spWrite (K : PySem.W.Frag) (CR CV : Addr) : Sp := fun vs H Q _ => ∃ (v : V) (t : Tr), vs = [v] ∧ LevelAt K CR CV H v t ∧ t.cnt ≤ 60 ∧ (∀ l ∈ linesOf t, l.length ≤ 100000) ∧ ∀ H', Same H H' → Q (.str (Txt.join "\n" (linesOf t))) H'
theorem ok_write {f : Addr} {fd : FuncData} (F : Fun K "write_level" "write_level" s_write_level f fd) (T : LevT P w K mg CR CV CB fB CE fE CT) (c_need_level : CalG P w K mg base 3 "need_level" (spNeedC K CV CE)) (c__lines_of : CalG P w K mg base 61 "_lines_of" (atMost 59 (spLinesOf K CR CV))) : FnG P w K mg base (CXe P w) 62 f fd ["level"] (spWrite K CR CV) := by
  refine F.okG sc_write_level (fun vs H Q E h => ?_) (fun cdv A outer s H vs Q E hgd hr h => ?_)
  · obtain ⟨v, t, rfl, _⟩ := h; rfl
  · obtain ⟨v, t, rfl, ht, hc, hll, k⟩ := h
    refine ⟨_, (pss_cons (ps_expr (pg_c c_need_level hgd hr (by first | decide | omega) (pa_cons (pv 0) pa_nil)))
      (pss_one (ps_ret (pe_m1 PySem.F.slot_str_join PySem.F.type_str_join mt_join pe_str (pg_c c__lines_of hgd hr (by first | decide | omega) (pa_cons (pv 0) pa_nil)))))), ?_⟩
    obtain ⟨a, dx, fs, rfl, ha⟩ := level_ins ht
    refine ⟨_, rfl, .ref a, _, true, rfl, .base (insTy T.icV ha), T.icV.me, (fun _ => ?_), fun z => nomatch z⟩
    refine ⟨⟨_, rfl⟩, _, rfl, t.cnt - 1, by omega, .ref a, t, rfl, ht, by omega, by omega, fun q H' s nq hq => ?_⟩
    refine ⟨"\n", q, linesOf t, rfl, rfl, .inl (SqL.of hq), ?_, k H' s⟩
    have hb : ∀ ls : List Str, (∀ l ∈ ls, l.length ≤ 100000) → (ls.map (·.length)).sum ≤ ls.length * 100000 := fun ls => by
      induction ls with
      | nil => intro _; simp
      | cons a r ih =>
        intro h
        have h1 := h a (List.mem_cons_self ..)
        have h2 := ih fun x hx => h x (List.mem_cons_of_mem _ hx)
        rw [List.map_cons, List.sum_cons, List.length_cons, Nat.succ_mul]; omega
    have h1 := hb _ hll
    have h2 := lines_cnt t
    show _ + _ * 1 ≤ _
    omega
end
end K88
end
section
set_option Elab.async false
set_option linter.all false
set_option maxRecDepth 100000
set_option maxHeartbeats 2000000
namespace K88
open PySem L2
local macro_rules | `(tactic| walk_at "hp") => `(tactic| first | assumption | exact upd_same | (refine (upd_ne (by first | assumption | (apply Ne.symm; assumption))).trans ?_; walk_at "hp"))
local macro_rules | `(tactic| walk_at "rd1") => `(tactic| first
  | (refine ⟨_, rfl, ?_⟩)
  | (refine ⟨_, _, rfl, rfl, ?_⟩)
  | (refine ⟨(rfl : scal _ _ = true), ?_⟩)
  | (refine And.intro (by show (0 : Int) < _; decide) ?_)
  | (refine And.intro (And.intro (by decide) (by decide)) ?_)
  | (refine And.intro (Or.inr (And.intro (by decide) (by decide))) ?_)
  | (refine And.intro (And.intro (by decide) (And.intro (by decide) (by decide))) ?_)
  | (refine And.intro (by assumption) ?_)
  | (refine And.intro (And.intro (by omega) (by omega)) ?_)
  | (refine And.intro (Or.inl (And.intro (by omega) (by omega))) ?_)
  | (refine' ⟨_, _, _, _, rfl, rfl, Or.inl (Or.inl ?h1), ?h2, ?h3⟩; (case h1 => walk_at "hp"); (case h2 => rfl))
  | (refine' ⟨_, _, _, _, rfl, rfl, ?h1, ?h2, ?h3⟩; (case h1 => walk_at "hp"); (case h2 => rfl))
  | (refine' ⟨_, _, rfl, Or.inl (Or.inl (Or.inl ?h1)), ?h3⟩; (case h1 => walk_at "hp"))
  | (refine Or.inl ⟨_, rfl, ?_⟩))
local macro_rules | `(tactic| walk_at "rd") => `(tactic| repeat walk_at "rd1")
theorem sc__built : FnScope ["rooms", "levels", "room", "children", "_"] ["rooms"] (defScope s__built) := ⟨rfl, rfl, rfl, by decide +kernel, rfl, by decide +kernel, by decide +kernel⟩
theorem sc_read_level : FnScope ["text", "lines", "rooms", "missing", "at", "line", "room"] ["text"] (defScope s_read_level) := ⟨rfl, rfl, rfl, by decide +kernel, rfl, by decide +kernel, by decide +kernel⟩
section
variable {P : Program} {w : World} {K : PySem.W.Frag} {mg : Str → Option Value} {base : Heap} {CR CV CB fB CE fE CT CX fX : Addr}
/-- the rooms of lines -/
def RmsAt (CR : Addr) (H : Hp) (rvs : List V) (ls : List Str) : Prop := rvs.length = ls.length ∧ ∀ (i : Nat) (v : V) (l : Str), rvs[i]? = some v → ls[i]? = some l → ∃ R, v = .ref R ∧ RoomAt CR H R (rowsL l) (wdL l)
theorem RmsAt.keepL {H H' : Hp} (k : ∀ (b : Addr) (o : HO), H b = some o → (∀ xs, o ≠ HO.lst xs) → H' b = some o) {rvs : List V} {ls : List Str} (h : RmsAt CR H rvs ls) : RmsAt CR H' rvs ls := ⟨h.1, fun i v l e1 e2 => by
  obtain ⟨R, e, hR⟩ := h.2 i v l e1 e2
  exact ⟨R, e, hR.keepL k⟩⟩
theorem RmsAt.same {H H' : Hp} (s : Same H H') {rvs : List V} {ls : List Str} (h : RmsAt CR H rvs ls) : RmsAt CR H' rvs ls := h.keepL fun _ _ e _ => s _ _ e
theorem LvsAt.take' {H : Hp} {vs : List V} {ch : List Tr} (h : LvsAt K CR CV H vs ch) (n : Nat) : LvsAt K CR CV H (vs.take n) (ch.take n) := ⟨by rw [List.length_take, List.length_take, h.1], fun i v p e1 e2 => by
  rw [List.getElem?_take] at e1 e2
  by_cases hi : i < n
  · rw [if_pos hi] at e1 e2; exact h.2 i v p e1 e2
  · rw [if_neg hi] at e1; cases e1⟩
theorem LvsAt.drop' {H : Hp} {vs : List V} {ch : List Tr} (h : LvsAt K CR CV H vs ch) (n : Nat) : LvsAt K CR CV H (vs.drop n) (ch.drop n) := ⟨by rw [List.length_drop, List.length_drop, h.1], fun i v p e1 e2 => by
  rw [List.getElem?_drop] at e1 e2
  exact h.2 _ v p e1 e2⟩
theorem LvsAt.cons' {H : Hp} {vs : List V} {ch : List Tr} {v : V} {t : Tr} (h : LvsAt K CR CV H vs ch) (hv : LevelAt K CR CV H v t) : LvsAt K CR CV H (v :: vs) (t :: ch) := ⟨by rw [List.length_cons, List.length_cons, h.1], fun i u p e1 e2 => by
  cases i with
  | zero => cases e1; cases e2; exact hv
  | succ i => exact h.2 i u p e1 e2⟩
theorem scan_drop : ∀ (ls : List Str) {M k : Nat} (j : Nat), scan ls M k = none → ∃ M' k', scan (ls.drop j) M' k' = none
  | ls, M, k, 0, h => ⟨M, k, h⟩
  | [], M, k, j + 1, h => ⟨M, k, h⟩
  | l :: r, M, k, j + 1, h => by
    obtain ⟨_, m, _, h'⟩ := scan_good h
    exact scan_drop r j h'
theorem forest_le : ∀ (ls : List Str) {M k : Nat}, scan ls M k = none → (forest ls).length ≤ ls.length
  | [], M, k, h => Nat.le_refl _
  | l :: r, M, k, h => by
    obtain ⟨_, m, hm, h'⟩ := scan_good h
    have := forest_le r h'
    rw [forest_cons hm, List.length_cons, List.length_cons, List.length_drop]
    omega
theorem mem_sum {x : Nat} {xs : List Nat} (h : x ∈ xs) : x ≤ xs.sum := by
  induction xs with
  | nil => cases h
  | cons a r ih =>
    rw [List.sum_cons]
    rcases List.mem_cons.mp h with rfl | h
    · omega
    · have := ih h; omega
def spBuild (K : PySem.W.Frag) (CR CV CT : Addr) : Sp := fun vs H Q E => ∃ (L : Addr) (rvs : List V) (ls : List Str) (k : Nat), vs = [.ref L] ∧ H L = some (.lst rvs) ∧ RmsAt CR H rvs ls ∧ scan ls 1 k = none ∧ ls.length ≤ 100000 ∧
  (60 < ls.length → ∀ H', Same H H' → E (.ref CT) none H') ∧ (ls.length ≤ 60 → ∀ v t H', forest ls = [t] → Same H H' → LevelAt K CR CV H' v t → Q v H')
theorem ok_build {f : Addr} {fd : FuncData} (F : Fun K "_built" "_built" s__built f fd) (T : TxT P w K mg CR CV CB fB CE fE CT CX fX) (n_range : mg "range" = none) (m_Level : MakG P w K mg base 4 "Level" CV (spLInit K CR CV CT) []) : FnG P w K mg base (CXe P w) 6 f fd ["rooms"] (spBuild K CR CV CT) := by
  refine F.okG sc__built (fun vs H Q E h => ?_) (fun cdv A outer s H vs Q E hgd hr h => ?_)
  · obtain ⟨L, rvs, ls, k, rfl, _⟩ := h; rfl
  · obtain ⟨L, rvs, ls, kk, rfl, hL, hR, hsc, hlen, kE, kQ⟩ := h
    refine ⟨_, (pss_cons (ps_set (i := 1) sc__built.nd rfl (Or.inr rfl) (pe_lstA pa_nil))
      (pss_cons (ps_for (passes_of rfl) rfl (pi_list (pe_revL (pv 0))) (pg_name (i := 2) sc__built.nd rfl (Or.inl rfl))
      (pss_cons (ps_setLc (i := 3) (own := [("_", 4)]) (g := gName 4) (tt := tYes) rfl sc__built.nd rfl rfl (sw_true rfl rfl rfl (by decide +kernel)) (pi_range1 (by rfl) T.n_range (pa_cons (pe_fld (pv 2) rfl) pa_nil)) (blkOk_by (own := [("_", 4)]) (N := ["rooms", "levels", "room", "children", "_"]) (sc := defScope s__built) (by decide +kernel)) (fun _ _ _ _ _ => pg_name (i := 4) sc__built.nd rfl (Or.inl rfl)) (fun _ _ _ _ _ => pts_nil) (fun _ _ _ _ _ => (show PE _ _ (tBM0 K "list" rPop (tVar 1)) from pe_bm0 PySem.F.plainAttrs_list PySem.F.slot_list_pop PySem.F.type_list_pop mt_pop (pv 1))))
      (pss_one (ps_expr (pe_bm PySem.F.plainAttrs_list PySem.F.slot_list_append PySem.F.type_list_append mt_append (pv 1) (pa_cons (pg_mkS m_Level hgd hr (by first | decide | omega) (fun σ => passAt (takes_of rfl rfl rfl rfl) σ) (pa_cons (pv 2) (pa_cons (pv 3) pa_nil))) pa_nil))))))
      (pss_one (ps_ret (pe_ix ix_list (pv 1) pe_int (fun _ _ => rfl)))))), ?_⟩
    have hn : rvs.length = ls.length := hR.1
    refine And.intro (Nat.le_of_ble_eq_true rfl) fun D H1 nD => ?_
    refine ⟨_, rfl, L, rvs, rfl, SqL.of (nD.same _ _ hL), fun q nq => ?_⟩
    have s2 : Same H1 (upd H1 q (.lst rvs.reverse)) := same_new nq
    have hq : (upd H1 q (.lst rvs.reverse)) q = some (.lst rvs.reverse) := upd_same
    have hqD : q ≠ D := fun z => by rw [z, nD.at_] at nq; cases nq
    generalize upd H1 q (.lst rvs.reverse) = H2 at s2 hq ⊢
    have s02 : Same H H2 := nD.same.trans s2
    have hR2 := hR.same s02
    refine ⟨q, rfl, ⟨_, SqL.of hq⟩, for_it (walk_list (xs := rvs.reverse)) (fun u σ H' => (∃ o2 o3, σ = [some (.ref L), some (.ref D), o2, o3, none]) ∧ (∃ vs, H' D = some (.lst vs.reverse) ∧ LvsAt K CR CV H' vs (forest (ls.drop (ls.length - u))) ∧ (∀ t ∈ forest (ls.drop (ls.length - u)), t.cnt ≤ 60)) ∧ Off (fun b => b = D) H2 H') ?_ (fun u σ H' _ z => SqL.of (z.2.2 _ _ hqD hq)) ?_ ?_⟩
    · refine ⟨⟨none, none, rfl⟩, ⟨[], s2 _ _ nD.at_, ?_, ?_⟩, Off.refl _⟩
      · rw [Nat.sub_zero, List.drop_length]; exact ⟨rfl, fun i v t e _ => by simp at e⟩
      · rw [Nat.sub_zero, List.drop_length]; intro t ht; cases ht
    · rintro u y σ Ha Hb hu ⟨⟨o2, o3, rfl⟩, ⟨vs, hD, hvs, hcnt⟩, off⟩ ⟨rfl, hy⟩
      rw [List.length_reverse] at hu
      have hu2 : u < ls.length := by omega
      obtain ⟨i, hi⟩ : ∃ i, i + u + 1 = ls.length := ⟨ls.length - u - 1, by omega⟩
      have hil : i < ls.length := by omega
      rw [List.getElem?_reverse (by omega), show rvs.length - 1 - u = i by omega] at hy
      obtain ⟨R, rfl, hRm⟩ := hR2.2 i y ls[i] hy (List.getElem?_eq_getElem hil)
      have edrop : ls.drop i = ls[i] :: ls.drop (i + 1) := List.drop_eq_getElem_cons hil
      have ei : ls.length - u = i + 1 := by omega
      rw [ei] at hvs hcnt
      obtain ⟨M', k', hs'⟩ := scan_drop ls i hsc
      have hcs := forest_cnt _ hs'
      rw [edrop] at hs' hcs
      obtain ⟨hM0, m, hm, hs2⟩ := scan_good hs'
      have hfl := forest_len _ hs2
      have hvl : vs.length = M' + m - 1 := hvs.1.trans hfl
      have hvle : vs.length ≤ 100000 := by
        have := forest_le _ hs2
        rw [List.length_drop] at this
        have := hvs.1
        omega
      have hmm : manyZ (Txt.join "" (rowsL ls[i])) "12" = (m : Int) := (mo_some hm).2.2.2
      have hm2 := mo_le hm
      rw [forest_cons hm] at hcs
      have off2 : ∀ {b : Addr} {o : HO}, H b = some o → Hb b = some o := fun {b o} e => off b o (ne_of_none e nD.free) (s02 _ _ e)
      have hkl : ∀ (b : Addr) (o : HO), H2 b = some o → (∀ xs, o ≠ HO.lst xs) → Hb b = some o := fun b o e n => off b o (fun z => by
        have := s2 _ _ nD.at_
        rw [z, this] at e; exact n _ (Option.some.inj e).symm) e
      have hRb := hRm.keepL hkl
      obtain ⟨rdx, rt, rct, rpt, rnd, r1, _⟩ := id hRb.ex
      refine ⟨_, rfl, R, CR, rdx, _, _, rfl, r1, T.clR, T.n_mouths, rfl, _, rfl, ?_, ?_, ?_⟩
      · rw [hmm]; omega
      · rw [hmm]; omega
      rw [hmm, Int.toNat_natCast]
      refine fun C hC => lc_it walk_range (fun q' H' => (H' C = some (.lst (vs.take q')) ∧ H' D = some (.lst (vs.drop q').reverse)) ∧ Off (fun b => b = D ∨ b = C) Hb H') ⟨⟨upd_same, (upd_ne (fun z => by rw [z, hC] at hD; cases hD)).trans hD⟩, Off.new hC⟩ (fun _ _ _ _ => trivial) ?_ ?_
      · rintro q' y' He Hf hq' ⟨⟨hC', hD'⟩, offe⟩ ⟨rfl, rfl⟩
        have hql : q' < vs.length := by omega
        have hCD : C ≠ D := fun z => by rw [z, hD] at hC; cases hC
        refine And.intro rfl (yes_of (iteT ?_))
        have ed : vs.drop q' = vs[q'] :: vs.drop (q' + 1) := List.drop_eq_getElem_cons hql
        rw [ed, List.reverse_cons] at hD'
        refine ⟨_, rfl, .inl ⟨rfl, _, SqL.of hD'⟩, D, _, vs[q'], rfl, rfl, hD', by simp, ?_⟩
        rw [List.dropLast_concat]
        refine ⟨vs.take q', (upd_ne hCD).trans hC', sz (by rw [List.length_take]; omega), ⟨?_, ?_⟩, ?_⟩
        · rw [upd_same, List.take_add_one, List.getElem?_eq_getElem hql]; rfl
        · exact (upd_ne hCD.symm).trans upd_same
        · exact (offe.trans (Off.mut (show (fun b => b = D ∨ b = C) D from .inl rfl))).trans (Off.mut (show (fun b => b = D ∨ b = C) C from .inr rfl))
      rintro He ⟨⟨hC', hD'⟩, offe⟩
      have hke : ∀ (b : Addr) (o : HO), Hb b = some o → (∀ xs, o ≠ HO.lst xs) → He b = some o := fun b o e n => offe b o (fun z => by
        rcases z with rfl | rfl
        · rw [hD] at e; exact n _ (Option.some.inj e).symm
        · rw [hC] at e; cases e) e
      have hvse := hvs.keepL hke
      have hRe := hRb.keepL hke
      have same_e : ∀ {b : Addr} {o : HO}, H b = some o → He b = some o := fun {b o} e => offe b o (fun z => by
        rcases z with rfl | rfl
        · rw [nD.free] at e; cases e
        · have := off2 e; rw [hC] at this; cases this) (off2 e)
      refine ⟨_, rfl, .inl ⟨rfl, _, SqL.of hD'⟩, _, rfl, _, rfl, fun x dx nx ndx nex => ?_⟩
      have s5 : Same He (upd (upd He dx (.own x)) x (.ins CV dx [])) := same_two nx ndx
      have hcnt0 : (Tr.nd (rowsL ls[i]) (wdL ls[i]) ((forest (ls.drop (i + 1))).take m)).cnt ≤ ls.length := by
        have e1 : (Tr.nd (rowsL ls[i]) (wdL ls[i]) ((forest (ls.drop (i + 1))).take m)).cnt ≤ (ls[i] :: ls.drop (i + 1)).length := by
          rw [← hcs, List.map_cons, List.sum_cons]; omega
        rw [← edrop, List.length_drop] at e1
        omega
      refine ⟨x, dx, R, C, rowsL ls[i], wdL ls[i], vs.take m, (forest (ls.drop (i + 1))).take m, rfl, upd_same, hRe.same s5, ?_, .inl (s5 _ _ hC'), ?_, fun h60 H' s6 => ?_, fun h60 H' hLv kp => ⟨rfl, ?_⟩⟩
      · rw [hmm, List.length_take, hfl, Nat.min_eq_left (by omega)]
      · exact ⟨(hvse.take' m).1, fun j v t e1 e2 => ((hvse.take' m).2 j v t e1 e2).same s5⟩
      · exact kE (by omega) H' fun b o e => s6 _ _ (s5 _ _ (same_e e))
      · have s6 : Same He H' := fun b o e => kp b o (s5 _ _ e) (ne_of_none e nx)
        have hD6 := s6 _ _ hD'
        refine ⟨D, _, _, rfl, rfl, hD6, (by rw [List.length_reverse, List.length_drop, sizeLine_eq]; omega), ⟨_, _, rfl⟩, ⟨.ref x :: vs.drop m, ?_, ?_, ?_⟩, ?_⟩
        · rw [upd_same, List.reverse_cons]
        · rw [show ls.length - (u + 1) = i by omega, edrop, forest_cons hm]
          have hl1 : LvsAt K CR CV H' (.ref x :: vs.drop m) (.nd (rowsL ls[i]) (wdL ls[i]) ((forest (ls.drop (i + 1))).take m) :: (forest (ls.drop (i + 1))).drop m) :=
            LvsAt.cons' ⟨(hvse.drop' m).1, fun j v t e1 e2 => ((hvse.drop' m).2 j v t e1 e2).same s6⟩ hLv
          exact hl1.keepL fun b o e n => (upd_ne (fun z => by rw [z, hD6] at e; exact n _ (Option.some.inj e).symm)).trans e
        · rw [show ls.length - (u + 1) = i by omega, edrop, forest_cons hm]
          intro t ht
          rcases List.mem_cons.mp ht with rfl | ht
          · exact h60
          · exact hcnt t (List.mem_of_mem_drop ht)
        · have o1 : Off (fun b => b = D) Hb He := fun b o n e => offe b o (fun z => z.elim n fun z => by rw [z, hC] at e; cases e) e
          exact ((off.trans o1).trans (Off.same s6)).trans (Off.mut rfl)
    · rintro σ H3 ⟨⟨o2, o3, rfl⟩, ⟨vs, hD, hvs, hcnt⟩, off⟩
      rw [List.length_reverse, hn, Nat.sub_self, List.drop_zero] at hvs hcnt
      obtain ⟨t, ht, _, htc⟩ := forest_one hsc
      rw [ht] at hvs hcnt
      obtain ⟨v, rfl⟩ := List.length_eq_one_iff.mp hvs.1
      have hc60 := hcnt t (List.mem_singleton.mpr rfl)
      refine ⟨_, rfl, D, _, 0, v, rfl, rfl, SqL.of hD, rfl, kQ (by omega) v t H3 ht (fun b o e => off b o (ne_of_none e nD.free) (s02 _ _ e)) (hvs.2 0 v t rfl rfl)⟩
def spRead (K : PySem.W.Frag) (CR CV CT CX : Addr) : Sp := fun vs H Q E => ∃ v, vs = [v] ∧ ((∃ ty, TyOf K H v ty ∧ PySem.W.kitOne K ty (.type "str") = some false ∧ ∀ d, H d = none → E (.ref CX) (some d) (upd H d (.xd [("at", .int (-1))]))) ∨
  (∃ s : Str, v = .str s ∧ s.length ≤ 90000 ∧ (∀ k : Nat, scan (Txt.split s "\n") 1 0 = some k → ∀ d H', Same H H' → H' d = none → E (.ref CX) (some d) (upd H' d (.xd [("at", .int (k : Nat))]))) ∧
    (scan (Txt.split s "\n") 1 0 = none → (60 < (Txt.split s "\n").length → ∀ H', Same H H' → E (.ref CT) none H') ∧ ((Txt.split s "\n").length ≤ 60 → ∀ v t H', forest (Txt.split s "\n") = [t] → Same H H' → LevelAt K CR CV H' v t → Q v H'))))
theorem ok_read {f : Addr} {fd : FuncData} (F : Fun K "read_level" "read_level" s_read_level f fd) (T : TxT P w K mg CR CV CB fB CE fE CT CX fX) (c__lines_in : CalG P w K mg base 3 "_lines_in" (spLinesIn K CX)) (c__room_in : CalG P w K mg base 6 "_room_in" (spRoomIn CR)) (c__built : CalG P w K mg base 6 "_built" (spBuild K CR CV CT)) : FnG P w K mg base (CXe P w) 7 f fd ["text"] (spRead K CR CV CT CX) := by
  refine F.okG sc_read_level (fun vs H Q E h => ?_) (fun cdv A outer s H vs Q E hgd hr h => ?_)
  · obtain ⟨v, rfl, _⟩ := h; rfl
  · obtain ⟨v, rfl, h⟩ := h
    refine ⟨_, (pss_cons (ps_set (i := 1) sc_read_level.nd rfl (Or.inl rfl) (pg_cS c__lines_in hgd hr (by first | decide | omega) (fun σ => passAt (takes_of rfl rfl rfl rfl) σ) (pa_cons (pv 0) pa_nil)))
      (pss_cons (ps_set (i := 2) sc_read_level.nd rfl (Or.inl rfl) (pe_lstA pa_nil))
      (pss_cons (ps_set (i := 3) sc_read_level.nd rfl (Or.inl rfl) pe_int)
      (pss_cons (ps_for (passes_of rfl) rfl (pi_enumL (by rfl) T.n_enumerate (pa_cons (pv 1) pa_nil)) (pg_tup (by rfl) (pgs_cons (pg_name (i := 4) sc_read_level.nd rfl (Or.inl rfl)) (pgs_cons (pg_name (i := 5) sc_read_level.nd rfl (Or.inl rfl)) pgs_nil)))
      (pss_cons (ps_set (i := 6) sc_read_level.nd rfl (Or.inl rfl) (pe_ifExp (pt_cmpR op_gt (pv 3) pe_int (nomark _)) (pg_c c__room_in hgd hr (by first | decide | omega) (pa_cons (pv 5) pa_nil)) pe_non))
      (pss_cons (ps_if (pt_cmpR op_isN (pv 6) pe_non (nomark _)) (pss_one (ps_raiseErr rfl T.x_BadText hr (takes_of rfl rfl rfl rfl) (pa_cons (pe_op op_add (pv 4) pe_int) pa_nil))) pss_nil)
      (pss_cons (ps_expr (pe_bm PySem.F.plainAttrs_list PySem.F.slot_list_append PySem.F.type_list_append mt_append (pv 2) (pa_cons (pv 6) pa_nil)))
      (pss_one (ps_aug (i := 3) sc_read_level.nd rfl (Or.inl rfl) (pe_op op_sub (pe_fld (pv 6) rfl) pe_int) ip_add))))))
      (pss_cons (ps_if (pt_cmpR op_gt (pv 3) pe_int (nomark _)) (pss_one (ps_raiseErr rfl T.x_BadText hr (takes_of rfl rfl rfl rfl) (pa_cons (pe_op op_add (pe_callB call_len_seq (by rfl) T.n_len (by decide +kernel) (pa_cons (pv 1) pa_nil)) pe_int) pa_nil))) pss_nil)
      (pss_one (ps_ret (pg_cS c__built hgd hr (by first | decide | omega) (fun σ => passAt (takes_of rfl rfl rfl rfl) σ) (pa_cons (pv 2) pa_nil))))))))), ?_⟩
    rcases h with ⟨ty, hty, hk, k⟩ | ⟨s, rfl, hl, kE, kQ⟩
    · exact ⟨_, rfl, v, rfl, .inl ⟨ty, hty, hk, k⟩⟩
    · refine ⟨_, rfl, _, rfl, .inr ⟨s, rfl, by omega, fun q H1 s1 nq hq => ?_⟩⟩
      have hlen : (Txt.split s "\n").length ≤ 100000 := by
        have := PyProof.Rows.split_le s "\n"
        omega
      have hls : ∀ l ∈ Txt.split s "\n", l.length ≤ 100000 := fun l h => by
        have := PyProof.Rows.part_short h
        omega
      generalize Txt.split s "\n" = ls at hq kE kQ hlen hls
      have nonr : ∀ (L : List Str) (M k : Nat), k ≤ L.length + k := fun _ _ _ => by omega
      refine And.intro (Nat.zero_le _) fun D H2 nD => ?_
      refine ⟨_, rfl, q, _, rfl, nD.same _ _ hq, fun J G wk hG => for_it wk (fun i σ H' => (∃ o4 o5 o6 M rvs, σ = [some (.str s), some (.ref q), some (.ref D), some (.int (M : Nat)), o4, o5, o6] ∧ H' D = some (.lst rvs) ∧ RmsAt CR H' rvs (ls.take i) ∧ M ≤ i + 1 ∧ scan (ls.drop i) M i = scan ls 1 0) ∧ Off (fun b => b = D) H1 H') ⟨⟨none, none, none, 1, [], rfl, nD.at_, ⟨rfl, fun i v l e _ => by cases e⟩, Nat.le_refl _, rfl⟩, Off.same nD.same⟩ (fun i σ H' _ h => hG H' (h.2 _ _ (fun z => by rw [z, nD.free] at hq; cases hq) hq)) ?_ ?_⟩
      · rintro i x σ Ha Hb hi ⟨⟨o4, o5, o6, M, rvs, rfl, hD, hR, hM, hsc⟩, off⟩ ⟨T', x1, y1, rfl, hT, rfl, e1, e2⟩
        cases e1
        rw [List.length_map] at hi
        have e3 : ls[i]? = some ls[i] := List.getElem?_eq_getElem hi
        have e2 : (ls.map V.str)[i]? = some y1 := e2
        rw [List.getElem?_map, e3] at e2
        cases e2
        have sT : Same Ha (upd Ha T' (.tup [.int (i : Nat), .str ls[i]])) := same_new hT
        have hTT : (upd Ha T' (.tup [.int (i : Nat), .str ls[i]])) T' = some (.tup [.int (i : Nat), .str ls[i]]) := upd_same
        generalize upd Ha T' (.tup [.int (i : Nat), .str ls[i]]) = Hb at sT hTT ⊢
        have s1b : Same H1 Ha := fun b o e => off b o (fun z => by rw [z, nD.free] at e; cases e) e
        have sHb : Same H Hb := (s1.trans s1b).trans sT
        have edrop : ls.drop i = ls[i] :: ls.drop (i + 1) := List.drop_eq_getElem_cons hi
        refine ⟨T', _, rfl, SqT.of hTT, rfl, _, _, rfl, _, _, rfl, rfl, ?_⟩
        have noE : ∀ k : Nat, scan ls 1 0 = some k → ∀ d, Hb d = none → E (.ref CX) (some d) (upd Hb d (.xd [("at", .int (k : Nat))])) := fun k e d hd => kE k e d Hb sHb hd
        have hL := fun z => nonr [z] 0 0
        rcases Nat.eq_zero_or_pos M with rfl | hM0
        · refine ⟨_, rfl, _, _, rfl, rfl, _, rfl, iteF' (by simp) ?_⟩
          refine ⟨_, rfl, rfl, _, rfl, iteT' (by simp) ?_⟩
          refine ⟨_, rfl, _, _, rfl, rfl, _, rfl, fun d hd => ?_⟩
          rw [edrop, scan_zero] at hsc
          exact noE _ hsc.symm d hd
        · refine ⟨_, rfl, _, _, rfl, rfl, _, rfl, iteT' (by simpa using hM0) ?_⟩
          refine ⟨_, rfl, ls[i], rfl, hls _ (List.getElem_mem hi), fun hm H3 s3 => ?_, fun m hm R H3 s3 hRm => ?_⟩
          · refine ⟨_, rfl, rfl, _, rfl, iteT' (by simp) ?_⟩
            refine ⟨_, rfl, _, _, rfl, rfl, _, rfl, fun d hd => ?_⟩
            rw [edrop, scan_none hm] at hsc
            exact kE _ hsc.symm d H3 (sHb.trans s3) hd
          · refine ⟨_, rfl, rfl, _, rfl, iteF' (by simp) ?_⟩
            have hD3 := s3 _ _ (sT _ _ hD)
            have hrl : rvs.length = i := by rw [hR.1, List.length_take]; omega
            have hq3 : ∀ {b : Addr} {o : HO}, H3 b = some o → (∀ xs, o ≠ HO.lst xs) → (upd H3 D (.lst (rvs ++ [.ref R]))) b = some o := fun {b o} e n => (upd_ne (fun z => by rw [z, hD3] at e; exact n _ (Option.some.inj e).symm)).trans e
            have hR4 := hRm.keepL fun b o e n => hq3 e n
            have hRs := (hR.same (sT.trans s3)).keepL fun b o e n => hq3 e n
            refine ⟨_, rfl, .inl ⟨rfl, _, SqL.of hD3⟩, _, rfl, D, rvs, .ref R, rfl, rfl, hD3, (by rw [sizeLine_eq]; omega), ?_⟩
            have hD4 : (upd H3 D (.lst (rvs ++ [.ref R]))) D = some (.lst (rvs ++ [.ref R])) := upd_same
            have off4 : Off (fun b => b = D) H1 (upd H3 D (.lst (rvs ++ [.ref R]))) := ((off.trans (Off.same (sT.trans s3)))).trans (Off.mut rfl)
            generalize upd H3 D (.lst (rvs ++ [.ref R])) = H4 at hq3 hR4 hRs hD4 off4 ⊢
            obtain ⟨rdx, rt, rct, rpt, rnd, r1, _⟩ := id hR4.ex
            have hmm : manyZ (Txt.join "" (rowsL ls[i])) "12" = (m : Int) := (mo_some hm).2.2.2
            refine ⟨_, rfl, _, rfl, R, CR, rdx, _, _, rfl, r1, T.clR, T.n_mouths, rfl, _, _, rfl, rfl, _, _, rfl, rfl, ⟨⟨some (.int (i : Nat)), some (.str ls[i]), some (.ref R), M + m - 1, rvs ++ [.ref R], ?_, hD4, ?_, ?_, ?_⟩, off4⟩⟩
            · have e : ((fun i j : Int => i + j) (M : Int) (manyZ (Txt.join "" (rowsL ls[i])) "12" - 1)) = ((M + m - 1 : Nat) : Int) := by rw [hmm]; show (M : Int) + ((m : Int) - 1) = _; omega
              rw [e]; rfl
            · have e4 : ls.take (i + 1) = ls.take i ++ [ls[i]] := by rw [List.take_add_one, e3]; rfl
              rw [e4]
              refine ⟨by rw [List.length_append, List.length_append, hRs.1]; rfl, fun j v l f1 f2 => ?_⟩
              rcases Nat.lt_trichotomy j i with hj | hj | hj
              · rw [List.getElem?_append_left (by omega)] at f1
                rw [List.getElem?_append_left (by rw [List.length_take]; omega)] at f2
                exact hRs.2 j v l f1 f2
              · subst hj
                rw [List.getElem?_append_right (by omega), hrl, Nat.sub_self] at f1
                rw [List.getElem?_append_right (by rw [List.length_take]; omega), List.length_take, Nat.min_eq_left (by omega), Nat.sub_self] at f2
                cases f1; cases f2
                exact ⟨R, rfl, hR4⟩
              · rw [List.getElem?_eq_none (by rw [List.length_append, hrl]; simp; omega)] at f1
                cases f1
            · have := mo_le hm; omega
            · rw [edrop, scan_cons hM0 hm] at hsc
              exact hsc
      · rintro σ Ha ⟨⟨o4, o5, o6, M, rvs, rfl, hD, hR, hM, hsc⟩, off⟩
        rw [List.length_map] at hM
        rw [List.length_map, List.drop_length] at hsc
        rw [List.length_map, List.take_length] at hR
        have s1b : Same H1 Ha := fun b o e => off b o (fun z => by rw [z, nD.free] at e; cases e) e
        have sHa := s1.trans s1b
        rcases Nat.eq_zero_or_pos M with rfl | hM0
        · refine ⟨_, rfl, _, _, rfl, rfl, _, rfl, iteF' (by simp) ?_⟩
          have hs0 : scan ls 1 0 = none := by rw [← hsc]; simp [scan]
          obtain ⟨k1, k2⟩ := kQ hs0
          exact ⟨_, rfl, D, rvs, ls, 0, rfl, hD, hR, hs0, hlen, fun h H' s => k1 h H' (sHa.trans s), fun h v t H' e s hv => k2 h v t H' e (sHa.trans s) hv⟩
        · refine ⟨_, rfl, _, _, rfl, rfl, _, rfl, iteT' (by simpa using hM0) ?_⟩
          have hs0 : scan ls 1 0 = some (ls.length + 1) := by rw [← hsc]; simp [scan, hM0]
          refine ⟨_, rfl, q, _, rfl, .inl (SqL.of (s1b _ _ hq)), _, _, rfl, rfl, _, rfl, fun d hd => ?_⟩
          rw [List.length_map]
          exact kE _ hs0 d Ha sHa hd
end
end K88
end
section
set_option Elab.async false
set_option linter.all false
set_option maxRecDepth 100000
set_option maxHeartbeats 2000000
namespace K88
open PySem L2
local macro_rules | `(tactic| walk_at "hp") => `(tactic| first | assumption | exact upd_same | (refine (upd_ne (by first | assumption | (apply Ne.symm; assumption))).trans ?_; walk_at "hp"))
local macro_rules | `(tactic| walk_at "rd1") => `(tactic| first
  | (refine ⟨_, rfl, ?_⟩)
  | (refine ⟨_, _, rfl, rfl, ?_⟩)
  | (refine ⟨(rfl : scal _ _ = true), ?_⟩)
  | (refine And.intro (by show (0 : Int) < _; decide) ?_)
  | (refine And.intro (And.intro (by decide) (by decide)) ?_)
  | (refine And.intro (Or.inr (And.intro (by decide) (by decide))) ?_)
  | (refine And.intro (And.intro (by decide) (And.intro (by decide) (by decide))) ?_)
  | (refine And.intro (by assumption) ?_)
  | (refine And.intro (And.intro (by omega) (by omega)) ?_)
  | (refine And.intro (Or.inl (And.intro (by omega) (by omega))) ?_)
  | (refine' ⟨_, _, _, _, rfl, rfl, Or.inl (Or.inl ?h1), ?h2, ?h3⟩; (case h1 => walk_at "hp"); (case h2 => rfl))
  | (refine' ⟨_, _, _, _, rfl, rfl, ?h1, ?h2, ?h3⟩; (case h1 => walk_at "hp"); (case h2 => rfl))
  | (refine' ⟨_, _, rfl, Or.inl (Or.inl (Or.inl ?h1)), ?h3⟩; (case h1 => walk_at "hp"))
  | (refine Or.inl ⟨_, rfl, ?_⟩))
local macro_rules | `(tactic| walk_at "rd") => `(tactic| repeat walk_at "rd1")
theorem sc__law_lines : FnScope ["level", "found", "child"] ["level"] (defScope s__law_lines) := ⟨rfl, rfl, rfl, by decide +kernel, rfl, by decide +kernel, by decide +kernel⟩
theorem sc__law_made : FnScope ["lines", "children", "rest", "k", "child"] ["lines"] (defScope s__law_made) := ⟨rfl, rfl, rfl, by decide +kernel, rfl, by decide +kernel, by decide +kernel⟩
theorem sc__law_due : FnScope ["text", "lines", "wanted", "k", "mouths"] ["text"] (defScope s__law_due) := ⟨rfl, rfl, rfl, by decide +kernel, rfl, by decide +kernel, by decide +kernel⟩
theorem sc__law_mouths : FnScope ["line", "rows", "signs", "row", "sign"] ["line"] (defScope s__law_mouths) := ⟨rfl, rfl, rfl, by decide +kernel, rfl, by decide +kernel, by decide +kernel⟩
/-! ### the levels of lines, one taken off at a time -/
theorem forest_drop : ∀ (ls : List Str) {M k : Nat}, scan ls M k = none → ∀ j, j ≤ (forest ls).length → ∃ k', scan (ls.drop ((((forest ls).take j).map Tr.cnt).sum)) (M - j) k' = none ∧ forest (ls.drop ((((forest ls).take j).map Tr.cnt).sum)) = (forest ls).drop j
  | [], M, k, h, j, hj => by
    have : j = 0 := by simpa [forest] using hj
    subst this
    exact ⟨k, h, rfl⟩
  | l :: r, M, k, h, 0, hj => ⟨k, h, rfl⟩
  | l :: r, M, k, h, j + 1, hj => by
    obtain ⟨h0, m, hm, h'⟩ := scan_good h
    rw [forest_cons hm] at hj ⊢
    rw [List.length_cons, List.length_drop] at hj
    have fl := forest_len r h'
    obtain ⟨k', a, b⟩ := forest_drop r h' (m + j) (by omega)
    have e : ((((Tr.nd (rowsL l) (wdL l) ((forest r).take m) :: (forest r).drop m).take (j + 1)).map Tr.cnt).sum) = (((forest r).take (m + j)).map Tr.cnt).sum + 1 := by
      rw [List.take_succ_cons, List.map_cons, List.sum_cons, cnt_nd, List.take_add, List.map_append, List.sum_append]
      omega
    rw [e, List.drop_succ_cons, List.drop_succ_cons, List.drop_drop]
    refine ⟨k', ?_, b⟩
    rw [show M - (j + 1) = M + m - 1 - (m + j) by omega]
    exact a
theorem sum_joinL (S : List Nat) : ∀ ps : List (List Nat), (ps.map List.length).sum ≤ (TL.joinL S ps).length
  | [] => Nat.le_refl _
  | [p] => by simp [TL.joinL]
  | p :: q :: r => by
    have := sum_joinL S (q :: r)
    show _ ≤ (p ++ (S ++ TL.joinL S (q :: r))).length
    rw [List.map_cons, List.sum_cons, List.length_append, List.length_append]
    omega
/-- the parts of a text are no longer than the text -/
theorem sum_split (x y : Str) : ((Txt.split x y).map (·.length)).sum ≤ x.length := by
  have h1 := join_split' x y
  have h2 := sum_joinL y.cps.toList ((Txt.split x y).map fun r => r.cps.toList)
  rw [List.map_map] at h2
  have h3 : (Txt.join y (Txt.split x y)).cps.toList = TL.joinL y.cps.toList ((Txt.split x y).map fun r => r.cps.toList) := by
    rw [TL.join_eq]; exact TL.tl_join y _
  rw [h1] at h3
  rw [← h3] at h2
  exact h2
theorem okRoom_iff {r0 : Str} {rs : List Str} : OkRoom (r0 :: rs) ↔ ((r0 :: rs).length ≤ 5 ∧ 1 ≤ r0.length ∧ r0.length ≤ 6) ∧ (∀ r ∈ r0 :: rs, r.length = r0.length) ∧ (∀ c ∈ (Txt.join "" (r0 :: rs)).cps.toList, c ∈ marksS.cps.toList) ∧ wholeZ (Txt.join "" (r0 :: rs)) = true := by
  constructor
  · rintro ⟨wd, R, lin, who⟩
    have h0 := R.al r0 (List.mem_cons_self ..)
    refine ⟨⟨R.h5, by rw [h0]; exact R.w1, by rw [h0]; exact R.w6⟩, fun r hr => (R.al r hr).trans h0.symm, fun c hc => ?_, who⟩
    rw [join_cps, List.mem_flatten] at hc
    obtain ⟨l, hl, hc⟩ := hc
    obtain ⟨r, hr, rfl⟩ := List.mem_map.mp hl
    have := lin r hr
    unfold lineS at this
    rw [Bool.and_eq_true, Bool.and_eq_true, List.all_eq_true] at this
    exact of_decide_eq_true (this.2.2 c hc)
  · rintro ⟨⟨a1, a2, a3⟩, a4, a5, a6⟩
    refine ⟨r0.length, ⟨by simp, a1, a2, a3, a4⟩, fun r hr => ?_, a6⟩
    refine lineS_of (by rw [a4 r hr]; exact a2) (by rw [a4 r hr]; exact a3) fun c hc => a5 c ?_
    rw [join_cps, List.mem_flatten]
    exact ⟨_, List.mem_map.mpr ⟨r, hr, rfl⟩, hc⟩
theorem keys_count : ∀ cs : List Nat, cs.countP (fun c => decide (c ∈ ("abAB" : Str).cps.toList)) = cs.count 97 + cs.count 98 + cs.count 65 + cs.count 66 := by
  have e : ("abAB" : Str).cps.toList = [97, 98, 65, 66] := by decide +kernel
  rw [e]
  intro cs
  induction cs with
  | nil => rfl
  | cons c r ih =>
    rw [List.countP_cons, ih, List.count_cons, List.count_cons, List.count_cons, List.count_cons]
    by_cases h1 : c = 97
    · subst h1; simp; omega
    by_cases h2 : c = 98
    · subst h2; simp; omega
    by_cases h3 : c = 65
    · subst h3; simp; omega
    by_cases h4 : c = 66
    · subst h4; simp; omega
    simp [h1, h2, h3, h4]
section
variable {P : Program} {w : World} {K : PySem.W.Frag} {mg : Str → Option Value} {base : Heap} {CR CV CB fB CE fE CT CX fX : Addr}
def spLines (K : PySem.W.Frag) (n : Nat) : Sp := fun vs H Q _ => ∃ (v : V) (t : Tr), vs = [v] ∧ TreeAt H v t ∧ t.cnt ≤ n + 1 ∧ n < 60 ∧ ∀ q H', Same H H' → H q = none → H' q = some (.lst ((linesOf t).map V.str)) → Q (.ref q) H'
theorem ok_lines {f : Addr} {fd : FuncData} {n : Nat} (F : Fun K "_law_lines" "_law_lines" s__law_lines f fd) (c__law_lines : CalG P w K mg base (1 + n) "_law_lines" (below (spLines K) n)) : FnG P w K mg base (CXe P w) (1 + n + 1) f fd ["level"] (spLines K n) := by
  refine F.okG sc__law_lines (fun vs H Q E h => ?_) (fun cdv A outer s H vs Q E hgd hr h => ?_)
  · obtain ⟨v, t, rfl, _⟩ := h; rfl
  · obtain ⟨v, t, rfl, ht, hc, hn, k⟩ := h
    refine ⟨_, (pss_cons (ps_set (i := 1) sc__law_lines.nd rfl (Or.inl rfl) (pe_lstA (pa_cons (pe_m1 PySem.F.slot_str_join PySem.F.type_str_join mt_join pe_str (pe_ix ix_tup (pv 0) pe_int (fun _ _ => rfl))) pa_nil)))
      (pss_cons (ps_for (passes_of rfl) rfl (pi_tup (pe_ix ix_tup (pv 0) pe_int (fun _ _ => rfl))) (pg_name (i := 2) sc__law_lines.nd rfl (Or.inl rfl))
      (pss_one (ps_set (i := 1) sc__law_lines.nd rfl (Or.inl rfl) (pe_op op_cat (pv 1) (pg_c c__law_lines hgd hr (by omega) (pa_cons (pv 2) pa_nil))))))
      (pss_one (ps_ret (pv 1))))), ?_⟩
    cases ht with
    | @mk a r c rows wd vs ch h1 h2 h3 h4 h5 =>
      obtain ⟨hr', R, lin, who, man⟩ := h2
      have hlen : ch.length ≤ n := by
        have e := cnt_nd rows wd ch
        have := cnt_len ch
        omega
      refine ⟨⟨_, rfl⟩, _, rfl, a, [V.ref r, V.ref c], 0, V.ref r, rfl, rfl, SqT.of h1, rfl, "/", r, rows, rfl, rfl, .inr (SqT.of hr'), ?_, And.intro (Nat.le_of_ble_eq_true rfl) fun D H1 nD => ?_⟩
      · have := sum_rows R.al
        rw [this]
        have hw := R.w6
        have hh := R.h5
        have := Nat.mul_le_mul hh hw
        show _ + rows.length * 1 ≤ _
        omega
      refine ⟨_, rfl, a, [V.ref r, V.ref c], 1, V.ref c, rfl, rfl, SqT.of (nD.same _ _ h1), rfl, c, rfl, ⟨_, SqT.of (nD.same _ _ h3)⟩, for_it (walk_tup (xs := vs)) (fun i σ H' => ∃ (D' : Addr) (o2 : Option V), σ = [some (.ref a), some (.ref D'), o2] ∧ H D' = none ∧ H' D' = some (.lst ((Txt.join "/" rows :: ((ch.take i).map linesOf).flatten).map V.str)) ∧ Same H H') ⟨D, none, rfl, nD.free, nD.at_, nD.same⟩ (fun i σ H' _ ⟨_, _, _, _, _, s⟩ => SqT.of (s _ _ h3)) ?_ ?_⟩
      · rintro i y σ Ha Hb hi ⟨D', o2, rfl, hDn, hD, sb⟩ ⟨rfl, hy⟩
        have hi2 : i < ch.length := by rw [← h4]; exact hi
        have e2 : ch[i]? = some ch[i] := List.getElem?_eq_getElem hi2
        have hti := h5 i y ch[i] hy e2
        obtain ⟨hcc, hn1⟩ := cnt_child hc (List.getElem_mem hi2)
        have hb1 : ((ch.take i).map linesOf).flatten.length ≤ n := by
          have := sum_take_drop (ch.map Tr.cnt) i
          rw [List.length_flatten, List.map_map]
          have e3 : ((ch.take i).map (List.length ∘ linesOf)) = (ch.map Tr.cnt).take i := by
            rw [← List.map_take]; exact List.map_congr_left fun c _ => lines_cnt c
          rw [e3]
          rw [cnt_nd] at hc
          omega
        refine ⟨_, rfl, _, rfl, n - 1, by omega, y, ch[i], rfl, hti.same sb, by omega, by omega, fun q H' s nq hq => ?_⟩
        have hD' := s _ _ hD
        have hb2 : (linesOf ch[i]).length ≤ n := by rw [lines_cnt]; omega
        refine ⟨D', q, _, _, rfl, rfl, hD', hq, by rw [sizeLine_eq, List.length_map, List.length_map, List.length_cons]; omega, fun p hp => ⟨p, _, rfl, (sb.trans s).free hp, ?_, (sb.trans s).trans (same_new hp)⟩⟩
        have e4 : ch.take (i + 1) = ch.take i ++ [ch[i]] := by rw [List.take_add_one, e2]; rfl
        rw [upd_same, e4, List.map_append (f := linesOf), List.flatten_append]
        simp
      rintro σ H2 ⟨D', o2, rfl, hDn, hD, sb⟩
      rw [h4, List.take_length] at hD
      exact ⟨_, rfl, k D' H2 sb hDn (by rw [linesOf_nd]; exact hD)⟩
def spMade (K : PySem.W.Frag) (n : Nat) : Sp := fun vs H Q _ => ∃ (L : Addr) (ls : List Str) (M k : Nat) (t : Tr), vs = [.ref L] ∧ H L = some (.lst (ls.map V.str)) ∧ scan ls M k = none ∧ (forest ls)[0]? = some t ∧ t.cnt ≤ n + 1 ∧ n < 60 ∧ ls.length ≤ 60 ∧ (∀ l ∈ ls, l.length ≤ 100000) ∧
  ∀ q v r H', Same H H' → H' q = some (.lst [v, .ref r]) → H r = none → TreeAt H' v t → H' r = some (.lst ((ls.drop t.cnt).map V.str)) → Q (.ref q) H'
def spMo (K : PySem.W.Frag) : Sp := fun vs H Q _ => ∃ l : Str, vs = [.str l] ∧ l.length ≤ 100000 ∧ (mo l = none → ∀ H', Same H H' → Q .non H') ∧ (∀ m, mo l = some m → ∀ H', Same H H' → Q (.int (m : Nat)) H')
theorem ok_made {f : Addr} {fd : FuncData} {n : Nat} (F : Fun K "_law_made" "_law_made" s__law_made f fd) (T : LvB mg) (c__law_mouths : CalG P w K mg base 1 "_law_mouths" (spMo K)) (c__law_made : CalG P w K mg base (3 + n) "_law_made" (below (spMade K) n)) : FnG P w K mg base (CXe P w) (3 + n + 1) f fd ["lines"] (spMade K n) := by
  refine F.okG sc__law_made (fun vs H Q E h => ?_) (fun cdv A outer s H vs Q E hgd hr h => ?_)
  · obtain ⟨L, ls, M, k, t, rfl, _⟩ := h; rfl
  · obtain ⟨L, ls, M, kk, t, rfl, hL, hsc, ht, hc, hn, hlen, hls, k⟩ := h
    refine ⟨_, (pss_cons (ps_set (i := 1) sc__law_made.nd rfl (Or.inl rfl) (pe_lstA pa_nil))
      (pss_cons (ps_set (i := 2) sc__law_made.nd rfl (Or.inl rfl) (pe_slice sl_list (pv 0) (po_some pe_int) po_none))
      (pss_cons (ps_for (passes_of rfl) rfl (pi_range1 (by rfl) T.n_range (pa_cons (pg_c c__law_mouths hgd hr (by first | decide | omega) (pa_cons (pe_ix ix_list (pv 0) pe_int (fun _ _ => rfl)) pa_nil)) pa_nil)) (pg_name (i := 3) sc__law_made.nd rfl (Or.inl rfl))
      (pss_cons (ps_asg (pg_c c__law_made hgd hr (by omega) (pa_cons (pv 2) pa_nil)) (pg_lst (by rfl) (pgs_cons (pg_name (i := 4) sc__law_made.nd rfl (Or.inl rfl)) (pgs_cons (pg_name (i := 2) sc__law_made.nd rfl (Or.inl rfl)) pgs_nil))))
      (pss_one (ps_expr (pe_bm PySem.F.plainAttrs_list PySem.F.slot_list_append PySem.F.type_list_append mt_append (pv 1) (pa_cons (pv 4) pa_nil))))))
      (pss_one (ps_ret (pe_lstA (pa_cons (pe_tupA (pa_cons (pe_callTy call_tuple_of (by rfl) T.n_tuple (by decide +kernel) (pa_cons (pe_m1 PySem.F.slot_str_split PySem.F.type_str_split mt_split (pe_ix ix_list (pv 0) pe_int (fun _ _ => rfl)) pe_str) pa_nil)) (pa_cons (pe_callTy call_tuple_of (by rfl) T.n_tuple (by decide +kernel) (pa_cons (pv 1) pa_nil)) pa_nil))) (pa_cons (pv 2) pa_nil)))))))), ?_⟩
    obtain ⟨l, r, rfl⟩ : ∃ l r, ls = l :: r := by
      cases ls with
      | nil => simp [forest] at ht
      | cons l r => exact ⟨l, r, rfl⟩
    obtain ⟨hM0, m, hm, hsc'⟩ := scan_good hsc
    rw [forest_cons hm] at ht
    cases ht
    have fl := forest_len r hsc'
    have hl := hls l (List.mem_cons_self ..)
    have hml := mo_le hm
    have hc' : (((forest r).take m).map Tr.cnt).sum ≤ n := by rw [cnt_nd] at hc; omega
    refine And.intro (Nat.zero_le _) fun C H1 nC => ?_
    refine ⟨_, rfl, _, rfl, nopart_of ⟨L, _, rfl, SqL.of (nC.same _ _ hL), fun R nR => ?_⟩⟩
    rw [cut_1 (by simp)]
    have s2 : Same H1 (upd H1 R (.lst (((l :: r).map V.str).drop 1))) := same_new nR
    have hR : (upd H1 R (.lst (((l :: r).map V.str).drop 1))) R = some (.lst (r.map V.str)) := upd_same
    generalize upd H1 R (.lst (((l :: r).map V.str).drop 1)) = H2 at s2 hR ⊢
    have s02 : Same H H2 := nC.same.trans s2
    have hC2 := s2 _ _ nC.at_
    refine ⟨_, rfl, L, _, 0, .str l, rfl, rfl, SqL.of (s02 _ _ hL), atI_nat (j := 0) rfl, l, rfl, hl, (fun e => by rw [hm] at e; cases e), fun m' em H3 s3 => ?_⟩
    rw [hm] at em
    cases em
    have s23 : Same H H3 := s02.trans s3
    have hCn : H C = none := nC.free
    refine ⟨(m : Int), rfl, by omega, by omega, ?_⟩
    rw [Int.toNat_natCast]
    refine for_range (n := m) (fun i σ H' => ∃ (rr : Addr) (o3 o4 : Option V) (vs : List V), σ = [some (.ref L), some (.ref C), some (.ref rr), o3, o4] ∧ H' C = some (.lst vs) ∧ TsAt H' vs ((forest r).take i) ∧ H' rr = some (.lst ((r.drop ((((forest r).take i).map Tr.cnt).sum)).map V.str)) ∧ rr ≠ C ∧ H rr = none ∧ Off (fun b => b = C) H3 H') ⟨R, none, none, [], rfl, s3 _ _ hC2, ⟨rfl, fun i v t e _ => by cases e⟩, s3 _ _ hR, (fun z => by rw [z, nC.at_] at nR; cases nR), nC.same.free nR, Off.refl _⟩ ?_ ?_
    · rintro i σ Ha hi ⟨rr, o3, o4, vs, rfl, hC, hvs, hrr, hne, hrf, off⟩
      obtain ⟨k', hs4, hf4⟩ := forest_drop r hsc' i (by omega)
      have hi2 : i < (forest r).length := by omega
      have e2 : (forest r)[i]? = some (forest r)[i] := List.getElem?_eq_getElem hi2
      have e5 : ((forest r).take m)[i]? = some (forest r)[i] := by rw [List.getElem?_take, if_pos hi, e2]
      have hcc : (forest r)[i].cnt ≤ (((forest r).take m).map Tr.cnt).sum := mem_sum (List.mem_map.mpr ⟨_, List.mem_of_getElem? e5, rfl⟩)
      have hc1 := cnt_pos (forest r)[i]
      have s3a : Same H Ha := fun b o e => off b o (ne_of_none e hCn) (s23 _ _ e)
      refine ⟨_, rfl, n - 1, by omega, rr, _, _, _, (forest r)[i], rfl, hrr, hs4, ?_, by omega, by omega, ?_, ?_, fun q v r' H5 s5 hq hrn hv hr5 => ?_⟩
      · rw [hf4, List.getElem?_drop, Nat.add_zero, e2]
      · rw [List.length_cons] at hlen; rw [List.length_drop]; omega
      · exact fun l h => hls l (List.mem_cons_of_mem _ (List.mem_of_mem_drop h))
      have hC5 := s5 _ _ hC
      refine ⟨q, _, rfl, SqL.of hq, rfl, _, _, rfl, _, _, rfl, rfl, ?_⟩
      refine ⟨_, rfl, .inl ⟨rfl, _, SqL.of hC5⟩, _, rfl, C, vs, v, rfl, rfl, hC5, ?_, ?_⟩
      · rw [sizeLine_eq, hvs.1, List.length_take]; omega
      have e6 : (forest r).take (i + 1) = (forest r).take i ++ [(forest r)[i]] := by rw [List.take_add_one, e2]; rfl
      have hrC : r' ≠ C := fun z => by rw [z, hC] at hrn; cases hrn
      have kp : ∀ (b : Addr) (o : HO), H5 b = some o → b ≠ C → upd H5 C (.lst (vs ++ [v])) b = some o := fun b o e z => (upd_ne z).trans e
      have kt : ∀ (a : Addr) (xs : List V), H5 a = some (.tup xs) → upd H5 C (.lst (vs ++ [v])) a = some (.tup xs) := fun a xs e => kp a _ e fun z => by rw [z, hC5] at e; cases e
      refine ⟨r', _, _, vs ++ [v], rfl, upd_same, ?_, ?_, hrC, s3a.free hrn, (off.trans (Off.same s5)).trans (Off.mut rfl)⟩
      · rw [e6]
        exact (TsAt.snoc ⟨hvs.1, fun j x t f1 f2 => (hvs.2 j x t f1 f2).same s5⟩ hv).keep kt
      · rw [e6, List.map_append, List.sum_append]
        rw [List.drop_drop] at hr5
        simpa using kp _ _ hr5 hrC
    · rintro σ Ha ⟨rr, o3, o4, vs, rfl, hC, hvs, hrr, hne, hrf, off⟩
      have s3a : Same H Ha := fun b o e => off b o (ne_of_none e hCn) (s23 _ _ e)
      refine ⟨_, rfl, L, _, 0, .str l, rfl, rfl, SqL.of (s3a _ _ hL), atI_nat (j := 0) rfl, ?_⟩
      refine ⟨⟨_, rfl⟩, l, "/", rfl, rfl, by decide, by rw [sizeLine_eq]; omega, fun a na => ?_⟩
      have sA : Same Ha (upd Ha a (.lst ((Txt.split l "/").map V.str))) := same_new na
      have hA : (upd Ha a (.lst ((Txt.split l "/").map V.str))) a = some (.lst ((rowsL l).map V.str)) := upd_same
      generalize upd Ha a (.lst ((Txt.split l "/").map V.str)) = H4 at sA hA ⊢
      refine ⟨a, _, rfl, .inl ⟨SqL.of hA, fun u nu => ?_⟩⟩
      have sU : Same H4 (upd H4 u (.tup ((rowsL l).map V.str))) := same_new nu
      have hU : (upd H4 u (.tup ((rowsL l).map V.str))) u = some (.tup ((rowsL l).map V.str)) := upd_same
      generalize upd H4 u (.tup ((rowsL l).map V.str)) = H5 at sU hU ⊢
      refine ⟨_, rfl, C, vs, rfl, .inl ⟨SqL.of (sU _ _ (sA _ _ hC)), fun u2 nu2 => ?_⟩⟩
      have sV : Same H5 (upd H5 u2 (.tup vs)) := same_new nu2
      have hV : (upd H5 u2 (.tup vs)) u2 = some (.tup vs) := upd_same
      generalize upd H5 u2 (.tup vs) = H6 at sV hV ⊢
      refine And.intro (Nat.le_of_ble_eq_true rfl) fun T1 H7 nT => ?_
      refine ⟨_, rfl, And.intro (Nat.le_of_ble_eq_true rfl) fun q H8 nq => ?_⟩
      have s68 := nT.same.trans nq.same
      have sa8 := ((sA.trans sU).trans sV).trans s68
      obtain ⟨m1, m2, m3, m4⟩ := mo_some hm
      have hml : ((forest r).take m).length = m := by rw [List.length_take]; omega
      refine k q (.ref T1) rr H8 (s3a.trans sa8) nq.at_ hrf ?_ ?_
      · refine .mk (nq.same _ _ nT.at_) ⟨s68 _ _ (sV _ _ hU), m1, m2, m3, by rw [hml]; exact m4⟩ (s68 _ _ hV) hvs.1 fun j x t f1 f2 => (hvs.2 j x t f1 f2).same sa8
      · have ed : (l :: r).drop (Tr.nd (rowsL l) (wdL l) ((forest r).take m)).cnt = r.drop ((((forest r).take m).map Tr.cnt).sum) := by
          rw [cnt_nd]
          first
            | rw [List.drop_succ_cons]
            | rw [Nat.add_comm, List.drop_succ_cons]
        rw [ed]
        exact sa8 _ _ hrr
theorem ok_mo {f : Addr} {fd : FuncData} (F : Fun K "_law_mouths" "_law_mouths" s__law_mouths f fd) (T : LvB mg) : FnG P w K mg base (CXe P w) 1 f fd ["line"] (spMo K) := by
  refine F.okG sc__law_mouths (fun vs H Q E h => ?_) (fun cdv A outer s H vs Q E hgd hr h => ?_)
  · obtain ⟨l, rfl, _⟩ := h; rfl
  · obtain ⟨l, rfl, hl, k1, k2⟩ := h
    refine ⟨_, (pss_cons (ps_set (i := 1) sc__law_mouths.nd rfl (Or.inr rfl) (pe_m1 PySem.F.slot_str_split PySem.F.type_str_split mt_split (pv 0) pe_str))
      (pss_cons (ps_set (i := 2) sc__law_mouths.nd rfl (Or.inl rfl) (pe_m1 PySem.F.slot_str_join PySem.F.type_str_join mt_join pe_str (pv 1)))
      (pss_cons (ps_if (PW.pt (pw_or (pt_cmpR op_gt (pe_callB call_len_seq (by rfl) T.n_len (by decide +kernel) (pa_cons (pv 1) pa_nil)) pe_int (nomark _)) (pw_or (pt_cmpR op_gt (pe_callB call_len_str (by rfl) T.n_len (by decide +kernel) (pa_cons (pv 2) pa_nil)) pe_int (nomark _)) (pw_or1 (pt_not (pt_chain op_le op_le pe_int (pe_callB call_len_str (by rfl) T.n_len (by decide +kernel) (pa_cons (pe_ix ix_list (pv 1) pe_int (fun _ _ => rfl)) pa_nil)) pe_int)))))) (pss_one (ps_ret pe_non)) pss_nil)
      (pss_cons (ps_if (pt_cmpR op_gt (pe_callB call_len_seq (by rfl) T.n_len (by decide +kernel) (pa_cons (pe_lc (own := [("row", 3)]) (g := gName 3) rfl sc__law_mouths.nd (pi_list (pv 1)) (blkOk_by (own := [("row", 3)]) (N := ["line", "rows", "signs", "row", "sign"]) (sc := defScope s__law_mouths) (by decide +kernel)) (fun _ _ _ _ _ => pg_name (i := 3) sc__law_mouths.nd rfl (Or.inl rfl)) (fun _ _ _ _ _ => pts_one (pt_cmpR op_ne (pe_callB call_len_str (by rfl) T.n_len (by decide +kernel) (pa_cons (pv 3) pa_nil)) (pe_callB call_len_str (by rfl) T.n_len (by decide +kernel) (pa_cons (pe_ix (show IxR _ (rIxL K) from ix_list) (pv 1) pe_int (fun _ _ => rfl)) pa_nil)) (nomark _))) (fun _ _ _ _ _ => (pv 3))) pa_nil)) pe_int (nomark _)) (pss_one (ps_ret pe_non)) pss_nil)
      (pss_cons (ps_if (pt_cmpR op_gt (pe_callB call_len_seq (by rfl) T.n_len (by decide +kernel) (pa_cons (pe_lc (own := [("sign", 4)]) (g := gName 4) rfl sc__law_mouths.nd (pi_str (pv 2)) (blkOk_by (own := [("sign", 4)]) (N := ["line", "rows", "signs", "row", "sign"]) (sc := defScope s__law_mouths) (by decide +kernel)) (fun _ _ _ _ _ => pg_name (i := 4) sc__law_mouths.nd rfl (Or.inl rfl)) (fun _ _ _ _ _ => pts_one (pt_cmpR op_notIn_sign (pv 4) pe_str (by rfl))) (fun _ _ _ _ _ => (pv 4))) pa_nil)) pe_int (nomark _)) (pss_one (ps_ret pe_non)) pss_nil)
      (pss_cons (ps_if (PW.pt (pw_or (pt_cmpR op_ne (pe_m1 PySem.F.slot_str_count PySem.F.type_str_count mt_count (pv 2) pe_str) pe_int (nomark _)) (pw_or (pt_cmpR op_gt (pe_m1 PySem.F.slot_str_count PySem.F.type_str_count mt_count (pv 2) pe_str) pe_int (nomark _)) (pw_or (pt_cmpR op_gt (pe_m1 PySem.F.slot_str_count PySem.F.type_str_count mt_count (pv 2) pe_str) pe_int (nomark _)) (pw_or1 (pt_cmpR op_gt (pe_m1 PySem.F.slot_str_count PySem.F.type_str_count mt_count (pv 2) pe_str) (pe_m1 PySem.F.slot_str_count PySem.F.type_str_count mt_count (pv 2) pe_str) (nomark _))))))) (pss_one (ps_ret pe_non)) pss_nil)
      (pss_cons (ps_if (PW.pt (pw_or (pt_cmpR op_gt (pe_m1 PySem.F.slot_str_count PySem.F.type_str_count mt_count (pv 2) pe_str) pe_int (nomark _)) (pw_or1 (pt_cmpR op_gt (pe_callB call_len_seq (by rfl) T.n_len (by decide +kernel) (pa_cons (pe_lc (own := [("sign", 4)]) (g := gName 4) rfl sc__law_mouths.nd (pi_str (pv 2)) (blkOk_by (own := [("sign", 4)]) (N := ["line", "rows", "signs", "row", "sign"]) (sc := defScope s__law_mouths) (by decide +kernel)) (fun _ _ _ _ _ => pg_name (i := 4) sc__law_mouths.nd rfl (Or.inl rfl)) (fun _ _ _ _ _ => pts_one (pt_cmpR op_in_sign (pv 4) pe_str (by rfl))) (fun _ _ _ _ _ => (pv 4))) pa_nil)) pe_int (nomark _))))) (pss_one (ps_ret pe_non)) pss_nil)
      (pss_one (ps_ret (pe_op op_add (pe_m1 PySem.F.slot_str_count PySem.F.type_str_count mt_count (pv 2) pe_str) (pe_m1 PySem.F.slot_str_count PySem.F.type_str_count mt_count (pv 2) pe_str))))))))))), ?_⟩
    have hne := rowsL_ne l
    have hsum := sum_split l "/"
    have hmo : mo l = none ↔ ¬ OkRoom (rowsL l) := by
      unfold mo
      split
      · rename_i h; simp [h]
      · rename_i h; simp [h]
    refine ⟨_, rfl, ⟨l, rfl⟩, l, "/", rfl, rfl, by decide, by rw [sizeLine_eq]; omega, fun a na => ?_⟩
    have s1 : Same H (upd H a (.lst ((Txt.split l "/").map V.str))) := same_new na
    have ha : (upd H a (.lst ((Txt.split l "/").map V.str))) a = some (.lst ((rowsL l).map V.str)) := upd_same
    generalize upd H a (.lst ((Txt.split l "/").map V.str)) = H1 at s1 ha ⊢
    have hrl : ∀ r ∈ rowsL l, r.length ≤ 100000 := fun r hr => Nat.le_trans (PyProof.Rows.part_short hr) hl
    change ((rowsL l).map (·.length)).sum ≤ l.length at hsum
    have hm2 : ∀ m, mo l = some m → ∀ H', Same H1 H' → Q (.int (m : Nat)) H' := fun m e H' s => k2 m e H' (s1.trans s)
    have hm1 : ¬ OkRoom (rowsL l) → ∀ H', Same H1 H' → Q .non H' := fun e H' s => k1 (hmo.mpr e) H' (s1.trans s)
    have hms : OkRoom (rowsL l) → mo l = some (manyZ (Txt.join "" (rowsL l)) "12").toNat := fun e => by unfold mo; rw [if_pos e]
    generalize rowsL l = rows at ha hne hrl hsum hm1 hms ⊢
    obtain ⟨r0, rs, rfl⟩ := List.exists_cons_of_ne_nil hne
    rw [okRoom_iff] at hm1 hms
    refine ⟨⟨_, rfl⟩, _, rfl, "", a, r0 :: rs, rfl, rfl, .inl (SqL.of ha), by show _ + _ * 0 ≤ _; omega, ?_⟩
    have hzl := join_sum (r0 :: rs)
    generalize Txt.join "" (r0 :: rs) = z at hm1 hms hzl ⊢
    have hzs : z.length ≤ sizeLine := by rw [sizeLine_eq]; omega
    refine ⟨_, rfl, a, _, rfl, .inl (SqL.of ha), _, _, rfl, rfl, _, rfl, ite2 (fun q1 => iteT ?_) (fun q1 => ?_)⟩
    · refine hm1 (fun h => ?_) H1 (Same.refl _)
      have := of_decide_eq_true q1
      rw [List.length_map] at this
      omega
    have c1 : (r0 :: rs).length ≤ 5 := by
      rw [decide_eq_true_iff, List.length_map] at q1
      omega
    refine ⟨_, rfl, z, rfl, hzs, _, _, rfl, rfl, _, rfl, ite2 (fun q2 => iteT ?_) (fun q2 => ?_)⟩
    · refine hm1 (fun h => ?_) H1 (Same.refl _)
      have := of_decide_eq_true q2
      have := ((wholeZ_iff z).mp h.2.2.2).1.1
      omega
    have c2 : z.length ≤ 24 := by
      rw [decide_eq_true_iff] at q2
      omega
    have hr0 := hrl r0 (List.mem_cons_self ..)
    refine ⟨_, rfl, a, _, 0, .str r0, rfl, rfl, SqL.of ha, atI_nat (j := 0) rfl, r0, rfl, by rw [sizeLine_eq]; omega, _, _, rfl, rfl, _, rfl, ite2 (fun q3 => ?_) (fun q3 => ?_)⟩
    rotate_left
    · refine ⟨_, rfl, iteT ?_⟩
      refine hm1 (fun h => q3 ?_) H1 (Same.refl _)
      exact decide_eq_true (by have := h.1.2.1; omega)
    have c3 := of_decide_eq_true q3
    refine ⟨_, _, rfl, rfl, _, rfl, ite2 (fun q4 => ?_) (fun q4 => ?_)⟩
    · refine hm1 (fun h => ?_) H1 (Same.refl _)
      have := h.1.2.2
      simp at q4
      omega
    have c4 : r0.length ≤ 6 := by
      simp at q4
      omega
    have hlr : (r0 :: rs).length ≤ 5 := c1
    refine ⟨_, rfl, a, rfl, ⟨_, SqL.of ha⟩, fun D hD => lc_it (walk_list (xs := (r0 :: rs).map V.str)) (fun i H' => (∃ acc : List V, H' D = some (.lst acc) ∧ acc.length = ((r0 :: rs).take i).countP (fun r => !decide (r.length = r0.length))) ∧ Off (fun b => b = D) H1 H') ⟨⟨[], upd_same, rfl⟩, Off.new hD⟩ (fun i H' _ h => SqL.of (h.2 _ _ (ne_of_none ha hD) ha)) ?_ ?_⟩
    · rintro i x Ha Hb hi ⟨⟨acc, hacc, hlen⟩, off⟩ ⟨rfl, hx⟩
      rw [List.length_map] at hi
      have e3 : (r0 :: rs)[i]? = some (r0 :: rs)[i] := List.getElem?_eq_getElem hi
      rw [List.getElem?_map, e3] at hx
      cases hx
      have hri := hrl _ (List.getElem_mem hi)
      have e4 : (r0 :: rs).take (i + 1) = (r0 :: rs).take i ++ [(r0 :: rs)[i]] := by rw [List.take_add_one, e3]; rfl
      generalize (r0 :: rs)[i] = r at hri e4 ⊢
      have hacl : acc.length ≤ 5 := by
        rw [hlen]
        exact Nat.le_trans List.countP_le_length (Nat.le_trans (List.length_take_le' ..) hlr)
      have hab := off _ _ (ne_of_none ha hD) ha
      refine And.intro rfl ⟨_, rfl, r, rfl, by rw [sizeLine_eq]; omega, _, rfl, a, _, 0, .str r0, rfl, rfl, SqL.of hab, atI_nat (j := 0) rfl, r0, rfl, by rw [sizeLine_eq]; omega, (rfl : scal _ _ = true), _, rfl, ite2 (fun q5 => ?_) (fun q5 => ?_)⟩
      · refine ⟨_, rfl, acc, hacc, by rw [sizeLine_eq]; omega, ⟨acc ++ [.str r], upd_same, ?_⟩, off.trans (Off.mut rfl)⟩
        have q6 : ¬ r.length = r0.length := fun z => by
          rw [Bool.not_eq_true', decide_eq_false_iff_not] at q5
          exact q5 (by rw [z])
        rw [e4, List.countP_append, List.length_append, hlen]
        simp [q6]
      · refine ⟨⟨acc, hacc, ?_⟩, off⟩
        have q6 : r.length = r0.length := by
          rw [Bool.not_eq_true', Bool.not_eq_false, decide_eq_true_iff] at q5
          have := V.int.inj q5
          omega
        rw [e4, List.countP_append, hlen]
        simp [q6]
    rintro H4 ⟨⟨acc, hacc, hlen⟩, off⟩
    have s4 : Same H1 H4 := fun b o e => off b o (ne_of_none e hD) e
    rw [List.length_map, List.take_length] at hlen
    refine ⟨D, acc, rfl, .inl (SqL.of hacc), _, _, rfl, rfl, _, rfl, ite2 (fun q5 => ?_) (fun q5 => ?_)⟩
    · refine hm1 (fun h => ?_) H4 s4
      have h0 := of_decide_eq_true q5
      have : 0 < acc.length := by omega
      rw [hlen, List.countP_pos_iff] at this
      obtain ⟨r, hr, hrr⟩ := this
      rw [h.2.1 r hr] at hrr
      simp at hrr
    have c5 : ∀ r ∈ r0 :: rs, r.length = r0.length := fun r hr => by
      rw [decide_eq_true_iff] at q5
      have h0 : (r0 :: rs).countP (fun r => !decide (r.length = r0.length)) = 0 := by omega
      have := (List.countP_eq_zero.mp h0) r hr
      simpa using this
    clear q5 hacc hlen off hD acc D
    refine ⟨_, rfl, z, rfl, fun D hD => lc_it walk_str (fun i H' => (∃ acc : List V, H' D = some (.lst acc) ∧ acc.length = (z.cps.toList.take i).countP (fun c => !decide (c ∈ marksS.cps.toList))) ∧ Off (fun b => b = D) H4 H') ⟨⟨[], upd_same, rfl⟩, Off.new hD⟩ (fun _ _ _ _ => trivial) ?_ ?_⟩
    · rintro j x Ha Hb hj ⟨⟨acc, hacc, hlen⟩, off⟩ ⟨rfl, c, hc, rfl⟩
      have ht : z.cps.toList.take (j + 1) = z.cps.toList.take j ++ [c] := by
        have : z.cps.toList[j]? = some c := by simpa using hc
        rw [List.take_add_one, this]; rfl
      have lm : acc.length ≤ 24 := by
        rw [hlen]
        refine Nat.le_trans List.countP_le_length ?_
        rw [List.length_take, Array.length_toList]
        have : z.cps.size = z.length := rfl
        omega
      refine And.intro rfl ⟨_, rfl, c, _, rfl, rfl, _, rfl, ite2 (fun q5 => ?_) (fun q5 => ?_)⟩
      · refine ⟨_, rfl, acc, hacc, by rw [sizeLine_eq]; omega, ⟨acc ++ [.str ⟨#[c]⟩], upd_same, ?_⟩, off.trans (Off.mut rfl)⟩
        have q6 : ¬ c ∈ marksS.cps.toList := by
          rw [Bool.not_eq_true', decide_eq_false_iff_not] at q5
          exact q5
        rw [ht, List.countP_append, List.length_append, hlen]
        simp
        simpa using q6
      · refine ⟨⟨acc, hacc, ?_⟩, off⟩
        have q6 : c ∈ marksS.cps.toList := by
          rw [Bool.not_eq_true', Bool.not_eq_false, decide_eq_true_iff] at q5
          exact q5
        rw [ht, List.countP_append, hlen]
        simp
        simpa using q6
    rintro H5 ⟨⟨acc, hacc, hlen⟩, off⟩
    have s5 : Same H1 H5 := s4.trans fun b o e => off b o (ne_of_none e hD) e
    have hz4 : z.cps.toList.take z.cps.size = z.cps.toList := List.take_of_length_le (by simp)
    rw [hz4] at hlen
    refine ⟨D, acc, rfl, .inl (SqL.of hacc), _, _, rfl, rfl, _, rfl, ite2 (fun q5 => ?_) (fun q5 => ?_)⟩
    · refine hm1 (fun h => ?_) H5 s5
      have h0 := of_decide_eq_true q5
      have : 0 < acc.length := by omega
      rw [hlen, List.countP_pos_iff] at this
      obtain ⟨c, hc, hcc⟩ := this
      have := h.2.2.1 c hc
      simp [this] at hcc
    have c6 : ∀ c ∈ z.cps.toList, c ∈ marksS.cps.toList := fun c hc => by
      rw [decide_eq_true_iff] at q5
      have h0 : z.cps.toList.countP (fun c => !decide (c ∈ marksS.cps.toList)) = 0 := by omega
      have := (List.countP_eq_zero.mp h0) c hc
      simpa using this
    clear q5 hacc hlen off hD acc D
    obtain ⟨n1, n2, n3, n4, n5, n6, n7, n8, n9⟩ := cnts z
    have hms2 : wholeZ z = true → mo l = some (manyZ z "12").toNat := fun h => hms ⟨⟨c1, by omega, c4⟩, c5, c6, h⟩
    have hm3 : ¬ wholeZ z = true → ∀ H', Same H1 H' → Q .non H' := fun h => hm1 fun z => h z.2.2.2
    rw [wholeZ_iff] at hms2 hm3
    refine ⟨_, rfl, ⟨z, rfl⟩, z, "@", rfl, rfl, (rfl : scal _ _ = true), _, rfl, ite2 (fun q5 => iteT ?_) (fun q5 => ?_)⟩
    · refine hm3 (fun h => ?_) H5 s5
      rw [Bool.not_eq_true', decide_eq_false_iff_not] at q5
      exact q5 (by rw [n1, h.1.2]; rfl)
    rw [Bool.not_eq_true', Bool.not_eq_false, decide_eq_true_iff] at q5
    have d1 := V.int.inj q5
    refine ⟨_, rfl, ⟨z, rfl⟩, z, "*", rfl, rfl, _, _, rfl, rfl, _, rfl, ite2 (fun q5 => iteT ?_) (fun q5 => ?_)⟩
    · refine hm3 (fun h => ?_) H5 s5
      have := of_decide_eq_true q5
      have := h.2.1.1
      omega
    rw [decide_eq_true_iff] at q5
    have d2 := q5
    refine ⟨_, rfl, ⟨z, rfl⟩, z, "1", rfl, rfl, _, _, rfl, rfl, _, rfl, ite2 (fun q5 => iteT ?_) (fun q5 => ?_)⟩
    · refine hm3 (fun h => ?_) H5 s5
      have := of_decide_eq_true q5
      have := h.2.1.2.1
      omega
    rw [decide_eq_true_iff] at q5
    have d3 := q5
    refine ⟨_, rfl, ⟨z, rfl⟩, z, "2", rfl, rfl, _, rfl, ⟨z, rfl⟩, z, "1", rfl, rfl, _, _, rfl, rfl, _, rfl, ite2 (fun q5 => ?_) (fun q5 => ?_)⟩
    · refine hm3 (fun h => ?_) H5 s5
      have := of_decide_eq_true q5
      have := h.2.1.2.2
      omega
    rw [decide_eq_true_iff] at q5
    have d4 := q5
    refine ⟨_, rfl, ⟨z, rfl⟩, z, "o", rfl, rfl, _, _, rfl, rfl, _, rfl, ite2 (fun q5 => iteT ?_) (fun q5 => ?_)⟩
    · refine hm3 (fun h => ?_) H5 s5
      have := of_decide_eq_true q5
      have := h.2.2.1
      omega
    rw [decide_eq_true_iff] at q5
    have d5 := q5
    clear q5
    refine ⟨_, rfl, z, rfl, fun D hD => lc_it walk_str (fun i H' => (∃ acc : List V, H' D = some (.lst acc) ∧ acc.length = (z.cps.toList.take i).countP (fun c => decide (c ∈ ("abAB" : Str).cps.toList))) ∧ Off (fun b => b = D) H5 H') ⟨⟨[], upd_same, rfl⟩, Off.new hD⟩ (fun _ _ _ _ => trivial) ?_ ?_⟩
    · rintro j x Ha Hb hj ⟨⟨acc, hacc, hlen⟩, off⟩ ⟨rfl, c, hc, rfl⟩
      have ht : z.cps.toList.take (j + 1) = z.cps.toList.take j ++ [c] := by
        have : z.cps.toList[j]? = some c := by simpa using hc
        rw [List.take_add_one, this]; rfl
      have lm : acc.length ≤ 24 := by
        rw [hlen]
        refine Nat.le_trans List.countP_le_length ?_
        rw [List.length_take, Array.length_toList]
        have : z.cps.size = z.length := rfl
        omega
      refine And.intro rfl ⟨_, rfl, c, _, rfl, rfl, _, rfl, ite2 (fun q5 => ?_) (fun q5 => ?_)⟩
      · refine ⟨_, rfl, acc, hacc, by rw [sizeLine_eq]; omega, ⟨acc ++ [.str ⟨#[c]⟩], upd_same, ?_⟩, off.trans (Off.mut rfl)⟩
        rw [ht, List.countP_append, List.length_append, hlen, List.countP_singleton, if_pos q5]
        rfl
      · refine ⟨⟨acc, hacc, ?_⟩, off⟩
        rw [ht, List.countP_append, hlen, List.countP_singleton, if_neg q5]
        rfl
    rintro H6 ⟨⟨acc, hacc, hlen⟩, off⟩
    have s6 : Same H1 H6 := s5.trans fun b o e => off b o (ne_of_none e hD) e
    rw [hz4, keys_count] at hlen
    refine ⟨D, acc, rfl, .inl (SqL.of hacc), _, _, rfl, rfl, _, rfl, ite2 (fun q5 => ?_) (fun q5 => ?_)⟩
    · refine hm3 (fun h => ?_) H6 s6
      have := of_decide_eq_true q5
      have := h.2.2.2
      omega
    rw [decide_eq_true_iff] at q5
    have hmm := hms2 ⟨⟨c2, by omega⟩, ⟨by omega, by omega, by omega⟩, by omega, by omega⟩
    refine ⟨_, rfl, ⟨z, rfl⟩, z, "1", rfl, rfl, _, rfl, ⟨z, rfl⟩, z, "2", rfl, rfl, _, _, rfl, rfl, ?_⟩
    have e := hm2 _ hmm H6 s6
    have h0 := many_sum z
    have h1 := many_nn z
    rw [show ((manyZ z "12").toNat : Int) = Txt.count z "1" + Txt.count z "2" by omega] at e
    exact e
def spDue (K : PySem.W.Frag) : Sp := fun vs H Q _ => ∃ s : Str, vs = [.str s] ∧ s.length ≤ 90000 ∧ (∀ k : Nat, scan (Txt.split s "\n") 1 0 = some k → ∀ H', Same H H' → Q (.int (k : Nat)) H') ∧
  (scan (Txt.split s "\n") 1 0 = none → (60 < (Txt.split s "\n").length → ∀ H', Same H H' → Q (.str "many") H') ∧ ((Txt.split s "\n").length ≤ 60 → ∀ v t H', forest (Txt.split s "\n") = [t] → Same H H' → TreeAt H' v t → Q v H'))
theorem ok_due {f : Addr} {fd : FuncData} (F : Fun K "_law_due" "_law_due" s__law_due f fd) (T : LvB mg) (c__law_mouths : CalG P w K mg base 1 "_law_mouths" (spMo K)) (c__law_made : CalG P w K mg base 63 "_law_made" (atMost 59 (spMade K))) : FnG P w K mg base (CXe P w) 65 f fd ["text"] (spDue K) := by
  refine F.okG sc__law_due (fun vs H Q E h => ?_) (fun cdv A outer s H vs Q E hgd hr h => ?_)
  · obtain ⟨s, rfl, _⟩ := h; rfl
  · obtain ⟨s, rfl, hl, kE, kQ⟩ := h
    refine ⟨_, (pss_cons (ps_set (i := 1) sc__law_due.nd rfl (Or.inl rfl) (pe_m1 PySem.F.slot_str_split PySem.F.type_str_split mt_split (pv 0) pe_str))
      (pss_cons (ps_set (i := 2) sc__law_due.nd rfl (Or.inl rfl) pe_int)
      (pss_cons (ps_for (passes_of rfl) rfl (pi_range1 (by rfl) T.n_range (pa_cons (pe_callB call_len_seq (by rfl) T.n_len (by decide +kernel) (pa_cons (pv 1) pa_nil)) pa_nil)) (pg_name (i := 3) sc__law_due.nd rfl (Or.inl rfl))
      (pss_cons (ps_set (i := 4) sc__law_due.nd rfl (Or.inl rfl) (pg_c c__law_mouths hgd hr (by first | decide | omega) (pa_cons (pe_ix ix_list (pv 1) (pv 3) (fun _ _ => rfl)) pa_nil)))
      (pss_cons (ps_if (PW.pt (pw_or (pt_cmpR op_isN (pv 4) pe_non (nomark _)) (pw_or1 (pt_cmpR op_eq (pv 2) pe_int (nomark _))))) (pss_one (ps_ret (pe_op op_add (pv 3) pe_int))) pss_nil)
      (pss_one (ps_set (i := 2) sc__law_due.nd rfl (Or.inl rfl) (pe_op op_sub (pe_op op_add (pv 2) (pv 4)) pe_int))))))
      (pss_cons (ps_if (pt_cmpR op_gt (pv 2) pe_int (nomark _)) (pss_one (ps_ret (pe_op op_add (pe_callB call_len_seq (by rfl) T.n_len (by decide +kernel) (pa_cons (pv 1) pa_nil)) pe_int))) pss_nil)
      (pss_one (ps_ret (pe_ifExp (pt_cmpR op_gt (pe_callB call_len_seq (by rfl) T.n_len (by decide +kernel) (pa_cons (pv 1) pa_nil)) pe_int (nomark _)) pe_str (pe_ix ix_list (pg_c c__law_made hgd hr (by first | decide | omega) (pa_cons (pv 1) pa_nil)) pe_int (fun _ _ => rfl))))))))), ?_⟩
    have hlen : (Txt.split s "\n").length ≤ 100000 := by
      have := PyProof.Rows.split_le s "\n"
      omega
    have hls : ∀ l ∈ Txt.split s "\n", l.length ≤ 100000 := fun l h => by
      have := PyProof.Rows.part_short h
      omega
    refine ⟨_, rfl, ⟨s, rfl⟩, s, "\n", rfl, rfl, by decide, by rw [sizeLine_eq]; omega, fun q nq => ?_⟩
    have s1 : Same H (upd H q (.lst ((Txt.split s "\n").map V.str))) := same_new nq
    have hq : (upd H q (.lst ((Txt.split s "\n").map V.str))) q = some (.lst ((Txt.split s "\n").map V.str)) := upd_same
    generalize upd H q (.lst ((Txt.split s "\n").map V.str)) = H1 at s1 hq ⊢
    generalize Txt.split s "\n" = ls at hq kE kQ hlen hls
    refine ⟨_, rfl, q, _, rfl, .inl (SqL.of hq), (ls.length : Int), by rw [List.length_map], by omega, by omega, ?_⟩
    rw [Int.toNat_natCast]
    refine for_range (n := ls.length) (fun i σ H' => (∃ (o3 o4 : Option V) (M : Nat), σ = [some (.str s), some (.ref q), some (.int (M : Nat)), o3, o4] ∧ M ≤ i + 1 ∧ scan (ls.drop i) M i = scan ls 1 0) ∧ Same H1 H') ⟨⟨none, none, 1, rfl, Nat.le_refl _, rfl⟩, Same.refl _⟩ ?_ ?_
    · rintro i σ Ha hi ⟨⟨o3, o4, M, rfl, hM, hsc⟩, sa⟩
      have e3 : ls[i]? = some ls[i] := List.getElem?_eq_getElem hi
      have edrop : ls.drop i = ls[i] :: ls.drop (i + 1) := List.drop_eq_getElem_cons hi
      have at0 : atI (ls.map V.str) (0 + (i : Int)) = some (.str ls[i]) := by
        have := atI_nat (xs := ls.map V.str) (j := i) (v := .str ls[i]) (by rw [List.getElem?_map, e3]; rfl)
        rwa [show (0 : Int) + (i : Int) = (i : Int) by omega]
      have ei : ((0 : Int) + (i : Int)) + 1 = ((i + 1 : Nat) : Int) := by omega
      refine ⟨_, rfl, _, rfl, q, _, _, .str ls[i], rfl, rfl, SqL.of (sa _ _ hq), at0, ls[i], rfl, hls _ (List.getElem_mem hi), fun hm H3 s3 => ?_, fun m hm H3 s3 => ?_⟩
      · refine ⟨_, rfl, rfl, _, rfl, iteT' (by simp) (iteT ?_)⟩
        refine ⟨_, rfl, _, _, rfl, rfl, ?_⟩
        rw [edrop, scan_none hm] at hsc
        have := kE _ hsc.symm H3 ((s1.trans sa).trans s3)
        rw [← ei] at this
        exact this
      · refine ⟨_, rfl, rfl, _, rfl, iteF' (by simp) ?_⟩
        refine ⟨_, rfl, (rfl : scal _ _ = true), _, rfl, ite2 (fun q5 => ?_) (fun q5 => ?_)⟩
        · have hM0 : M = 0 := by
            have := V.int.inj (of_decide_eq_true q5)
            omega
          subst hM0
          refine ⟨_, rfl, _, _, rfl, rfl, ?_⟩
          rw [edrop, scan_zero] at hsc
          have := kE _ hsc.symm H3 ((s1.trans sa).trans s3)
          rw [← ei] at this
          exact this
        · have hM0 : 0 < M := by
            rcases Nat.eq_zero_or_pos M with rfl | h
            · exact absurd (decide_eq_true rfl) q5
            · exact h
          have hml := mo_le hm
          refine ⟨_, rfl, _, rfl, _, _, rfl, rfl, _, _, rfl, rfl, ⟨some (.int (0 + (i : Int))), some (.int (m : Nat)), M + m - 1, ?_, by omega, ?_⟩, sa.trans s3⟩
          · have e : (M : Int) + (m : Int) - 1 = ((M + m - 1 : Nat) : Int) := by omega
            rw [← e]; rfl
          · rw [edrop, scan_cons hM0 hm] at hsc
            exact hsc
    · rintro σ Ha ⟨⟨o3, o4, M, rfl, hM, hsc⟩, sa⟩
      rw [List.drop_length] at hsc
      have hqa := sa _ _ hq
      have sHa := s1.trans sa
      refine ⟨_, rfl, _, _, rfl, rfl, _, rfl, ite2 (fun q5 => ?_) (fun q5 => ?_)⟩
      · have h0 := of_decide_eq_true q5
        have hM0 : 0 < M := by omega
        have hs0 : scan ls 1 0 = some (ls.length + 1) := by rw [← hsc]; simp [scan, hM0]
        refine ⟨_, rfl, q, _, rfl, .inl (SqL.of hqa), _, _, rfl, rfl, ?_⟩
        rw [List.length_map]
        exact kE _ hs0 Ha sHa
      · rw [decide_eq_true_iff] at q5
        obtain rfl : M = 0 := by omega
        have hs0 : scan ls 1 0 = none := by rw [← hsc]; simp [scan]
        obtain ⟨k1, k2⟩ := kQ hs0
        refine ⟨_, rfl, q, _, rfl, .inl (SqL.of hqa), _, _, rfl, rfl, _, rfl, ite2 (fun q6 => ?_) (fun q6 => ?_)⟩
        · have h0 := of_decide_eq_true q6
          rw [List.length_map] at h0
          exact k1 (by omega) Ha sHa
        · rw [decide_eq_true_iff, List.length_map] at q6
          obtain ⟨t, ht, htl, htc⟩ := forest_one hs0
          have hcp := cnt_pos t
          refine ⟨_, rfl, t.cnt - 1, by omega, q, ls, 1, 0, t, rfl, hqa, hs0, by rw [ht]; rfl, by omega, by omega, by omega, hls, fun q2 v r H' s h1 h2 h3 h4 => ?_⟩
          exact ⟨q2, _, 0, v, rfl, rfl, SqL.of h1, atI_nat (j := 0) rfl, k2 (by omega) v t H' ht (sHa.trans s) h3⟩
end
end K88
end
section
set_option Elab.async false
set_option linter.all false
set_option maxRecDepth 100000
set_option maxHeartbeats 2000000
namespace K88
open PySem L2
local macro_rules | `(tactic| walk_at "hp") => `(tactic| first | assumption | exact upd_same | (refine (upd_ne (by first | assumption | (apply Ne.symm; assumption))).trans ?_; walk_at "hp"))
local macro_rules | `(tactic| walk_at "rd1") => `(tactic| first
  | (refine ⟨_, rfl, ?_⟩)
  | (refine ⟨_, _, rfl, rfl, ?_⟩)
  | (refine ⟨(rfl : scal _ _ = true), ?_⟩)
  | (refine And.intro (by show (0 : Int) < _; decide) ?_)
  | (refine And.intro (And.intro (by decide) (by decide)) ?_)
  | (refine And.intro (Or.inr (And.intro (by decide) (by decide))) ?_)
  | (refine And.intro (And.intro (by decide) (And.intro (by decide) (by decide))) ?_)
  | (refine And.intro (by assumption) ?_)
  | (refine And.intro (And.intro (by omega) (by omega)) ?_)
  | (refine And.intro (Or.inl (And.intro (by omega) (by omega))) ?_)
  | (refine' ⟨_, _, _, _, rfl, rfl, Or.inl (Or.inl ?h1), ?h2, ?h3⟩; (case h1 => walk_at "hp"); (case h2 => rfl))
  | (refine' ⟨_, _, _, _, rfl, rfl, ?h1, ?h2, ?h3⟩; (case h1 => walk_at "hp"); (case h2 => rfl))
  | (refine' ⟨_, _, rfl, Or.inl (Or.inl (Or.inl ?h1)), ?h3⟩; (case h1 => walk_at "hp"))
  | (refine Or.inl ⟨_, rfl, ?_⟩))
local macro_rules | `(tactic| walk_at "rd") => `(tactic| repeat walk_at "rd1")
theorem sc__law_told : FnScope ["text", "found", "error"] ["text"] (defScope s__law_told) := ⟨rfl, rfl, rfl, by decide +kernel, rfl, by decide +kernel, by decide +kernel⟩
theorem sc__law_is_due : FnScope ["text", "due", "told"] ["text"] (defScope s__law_is_due) := ⟨rfl, rfl, rfl, by decide +kernel, rfl, by decide +kernel, by decide +kernel⟩
section
variable {P : Program} {w : World} {K : PySem.W.Frag} {mg : Str → Option Value} {base : Heap} {CR CV CB fB CE fE CT CX fX : Addr}
theorem op_lv {X : Cx} {f : Addr} {fd : FuncData} {op : CmpOp} {n m : Nat} (ic : C8.InsC X.K CV) (hop : op = .Eq ∨ op = .NotEq) (T : EqC X.K CV f) (F : FnG X.prog X.w X.K X.mg X.base (CXe X.prog X.w) n f fd ["self", "other"] (spEqB (LvQ X.K CR CV m))) (hb : Binds X.K fd ["self", "other"] []) (hgd : X.A.guards = some []) (hr : Room (n + 1) X.A) : OpR X (compareOp op) (rOpB op (LvQ X.K CR CV m)) := op_X hop (rcX_lv ic hop T F hb) hgd hr
theorem lvQ_same {m : Nat} {x y : V} {t : Tr} {H : Hp} (h : LevelAt K CR CV H x t) (h' : LevelAt K CR CV H y t) (hd : t.dep ≤ m) : LvQ K CR CV m x y H true := ⟨t, h, hd, .inl ⟨t, h', by simp⟩⟩
/-- no text -/
def NoText (K : PySem.W.Frag) (H : Hp) (v : V) : Prop := ∃ ty, TyOf K H v ty ∧ PySem.W.kitOne K ty (.type "str") = some false
def spToldL (K : PySem.W.Frag) (CR CV : Addr) : Sp := fun vs H Q _ => ∃ v, vs = [v] ∧ ((NoText K H v ∧ ∀ H', Same H H' → Q (.int (-1)) H') ∨
  (∃ s : Str, v = .str s ∧ s.length ≤ 90000 ∧ (∀ k : Nat, scan (Txt.split s "\n") 1 0 = some k → ∀ H', Same H H' → Q (.int (k : Nat)) H') ∧
    (scan (Txt.split s "\n") 1 0 = none → (60 < (Txt.split s "\n").length → ∀ H', Same H H' → Q (.str "many") H') ∧ ((Txt.split s "\n").length ≤ 60 → ∀ v t T H', forest (Txt.split s "\n") = [t] → Same H H' → LevelAt K CR CV H' v t → H T = none → H' T = some (.tup [v]) → Q (.ref T) H'))))
theorem ok_toldL {f : Addr} {fd : FuncData} (F : Fun K "_law_told" "_law_told" s__law_told f fd) (T : TxT P w K mg CR CV CB fB CE fE CT CX fX) (tx : PySem.W.exmOne K (.ref CT) (.ref CX) = some false) (c_read_level : CalG P w K mg base 7 "read_level" (spRead K CR CV CT CX)) : FnG P w K mg base (CXe P w) 8 f fd ["text"] (spToldL K CR CV) := by
  refine F.okG sc__law_told (fun vs H Q E h => ?_) (fun cdv A outer s H vs Q E hgd hr h => ?_)
  · obtain ⟨v, rfl, _⟩ := h; rfl
  · obtain ⟨v, rfl, h⟩ := h
    refine ⟨_, (pss_cons (ps_set (i := 1) sc__law_told.nd rfl (Or.inl rfl) pe_non)
      (pss_cons (ps_try_clsN rfl rfl sc__law_told.nd takes0 (.cons (i := 2) rfl rfl ⟨rfl, by decide, .inl T.x_BadText.gC⟩ (fun a oe cls d pn hz hf => (pss_one (ps_ret (pe_xf T.x_BadText.xf T.x_BadText.noN hz hf (pv 2))))) (.only ⟨rfl, by decide, .inl T.x_TooMany.gC⟩ (fun a oe cls d pn hz hf => (pss_one (ps_ret pe_str))) .nil))
      (fun W pn xe tk _ => (pss_one (ps_set (i := 1) sc__law_told.nd rfl (Or.inl rfl) (pg_cS c_read_level hgd hr (by first | decide | omega) (fun σ => passAt tk σ) (pa_cons (pv 0) pa_nil))))))
      (pss_one (ps_ret (pe_tupA (pa_cons (pv 1) pa_nil)))))), ?_⟩
    refine ⟨_, rfl, v, rfl, ?_⟩
    rcases h with ⟨⟨ty, hty, hk⟩, k⟩ | ⟨s, rfl, hl, kE, kQ⟩
    · refine .inl ⟨ty, hty, hk, fun d hd => ⟨true, T.x_BadText.te, fun _ a ha => ?_, fun z => nomatch z⟩⟩
      exact ⟨_, rfl, rfl, rfl, d, _, .int (-1), rfl, upd_same, rfl, k _ (same_new hd)⟩
    · refine .inr ⟨s, rfl, hl, fun j e d H' s1 hd => ⟨true, T.x_BadText.te, fun _ a ha => ?_, fun z => nomatch z⟩, fun hs => ?_⟩
      · exact ⟨_, rfl, rfl, rfl, d, _, .int (j : Nat), rfl, upd_same, rfl, kE j e _ (s1.trans (same_new hd))⟩
      · obtain ⟨k1, k2⟩ := kQ hs
        refine ⟨fun h H' s1 => ⟨false, tx, fun z => (nomatch z), fun _ => ⟨true, T.x_TooMany.te, fun _ a ha => ?_, fun z => nomatch z⟩⟩, fun h v t H' e s1 hv => ?_⟩
        · exact k1 h H' s1
        · refine ⟨_, rfl, And.intro (Nat.le_of_ble_eq_true rfl) fun q H2 nq => ?_⟩
          exact k2 h v t q H2 e (s1.trans nq.same) (hv.same nq.same) (s1.free nq.free) nq.at_
def spIsDue (K : PySem.W.Frag) : Sp := fun vs H Q _ => ∃ s : Str, vs = [.str s] ∧ s.length ≤ 90000 ∧ ∀ H', Same H H' → Q (.bl true) H'
theorem ok_is_due {f fv : Addr} {fd fdv : FuncData} (F : Fun K "_law_is_due" "_law_is_due" s__law_is_due f fd) (T : TxT P w K mg CR CV CB fB CE fE CT CX fX) (LB : LvB mg) (qV : FnG P w K mg base (CXe P w) 182 fv fdv ["self", "other"] (spEqB (LvQ K CR CV 60))) (eV : EqC K CV fv) (bV : Binds K fdv ["self", "other"] [])
    (c__law_due : CalG P w K mg base 65 "_law_due" (spDue K)) (c__law_told : CalG P w K mg base 8 "_law_told" (spToldL K CR CV)) (c__law_level : CalG P w K mg base 65 "_law_level" (atMost 59 (spLL K CR CV))) (c_write_level : CalG P w K mg base 62 "write_level" (spWrite K CR CV)) : FnG P w K mg base (CXe P w) 184 f fd ["text"] (spIsDue K) := by
  refine F.okG sc__law_is_due (fun vs H Q E h => ?_) (fun cdv A outer s H vs Q E hgd hr h => ?_)
  · obtain ⟨s, rfl, _⟩ := h; rfl
  · obtain ⟨s, rfl, hl, k⟩ := h
    refine ⟨_, (pss_cons (ps_par (i := 1) (j := 2) (by rfl) sc__law_is_due.nd rfl rfl (by decide) rfl rfl (pa_cons (pg_c c__law_due hgd hr (by first | decide | omega) (pa_cons (pv 0) pa_nil)) (pa_cons (pg_c c__law_told hgd hr (by first | decide | omega) (pa_cons (pv 0) pa_nil)) pa_nil)) (by rfl))
      (pss_cons (ps_if (pt_val (pe_callB call_isi (by rfl) T.n_isinstance (by decide +kernel) (pa_cons (pv 1) (pa_cons (pe_bltn (v := .ty "tuple") (u := .type "tuple") rfl T.n_tuple (by decide +kernel) rfl) pa_nil)))) (pss_one (ps_ret (pe_and (pe_callB call_isi (by rfl) T.n_isinstance (by decide +kernel) (pa_cons (pv 2) (pa_cons (pe_bltn (v := .ty "tuple") (u := .type "tuple") rfl T.n_tuple (by decide +kernel) rfl) pa_nil))) (pe_and (pe_cmpR (op_lv (op := .Eq) (n := 182) (m := 60) (by exact T.icV) (.inl rfl) (by exact eV) (by exact qV) (by exact bV) hgd (hr.mono (by decide))) (pe_ix ix_tup (pv 2) pe_int (fun _ _ => rfl)) (pg_c c__law_level hgd hr (by first | decide | omega) (pa_cons (pv 1) pa_nil)) (nomark _)) (pe_one (pe_cmpR op_eq (pg_c c_write_level hgd hr (by first | decide | omega) (pa_cons (pe_ix ix_tup (pv 2) pe_int (fun _ _ => rfl)) pa_nil)) (pv 0) (nomark _))))))) pss_nil)
      (pss_one (ps_ret (pe_and (pe_not (pe_callB call_isi (by rfl) T.n_isinstance (by decide +kernel) (pa_cons (pv 2) (pa_cons (pe_bltn (v := .ty "tuple") (u := .type "tuple") rfl T.n_tuple (by decide +kernel) rfl) pa_nil)))) (pe_one (pe_cmpR (op_eqD hr.units) (pv 2) (pv 1) (nomark _)))))))), ?_⟩
    have kI : PySem.W.kitOne K (.type "int") (.type "tuple") = some false := kit_ty (show kitB "int" "tuple" = some false by decide +kernel)
    have kS : PySem.W.kitOne K (.type "str") (.type "tuple") = some false := kit_ty (show kitB "str" "tuple" = some false by decide +kernel)
    have kT : PySem.W.kitOne K (.type "tuple") (.type "tuple") = some true := kit_ty (show kitB "tuple" "tuple" = some true by decide +kernel)
    have eqs : ∀ d : PyData, SeqAt.shaped d = true → PyData.eqv d d = true := fun d h => SeqAt.eqv_refl d (SeqAt.canLay_of_shaped h)
    have shS : SeqAt.shaped (.str "many") = true := by decide +kernel
    have hjoin := join_split' s "\n"
    have hls : ∀ l ∈ Txt.split s "\n", l.length ≤ 100000 := fun l h => by
      have := PyProof.Rows.part_short h
      omega
    refine ⟨_, rfl, s, rfl, hl, ?_⟩
    cases hsc : scan (Txt.split s "\n") 1 0 with
    | some j =>
      refine ⟨fun j' e H1 s1 => ?_, fun e => (nomatch e)⟩
      cases e
      refine ⟨_, rfl, .str s, rfl, .inr ⟨s, rfl, hl, ?_⟩⟩
      rw [hsc]
      refine ⟨fun j' e H2 s2 => ?_, fun e => (nomatch e)⟩
      cases e
      refine ⟨_, _, rfl, ?_⟩
      refine ⟨_, rfl, _, _, _, _, _, rfl, .ty _, .base (.int _), kI, _, rfl, iteF ?_⟩
      refine ⟨_, rfl, _, _, _, _, _, rfl, .ty _, .base (.int _), kI, _, rfl, _, rfl, iteT' rfl ?_⟩
      refine ⟨_, rfl, _, rfl, .int j, .int j, .int _, .int _, rfl, rfl, ?_⟩
      rw [eqs _ rfl]
      exact k H2 (s1.trans s2)
    | none =>
      refine ⟨fun j' e => (nomatch e), fun _ => ⟨fun h H1 s1 => ?_, fun h v t H1 ht s1 hv => ?_⟩⟩
      · refine ⟨_, rfl, .str s, rfl, .inr ⟨s, rfl, hl, ?_⟩⟩
        rw [hsc]
        refine ⟨fun j' e => (nomatch e), fun _ => ⟨fun _ H2 s2 => ?_, fun h' => by omega⟩⟩
        refine ⟨_, _, rfl, ?_⟩
        refine ⟨_, rfl, _, _, _, _, _, rfl, .ty _, .base (.str _), kS, _, rfl, iteF ?_⟩
        refine ⟨_, rfl, _, _, _, _, _, rfl, .ty _, .base (.str _), kS, _, rfl, _, rfl, iteT' rfl ?_⟩
        refine ⟨_, rfl, _, rfl, .str "many", .str "many", .str _, .str _, shS, shS, ?_⟩
        rw [eqs _ shS]
        exact k H2 (s1.trans s2)
      · refine ⟨_, rfl, .str s, rfl, .inr ⟨s, rfl, hl, ?_⟩⟩
        rw [hsc]
        refine ⟨fun j' e => (nomatch e), fun _ => ⟨fun h' => by omega, fun _ v2 t2 T2 H2 ht2 s2 hv2 hTn hT2 => ?_⟩⟩
        rw [ht] at ht2
        cases ht2
        obtain ⟨t', ht', htl, htc⟩ := forest_one hsc
        rw [ht] at ht'
        cases ht'
        have hcp := cnt_pos t
        have hv' := hv.same s2
        refine ⟨_, _, rfl, ?_⟩
        obtain ⟨a, xs, rfl, hta⟩ : ∃ a xs, v = .ref a ∧ H2 a = some (.tup xs) := by
          cases hv' with
          | mk h1 => exact ⟨_, _, rfl, h1⟩
        refine ⟨_, rfl, _, _, _, _, _, rfl, .ty _, .base (.tup hta), kT, _, rfl, iteT ?_⟩
        refine ⟨_, rfl, _, _, _, _, _, rfl, .ty _, .base (.tup hT2), kT, _, rfl, iteT' rfl ?_⟩
        refine ⟨_, rfl, T2, [v2], 0, v2, rfl, rfl, SqT.of hT2, rfl, _, rfl, t.cnt - 1, by omega, .ref a, t, rfl, hv', by omega, by omega, fun v3 H3 s3 hv3 => ?_⟩
        have hd : t.dep ≤ 60 := Nat.le_trans (dep_le_cnt t) (by omega)
        refine ⟨true, lvQ_same (hv2.same s3) hv3 hd, fun H4 s4 => ⟨_, rfl, iteT' rfl ?_⟩⟩
        have s34 : Same H2 H4 := s3.trans s4
        refine ⟨_, rfl, T2, [v2], 0, v2, rfl, rfl, SqT.of (s34 _ _ hT2), rfl, v2, t, rfl, hv2.same s34, by omega, by rw [htl]; exact hls, fun H5 s5 => ?_⟩
        refine ⟨_, rfl, (rfl : scal _ _ = true), ?_⟩
        rw [htl, hjoin, decide_eq_true rfl]
        exact k H5 (((s1.trans s2).trans s34).trans s5)
end
end K88
end
section
set_option Elab.async false
set_option linter.all false
set_option maxRecDepth 100000
set_option maxHeartbeats 2000000
namespace K88
open PySem L2
local macro_rules | `(tactic| walk_at "hp") => `(tactic| first | assumption | exact upd_same | (refine (upd_ne (by first | assumption | (apply Ne.symm; assumption))).trans ?_; walk_at "hp"))
local macro_rules | `(tactic| walk_at "rd1") => `(tactic| first
  | (refine ⟨_, rfl, ?_⟩)
  | (refine ⟨_, _, rfl, rfl, ?_⟩)
  | (refine ⟨(rfl : scal _ _ = true), ?_⟩)
  | (refine And.intro (by show (0 : Int) < _; decide) ?_)
  | (refine And.intro (And.intro (by decide) (by decide)) ?_)
  | (refine And.intro (Or.inr (And.intro (by decide) (by decide))) ?_)
  | (refine And.intro (And.intro (by decide) (And.intro (by decide) (by decide))) ?_)
  | (refine And.intro (by assumption) ?_)
  | (refine And.intro (And.intro (by omega) (by omega)) ?_)
  | (refine And.intro (Or.inl (And.intro (by omega) (by omega))) ?_)
  | (refine' ⟨_, _, _, _, rfl, rfl, Or.inl (Or.inl ?h1), ?h2, ?h3⟩; (case h1 => walk_at "hp"); (case h2 => rfl))
  | (refine' ⟨_, _, _, _, rfl, rfl, ?h1, ?h2, ?h3⟩; (case h1 => walk_at "hp"); (case h2 => rfl))
  | (refine' ⟨_, _, rfl, Or.inl (Or.inl (Or.inl ?h1)), ?h3⟩; (case h1 => walk_at "hp"))
  | (refine Or.inl ⟨_, rfl, ?_⟩))
local macro_rules | `(tactic| walk_at "rd") => `(tactic| repeat walk_at "rd1")
theorem sc__law_changed : FnScope ["pool", "lines", "found", "at", "kind", "other", "place"] ["pool", "lines"] (defScope s__law_changed) := ⟨rfl, rfl, rfl, by decide +kernel, rfl, by decide +kernel, by decide +kernel⟩
section
variable {P : Program} {w : World} {K : PySem.W.Frag} {mg : Str → Option Value} {base : Heap} {CR CV CB fB CE fE CT CX fX : Addr}
theorem joinL_le (S : List Nat) : ∀ ps : List (List Nat), (TL.joinL S ps).length ≤ (ps.map List.length).sum + ps.length * S.length
  | [] => by simp [TL.joinL]
  | [p] => by simp [TL.joinL]
  | p :: q :: r => by
    have := joinL_le S (q :: r)
    show (p ++ (S ++ TL.joinL S (q :: r))).length ≤ _
    rw [List.map_cons, List.sum_cons, List.length_append, List.length_append, List.length_cons, Nat.succ_mul]
    omega
/-- a joined text is no longer than its parts and the signs between -/
theorem join_le (y : Str) (ps : List Str) : (Txt.join y ps).length ≤ (ps.map (·.length)).sum + ps.length * y.length := by
  have h2 := joinL_le y.cps.toList (ps.map fun r => r.cps.toList)
  rw [List.map_map, List.length_map] at h2
  have h3 : (Txt.join y ps).cps.toList = TL.joinL y.cps.toList (ps.map fun r => r.cps.toList) := by
    rw [TL.join_eq]; exact TL.tl_join y _
  rw [← h3] at h2
  exact h2
theorem map_erase : ∀ (ls : List Str) (a : Nat), (ls.map V.str).eraseIdx a = (ls.eraseIdx a).map V.str
  | [], _ => rfl
  | _ :: _, 0 => rfl
  | l :: r, a + 1 => by rw [List.map_cons, List.eraseIdx_cons_succ, List.eraseIdx_cons_succ, List.map_cons, map_erase r a]
def strsB : List V → Bool
  | [] => true
  | .str z :: r => decide (z.length ≤ 2) && strsB r
  | _ => false
theorem strs2 : ∀ {xs : List V}, strsB xs = true → ∀ x ∈ xs, ∃ z : Str, x = .str z ∧ z.length ≤ 2
  | [], _, x, h => by cases h
  | v :: r, e, x, h => by
    cases v with
    | str z =>
      simp only [strsB, Bool.and_eq_true, decide_eq_true_eq] at e
      rcases List.mem_cons.mp h with rfl | h
      · exact ⟨z, rfl, e.1⟩
      · exact strs2 e.2 x h
    | _ => simp [strsB] at e
theorem sum_le_mul {xs : List Nat} {b : Nat} (h : ∀ x ∈ xs, x ≤ b) : xs.sum ≤ xs.length * b := by
  induction xs with
  | nil => simp
  | cons x r ih =>
    have h1 := h x (List.mem_cons_self ..)
    have h2 := ih fun y hy => h y (List.mem_cons_of_mem _ hy)
    rw [List.sum_cons, List.length_cons, Nat.succ_mul]; omega
theorem len_add (a b : Str) : (a ++ b).length = a.length + b.length := by
  show (a.cps ++ b.cps).size = _
  rw [Array.size_append]; rfl
structure LvI (mg : Str → Option Value) : Prop extends LvB mg where
  n_int : mg "int" = none
/-- the list that is changed, and all else, at the j-th way -/
def ChI (H1 : Hp) (p L F : Addr) (ls : List Str) (a kd j : Nat) : L2.St → Hp → Prop := fun σ H' => (∃ o5 o6 : Option V, σ = [some (.ref p), some (.ref L), some (.ref F), some (.int (a : Nat)), some (.int (kd : Nat)), o5, o6]) ∧
  (∃ fs : List Str, H' F = some (.lst (fs.map V.str)) ∧ fs.length ≤ 61 ∧ (∀ l ∈ fs, l.length ≤ 300) ∧ (j ≤ kd → fs = ls)) ∧ PoolK H1 H' p ∧ Apart H' p F ∧ Off (fun b => b = p ∨ b = F) H1 H'
/-- the heap of it -/
def ChH (H1 : Hp) (p F : Addr) (ls : List Str) (H' : Hp) : Prop := H' F = some (.lst (ls.map V.str)) ∧ PoolK H1 H' p ∧ Apart H' p F ∧ Off (fun b => b = p ∨ b = F) H1 H'
theorem ChH.draw {H1 H2 H3 : Hp} {p F : Addr} {ls : List Str} (h : ChH H1 p F ls H2) (o : Off (fun b => b = p) H2 H3) (k : PoolK H2 H3 p) : ChH H1 p F ls H3 := by
  obtain ⟨a, b, c, d⟩ := h
  exact ⟨o _ _ c.1 a, b.trans k, (k.2 F (by rw [a]; simp) c).2, d.trans fun x y n e => o x y (fun z => n (.inl z)) e⟩
theorem ChH.same {H1 H2 H3 : Hp} {p F : Addr} {ls : List Str} (h : ChH H1 p F ls H2) (s : Same H2 H3) : ChH H1 p F ls H3 := by
  obtain ⟨a, b, c, d⟩ := h
  exact ⟨s _ _ a, b.same s, c.same b.1 s, d.trans (Off.same s)⟩
theorem ChH.put {H1 H2 : Hp} {p F : Addr} {ls fs : List Str} (h : ChH H1 p F ls H2) : ChH H1 p F fs (upd H2 F (.lst (fs.map V.str))) := by
  obtain ⟨a, b, c, d⟩ := h
  exact ⟨upd_same, b.mut c, c.upd c.1, d.trans (Off.mut (.inr rfl))⟩
theorem ChI.skip {H1 : Hp} {p L F : Addr} {ls : List Str} {a kd j : Nat} {σ : L2.St} {H' : Hp} (h : ChI H1 p L F ls a kd j σ H') (hk : kd ≠ j) : ChI H1 p L F ls a kd (j + 1) σ H' := by
  obtain ⟨x, ⟨fs, y, z, u, v⟩, w⟩ := h
  exact ⟨x, ⟨fs, y, z, u, fun q => v (by omega)⟩, w⟩
theorem ChI.open {H1 : Hp} {p L F : Addr} {ls : List Str} {a kd : Nat} {σ : L2.St} {H' : Hp} (h : ChI H1 p L F ls a kd kd σ H') : ChH H1 p F ls H' := by
  obtain ⟨x, ⟨fs, y, z, u, v⟩, w⟩ := h
  obtain rfl := v (Nat.le_refl _)
  exact ⟨y, w⟩
theorem ChI.done {H1 : Hp} {p L F : Addr} {ls fs : List Str} {a kd : Nat} {o5 o6 : Option V} {H' : Hp} (h : ChH H1 p F fs H') (h1 : fs.length ≤ 61) (h2 : ∀ l ∈ fs, l.length ≤ 300) : ChI H1 p L F ls a kd (kd + 1) [some (.ref p), some (.ref L), some (.ref F), some (.int (a : Nat)), some (.int (kd : Nat)), o5, o6] H' :=
  ⟨⟨_, _, rfl⟩, ⟨fs, h.1, h1, h2, fun q => by omega⟩, h.2⟩
def spChanged (K : PySem.W.Frag) : Sp := fun vs H Q _ => ∃ (p L : Addr) (ls : List Str), vs = [.ref p, .ref L] ∧ PoolAt H p ∧ H L = some (.lst (ls.map V.str)) ∧ 1 ≤ ls.length ∧ ls.length ≤ 60 ∧ (∀ l ∈ ls, 1 ≤ l.length ∧ l.length ≤ 100) ∧
  ∀ (s : Str) H', Off (fun b => b = p) H H' → PoolK H H' p → s.length ≤ 90000 → Q (.str s) H'
theorem ok_changed {f : Addr} {fd : FuncData} (F : Fun K "_law_changed" "_law_changed" s__law_changed f fd) (T : LvI mg) (c__law_draw : CalG P w K mg base 1 "_law_draw" (spDraw K)) (c__law_pick : CalG P w K mg base 2 "_law_pick" (spPk K)) (c__law_room_drawn : CalG P w K mg base 5 "_law_room_drawn" (spRD K)) : FnG P w K mg base (CXe P w) 6 f fd ["pool", "lines"] (spChanged K) := by
  refine F.okG sc__law_changed (fun vs H Q E h => ?_) (fun cdv A outer s H vs Q E hgd hr h => ?_)
  · obtain ⟨p, L, ls, rfl, _⟩ := h; rfl
  · obtain ⟨p, L, ls, rfl, hp, hL, h1, h60, hls, k⟩ := h
    refine ⟨_, (pss_cons (ps_set (i := 2) sc__law_changed.nd rfl (Or.inl rfl) (pe_callTy call_list_of (by rfl) T.n_list (by decide +kernel) (pa_cons (pv 1) pa_nil)))
      (pss_cons (ps_set (i := 3) sc__law_changed.nd rfl (Or.inl rfl) (pg_c c__law_draw hgd hr (by first | decide | omega) (pa_cons (pv 0) (pa_cons (pe_callB call_len_seq (by rfl) T.n_len (by decide +kernel) (pa_cons (pv 2) pa_nil)) pa_nil))))
      (pss_cons (ps_set (i := 4) sc__law_changed.nd rfl (Or.inl rfl) (pg_c c__law_draw hgd hr (by first | decide | omega) (pa_cons (pv 0) (pa_cons pe_int pa_nil))))
      (C8.pss_cut (ps_if (pt_cmpR op_eq (pv 4) pe_int (nomark _)) (pss_one (ps_expr (pe_bm PySem.F.plainAttrs_list PySem.F.slot_list_pop PySem.F.type_list_pop mt_popAt (pv 2) (pa_cons (pv 3) pa_nil)))) pss_nil)
      (C8.pss_cut (ps_if (pt_cmpR op_eq (pv 4) pe_int (nomark _)) (pss_one (ps_expr (pe_bm PySem.F.plainAttrs_list PySem.F.slot_list_insert PySem.F.type_list_insert mt_insert (pv 2) (pa_cons (pv 3) (pa_cons (pe_ix ix_list (pv 2) (pv 3) (fun _ _ => rfl)) pa_nil))))) pss_nil)
      (C8.pss_cut (ps_if (pt_cmpR op_eq (pv 4) pe_int (nomark _)) (pss_cons (ps_set (i := 5) sc__law_changed.nd rfl (Or.inl rfl) (pg_c c__law_draw hgd hr (by first | decide | omega) (pa_cons (pv 0) (pa_cons (pe_callB call_len_seq (by rfl) T.n_len (by decide +kernel) (pa_cons (pv 2) pa_nil)) pa_nil))))
      (pss_one (ps_asg (pe_tupA (pa_cons (pe_ix ix_list (pv 2) (pv 5) (fun _ _ => rfl)) (pa_cons (pe_ix ix_list (pv 2) (pv 3) (fun _ _ => rfl)) pa_nil))) (pg_tup (by rfl) (pgs_cons (pg_sub (pv 2) (pv 3) set_list) (pgs_cons (pg_sub (pv 2) (pv 5) set_list) pgs_nil)))))) pss_nil)
      (C8.pss_cut (ps_if (pt_cmpR op_eq (pv 4) pe_int (nomark _)) (pss_one (ps_asg (pe_m1 PySem.F.slot_str_join PySem.F.type_str_join mt_join pe_str (pg_c c__law_room_drawn hgd hr (by first | decide | omega) (pa_cons (pv 0) (pa_cons (pg_c c__law_draw hgd hr (by first | decide | omega) (pa_cons (pv 0) (pa_cons pe_int pa_nil))) pa_nil)))) (pg_sub (pv 2) (pv 3) set_list))) pss_nil)
      (C8.pss_cut (ps_if (pt_cmpR op_eq (pv 4) pe_int (nomark _)) (pss_cons (ps_set (i := 6) sc__law_changed.nd rfl (Or.inl rfl) (pg_c c__law_draw hgd hr (by first | decide | omega) (pa_cons (pv 0) (pa_cons (pe_callB call_len_str (by rfl) T.n_len (by decide +kernel) (pa_cons (pe_ix ix_list (pv 2) (pv 3) (fun _ _ => rfl)) pa_nil)) pa_nil))))
      (pss_one (ps_asg (pe_op op_add_str (pe_op op_add_str (pe_slice sl_str (pe_ix ix_list (pv 2) (pv 3) (fun _ _ => rfl)) po_none (po_some (pv 6))) (pg_c c__law_pick hgd hr (by first | decide | omega) (pa_cons (pv 0) (pa_cons pe_str pa_nil)))) (pe_slice sl_str (pe_ix ix_list (pv 2) (pv 3) (fun _ _ => rfl)) (po_some (pe_op op_add (pv 6) pe_int)) po_none)) (pg_sub (pv 2) (pv 3) set_list)))) pss_nil)
      (C8.pss_cut (ps_if (pt_cmpR op_eq (pv 4) pe_int (nomark _)) (pss_one (ps_asg (pe_op op_add_str (pe_ix ix_list (pv 2) (pv 3) (fun _ _ => rfl)) (pg_c c__law_pick hgd hr (by first | decide | omega) (pa_cons (pv 0) (pa_cons (pe_lstA (pa_cons pe_str (pa_cons pe_str (pa_cons pe_str (pa_cons pe_str (pa_cons pe_str (pa_cons pe_str (pa_cons pe_str pa_nil)))))))) pa_nil)))) (pg_sub (pv 2) (pv 3) set_list))) pss_nil)
      (C8.pss_cut (ps_if (pt_cmpR op_eq (pv 4) pe_int (nomark _)) (pss_one (ps_expr (pe_bm PySem.F.plainAttrs_list PySem.F.slot_list_insert PySem.F.type_list_insert mt_insert (pv 2) (pa_cons (pg_c c__law_draw hgd hr (by first | decide | omega) (pa_cons (pv 0) (pa_cons (pe_op op_add (pe_callB call_len_seq (by rfl) T.n_len (by decide +kernel) (pa_cons (pv 2) pa_nil)) pe_int) pa_nil))) (pa_cons (pg_c c__law_pick hgd hr (by first | decide | omega) (pa_cons (pv 0) (pa_cons (pe_lstA (pa_cons pe_str (pa_cons pe_str (pa_cons pe_str (pa_cons pe_str (pa_cons pe_str (pa_cons pe_str pa_nil))))))) pa_nil))) pa_nil))))) pss_nil)
      (C8.pss_cut (ps_if (pt_cmpR op_eq (pv 4) pe_int (nomark _)) (pss_one (ps_asg (pe_op op_add_str (pe_op op_add_str (pe_ix ix_list (pv 2) (pv 3) (fun _ _ => rfl)) pe_str) (pe_ix ix_list (pv 2) (pe_op op_mul (pe_op op_add (pv 3) pe_int) (pe_callTy call_int1 (by rfl) T.n_int (by decide +kernel) (pa_cons (pe_cmpR op_lt (pe_op op_add (pv 3) pe_int) (pe_callB call_len_seq (by rfl) T.n_len (by decide +kernel) (pa_cons (pv 2) pa_nil)) (nomark _)) pa_nil))) (fun _ _ => rfl))) (pg_sub (pv 2) (pv 3) set_list))) pss_nil)
      (pss_cons (ps_if (pt_cmpR op_eq (pv 4) pe_int (nomark _)) (pss_one (ps_ret (pe_op op_add_str (pe_m1 PySem.F.slot_str_join PySem.F.type_str_join mt_join pe_str (pv 2)) (pg_c c__law_pick hgd hr (by first | decide | omega) (pa_cons (pv 0) (pa_cons (pe_lstA (pa_cons pe_str (pa_cons pe_str (pa_cons pe_str (pa_cons pe_str pa_nil))))) pa_nil)))))) pss_nil)
      (pss_one (ps_ret (pe_m1 PySem.F.slot_str_join PySem.F.type_str_join mt_join pe_str (pv 2)))))))))))))))), ?_⟩
    refine ⟨_, rfl, L, _, rfl, .inl (SqL.of hL), fun F hF => ?_⟩
    have s1 : Same H (upd H F (.lst (ls.map V.str))) := same_new hF
    have hF1 : (upd H F (.lst (ls.map V.str))) F = some (.lst (ls.map V.str)) := upd_same
    generalize upd H F (.lst (ls.map V.str)) = H1 at s1 hF1 ⊢
    have hp1 := hp.same s1
    have ap1 : Apart H1 p F := (hp.apart hF).same hp s1
    have c0 : ChH H1 p F ls H1 := ⟨hF1, PoolK.refl hp1, ap1, Off.refl _⟩
    refine ⟨_, rfl, _, rfl, F, _, rfl, .inl (SqL.of hF1), p, _, rfl, hp1, by rw [List.length_map]; omega, by rw [List.length_map]; omega, fun r H2 r0 r1 o2 p2 => ?_⟩
    rw [List.length_map] at r1
    obtain ⟨a, rfl⟩ := Int.eq_ofNat_of_zero_le r0
    have ha : a < ls.length := by omega
    have c2 := c0.draw o2 p2
    refine ⟨_, rfl, p, 9, rfl, p2.1, by decide, by decide, fun r H3 q0 q1 o3 p3 => ?_⟩
    obtain ⟨kd, rfl⟩ := Int.eq_ofNat_of_zero_le q0
    have c3 := c2.draw o3 p3
    have hla : ls[a]? = some ls[a] := List.getElem?_eq_getElem ha
    have hata : atI (ls.map V.str) ((a : Nat) : Int) = some (.str ls[a]) := atI_nat (by rw [List.getElem?_map, hla]; rfl)
    have hl300 : ∀ l ∈ ls, l.length ≤ 300 := fun l h => by have := (hls l h).2; omega
    have hset : ∀ (j : Nat) (z : Str), z.length ≤ 300 → ∀ l ∈ ls.set j z, l.length ≤ 300 := fun j z hz l h => by
      rcases List.mem_or_eq_of_mem_set h with h | rfl
      · exact hl300 l h
      · exact hz
    have i0 : ChI H1 p L F ls a kd 0 [some (.ref p), some (.ref L), some (.ref F), some (.int (a : Nat)), some (.int (kd : Nat)), none, none] H3 := ⟨⟨_, _, rfl⟩, ⟨ls, c3.1, by omega, hl300, fun _ => rfl⟩, c3.2⟩
    have fin : ∀ (fs : List Str), fs.length ≤ 61 → (∀ l ∈ fs, l.length ≤ 300) → (Txt.join "\n" fs).length ≤ 61 * 301 ∧ (fs.map (·.length)).sum + fs.length * ("\n" : Str).length ≤ 16777216 := fun fs h1 h2 => by
      have l1 : ("\n" : Str).length = 1 := by decide +kernel
      have := join_le "\n" fs
      have h3 := sum_le_mul (xs := fs.map (·.length)) (b := 300) fun x hx => by
        obtain ⟨l, hl, rfl⟩ := List.mem_map.mp hx
        exact h2 l hl
      rw [List.length_map] at h3
      rw [l1] at this ⊢
      have := Nat.mul_le_mul_right 300 h1
      exact ⟨by omega, by omega⟩
    have out : ∀ H', PoolK H1 H' p → Off (fun b => b = p ∨ b = F) H1 H' → ∀ s : Str, s.length ≤ 90000 → Q (.str s) H' := fun H' kk oo s hs =>
      k s H' (fun b o n e => oo b o (fun z => z.elim n fun z => by rw [z, hF] at e; cases e) (s1 _ _ e)) (((PoolK.refl hp).same s1).trans kk) hs
    refine ⟨ChI H1 p L F ls a kd 1, ⟨_, rfl, (rfl : scal _ _ = true), _, rfl, ite2 (fun q => ?_) (fun q => ?_)⟩, ?_⟩
    · obtain rfl : kd = 0 := by have := V.int.inj (of_decide_eq_true q); omega
      refine ⟨_, rfl, .inl ⟨rfl, _, SqL.of c3.1⟩, _, rfl, F, _, _, a, .str ls[a], rfl, rfl, c3.1, by omega, by omega, ?_, ?_, ?_⟩
      · exact (ixN_seq (Evl.ixN_nat (by rw [List.length_map]; exact ha))).1
      · rw [List.getElem?_map, hla]; rfl
      · have e : (ls.map V.str).eraseIdx a = (ls.eraseIdx a).map V.str := map_erase ls a
        rw [e]
        exact ChI.done c3.put (Nat.le_trans (List.length_eraseIdx_le ..) (by omega)) fun l h => hl300 l (List.mem_of_mem_eraseIdx h)
    · exact i0.skip fun z => q (by rw [z]; exact decide_eq_true rfl)
    rintro σ Ha hI
    obtain ⟨⟨o5, o6, rfl⟩, _⟩ := id hI
    refine ⟨ChI H1 p L F ls a kd 2, ⟨_, rfl, (rfl : scal _ _ = true), _, rfl, ite2 (fun q => ?_) (fun q => ?_)⟩, ?_⟩
    · obtain rfl : kd = 1 := by have := V.int.inj (of_decide_eq_true q); omega
      have c := hI.open
      refine ⟨_, rfl, .inl ⟨rfl, _, SqL.of c.1⟩, _, rfl, _, rfl, _, rfl, F, _, a, .str ls[a], rfl, rfl, SqL.of c.1, hata, F, _, a, .str ls[a], rfl, rfl, c.1, by rw [sizeLine_eq, List.length_map]; omega, by omega, by omega, ?_⟩
      have e : (ls.map V.str).take (a : Int).toNat ++ [V.str ls[a]] ++ (ls.map V.str).drop (a : Int).toNat = (ls.take a ++ [ls[a]] ++ ls.drop a).map V.str := by rw [Int.toNat_natCast, List.map_append, List.map_append, List.map_take, List.map_drop]; rfl
      rw [e]
      refine ChI.done c.put (by simp; omega) fun l h => ?_
      rcases List.mem_append.mp h with h | h
      · rcases List.mem_append.mp h with h | h
        · exact hl300 l (List.mem_of_mem_take h)
        · rw [List.mem_singleton.mp h]; exact hl300 _ (List.getElem_mem ha)
      · exact hl300 l (List.mem_of_mem_drop h)
    · exact hI.skip fun z => q (by rw [z]; exact decide_eq_true rfl)
    clear hI o5 o6
    rintro σ Ha hI
    obtain ⟨⟨o5, o6, rfl⟩, _⟩ := id hI
    refine ⟨ChI H1 p L F ls a kd 3, ⟨_, rfl, (rfl : scal _ _ = true), _, rfl, ite2 (fun q => ?_) (fun q => ?_)⟩, ?_⟩
    · obtain rfl : kd = 2 := by have := V.int.inj (of_decide_eq_true q); omega
      have c := hI.open
      refine ⟨_, rfl, _, rfl, F, _, rfl, .inl (SqL.of c.1), p, _, rfl, c.2.1.1, by rw [List.length_map]; omega, by rw [List.length_map]; omega, fun r H5 r0 r1 o5 p5 => ?_⟩
      rw [List.length_map] at r1
      obtain ⟨o, rfl⟩ := Int.eq_ofNat_of_zero_le r0
      have ho : o < ls.length := by omega
      have hato : atI (ls.map V.str) ((o : Nat) : Int) = some (.str ls[o]) := atI_nat (by rw [List.getElem?_map, List.getElem?_eq_getElem ho]; rfl)
      have c5 := c.draw o5 p5
      refine ⟨_, rfl, _, rfl, F, _, o, .str ls[o], rfl, rfl, SqL.of c5.1, hato, _, rfl, _, rfl, F, _, a, .str ls[a], rfl, rfl, SqL.of c5.1, hata, And.intro (Nat.le_of_ble_eq_true rfl) fun T H6 nT => ?_⟩
      have c6 := c5.same nT.same
      refine ⟨T, _, rfl, SqT.of nT.at_, rfl, _, _, rfl, _, rfl, _, rfl, F, _, a, a, rfl, rfl, c6.1, Evl.ixN_nat (by rw [List.length_map]; exact ha), ?_⟩
      have e : (ls.map V.str).set a (V.str ls[o]) = (ls.set a ls[o]).map V.str := by rw [List.map_set]
      rw [e]
      have c7 := c6.put (fs := ls.set a ls[o])
      refine ⟨_, _, rfl, _, rfl, _, rfl, F, _, o, o, rfl, rfl, c7.1, Evl.ixN_nat (by rw [List.length_map, List.length_set]; exact ho), rfl, ?_⟩
      rw [← List.map_set]
      refine ChI.done c7.put (by rw [List.length_set, List.length_set]; omega) fun l h => ?_
      rcases List.mem_or_eq_of_mem_set h with h | rfl
      · exact hset _ _ (hl300 _ (List.getElem_mem ho)) l h
      · exact hl300 _ (List.getElem_mem ha)
    · exact hI.skip fun z => q (by rw [z]; exact decide_eq_true rfl)
    clear hI o5 o6
    rintro σ Ha hI
    obtain ⟨⟨o5, o6, rfl⟩, _⟩ := id hI
    refine ⟨ChI H1 p L F ls a kd 4, ⟨_, rfl, (rfl : scal _ _ = true), _, rfl, ite2 (fun q => ?_) (fun q => ?_)⟩, ?_⟩
    · obtain rfl : kd = 3 := by have := V.int.inj (of_decide_eq_true q); omega
      have c := hI.open
      refine ⟨⟨_, rfl⟩, _, rfl, _, rfl, p, 3, rfl, c.2.1.1, by decide, by decide, fun r H5 r0 r1 o5 p5 => ?_⟩
      obtain ⟨m, rfl⟩ := Int.eq_ofNat_of_zero_le r0
      have c5 := c.draw o5 p5
      refine ⟨p, m, rfl, c5.2.1.1, by omega, fun t rows wd H6 o6 p6 hR hsz => ?_⟩
      have c6 := c5.draw o6 p6
      have hj := join_le "/" rows
      have ls1 : ("/" : Str).length = 1 := by decide +kernel
      have hsr := sum_rows hR.2.1.al
      rw [ls1] at hj
      refine ⟨"/", t, rows, rfl, rfl, .inr (SqT.of hR.1), by rw [ls1]; omega, _, rfl, _, rfl, F, _, a, a, rfl, rfl, c6.1, Evl.ixN_nat (by rw [List.length_map]; exact ha), ?_⟩
      rw [← List.map_set]
      exact ChI.done c6.put (by rw [List.length_set]; omega) (hset _ _ (by omega))
    · exact hI.skip fun z => q (by rw [z]; exact decide_eq_true rfl)
    clear hI o5 o6
    rintro σ Ha hI
    obtain ⟨⟨o5, o6, rfl⟩, _⟩ := id hI
    have hla1 := hls _ (List.getElem_mem ha)
    have hlas : ls[a].length ≤ sizeLine := by rw [sizeLine_eq]; omega
    refine ⟨ChI H1 p L F ls a kd 5, ⟨_, rfl, (rfl : scal _ _ = true), _, rfl, ite2 (fun q => ?_) (fun q => ?_)⟩, ?_⟩
    · obtain rfl : kd = 4 := by have := V.int.inj (of_decide_eq_true q); omega
      have c := hI.open
      refine ⟨_, rfl, _, rfl, _, rfl, F, _, a, .str ls[a], rfl, rfl, SqL.of c.1, hata, ls[a], rfl, hlas, p, _, rfl, c.2.1.1, by omega, by omega, fun r H5 r0 r1 o5 p5 => ?_⟩
      have c5 := c.draw o5 p5
      refine ⟨_, rfl, _, rfl, F, _, a, .str ls[a], rfl, rfl, SqL.of c5.1, hata, nopart_of ⟨_, rfl, _, rfl, ls[a], rfl, hlas, ?_⟩⟩
      refine ⟨_, rfl, p, _, rfl, c5.2.1.1, .inr ⟨_, rfl, by decide +kernel, by decide +kernel, fun ch H6 hch o6 p6 => ?_⟩⟩
      have c6 := c5.draw o6 p6
      have k1 := cutS_length ls[a] none (some r)
      have k2 := cutS_length ls[a] (some (r + 1)) none
      have ch1 : (⟨#[ch]⟩ : Str).length = 1 := rfl
      refine ⟨_, _, rfl, rfl, by rw [ch1, sizeLine_eq]; omega, ?_⟩
      refine ⟨_, rfl, _, rfl, F, _, a, .str ls[a], rfl, rfl, SqL.of c6.1, hata, _, rfl, _, _, rfl, rfl, _, rfl, nopart_of ⟨ls[a], rfl, hlas, ?_⟩⟩
      refine ⟨_, _, rfl, rfl, by rw [len_add, ch1, sizeLine_eq]; omega, _, rfl, _, rfl, F, _, a, a, rfl, rfl, c6.1, Evl.ixN_nat (by rw [List.length_map]; exact ha), ?_⟩
      rw [← List.map_set]
      exact ChI.done c6.put (by rw [List.length_set]; omega) (hset _ _ (by rw [len_add, len_add, ch1]; omega))
    · exact hI.skip fun z => q (by rw [z]; exact decide_eq_true rfl)
    clear hI o5 o6
    rintro σ Ha hI
    obtain ⟨⟨o5, o6, rfl⟩, _⟩ := id hI
    refine ⟨ChI H1 p L F ls a kd 6, ⟨_, rfl, (rfl : scal _ _ = true), _, rfl, ite2 (fun q => ?_) (fun q => ?_)⟩, ?_⟩
    · obtain rfl : kd = 5 := by have := V.int.inj (of_decide_eq_true q); omega
      have c := hI.open
      refine ⟨_, rfl, _, rfl, F, _, a, .str ls[a], rfl, rfl, SqL.of c.1, hata, _, rfl, And.intro (Nat.le_of_ble_eq_true rfl) fun T H5 nT => ?_⟩
      have c5 := c.same nT.same
      refine ⟨p, _, rfl, c5.2.1.1, .inl ⟨T, _, rfl, nT.at_, (c.2.1.1.apart nT.free).1, by decide, by decide, fun x H6 hx o6 p6 => ?_⟩⟩
      have c6 := c5.draw o6 p6
      obtain ⟨z, rfl, hz⟩ := strs2 (by decide +kernel) x hx
      refine ⟨_, _, rfl, rfl, by rw [sizeLine_eq]; omega, _, rfl, _, rfl, F, _, a, a, rfl, rfl, c6.1, Evl.ixN_nat (by rw [List.length_map]; exact ha), ?_⟩
      rw [← List.map_set]
      exact ChI.done c6.put (by rw [List.length_set]; omega) (hset _ _ (by rw [len_add]; omega))
    · exact hI.skip fun z => q (by rw [z]; exact decide_eq_true rfl)
    clear hI o5 o6
    rintro σ Ha hI
    obtain ⟨⟨o5, o6, rfl⟩, _⟩ := id hI
    refine ⟨ChI H1 p L F ls a kd 7, ⟨_, rfl, (rfl : scal _ _ = true), _, rfl, ite2 (fun q => ?_) (fun q => ?_)⟩, ?_⟩
    · obtain rfl : kd = 6 := by have := V.int.inj (of_decide_eq_true q); omega
      have c := hI.open
      refine ⟨_, rfl, .inl ⟨rfl, _, SqL.of c.1⟩, _, rfl, _, rfl, F, _, rfl, .inl (SqL.of c.1), _, _, rfl, rfl, p, _, rfl, c.2.1.1, by rw [List.length_map]; omega, by rw [List.length_map]; omega, fun r H5 r0 r1 o5 p5 => ?_⟩
      rw [List.length_map] at r1
      obtain ⟨m, rfl⟩ := Int.eq_ofNat_of_zero_le r0
      have c5 := c.draw o5 p5
      refine ⟨_, rfl, And.intro (Nat.le_of_ble_eq_true rfl) fun T H6 nT => ?_⟩
      have c6 := c5.same nT.same
      refine ⟨p, _, rfl, c6.2.1.1, .inl ⟨T, _, rfl, nT.at_, (c5.2.1.1.apart nT.free).1, by decide, by decide, fun x H7 hx o7 p7 => ?_⟩⟩
      have c7 := c6.draw o7 p7
      obtain ⟨z, rfl, hz⟩ := strs2 (by decide +kernel) x hx
      refine ⟨F, _, m, .str z, rfl, rfl, c7.1, by rw [sizeLine_eq, List.length_map]; omega, by omega, by omega, ?_⟩
      have e : (ls.map V.str).take (m : Int).toNat ++ [V.str z] ++ (ls.map V.str).drop (m : Int).toNat = (ls.take m ++ [z] ++ ls.drop m).map V.str := by rw [Int.toNat_natCast, List.map_append, List.map_append, List.map_take, List.map_drop]; rfl
      rw [e]
      refine ChI.done c7.put (by simp; omega) fun l h => ?_
      rcases List.mem_append.mp h with h | h
      · rcases List.mem_append.mp h with h | h
        · exact hl300 l (List.mem_of_mem_take h)
        · rw [List.mem_singleton.mp h]; omega
      · exact hl300 l (List.mem_of_mem_drop h)
    · exact hI.skip fun z => q (by rw [z]; exact decide_eq_true rfl)
    clear hI o5 o6
    rintro σ Ha hI
    obtain ⟨⟨o5, o6, rfl⟩, _⟩ := id hI
    refine ⟨ChI H1 p L F ls a kd 8, ⟨_, rfl, (rfl : scal _ _ = true), _, rfl, ite2 (fun q => ?_) (fun q => ?_)⟩, ?_⟩
    · obtain rfl : kd = 7 := by have := V.int.inj (of_decide_eq_true q); omega
      have c := hI.open
      have lsl : ("/" : Str).length = 1 := by decide +kernel
      refine ⟨_, rfl, _, rfl, F, _, a, .str ls[a], rfl, rfl, SqL.of c.1, hata, _, _, rfl, rfl, by rw [lsl, sizeLine_eq]; omega, ?_⟩
      have hlen : (ls.map V.str).length = ls.length := List.length_map ..
      obtain ⟨b, hb, eb⟩ : ∃ b, b < ls.length ∧ ((a : Int) + 1) * (if decide ((a : Int) + 1 < ((ls.map V.str).length : Nat)) = true then 1 else 0) = ((b : Nat) : Int) := by
        rw [hlen]
        by_cases h : (a : Int) + 1 < (ls.length : Nat)
        · exact ⟨a + 1, by omega, by rw [if_pos (decide_eq_true h)]; omega⟩
        · exact ⟨0, by omega, by rw [if_neg (by simpa using h)]; omega⟩
      have hatb : atI (ls.map V.str) ((b : Nat) : Int) = some (.str ls[b]) := atI_nat (by rw [List.getElem?_map, List.getElem?_eq_getElem hb]; rfl)
      have hlb := hls _ (List.getElem_mem hb)
      refine ⟨_, rfl, _, rfl, _, _, rfl, rfl, _, rfl, _, _, rfl, rfl, _, rfl, F, _, rfl, .inl (SqL.of c.1), _, _, rfl, rfl, .inr ⟨_, rfl, _, _, rfl, rfl, .inl ⟨by omega, by omega⟩, F, _, _, .str ls[b], rfl, rfl, SqL.of c.1, by rw [eb]; exact hatb, ?_⟩⟩
      refine ⟨_, _, rfl, rfl, by rw [len_add, lsl, sizeLine_eq]; omega, _, rfl, _, rfl, F, _, a, a, rfl, rfl, c.1, Evl.ixN_nat (by rw [List.length_map]; exact ha), ?_⟩
      rw [← List.map_set]
      exact ChI.done c.put (by rw [List.length_set]; omega) (hset _ _ (by rw [len_add, len_add, lsl]; omega))
    · exact hI.skip fun z => q (by rw [z]; exact decide_eq_true rfl)
    clear hI o5 o6
    rintro σ Ha hI
    obtain ⟨⟨o5, o6, rfl⟩, ⟨fs, hfs, f1, f2, _⟩, pk, ap, off⟩ := id hI
    have ll : ("\n" : Str).length = 1 := by decide +kernel
    obtain ⟨g1, g2⟩ := fin fs f1 f2
    refine ⟨_, rfl, (rfl : scal _ _ = true), _, rfl, ite2 (fun q => ?_) (fun q => ?_)⟩
    · refine ⟨⟨_, rfl⟩, _, rfl, "\n", F, fs, rfl, rfl, .inl (SqL.of hfs), g2, _, rfl, And.intro (Nat.le_of_ble_eq_true rfl) fun T H5 nT => ?_⟩
      refine ⟨p, _, rfl, (pk.same nT.same).1, .inl ⟨T, _, rfl, nT.at_, (pk.1.apart nT.free).1, by decide, by decide, fun x H6 hx o6 p6 => ?_⟩⟩
      obtain ⟨z, rfl, hz⟩ := strs2 (by decide +kernel) x hx
      refine ⟨_, _, rfl, rfl, by rw [sizeLine_eq]; omega, ?_⟩
      exact out H6 ((pk.same nT.same).trans p6) ((off.trans (Off.same nT.same)).trans fun x y n e => o6 x y (fun z => n (.inl z)) e) _ (by rw [len_add]; omega)
    · refine ⟨⟨_, rfl⟩, _, rfl, "\n", F, fs, rfl, rfl, .inl (SqL.of hfs), g2, ?_⟩
      exact out Ha pk off _ (by omega)
end
end K88
end
section
set_option Elab.async false
set_option linter.all false
set_option maxRecDepth 100000
set_option maxHeartbeats 2000000
namespace K88
open PySem L2
local macro_rules | `(tactic| walk_at "hp") => `(tactic| first | assumption | exact upd_same | (refine (upd_ne (by first | assumption | (apply Ne.symm; assumption))).trans ?_; walk_at "hp"))
local macro_rules | `(tactic| walk_at "rd1") => `(tactic| first
  | (refine ⟨_, rfl, ?_⟩)
  | (refine ⟨_, _, rfl, rfl, ?_⟩)
  | (refine ⟨(rfl : scal _ _ = true), ?_⟩)
  | (refine And.intro (by show (0 : Int) < _; decide) ?_)
  | (refine And.intro (And.intro (by decide) (by decide)) ?_)
  | (refine And.intro (Or.inr (And.intro (by decide) (by decide))) ?_)
  | (refine And.intro (And.intro (by decide) (And.intro (by decide) (by decide))) ?_)
  | (refine And.intro (by assumption) ?_)
  | (refine And.intro (And.intro (by omega) (by omega)) ?_)
  | (refine And.intro (Or.inl (And.intro (by omega) (by omega))) ?_)
  | (refine' ⟨_, _, _, _, rfl, rfl, Or.inl (Or.inl ?h1), ?h2, ?h3⟩; (case h1 => walk_at "hp"); (case h2 => rfl))
  | (refine' ⟨_, _, _, _, rfl, rfl, ?h1, ?h2, ?h3⟩; (case h1 => walk_at "hp"); (case h2 => rfl))
  | (refine' ⟨_, _, rfl, Or.inl (Or.inl (Or.inl ?h1)), ?h3⟩; (case h1 => walk_at "hp"))
  | (refine Or.inl ⟨_, rfl, ?_⟩))
local macro_rules | `(tactic| walk_at "rd") => `(tactic| repeat walk_at "rd1")
/-! ### a level's lines, read back -/
theorem sig_nl : ("\n" : Str) = ⟨#[10]⟩ := by decide +kernel
/-- rows that make a line and come back from it -/
theorem rowsL_join {rows : List Str} (hne : rows ≠ []) (lin : ∀ r ∈ rows, lineS r = true) : rowsL (Txt.join "/" rows) = rows := by
  unfold rowsL
  rw [sig_slash]
  refine split_join' (by decide) hne fun r hr h => ?_
  have := lin r hr
  unfold lineS at this
  rw [Bool.and_eq_true, Bool.and_eq_true, List.all_eq_true] at this
  exact absurd (of_decide_eq_true (this.2.2 47 h)) (by decide +kernel)
theorem mo_rows {H : Hp} {a : Addr} {m : Nat} {rows : List Str} {wd : Nat} (h : RowsAt H a m rows wd) : mo (Txt.join "/" rows) = some m := by
  obtain ⟨_, R, lin, who, man⟩ := h
  have hne : rows ≠ [] := fun e => by have := R.h1; rw [e] at this; simp at this
  have e := rowsL_join hne lin
  have := mo_of (l := Txt.join "/" rows) (wd := wd) (by rw [e]; exact R) (by rw [e]; exact lin) (by rw [e]; exact who)
  rw [e, man] at this
  rw [this]; rfl
theorem joinL_mem (c : Nat) (S : List Nat) : ∀ ps : List (List Nat), c ∈ TL.joinL S ps → c ∈ S ∨ ∃ p ∈ ps, c ∈ p
  | [], h => by simp [TL.joinL] at h
  | [p], h => .inr ⟨p, by simp, h⟩
  | p :: q :: r, h => by
    have h : c ∈ p ++ (S ++ TL.joinL S (q :: r)) := h
    rcases List.mem_append.mp h with h | h
    · exact .inr ⟨p, by simp, h⟩
    · rcases List.mem_append.mp h with h | h
      · exact .inl h
      · rcases joinL_mem c S (q :: r) h with h | ⟨x, hx, hc⟩
        · exact .inl h
        · exact .inr ⟨x, List.mem_cons_of_mem _ hx, hc⟩
/-- what a line of a level is -/
def LnOk (l : Str) : Prop := 1 ≤ l.length ∧ l.length ≤ 35 ∧ 10 ∉ l.cps.toList
theorem ln_rows {rows : List Str} {wd : Nat} (R : RowsOk rows wd) (lin : ∀ r ∈ rows, lineS r = true) : LnOk (Txt.join "/" rows) := by
  have h1 := sum_split (Txt.join "/" rows) "/"
  have hne : rows ≠ [] := fun e => by have := R.h1; rw [e] at this; simp at this
  have e := rowsL_join hne lin
  unfold rowsL at e
  rw [e] at h1
  have h2 := join_le "/" rows
  have ls1 : ("/" : Str).length = 1 := by decide +kernel
  have h3 := sum_rows R.al
  rw [ls1] at h2
  have a1 := R.h1
  have a2 := R.w1
  have a3 := R.h5
  have a4 := R.w6
  have a5 := Nat.mul_le_mul a1 a2
  have a6 := Nat.mul_le_mul a3 a4
  refine ⟨by omega, by omega, fun h => ?_⟩
  have h4 : (Txt.join "/" rows).cps.toList = TL.joinL ("/" : Str).cps.toList (rows.map fun r => r.cps.toList) := by
    rw [TL.join_eq]; exact TL.tl_join "/" rows
  rw [h4] at h
  rcases joinL_mem _ _ _ h with h | ⟨x, hx, hc⟩
  · exact absurd h (by decide +kernel)
  · obtain ⟨r, hr, rfl⟩ := List.mem_map.mp hx
    have := lin r hr
    unfold lineS at this
    rw [Bool.and_eq_true, Bool.and_eq_true, List.all_eq_true] at this
    exact absurd (of_decide_eq_true (this.2.2 10 hc)) (by decide +kernel)
/-- a tree all of whose rooms are rooms -/
inductive Good : Tr → Prop
  | mk {rows : List Str} {wd : Nat} {ch : List Tr} : RowsOk rows wd → (∀ r ∈ rows, lineS r = true) → mo (Txt.join "/" rows) = some ch.length → (∀ c ∈ ch, Good c) → Good (.nd rows wd ch)
theorem TreeAt.good {H : Hp} {v : V} {t : Tr} (h : TreeAt H v t) : Good t := by
  induction h with
  | @mk a r c rows wd vs ch h1 h2 h3 h4 h5 ih =>
    refine .mk h2.2.1 h2.2.2.1 (mo_rows h2) fun x hx => ?_
    obtain ⟨i, hi, rfl⟩ := List.mem_iff_getElem.mp hx
    exact ih i vs[i] ch[i] (List.getElem?_eq_getElem (by omega)) (List.getElem?_eq_getElem hi)
theorem Good.lines {t : Tr} (h : Good t) : ∀ l ∈ linesOf t, LnOk l := by
  induction h with
  | @mk rows wd ch R lin hm hc ih =>
    intro l hl
    rw [linesOf_nd] at hl
    rcases List.mem_cons.mp hl with rfl | hl
    · exact ln_rows R lin
    · obtain ⟨x, hx, hl⟩ := List.mem_flatten.mp hl
      obtain ⟨c, hc', rfl⟩ := List.mem_map.mp hx
      exact ih c hc' l hl
theorem scan_all : ∀ (ch : List Tr), (∀ c ∈ ch, ∀ (rest : List Str) (M k : Nat), scan (linesOf c ++ rest) (M + 1) k = scan rest M (k + c.cnt)) → ∀ (rest : List Str) (M k : Nat), scan ((ch.map linesOf).flatten ++ rest) (M + ch.length) k = scan rest M (k + (ch.map Tr.cnt).sum)
  | [], _, rest, M, k => by simp
  | c :: r, h, rest, M, k => by
    rw [List.map_cons, List.flatten_cons, List.append_assoc, List.length_cons, show M + (r.length + 1) = M + r.length + 1 by omega, h c (List.mem_cons_self ..), scan_all r (fun x hx => h x (List.mem_cons_of_mem _ hx)), List.map_cons, List.sum_cons, Nat.add_assoc]
theorem Good.scan {t : Tr} (h : Good t) : ∀ (rest : List Str) (M k : Nat), K88.scan (linesOf t ++ rest) (M + 1) k = K88.scan rest M (k + t.cnt) := by
  induction h with
  | @mk rows wd ch R lin hm hc ih =>
    intro rest M k
    rw [linesOf_nd, List.cons_append, scan_cons (Nat.succ_pos _) hm, show M + 1 + ch.length - 1 = M + ch.length by omega, scan_all ch ih, cnt_nd, Nat.add_assoc]
theorem Good.whole {t : Tr} (h : Good t) : K88.scan (linesOf t) 1 0 = none := by
  have := h.scan [] 0 0
  rw [List.append_nil] at this
  rw [this]
  rfl
theorem lines_ne (t : Tr) : linesOf t ≠ [] := fun e => by
  have := lines_cnt t
  have := cnt_pos t
  rw [e] at *
  simp at *
  omega
/-- lines joined to a text come back -/
theorem split_lines {ls : List Str} (hne : ls ≠ []) (h : ∀ l ∈ ls, LnOk l) : Txt.split (Txt.join "\n" ls) "\n" = ls := by
  rw [sig_nl]
  exact split_join' (by decide) hne fun p hp => (h p hp).2.2
theorem text_len {ls : List Str} (h : ∀ l ∈ ls, LnOk l) : (Txt.join "\n" ls).length ≤ ls.length * 36 := by
  have h2 := join_le "\n" ls
  have ls1 : ("\n" : Str).length = 1 := by decide +kernel
  have h3 := sum_le_mul (xs := ls.map (·.length)) (b := 35) fun x hx => by
    obtain ⟨l, hl, rfl⟩ := List.mem_map.mp hx
    exact (h l hl).2.1
  rw [List.length_map] at h3
  rw [ls1] at h2
  omega
theorem sum_lines {ls : List Str} (h : ∀ l ∈ ls, LnOk l) : (ls.map (·.length)).sum ≤ ls.length * 35 := by
  have h3 := sum_le_mul (xs := ls.map (·.length)) (b := 35) fun x hx => by
    obtain ⟨l, hl, rfl⟩ := List.mem_map.mp hx
    exact (h l hl).2.1
  rwa [List.length_map] at h3
theorem row_lines (rows : List Str) (wd : Nat) (t : Tr) : ∀ k, linesOf (rowT rows wd t k) = List.replicate k (Txt.join "/" rows) ++ linesOf t
  | 0 => rfl
  | k + 1 => by
    show linesOf (.nd rows wd [rowT rows wd t k]) = _
    rw [linesOf_nd, List.replicate_succ, List.cons_append, ← row_lines rows wd t k]
    simp
end K88
end
section
set_option Elab.async false
set_option linter.all false
set_option maxRecDepth 100000
set_option maxHeartbeats 2000000
namespace K88
open PySem L2
local macro_rules | `(tactic| walk_at "hp") => `(tactic| first | assumption | exact upd_same | (refine (upd_ne (by first | assumption | (apply Ne.symm; assumption))).trans ?_; walk_at "hp"))
local macro_rules | `(tactic| walk_at "rd1") => `(tactic| first
  | (refine ⟨_, rfl, ?_⟩)
  | (refine ⟨_, _, rfl, rfl, ?_⟩)
  | (refine ⟨(rfl : scal _ _ = true), ?_⟩)
  | (refine And.intro (by show (0 : Int) < _; decide) ?_)
  | (refine And.intro (And.intro (by decide) (by decide)) ?_)
  | (refine And.intro (Or.inr (And.intro (by decide) (by decide))) ?_)
  | (refine And.intro (And.intro (by decide) (And.intro (by decide) (by decide))) ?_)
  | (refine And.intro (by assumption) ?_)
  | (refine And.intro (And.intro (by omega) (by omega)) ?_)
  | (refine And.intro (Or.inl (And.intro (by omega) (by omega))) ?_)
  | (refine' ⟨_, _, _, _, rfl, rfl, Or.inl (Or.inl ?h1), ?h2, ?h3⟩; (case h1 => walk_at "hp"); (case h2 => rfl))
  | (refine' ⟨_, _, _, _, rfl, rfl, ?h1, ?h2, ?h3⟩; (case h1 => walk_at "hp"); (case h2 => rfl))
  | (refine' ⟨_, _, rfl, Or.inl (Or.inl (Or.inl ?h1)), ?h3⟩; (case h1 => walk_at "hp"))
  | (refine Or.inl ⟨_, rfl, ?_⟩))
local macro_rules | `(tactic| walk_at "rd") => `(tactic| repeat walk_at "rd1")
theorem sc_law : FnScope ["script", "pool", "plain", "level", "lines", "text", "turn", "thing", "many", "line", "last", "long", "row"] ["script"] (defScope s_law) := ⟨rfl, rfl, rfl, by decide +kernel, rfl, by decide +kernel, by decide +kernel⟩
section
variable {P : Program} {w : World} {K : PySem.W.Frag} {mg : Str → Option Value} {base : Heap} {C CR CV CB fB CE fE CT CN fN CX fX CA fA aD : Addr}
theorem LevelAt.fld {H : Hp} {v : V} {t : Tr} (h : LevelAt K CR CV H v t) : ∃ x dx r c, v = .ref x ∧ H x = some (.ins CV dx (levelF r c (.int (t.cnt : Nat)) (.int (t.dep : Nat)))) := by
  cases h with
  | mk a1 a2 a3 a4 a5 a6 a7 a8 => rw [a2, a3] at a1; exact ⟨_, _, _, _, rfl, a1⟩
theorem rep_line (n : Nat) (z : Str) : (List.replicate n [V.str z]).flatten = (List.replicate n z).map V.str := by
  induction n with
  | zero => rfl
  | succ n ih => rw [List.replicate_succ, List.replicate_succ, List.flatten_cons, ih]; rfl
def spLaw (K : PySem.W.Frag) : Sp := fun vs H Q _ => ∃ (a : Addr) (ns : List Int), vs = [.ref a] ∧ SqL K H a (ns.map V.int) ∧ ns.length ≤ 63 ∧ ∀ H', Q (.bl true) H'
theorem ok_law {f : Addr} {fd : FuncData} (F : Fun K "law" "law" s_law f fd) (T : TxT P w K mg CR CV CB fB CE fE CT CX fX) (LB : LvI mg)
    (c__law_pool : CalG P w K mg base 1 "_law_pool" (spPool K)) (c__law_draw : CalG P w K mg base 1 "_law_draw" (spDraw K)) (c__law_pick : CalG P w K mg base 2 "_law_pick" (spPk K)) (c__law_small : CalG P w K mg base 5 "_law_small" (spRD K)) (c__law_level_drawn : CalG P w K mg base 14 "_law_level_drawn" (spLD K 7)) (c__law_level : CalG P w K mg base 65 "_law_level" (atMost 59 (spLL K CR CV)))
    (m_Room : MakG P w K mg base 4 "Room" CR (spRoomInit K CR CB) []) (m_Level1 : MakG P w K mg base 4 "Level" CV (spLInit0 K CR CV) [.ref aD]) (c__law_lines : CalG P w K mg base 61 "_law_lines" (atMost 59 (spLines K))) (c_write_level : CalG P w K mg base 62 "write_level" (spWrite K CR CV)) (c_read_level : CalG P w K mg base 7 "read_level" (spRead K CR CV CT CX)) (c__law_is_due : CalG P w K mg base 184 "_law_is_due" (spIsDue K)) (c__law_changed : CalG P w K mg base 6 "_law_changed" (spChanged K)) (c__law_told : CalG P w K mg base 8 "_law_told" (spToldL K CR CV)) (c_row_of : CalG P w K mg base 6 "row_of" (spRow K CR CV CB CE CT CN)) (kVs : PySem.W.kitOne K (.ref CV) (.type "str") = some false) (eD : EmptyC K aD) :
    FnG P w K mg base (CXe P w) 190 f fd ["script"] (spLaw K) := by
  refine F.okG sc_law (fun vs H Q E h => ?_) (fun cdv A outer s H vs Q E hgd hr h => ?_)
  · obtain ⟨a, ns, rfl, _⟩ := h; rfl
  · obtain ⟨a, ns, rfl, hs, hl, k⟩ := h
    refine ⟨_, (pss_cons (ps_set (i := 1) sc_law.nd rfl (Or.inl rfl) (pg_c c__law_pool hgd hr (by first | decide | omega) (pa_cons (pv 0) pa_nil)))
      (pss_cons (ps_set (i := 2) sc_law.nd rfl (Or.inl rfl) (pg_c c__law_level_drawn hgd hr (by first | decide | omega) (pa_cons (pv 1) (pa_cons (pe_op op_add pe_int (pg_c c__law_draw hgd hr (by first | decide | omega) (pa_cons (pv 1) (pa_cons pe_int pa_nil)))) pa_nil))))
      (pss_cons (ps_set (i := 3) sc_law.nd rfl (Or.inl rfl) (pg_c c__law_level hgd hr (by first | decide | omega) (pa_cons (pv 2) pa_nil)))
      (pss_cons (ps_set (i := 4) sc_law.nd rfl (Or.inl rfl) (pg_c c__law_lines hgd hr (by first | decide | omega) (pa_cons (pv 2) pa_nil)))
      (pss_cons (ps_set (i := 5) sc_law.nd rfl (Or.inl rfl) (pg_c c_write_level hgd hr (by first | decide | omega) (pa_cons (pv 3) pa_nil)))
      (pss_cons (ps_if (PW.pt (pw_or (pt_cmpR op_ne (pv 5) (pe_m1 PySem.F.slot_str_join PySem.F.type_str_join mt_join pe_str (pv 4)) (nomark _)) (pw_or (pt_not (pt_val (pg_c c__law_is_due hgd hr (by first | decide | omega) (pa_cons (pv 5) pa_nil)))) (pw_or1 (pt_cmpR op_ne (pe_fld (pg_c c_read_level hgd hr (by first | decide | omega) (pa_cons (pv 5) pa_nil)) rfl) (pe_callB call_len_seq (by rfl) T.n_len (by decide +kernel) (pa_cons (pv 4) pa_nil)) (nomark _)))))) (pss_one (ps_ret pe_bl)) pss_nil)
      (pss_cons (ps_for (passes_of rfl) rfl (pi_range1 (by rfl) T.n_range (pa_cons pe_int pa_nil)) (pg_name (i := 6) sc_law.nd rfl (Or.inl rfl))
      (pss_one (ps_if (pt_not (pt_val (pg_c c__law_is_due hgd hr (by first | decide | omega) (pa_cons (pg_c c__law_changed hgd hr (by first | decide | omega) (pa_cons (pv 1) (pa_cons (pv 4) pa_nil))) pa_nil)))) (pss_one (ps_ret pe_bl)) pss_nil)))
      (pss_cons (ps_set (i := 7) sc_law.nd rfl (Or.inl rfl) (pg_c c__law_pick hgd hr (by first | decide | omega) (pa_cons (pv 1) (pa_cons (pe_lstA (pa_cons pe_non (pa_cons pe_int (pa_cons pe_bl (pa_cons (pe_lstA (pa_cons (pv 5) pa_nil)) (pa_cons (pe_tupA (pa_cons (pv 5) pa_nil)) (pa_cons pe_dnewA (pa_cons (pv 3) (pa_cons (pe_op op_pow pe_int pe_int) pa_nil))))))))) pa_nil))))
      (pss_cons (ps_if (pt_cmpR op_ne (pg_c c__law_told hgd hr (by first | decide | omega) (pa_cons (pv 7) pa_nil)) (pe_un un_neg pe_int) (nomark _)) (pss_one (ps_ret pe_bl)) pss_nil)
      (pss_cons (ps_set (i := 8) sc_law.nd rfl (Or.inl rfl) (pe_op op_add pe_int (pg_c c__law_draw hgd hr (by first | decide | omega) (pa_cons (pv 1) (pa_cons pe_int pa_nil)))))
      (pss_cons (ps_set (i := 9) sc_law.nd rfl (Or.inl rfl) (pe_m1 PySem.F.slot_str_join PySem.F.type_str_join mt_join pe_str (pg_c c__law_small hgd hr (by first | decide | omega) (pa_cons (pv 1) (pa_cons pe_int pa_nil)))))
      (pss_cons (ps_set (i := 10) sc_law.nd rfl (Or.inl rfl) (pe_m1 PySem.F.slot_str_join PySem.F.type_str_join mt_join pe_str (pg_c c__law_small hgd hr (by first | decide | omega) (pa_cons (pv 1) (pa_cons pe_int pa_nil)))))
      (pss_cons (ps_set (i := 11) sc_law.nd rfl (Or.inl rfl) (pe_op op_cat (pe_op op_rep (pe_lstA (pa_cons (pv 9) pa_nil)) (pv 8)) (pe_lstA (pa_cons (pv 10) pa_nil))))
      (C8.pss_cut (ps_if (pt_cmpR op_lt (pv 8) pe_int (nomark _)) (pss_cons (ps_set (i := 12) sc_law.nd rfl (Or.inl rfl) (pg_c c_row_of hgd hr (by first | decide | omega) (pa_cons (pg_mk m_Room hgd hr (by first | decide | omega) (pa_cons (pe_m1 PySem.F.slot_str_split PySem.F.type_str_split mt_split (pv 9) pe_str) pa_nil)) (pa_cons (pg_mk m_Level1 hgd hr (by first | decide | omega) (pa_cons (pg_mk m_Room hgd hr (by first | decide | omega) (pa_cons (pe_m1 PySem.F.slot_str_split PySem.F.type_str_split mt_split (pv 10) pe_str) pa_nil)) pa_nil)) (pa_cons (pv 8) pa_nil)))))
      (pss_one (ps_if (pt_cmpR op_ne (pg_c c_write_level hgd hr (by first | decide | omega) (pa_cons (pv 12) pa_nil)) (pe_m1 PySem.F.slot_str_join PySem.F.type_str_join mt_join pe_str (pv 11)) (nomark _)) (pss_one (ps_ret pe_bl)) pss_nil))) pss_nil)
      (C8.pss_cut (ps_if (pt_cmpR op_eq (pg_c c__law_draw hgd hr (by first | decide | omega) (pa_cons (pv 1) (pa_cons pe_int pa_nil))) pe_int (nomark _)) (pss_one (ps_set (i := 11) sc_law.nd rfl (Or.inl rfl) (pe_op op_cat (pe_slice sl_list (pv 11) po_none (po_some (pe_un un_neg pe_int))) (pe_op op_rep (pe_slice sl_list (pv 11) (po_some (pe_un un_neg pe_int)) po_none) (pg_c c__law_draw hgd hr (by first | decide | omega) (pa_cons (pv 1) (pa_cons pe_int pa_nil))))))) pss_nil)
      (pss_one (ps_ret (pg_c c__law_is_due hgd hr (by first | decide | omega) (pa_cons (pe_m1 PySem.F.slot_str_join PySem.F.type_str_join mt_join pe_str (pv 11)) pa_nil))))))))))))))))))), ?_⟩
    refine ⟨_, rfl, a, ns, rfl, hs, hl, fun p H1 np s1 hp1 => ?_⟩
    refine ⟨_, rfl, _, rfl, p, 8, rfl, hp1, by decide, by decide, fun z1 H2 z1a z1b o2 p2 => ?_⟩
    obtain ⟨m1, rfl⟩ := Int.eq_ofNat_of_zero_le z1a
    refine ⟨_, _, rfl, rfl, p, m1, congrArg (fun z : Int => [V.ref p, V.int z]) (by omega), p2.1, by omega, by decide, fun lv t H3 o3 p3 ht htc hlow => ?_⟩
    have gt := ht.good
    have gl := gt.lines
    have hne := lines_ne t
    have hcl := lines_cnt t
    have hcp := cnt_pos t
    refine ⟨_, rfl, 7, by decide, lv, t, rfl, ht, by omega, by decide, fun x H4 s4 hx => ?_⟩
    refine ⟨_, rfl, 7, by decide, lv, t, rfl, ht.same s4, by omega, by decide, fun Ln H5 s5 nLn hLn => ?_⟩
    have hLp : Ln ≠ p := ((p3.same s4).1.apart nLn).1
    refine ⟨_, rfl, x, t, rfl, hx.same s5, by omega, fun l h => by have := (gl l h).2.1; omega, fun H6 s6 => ?_⟩
    have hLn6 := s6 _ _ hLn
    have hp6 : PoolAt H6 p := (p3.same ((s4.trans s5).trans s6)).1
    have hx6 := hx.same (s5.trans s6)
    have hsl := sum_lines gl
    have hsp := split_lines hne gl
    have htl := text_len gl
    have l1 : ("\n" : Str).length = 1 := by decide +kernel
    have hw := gt.whole
    generalize etx : Txt.join "\n" (linesOf t) = tx at hsp htl
    have k6 : ∀ H', Q (.bl true) H' := k
    clear o2 p2 o3 p3 s4 s5 s6 hLn hx np s1 hp1 nLn k
    refine ⟨_, rfl, ⟨_, rfl⟩, _, rfl, "\n", Ln, linesOf t, rfl, rfl, .inl (SqL.of hLn6), by rw [l1]; omega, (rfl : scal _ _ = true), _, rfl, iteF' (by rw [etx]; simp) ?_⟩
    refine ⟨_, rfl, tx, rfl, by omega, fun H7 s7 => ⟨_, rfl, iteF' (by simp) ?_⟩⟩
    refine ⟨_, rfl, .str tx, rfl, .inr ⟨tx, rfl, by omega, ?_⟩⟩
    rw [hsp, hw]
    refine ⟨fun j e => (nomatch e), fun _ => ⟨fun h => by omega, fun _ v t' H8 hf s8 hv => ?_⟩⟩
    obtain ⟨t2, ht2, _, hc2⟩ := forest_one hw
    rw [hf] at ht2
    cases ht2
    obtain ⟨xv, dx, r, c, rfl, hxv⟩ := hv.fld
    have hL8 := s8 _ _ (s7 _ _ hLn6)
    have hp8 : PoolAt H8 p := (hp6.same s7).same s8
    have hx8 := hx6.same (s7.trans s8)
    refine ⟨xv, CV, dx, _, _, rfl, hxv, T.clV, T.n_rooms, rfl, _, rfl, Ln, _, rfl, .inl (SqL.of hL8), (rfl : scal _ _ = true), _, rfl, iteF' (by rw [hc2, List.length_map]; simp) ?_⟩
    clear hxv hv hf s7 s8 hLn6 hp6 hx6 ht hw hc2
    refine ⟨(5 : Int), rfl, by decide, by decide, ?_⟩
    refine for_range (n := 5) (fun i σ H' => (∃ o6, σ = [some (.ref a), some (.ref p), some lv, some x, some (.ref Ln), some (.str tx), o6, none, none, none, none, none, none]) ∧ PoolK H8 H' p ∧ Off (fun b => b = p) H8 H') ⟨⟨none, rfl⟩, PoolK.refl hp8, Off.refl _⟩ ?_ ?_
    · rintro i σ Ha hi ⟨⟨o6, rfl⟩, pk, off⟩
      refine ⟨_, rfl, _, rfl, p, Ln, linesOf t, rfl, pk.1, off _ _ hLp hL8, by omega, by omega, fun l h => by have := gl l h; unfold LnOk at this; omega, fun z H9 o9 p9 hz => ?_⟩
      exact ⟨z, rfl, hz, fun H10 s10 => ⟨_, rfl, iteF' (by simp) ⟨⟨_, rfl⟩, (pk.trans p9).same s10, (off.trans o9).trans (Off.same s10)⟩⟩⟩
    rintro σ Ha ⟨⟨o6, rfl⟩, pk, off⟩
    have hLa := off _ _ hLp hL8
    have hxa : LevelAt K CR CV Ha x t := hx8.keepL fun b o e n => off b o (fun z => by
      obtain ⟨g, s', gs, ss, cc, nn, e1, _⟩ := hp8
      rw [z, e1] at e
      exact n _ (Option.some.inj e).symm) e
    have pa := pk.1
    clear hL8 hx8
    refine ⟨_, rfl, _, rfl, And.intro (Nat.le_of_ble_eq_true rfl) fun A1 G1 n1 => ?_⟩
    refine ⟨_, rfl, And.intro (Nat.le_of_ble_eq_true rfl) fun A2 G2 n2 => ?_⟩
    refine fun A3 G3 n3 => ?_
    refine ⟨_, rfl, _, _, rfl, rfl, And.intro (by decide) (And.intro (by decide) (by decide)), And.intro (Nat.le_of_ble_eq_true rfl) fun A4 G4 n4 => ?_⟩
    have sG : Same Ha G4 := ((n1.same.trans n2.same).trans n3.same).trans n4.same
    have pG := pa.same sG
    refine ⟨p, _, rfl, pG, .inl ⟨A4, _, rfl, n4.at_, ((pa.same ((n1.same.trans n2.same).trans n3.same)).apart n4.free).1, by simp, by simp, fun th G5 hth o5 p5 => ?_⟩⟩
    have of5 : ∀ b o, b ≠ p → G4 b = some o → G5 b = some o := fun b o n e => o5 b o n e
    have hx5 : LevelAt K CR CV G5 x t := (hxa.same sG).keepL fun b o e n => of5 b o (fun z => by
      obtain ⟨g, s', gs, ss, cc, nn, e1, _⟩ := pG
      rw [z, e1] at e
      exact n _ (Option.some.inj e).symm) e
    have hA1 : G5 A1 = some (.lst [V.str tx]) := of5 _ _ (pa.apart n1.free).1 (((n2.same.trans n3.same).trans n4.same) _ _ n1.at_)
    have hA2 : G5 A2 = some (.tup [V.str tx]) := of5 _ _ ((pa.same n1.same).apart n2.free).1 ((n3.same.trans n4.same) _ _ n2.at_)
    have hA3 : G5 A3 = some (.dK []) := of5 _ _ ((pa.same (n1.same.trans n2.same)).apart n3.free).1 (n4.same _ _ n3.at_)
    have hL5 := of5 _ _ hLp (sG _ _ hLa)
    have pk5 := (pk.same sG).trans p5
    have off5 := (off.trans (Off.same sG)).trans o5
    have nt : NoText K G5 th := by
      simp only [List.mem_cons, List.mem_nil_iff, or_false] at hth
      rcases hth with rfl | rfl | rfl | rfl | rfl | rfl | rfl | rfl
      · exact ⟨_, .non, kit_ty (show kitB "NoneType" "str" = some false by decide +kernel)⟩
      · exact ⟨_, .int _, kit_ty (show kitB "int" "str" = some false by decide +kernel)⟩
      · exact ⟨_, .bl _, kit_ty (show kitB "bool" "str" = some false by decide +kernel)⟩
      · exact ⟨_, .lst hA1, kit_ty (show kitB "list" "str" = some false by decide +kernel)⟩
      · exact ⟨_, .tup hA2, kit_ty (show kitB "tuple" "str" = some false by decide +kernel)⟩
      · exact ⟨_, .dK hA3, kit_ty (show kitB "dict" "str" = some false by decide +kernel)⟩
      · obtain ⟨xx, dd, r1, c1, e, hxx⟩ := hx5.fld
        rw [e]
        exact ⟨_, insTy T.icV hxx, kVs⟩
      · exact ⟨_, .int _, kit_ty (show kitB "int" "str" = some false by decide +kernel)⟩
    clear hth hA1 hA2 hA3 n1 n2 n3 n4 hxa hLa off pk o5 p5 sG pG of5 pa
    refine ⟨_, rfl, th, rfl, .inl ⟨nt, fun G6 s6 => ?_⟩⟩
    clear nt
    refine ⟨_, rfl, (rfl : scal _ _ = true), _, rfl, iteF' (by simp) ?_⟩
    have pk6 := pk5.same s6
    refine ⟨_, rfl, p, 6, rfl, pk6.1, by decide, by decide, fun r G7 r0 r1 o7 p7 => ?_⟩
    obtain ⟨m, rfl⟩ := Int.eq_ofNat_of_zero_le r0
    refine ⟨_, _, rfl, rfl, ?_⟩
    have pk7 := pk6.trans p7
    refine ⟨⟨_, rfl⟩, _, rfl, p, 1, rfl, pk7.1, by decide, fun t1 rows1 wd1 G8 o8 p8 hR1 hz1 => ?_⟩
    have pk8 := pk7.trans p8
    have ls1 : ("/" : Str).length = 1 := by decide +kernel
    have bnd : ∀ {rows : List Str} {wd : Nat}, RowsOk rows wd → (rows.map (·.length)).sum + rows.length * ("/" : Str).length ≤ 16777216 := fun {rows wd} R => by
      have h3 := sum_rows R.al
      have a3 := R.h5
      have a4 := R.w6
      have a6 := Nat.mul_le_mul a3 a4
      rw [ls1]; omega
    refine ⟨"/", t1, rows1, rfl, rfl, .inr (SqT.of hR1.1), bnd hR1.2.1, ?_⟩
    refine ⟨⟨_, rfl⟩, _, rfl, p, 0, rfl, pk8.1, by decide, fun t2 rows2 wd2 G9 o9 p9 hR2 hz2 => ?_⟩
    have pk9 := pk8.trans p9
    refine ⟨"/", t2, rows2, rfl, rfl, .inr (SqT.of hR2.1), bnd hR2.2.1, ?_⟩
    have mo1 := mo_rows hR1
    have mo2 := mo_rows hR2
    obtain ⟨_, R1, lin1, who1, man1⟩ := hR1
    obtain ⟨_, R2, lin2, who2, man2⟩ := hR2
    have lo1 := ln_rows R1 lin1
    have lo2 := ln_rows R2 lin2
    have g0 : Good (.nd rows2 wd2 []) := .mk R2 lin2 mo2 fun c hc => by cases hc
    have rj1 := rowsL_join (rows := rows1) (fun e => by have := R1.h1; rw [e] at this; simp at this) lin1
    have rj2 := rowsL_join (rows := rows2) (fun e => by have := R2.h1; rw [e] at this; simp at this) lin2
    generalize e1 : Txt.join "/" rows1 = li at rj1 mo1 lo1
    generalize e2 : Txt.join "/" rows2 = la at rj2 mo2 lo2
    clear hL5 hx5 off5 pk5 pk6 pk7 pk8 o7 p7 o8 p8 o9 p9 hz1 hz2
    refine ⟨_, rfl, And.intro (Nat.le_of_ble_eq_true rfl) fun B1 K1 b1 => ?_⟩
    have hsL : sizeLine = 16777216 := sizeLine_eq
    refine ⟨_, rfl, B1, _, _, rfl, rfl, b1.at_, by omega, by omega, by rw [hsL]; show 1 * _ ≤ _; omega, fun B2 f2 => ?_⟩
    have eN : (57 + (m : Int)).toNat = 57 + m := by omega
    rw [eN, rep_line]
    have sK2 : Same K1 (upd K1 B2 (.lst ((List.replicate (57 + m) li).map V.str))) := same_new f2
    have hB2 : (upd K1 B2 (.lst ((List.replicate (57 + m) li).map V.str))) B2 = some (.lst ((List.replicate (57 + m) li).map V.str)) := upd_same
    generalize upd K1 B2 (.lst ((List.replicate (57 + m) li).map V.str)) = K2 at sK2 hB2 ⊢
    refine ⟨_, rfl, And.intro (Nat.le_of_ble_eq_true rfl) fun B3 K3 b3 => ?_⟩
    refine ⟨B2, B3, _, _, rfl, rfl, b3.same _ _ hB2, b3.at_, by rw [hsL, List.length_map, List.length_replicate]; show _ + 1 ≤ _; omega, fun B4 f4 => ?_⟩
    have eL : (List.replicate (57 + m) li).map V.str ++ [V.str la] = (List.replicate (57 + m) li ++ [la]).map V.str := by rw [List.map_append]; rfl
    rw [eL]
    have pk3 : PoolK H8 K3 p := ((pk9.same b1.same).same sK2).same b3.same
    have sK4 : Same K3 (upd K3 B4 (.lst ((List.replicate (57 + m) li ++ [la]).map V.str))) := same_new f4
    have hB4 : (upd K3 B4 (.lst ((List.replicate (57 + m) li ++ [la]).map V.str))) B4 = some (.lst ((List.replicate (57 + m) li ++ [la]).map V.str)) := upd_same
    have hBp : B4 ≠ p := (pk3.1.apart f4).1
    have pk4 := pk3.same sK4
    generalize upd K3 B4 (.lst ((List.replicate (57 + m) li ++ [la]).map V.str)) = K4 at sK4 hB4 pk4 ⊢
    have lok : ∀ l ∈ List.replicate (57 + m) li ++ [la], LnOk l := fun l h => by
      rcases List.mem_append.mp h with h | h
      · rw [(List.mem_replicate.mp h).2]; exact lo1
      · rw [List.mem_singleton.mp h]; exact lo2
    have llen : (List.replicate (57 + m) li ++ [la]).length = 58 + m := by rw [List.length_append, List.length_replicate]; show 57 + m + 1 = _; omega
    clear b1 sK2 hB2 b3 pk3 sK4 pk9 f2 f4 K1 K2 K3
    refine ⟨fun σ H' => (∃ o12, σ = [some (.ref a), some (.ref p), some lv, some x, some (.ref Ln), some (.str tx), o6, some th, some (.int (57 + (m : Int))), some (.str li), some (.str la), some (.ref B4), o12]) ∧ Same K4 H', ⟨_, rfl, _, _, rfl, rfl, _, rfl, ite2 (fun q => ?_) (fun q => ?_)⟩, ?_⟩
    · have hm3 : m < 3 := by have := of_decide_eq_true q; omega
      have hli : li.length + 2 ≤ sizeLine := by have := lo1.2.1; rw [hsL]; omega
      have hla : la.length + 2 ≤ sizeLine := by have := lo2.2.1; rw [hsL]; omega
      refine ⟨_, rfl, ⟨_, rfl⟩, li, "/", rfl, rfl, by decide, hli, fun a1 na1 => ?_⟩
      have sA : Same K4 (upd K4 a1 (.lst ((Txt.split li "/").map V.str))) := same_new na1
      have hA : (upd K4 a1 (.lst ((Txt.split li "/").map V.str))) a1 = some (.lst (rows1.map V.str)) := by rw [← rj1]; exact upd_same
      generalize upd K4 a1 (.lst ((Txt.split li "/").map V.str)) = K5 at sA hA ⊢
      refine fun y dy ny ndy ney => make_room ny ndy (.inl hA) R1 lin1 who1 fun K6 s6' hY => ⟨rfl, ?_⟩
      refine ⟨_, rfl, ⟨_, rfl⟩, la, "/", rfl, rfl, by decide, hla, fun a2 na2 => ?_⟩
      have sA2 : Same K6 (upd K6 a2 (.lst ((Txt.split la "/").map V.str))) := same_new na2
      have hA2 : (upd K6 a2 (.lst ((Txt.split la "/").map V.str))) a2 = some (.lst (rows2.map V.str)) := by rw [← rj2]; exact upd_same
      generalize upd K6 a2 (.lst ((Txt.split la "/").map V.str)) = K7 at sA2 hA2 ⊢
      refine fun y2 dy2 ny2 ndy2 ney2 => make_room ny2 ndy2 (.inl hA2) R2 lin2 who2 fun K8 s8' hY2 => ⟨rfl, ?_⟩
      refine fun z dz nz ndz nez => ?_
      have s9 : Same K8 (upd (upd K8 dz (.own z)) z (.ins CV dz [])) := same_two nz ndz
      refine ⟨z, dz, y2, aD, rows2, wd2, rfl, upd_same, hY2.same s9, man2, eD, fun K9 hLv kp => ⟨rfl, ?_⟩⟩
      have s89 : Same K8 K9 := fun b o e => kp b o (s9 _ _ e) (ne_of_none e nz)
      have s49 : Same K4 K9 := (((sA.trans s6').trans sA2).trans s8').trans s89
      have hYr := hY.same ((sA2.trans s8').trans s89)
      have c1 : (Tr.nd rows2 wd2 []).cnt = 1 := by rw [cnt_nd]; rfl
      refine ⟨_, rfl, .ref y, .ref z, _, rfl, .inr ⟨y, rows1, wd1, rfl, hYr, man1, .inr ⟨_, hLv, .inr ⟨57 + m, congrArg V.int (by show (57 : Int) + m = ((57 + m : Nat) : Int); omega), by omega, by omega, fun h => by omega, fun _ v' KA sA' hv' => ?_⟩⟩⟩⟩
      have rl := row_lines rows1 wd1 (.nd rows2 wd2 []) (57 + m)
      have l0 : linesOf (.nd rows2 wd2 []) = [la] := by rw [linesOf_nd, e2]; rfl
      rw [e1, l0] at rl
      have hcr := rowT_cnt rows1 wd1 (.nd rows2 wd2 []) (57 + m)
      refine ⟨_, rfl, v', _, rfl, hv', by omega, fun l h => by rw [rl] at h; have := (lok l h).2.1; omega, fun KB sB => ?_⟩
      have sKB := (s49.trans sA').trans sB
      have hsm := sum_lines lok
      refine ⟨⟨_, rfl⟩, _, rfl, "\n", B4, _, rfl, rfl, .inl (SqL.of (sKB _ _ hB4)), by rw [l1]; omega, (rfl : scal _ _ = true), _, rfl, iteF' (by rw [rl]; simp) ⟨⟨_, rfl⟩, sKB⟩⟩
    · exact ⟨⟨_, rfl⟩, Same.refl _⟩
    rintro σ Hc ⟨⟨o12, rfl⟩, sc⟩
    have hBc := sc _ _ hB4
    have pkc := pk4.same sc
    have r0' : (m : Int) < 6 := r1
    generalize List.replicate (57 + m) li ++ [la] = ll at hBc lok llen
    clear hB4 pk4 sc
    refine ⟨fun σ H' => ∃ (B : Addr) (ls : List Str), σ = [some (.ref a), some (.ref p), some lv, some x, some (.ref Ln), some (.str tx), o6, some th, some (.int (57 + (m : Int))), some (.str li), some (.str la), some (.ref B), o12] ∧ H' B = some (.lst (ls.map V.str)) ∧ ls.length ≤ 200 ∧ ∀ l ∈ ls, LnOk l, ?_, ?_⟩
    · refine ⟨_, rfl, p, 3, rfl, pkc.1, by decide, by decide, fun r H' ra rb oD pD => ?_⟩
      have hBd := oD _ _ hBp hBc
      have pkd := pkc.trans pD
      refine ⟨(rfl : scal _ _ = true), _, rfl, ite2 (fun q => ?_) (fun q => ?_)⟩
      · obtain ⟨ys, ey, yl, ym⟩ := cutV_map V.str ll none (some (-1))
        obtain ⟨zs, ez, zl, zm⟩ := cutV_map V.str ll (some (-1)) none
        refine ⟨_, rfl, nopart_of ⟨_, rfl, _, rfl, B4, _, rfl, SqL.of hBd, fun B5 f5 => ?_⟩⟩
        have sX : Same H' (upd H' B5 (.lst (cutV (ll.map V.str) none (some (-1))))) := same_new f5
        have hX : (upd H' B5 (.lst (cutV (ll.map V.str) none (some (-1))))) B5 = some (.lst (ys.map V.str)) := by rw [ey]; exact upd_same
        generalize upd H' B5 (.lst (cutV (ll.map V.str) none (some (-1)))) = Ga at sX hX ⊢
        have pka := pkd.same sX
        have n5 := (pkd.1.apart f5).1
        refine ⟨_, rfl, _, rfl, _, rfl, nopart_of ⟨B4, _, rfl, SqL.of (sX _ _ hBd), fun B6 f6 => ?_⟩⟩
        have sY : Same Ga (upd Ga B6 (.lst (cutV (ll.map V.str) (some (-1)) none))) := same_new f6
        have hY : (upd Ga B6 (.lst (cutV (ll.map V.str) (some (-1)) none))) B6 = some (.lst (zs.map V.str)) := by rw [ez]; exact upd_same
        generalize upd Ga B6 (.lst (cutV (ll.map V.str) (some (-1)) none)) = Gb at sY hY ⊢
        have n6 := (pka.1.apart f6).1
        have pkb := pka.same sY
        refine ⟨_, rfl, p, 3, rfl, pkb.1, by decide, by decide, fun r2 Gc rc rd oE pE => ?_⟩
        have hYc := oE _ _ n6 hY
        have hXc := oE _ _ n5 (sY _ _ hX)
        obtain ⟨v2, rfl⟩ := Int.eq_ofNat_of_zero_le rc
        have hv2 : v2 < 3 := by omega
        have hzl : zs.length * v2 ≤ 64 * 2 := Nat.mul_le_mul (by omega) (by omega)
        refine ⟨B6, _, _, rfl, rfl, hYc, by omega, by omega, by rw [hsL, List.length_map, Int.toNat_natCast]; omega, fun B7 f7 => ?_⟩
        have eF : (List.replicate (v2 : Int).toNat (zs.map V.str)).flatten = ((List.replicate v2 zs).flatten).map V.str := by
          rw [Int.toNat_natCast, List.map_flatten, List.map_replicate]
        rw [eF]
        have lF : ((List.replicate v2 zs).flatten).length ≤ 128 := by
          rw [List.length_flatten, List.map_replicate, List.sum_replicate_nat, Nat.mul_comm]; omega
        refine ⟨B5, B7, _, _, rfl, rfl, (upd_ne (ne_of_none hXc f7)).trans hXc, upd_same, by rw [hsL, List.length_map, List.length_map]; omega, fun B8 f8 => ⟨B8, ys ++ (List.replicate v2 zs).flatten, rfl, ?_, by rw [List.length_append]; omega, fun l h => ?_⟩⟩
        · rw [upd_same, List.map_append]
        · rcases List.mem_append.mp h with h | h
          · exact lok l (ym l h)
          · obtain ⟨q1, hq1, hl1⟩ := List.mem_flatten.mp h
            rw [(List.mem_replicate.mp hq1).2] at hl1
            exact lok l (zm l hl1)
      · exact ⟨B4, ll, rfl, hBd, by omega, lok⟩
    rintro σ He ⟨B, ls, rfl, hB, hl200, hok⟩
    have hs1 := sum_lines hok
    have hs2 := text_len hok
    refine ⟨⟨_, rfl⟩, _, rfl, "\n", B, ls, rfl, rfl, .inl (SqL.of hB), by rw [l1]; omega, _, rfl, by omega, fun H' _ => ?_⟩
    exact k6 H'
end
end K88
end
section
set_option Elab.async false
set_option linter.all false
set_option maxRecDepth 100000
set_option maxHeartbeats 2000000
namespace K88
open PySem L2 PyProof.Rows
/-- what the top has left, and the law's promise over it -/
theorem all_mk {P : Program} {w : World} {K : PySem.W.Frag} {h : Heap} {mg : Str → Option Value} {fa CR CV f_is_whole f_is_row f__is_line f__need_lines f__many f__is_whole_room f__places f__neighbours f_Room_init f_need_room f_Level_init f_need_level f_need_row f_row_of f__lines_in f__room_in f__lines_of f_write_level f__built f_read_level f_Room_eq f_Level_eq f__law_pool f__law_draw f__law_pick f__law_mark f__law_room_of f__law_room_drawn f__law_small f__law_tree f__law_level_drawn f__law_level f__law_lines f__law_mouths f__law_made f__law_due f__law_told f__law_is_due f__law_changed f_law CB fB CE fE CN fN CX fX CT aD : Addr} {d_is_whole d_is_row d__is_line d__need_lines d__many d__is_whole_room d__places d__neighbours d_Room_init d_need_room d_Level_init d_need_level d_need_row d_row_of d__lines_in d__room_in d__lines_of d_write_level d__built d_read_level d_Room_eq d_Level_eq d__law_pool d__law_draw d__law_pick d__law_mark d__law_room_of d__law_room_drawn d__law_small d__law_tree d__law_level_drawn d__law_level d__law_lines d__law_mouths d__law_made d__law_due d__law_told d__law_is_due d__law_changed d_law : FuncData} {t_MARKS t_MOST_LINES t_MOST_ACROSS t_MOST_CELLS t_MOST_CRATES t_MOST_KEYS_AND_DOORS t_MOST_ROOMS t_MOST_IN_ROW : Tok} {oD : Option Addr} {usD : Array Value} {nD : Nat} {slD : Array (Option Value)}
    (X : K.In h) (G : h.Ns mainGlobals mg) (hfa : mg "law" = some (.ref fa))
    (aC_Room : PySem.W.nsIn K mainGlobals "Room" = some (some (.ref CR))) (cC_Room : Cls K CR)
    (n_Room_rows : NoAttr K CR "rows")
    (n_Room_cells : NoAttr K CR "cells")
    (n_Room_entry : NoAttr K CR "entry")
    (n_Room_mouths : NoAttr K CR "mouths")
    (n_Room_crates : NoAttr K CR "crates")
    (n_Room_plates : NoAttr K CR "plates")
    (n_Room_near : NoAttr K CR "near")
    (aC_Level : PySem.W.nsIn K mainGlobals "Level" = some (some (.ref CV))) (cC_Level : Cls K CV)
    (n_Level_room : NoAttr K CV "room")
    (n_Level_children : NoAttr K CV "children")
    (n_Level_rooms : NoAttr K CV "rooms")
    (n_Level_depth : NoAttr K CV "depth")
    (a_is_whole : PySem.W.nsIn K mainGlobals "is_whole" = some (some (.ref f_is_whole))) (F_is_whole : Fun K "is_whole" "is_whole" s_is_whole f_is_whole d_is_whole)
    (a_is_row : PySem.W.nsIn K mainGlobals "is_row" = some (some (.ref f_is_row))) (F_is_row : Fun K "is_row" "is_row" s_is_row f_is_row d_is_row)
    (a__is_line : PySem.W.nsIn K mainGlobals "_is_line" = some (some (.ref f__is_line))) (F__is_line : Fun K "_is_line" "_is_line" s__is_line f__is_line d__is_line)
    (a__need_lines : PySem.W.nsIn K mainGlobals "_need_lines" = some (some (.ref f__need_lines))) (F__need_lines : Fun K "_need_lines" "_need_lines" s__need_lines f__need_lines d__need_lines)
    (a__many : PySem.W.nsIn K mainGlobals "_many" = some (some (.ref f__many))) (F__many : Fun K "_many" "_many" s__many f__many d__many)
    (a__is_whole_room : PySem.W.nsIn K mainGlobals "_is_whole_room" = some (some (.ref f__is_whole_room))) (F__is_whole_room : Fun K "_is_whole_room" "_is_whole_room" s__is_whole_room f__is_whole_room d__is_whole_room)
    (a__places : PySem.W.nsIn K mainGlobals "_places" = some (some (.ref f__places))) (F__places : Fun K "_places" "_places" s__places f__places d__places)
    (a__neighbours : PySem.W.nsIn K mainGlobals "_neighbours" = some (some (.ref f__neighbours))) (F__neighbours : Fun K "_neighbours" "_neighbours" s__neighbours f__neighbours d__neighbours)
    (mC_Room : L2.Mk K CR f_Room_init)
    (F_Room_init : Fun K "__init__" "Room.__init__" s_Room_init f_Room_init d_Room_init)
    (a_need_room : PySem.W.nsIn K mainGlobals "need_room" = some (some (.ref f_need_room))) (F_need_room : Fun K "need_room" "need_room" s_need_room f_need_room d_need_room)
    (mC_Level : L2.Mk K CV f_Level_init)
    (F_Level_init : FunD K "__init__" "Level.__init__" (defArgs s_Level_init) (defBody s_Level_init) (defScope s_Level_init) [.ref aD] [] f_Level_init d_Level_init)
    (a_need_level : PySem.W.nsIn K mainGlobals "need_level" = some (some (.ref f_need_level))) (F_need_level : Fun K "need_level" "need_level" s_need_level f_need_level d_need_level)
    (a_need_row : PySem.W.nsIn K mainGlobals "need_row" = some (some (.ref f_need_row))) (F_need_row : Fun K "need_row" "need_row" s_need_row f_need_row d_need_row)
    (a_row_of : PySem.W.nsIn K mainGlobals "row_of" = some (some (.ref f_row_of))) (F_row_of : Fun K "row_of" "row_of" s_row_of f_row_of d_row_of)
    (a__lines_in : PySem.W.nsIn K mainGlobals "_lines_in" = some (some (.ref f__lines_in))) (F__lines_in : Fun K "_lines_in" "_lines_in" s__lines_in f__lines_in d__lines_in)
    (a__room_in : PySem.W.nsIn K mainGlobals "_room_in" = some (some (.ref f__room_in))) (F__room_in : Fun K "_room_in" "_room_in" s__room_in f__room_in d__room_in)
    (a__lines_of : PySem.W.nsIn K mainGlobals "_lines_of" = some (some (.ref f__lines_of))) (F__lines_of : Fun K "_lines_of" "_lines_of" s__lines_of f__lines_of d__lines_of)
    (a_write_level : PySem.W.nsIn K mainGlobals "write_level" = some (some (.ref f_write_level))) (F_write_level : Fun K "write_level" "write_level" s_write_level f_write_level d_write_level)
    (a__built : PySem.W.nsIn K mainGlobals "_built" = some (some (.ref f__built))) (F__built : Fun K "_built" "_built" s__built f__built d__built)
    (a_read_level : PySem.W.nsIn K mainGlobals "read_level" = some (some (.ref f_read_level))) (F_read_level : Fun K "read_level" "read_level" s_read_level f_read_level d_read_level)
    (qC_Room : EqC K CR f_Room_eq)
    (F_Room_eq : Fun K "__eq__" "Room.__eq__" s_Room_eq f_Room_eq d_Room_eq)
    (qC_Level : EqC K CV f_Level_eq)
    (F_Level_eq : Fun K "__eq__" "Level.__eq__" s_Level_eq f_Level_eq d_Level_eq)
    (a__law_pool : PySem.W.nsIn K mainGlobals "_law_pool" = some (some (.ref f__law_pool))) (F__law_pool : Fun K "_law_pool" "_law_pool" s__law_pool f__law_pool d__law_pool)
    (a__law_draw : PySem.W.nsIn K mainGlobals "_law_draw" = some (some (.ref f__law_draw))) (F__law_draw : Fun K "_law_draw" "_law_draw" s__law_draw f__law_draw d__law_draw)
    (a__law_pick : PySem.W.nsIn K mainGlobals "_law_pick" = some (some (.ref f__law_pick))) (F__law_pick : Fun K "_law_pick" "_law_pick" s__law_pick f__law_pick d__law_pick)
    (a__law_mark : PySem.W.nsIn K mainGlobals "_law_mark" = some (some (.ref f__law_mark))) (F__law_mark : Fun K "_law_mark" "_law_mark" s__law_mark f__law_mark d__law_mark)
    (a__law_room_of : PySem.W.nsIn K mainGlobals "_law_room_of" = some (some (.ref f__law_room_of))) (F__law_room_of : Fun K "_law_room_of" "_law_room_of" s__law_room_of f__law_room_of d__law_room_of)
    (a__law_room_drawn : PySem.W.nsIn K mainGlobals "_law_room_drawn" = some (some (.ref f__law_room_drawn))) (F__law_room_drawn : Fun K "_law_room_drawn" "_law_room_drawn" s__law_room_drawn f__law_room_drawn d__law_room_drawn)
    (a__law_small : PySem.W.nsIn K mainGlobals "_law_small" = some (some (.ref f__law_small))) (F__law_small : Fun K "_law_small" "_law_small" s__law_small f__law_small d__law_small)
    (a__law_tree : PySem.W.nsIn K mainGlobals "_law_tree" = some (some (.ref f__law_tree))) (F__law_tree : Fun K "_law_tree" "_law_tree" s__law_tree f__law_tree d__law_tree)
    (a__law_level_drawn : PySem.W.nsIn K mainGlobals "_law_level_drawn" = some (some (.ref f__law_level_drawn))) (F__law_level_drawn : Fun K "_law_level_drawn" "_law_level_drawn" s__law_level_drawn f__law_level_drawn d__law_level_drawn)
    (a__law_level : PySem.W.nsIn K mainGlobals "_law_level" = some (some (.ref f__law_level))) (F__law_level : Fun K "_law_level" "_law_level" s__law_level f__law_level d__law_level)
    (a__law_lines : PySem.W.nsIn K mainGlobals "_law_lines" = some (some (.ref f__law_lines))) (F__law_lines : Fun K "_law_lines" "_law_lines" s__law_lines f__law_lines d__law_lines)
    (a__law_mouths : PySem.W.nsIn K mainGlobals "_law_mouths" = some (some (.ref f__law_mouths))) (F__law_mouths : Fun K "_law_mouths" "_law_mouths" s__law_mouths f__law_mouths d__law_mouths)
    (a__law_made : PySem.W.nsIn K mainGlobals "_law_made" = some (some (.ref f__law_made))) (F__law_made : Fun K "_law_made" "_law_made" s__law_made f__law_made d__law_made)
    (a__law_due : PySem.W.nsIn K mainGlobals "_law_due" = some (some (.ref f__law_due))) (F__law_due : Fun K "_law_due" "_law_due" s__law_due f__law_due d__law_due)
    (a__law_told : PySem.W.nsIn K mainGlobals "_law_told" = some (some (.ref f__law_told))) (F__law_told : Fun K "_law_told" "_law_told" s__law_told f__law_told d__law_told)
    (a__law_is_due : PySem.W.nsIn K mainGlobals "_law_is_due" = some (some (.ref f__law_is_due))) (F__law_is_due : Fun K "_law_is_due" "_law_is_due" s__law_is_due f__law_is_due d__law_is_due)
    (a__law_changed : PySem.W.nsIn K mainGlobals "_law_changed" = some (some (.ref f__law_changed))) (F__law_changed : Fun K "_law_changed" "_law_changed" s__law_changed f__law_changed d__law_changed)
    (a_law : PySem.W.nsIn K mainGlobals "law" = some (some (.ref f_law))) (F_law : Fun K "law" "law" s_law f_law d_law)
    (x_BadRoom : RX.ErrT P K mg "BadRoom" "value" CB fB)
    (x_BadLevel : RX.ErrT P K mg "BadLevel" "value" CE fE)
    (x_BadCount : RX.ErrT P K mg "BadCount" "value" CN fN)
    (x_BadText : RX.ErrT P K mg "BadText" "at" CX fX)
    (z_isinstance : PySem.W.nsIn K mainGlobals "isinstance" = some none)
    (z_int : PySem.W.nsIn K mainGlobals "int" = some none)
    (z_bool : PySem.W.nsIn K mainGlobals "bool" = some none)
    (z_list : PySem.W.nsIn K mainGlobals "list" = some none)
    (z_len : PySem.W.nsIn K mainGlobals "len" = some none)
    (z_range : PySem.W.nsIn K mainGlobals "range" = some none)
    (z_abs : PySem.W.nsIn K mainGlobals "abs" = some none)
    (z_tuple : PySem.W.nsIn K mainGlobals "tuple" = some none)
    (z_str : PySem.W.nsIn K mainGlobals "str" = some none)
    (z_repr : PySem.W.nsIn K mainGlobals "repr" = some none)
    (z_max : PySem.W.nsIn K mainGlobals "max" = some none)
    (z_sum : PySem.W.nsIn K mainGlobals "sum" = some none)
    (z_enumerate : PySem.W.nsIn K mainGlobals "enumerate" = some none)
    (z_min : PySem.W.nsIn K mainGlobals "min" = some none)
    (k_MARKS : PySem.W.nsIn K mainGlobals "MARKS" = some (some (.str "#.^v<>abABoxpg*@12" t_MARKS)))
    (k_MOST_LINES : PySem.W.nsIn K mainGlobals "MOST_LINES" = some (some (.int 5 t_MOST_LINES)))
    (k_MOST_ACROSS : PySem.W.nsIn K mainGlobals "MOST_ACROSS" = some (some (.int 6 t_MOST_ACROSS)))
    (k_MOST_CELLS : PySem.W.nsIn K mainGlobals "MOST_CELLS" = some (some (.int 24 t_MOST_CELLS)))
    (k_MOST_CRATES : PySem.W.nsIn K mainGlobals "MOST_CRATES" = some (some (.int 3 t_MOST_CRATES)))
    (k_MOST_KEYS_AND_DOORS : PySem.W.nsIn K mainGlobals "MOST_KEYS_AND_DOORS" = some (some (.int 4 t_MOST_KEYS_AND_DOORS)))
    (k_MOST_ROOMS : PySem.W.nsIn K mainGlobals "MOST_ROOMS" = some (some (.int 60 t_MOST_ROOMS)))
    (k_MOST_IN_ROW : PySem.W.nsIn K mainGlobals "MOST_IN_ROW" = some (some (.int 59 t_MOST_IN_ROW)))
    (x_TooMany : L2.ErrN K mg "TooMany" CT)
    (ic_Room : C8.InsC K CR)
    (ic_Level : C8.InsC K CV)
    (kn_Room : L2.KitNo K CR)
    (kn_Level : L2.KitNo K CV)
    (ko_Level_Room : PySem.W.kitOne K (.ref CV) (.ref CR) = some false)
    (ks_Level_Room : PySem.W.subIn K (.ref CV) (.ref CR) = some false)
    (ko_Room_Level : PySem.W.kitOne K (.ref CR) (.ref CV) = some false)
    (ks_Room_Level : PySem.W.subIn K (.ref CR) (.ref CV) = some false)
    (lD : K.lookup aD = some ⟨.type "tuple", oD, .seq usD nD, slD⟩)
    (rD : usD.toList = [])
    (ex_tx : PySem.W.exmOne K (.ref CT) (.ref CX) = some false)
    (kf_vs : PySem.W.kitOne K (.ref CV) (.type "str") = some false) :
    ∃ fd : FuncData, (∀ (s : Shared) (u : Value), BindsTo s fd ⟨[u], []⟩ [("script", u)]) ∧ ∀ base : Heap, K.In base → base.Ns mainGlobals mg → FnG P w K mg base (CXe P w) 190 fa fd ["script"] (spLaw K) := by
  have e := hfa.symm.trans (PySem.W.mg_of X G a_law)
  cases e
  have B0 : Blt mg := ⟨PySem.W.mg_none_of X G z_isinstance, PySem.W.mg_none_of X G z_int, PySem.W.mg_none_of X G z_bool, PySem.W.mg_none_of X G z_list, PySem.W.mg_none_of X G z_len, PySem.W.mg_none_of X G z_range, PySem.W.mg_none_of X G z_abs, PySem.W.mg_none_of X G z_tuple, PySem.W.mg_none_of X G z_str, PySem.W.mg_none_of X G z_repr⟩
  have B : Rb mg := { toBlt := B0, n_max := PySem.W.mg_none_of X G z_max, n_sum := PySem.W.mg_none_of X G z_sum, n_enumerate := PySem.W.mg_none_of X G z_enumerate, k_MARKS := ⟨_, PySem.W.mg_of X G k_MARKS⟩, k_MOST_LINES := ⟨_, PySem.W.mg_of X G k_MOST_LINES⟩, k_MOST_ACROSS := ⟨_, PySem.W.mg_of X G k_MOST_ACROSS⟩, k_MOST_CELLS := ⟨_, PySem.W.mg_of X G k_MOST_CELLS⟩, k_MOST_CRATES := ⟨_, PySem.W.mg_of X G k_MOST_CRATES⟩, k_MOST_KEYS_AND_DOORS := ⟨_, PySem.W.mg_of X G k_MOST_KEYS_AND_DOORS⟩ }
  have LB : LvB mg := { n_len := PySem.W.mg_none_of X G z_len, n_range := PySem.W.mg_none_of X G z_range, n_tuple := PySem.W.mg_none_of X G z_tuple, n_list := PySem.W.mg_none_of X G z_list, n_min := PySem.W.mg_none_of X G z_min, n_sum := PySem.W.mg_none_of X G z_sum, n_max := PySem.W.mg_none_of X G z_max, n_isinstance := PySem.W.mg_none_of X G z_isinstance, n_enumerate := PySem.W.mg_none_of X G z_enumerate }
  have RT : RoomT P K mg CB fB := { toRb := B, x_BadRoom := x_BadRoom }
  have LT : LevT P w K mg CR CV CB fB CE fE CT := { toRoomT := RT, n_min := PySem.W.mg_none_of X G z_min, icR := ic_Room, icV := ic_Level, clR := cC_Room, clV := cC_Level, g_Room := PySem.W.mg_of X G aC_Room, g_Level := PySem.W.mg_of X G aC_Level, x_BadLevel := x_BadLevel, x_TooMany := x_TooMany, n_mouths := n_Room_mouths, n_room := n_Level_room, n_children := n_Level_children, n_rooms := n_Level_rooms, n_depth := n_Level_depth, k_MOST_ROOMS := ⟨_, PySem.W.mg_of X G k_MOST_ROOMS⟩ }
  have WT : RowT P w K mg CR CV CB fB CE fE CT CN fN := { toLevT := LT, x_BadCount := x_BadCount, k_MOST_IN_ROW := ⟨_, PySem.W.mg_of X G k_MOST_IN_ROW⟩ }
  have TT : TxT P w K mg CR CV CB fB CE fE CT CX fX := { toLevT := LT, x_BadText := x_BadText }
  have LI : LvI mg := { toLvB := LB, n_int := PySem.W.mg_none_of X G z_int }
  refine ⟨d_law, ?_, fun base _ _ => ?_⟩
  · obtain ⟨oc, od, kV, doc, pm, an, cdv, ct, osl, rfl, lk, hcd⟩ := F_law.ex
    exact fun s v => .of_eq rfl
  have b_is_whole := F_is_whole.binds (ps := ["thing"]) fun _ _ _ _ _ _ us hl => match us, hl with | [_], _ => rfl
  have b_is_row := F_is_row.binds (ps := ["thing"]) fun _ _ _ _ _ _ us hl => match us, hl with | [_], _ => rfl
  have b__is_line := F__is_line.binds (ps := ["thing"]) fun _ _ _ _ _ _ us hl => match us, hl with | [_], _ => rfl
  have b__need_lines := F__need_lines.binds (ps := ["rows"]) fun _ _ _ _ _ _ us hl => match us, hl with | [_], _ => rfl
  have b__many := F__many.binds (ps := ["cells", "marks"]) fun _ _ _ _ _ _ us hl => match us, hl with | [_, _], _ => rfl
  have b__is_whole_room := F__is_whole_room.binds (ps := ["cells"]) fun _ _ _ _ _ _ us hl => match us, hl with | [_], _ => rfl
  have b__places := F__places.binds (ps := ["cells", "mark"]) fun _ _ _ _ _ _ us hl => match us, hl with | [_, _], _ => rfl
  have b__neighbours := F__neighbours.binds (ps := ["rows", "down", "across"]) fun _ _ _ _ _ _ us hl => match us, hl with | [_, _, _], _ => rfl
  have b_Room_init := F_Room_init.binds (ps := ["self", "rows"]) fun _ _ _ _ _ _ us hl => match us, hl with | [_, _], _ => rfl
  have b_need_room := F_need_room.binds (ps := ["room"]) fun _ _ _ _ _ _ us hl => match us, hl with | [_], _ => rfl
  obtain ⟨ds0_Level_init, v0_Level_init, b0_Level_init⟩ := F_Level_init.binds1 (ps := ["self", "room", "children"]) 3 1 (by simp) rfl fun T kV doc pm an cdv ct us its h1 h2 => match us, its, h1, h2 with | [_, _, _], [_], _, _ => ⟨_, rfl, rfl⟩
  obtain ⟨ds1_Level_init, v1_Level_init, b1_Level_init⟩ := F_Level_init.binds1 (ps := ["self", "room", "children"]) 2 0 (by simp) rfl fun T kV doc pm an cdv ct us its h1 h2 => match us, its, h1, h2 with | [_, _], [_], _, _ => ⟨_, rfl, rfl⟩
  have b_need_level := F_need_level.binds (ps := ["level"]) fun _ _ _ _ _ _ us hl => match us, hl with | [_], _ => rfl
  have b_need_row := F_need_row.binds (ps := ["room", "end"]) fun _ _ _ _ _ _ us hl => match us, hl with | [_, _], _ => rfl
  have b_row_of := F_row_of.binds (ps := ["room", "end", "number"]) fun _ _ _ _ _ _ us hl => match us, hl with | [_, _, _], _ => rfl
  have b__lines_in := F__lines_in.binds (ps := ["text"]) fun _ _ _ _ _ _ us hl => match us, hl with | [_], _ => rfl
  have b__room_in := F__room_in.binds (ps := ["line"]) fun _ _ _ _ _ _ us hl => match us, hl with | [_], _ => rfl
  have b__lines_of := F__lines_of.binds (ps := ["level"]) fun _ _ _ _ _ _ us hl => match us, hl with | [_], _ => rfl
  have b_write_level := F_write_level.binds (ps := ["level"]) fun _ _ _ _ _ _ us hl => match us, hl with | [_], _ => rfl
  have b__built := F__built.binds (ps := ["rooms"]) fun _ _ _ _ _ _ us hl => match us, hl with | [_], _ => rfl
  have b_read_level := F_read_level.binds (ps := ["text"]) fun _ _ _ _ _ _ us hl => match us, hl with | [_], _ => rfl
  have b_Room_eq := F_Room_eq.binds (ps := ["self", "other"]) fun _ _ _ _ _ _ us hl => match us, hl with | [_, _], _ => rfl
  have b_Level_eq := F_Level_eq.binds (ps := ["self", "other"]) fun _ _ _ _ _ _ us hl => match us, hl with | [_, _], _ => rfl
  have b__law_pool := F__law_pool.binds (ps := ["script"]) fun _ _ _ _ _ _ us hl => match us, hl with | [_], _ => rfl
  have b__law_draw := F__law_draw.binds (ps := ["pool", "many"]) fun _ _ _ _ _ _ us hl => match us, hl with | [_, _], _ => rfl
  have b__law_pick := F__law_pick.binds (ps := ["pool", "items"]) fun _ _ _ _ _ _ us hl => match us, hl with | [_, _], _ => rfl
  have b__law_mark := F__law_mark.binds (ps := ["pool", "marks", "crates", "keys"]) fun _ _ _ _ _ _ us hl => match us, hl with | [_, _, _, _], _ => rfl
  have b__law_room_of := F__law_room_of.binds (ps := ["pool", "high", "wide", "mouths"]) fun _ _ _ _ _ _ us hl => match us, hl with | [_, _, _, _], _ => rfl
  have b__law_room_drawn := F__law_room_drawn.binds (ps := ["pool", "mouths"]) fun _ _ _ _ _ _ us hl => match us, hl with | [_, _], _ => rfl
  have b__law_small := F__law_small.binds (ps := ["pool", "mouths"]) fun _ _ _ _ _ _ us hl => match us, hl with | [_, _], _ => rfl
  have b__law_tree := F__law_tree.binds (ps := ["pool", "most", "is_small"]) fun _ _ _ _ _ _ us hl => match us, hl with | [_, _, _], _ => rfl
  have b__law_level_drawn := F__law_level_drawn.binds (ps := ["pool", "most"]) fun _ _ _ _ _ _ us hl => match us, hl with | [_, _], _ => rfl
  have b__law_level := F__law_level.binds (ps := ["level"]) fun _ _ _ _ _ _ us hl => match us, hl with | [_], _ => rfl
  have b__law_lines := F__law_lines.binds (ps := ["level"]) fun _ _ _ _ _ _ us hl => match us, hl with | [_], _ => rfl
  have b__law_mouths := F__law_mouths.binds (ps := ["line"]) fun _ _ _ _ _ _ us hl => match us, hl with | [_], _ => rfl
  have b__law_made := F__law_made.binds (ps := ["lines"]) fun _ _ _ _ _ _ us hl => match us, hl with | [_], _ => rfl
  have b__law_due := F__law_due.binds (ps := ["text"]) fun _ _ _ _ _ _ us hl => match us, hl with | [_], _ => rfl
  have b__law_told := F__law_told.binds (ps := ["text"]) fun _ _ _ _ _ _ us hl => match us, hl with | [_], _ => rfl
  have b__law_is_due := F__law_is_due.binds (ps := ["text"]) fun _ _ _ _ _ _ us hl => match us, hl with | [_], _ => rfl
  have b__law_changed := F__law_changed.binds (ps := ["pool", "lines"]) fun _ _ _ _ _ _ us hl => match us, hl with | [_, _], _ => rfl
  have c_is_whole : CalG P w K mg base 1 "is_whole" (spWhole K) := ⟨f_is_whole, d_is_whole, _, ok_whole F_is_whole B0, PySem.W.mg_of X G a_is_whole, F_is_whole.kp, b_is_whole⟩
  have c_is_row : CalG P w K mg base 1 "is_row" (spIsRow K) := ⟨f_is_row, d_is_row, _, ok_is_row F_is_row B, PySem.W.mg_of X G a_is_row, F_is_row.kp, b_is_row⟩
  have c__is_line : CalG P w K mg base 1 "_is_line" (spIsLine K) := ⟨f__is_line, d__is_line, _, ok_is_line F__is_line B, PySem.W.mg_of X G a__is_line, F__is_line.kp, b__is_line⟩
  have c__need_lines : CalG P w K mg base 3 "_need_lines" (spNeed K CB) := ⟨f__need_lines, d__need_lines, _, ok_need F__need_lines RT c_is_row c__is_line, PySem.W.mg_of X G a__need_lines, F__need_lines.kp, b__need_lines⟩
  have c__many : CalG P w K mg base 1 "_many" (spMany) := ⟨f__many, d__many, _, ok_many F__many B, PySem.W.mg_of X G a__many, F__many.kp, b__many⟩
  have c__is_whole_room : CalG P w K mg base 2 "_is_whole_room" (spWR) := ⟨f__is_whole_room, d__is_whole_room, _, ok_whole_room F__is_whole_room B c__many, PySem.W.mg_of X G a__is_whole_room, F__is_whole_room.kp, b__is_whole_room⟩
  have c__places : CalG P w K mg base 1 "_places" (spPlaces) := ⟨f__places, d__places, _, ok_places F__places B, PySem.W.mg_of X G a__places, F__places.kp, b__places⟩
  have c__neighbours : CalG P w K mg base 1 "_neighbours" (spNeigh K) := ⟨f__neighbours, d__neighbours, _, ok_neigh F__neighbours B, PySem.W.mg_of X G a__neighbours, F__neighbours.kp, b__neighbours⟩
  have hI_Room := ok_room_init (w := w) (base := base) F_Room_init RT cC_Room n_Room_rows n_Room_cells n_Room_entry n_Room_mouths n_Room_crates n_Room_plates n_Room_near c__need_lines c__is_whole_room c__many c__places c__neighbours
  have m_Room : MakG P w K mg base 4 "Room" CR (spRoomInit K CR CB) [] := ⟨f_Room_init, d_Room_init, _, [], hI_Room, mC_Room, PySem.W.mg_of X G aC_Room, b_Room_init, .nil⟩
  have c_need_room : CalG P w K mg base 3 "need_room" (spNeedC K CR CB) := ⟨f_need_room, d_need_room, _, ok_needM F_need_room LT, PySem.W.mg_of X G a_need_room, F_need_room.kp, b_need_room⟩
  have hI_Level := ok_linit (w := w) (base := base) F_Level_init LT c_need_room c_is_row
  have m_Level : MakG P w K mg base 4 "Level" CV (spLInit K CR CV CT) [] := ⟨f_Level_init, d_Level_init, _, ds0_Level_init, hI_Level, mC_Level, PySem.W.mg_of X G aC_Level, b0_Level_init, v0_Level_init⟩
  have m_Level1 : MakG P w K mg base 4 "Level" CV (spLInit K CR CV CT) [.ref aD] := ⟨f_Level_init, d_Level_init, _, ds1_Level_init, hI_Level, mC_Level, PySem.W.mg_of X G aC_Level, b1_Level_init, v1_Level_init⟩
  have eD : EmptyC K aD := ⟨oD, usD, nD, slD, lD, rD⟩
  have hI0_Level := ok_linit0 (w := w) (base := base) F_Level_init LT c_need_room c_is_row
  have m_Level1 : MakG P w K mg base 4 "Level" CV (spLInit0 K CR CV) [.ref aD] := ⟨f_Level_init, d_Level_init, _, ds1_Level_init, hI0_Level, mC_Level, PySem.W.mg_of X G aC_Level, b1_Level_init, v1_Level_init⟩
  have c_need_level : CalG P w K mg base 3 "need_level" (spNeedC K CV CE) := ⟨f_need_level, d_need_level, _, ok_needL F_need_level LT, PySem.W.mg_of X G a_need_level, F_need_level.kp, b_need_level⟩
  have c_need_row : CalG P w K mg base 4 "need_row" (spNR K CR CV CB CE) := ⟨f_need_row, d_need_row, _, ok_nr F_need_row LT c_need_room c_need_level, PySem.W.mg_of X G a_need_row, F_need_row.kp, b_need_row⟩
  have c_row_of : CalG P w K mg base 6 "row_of" (spRow K CR CV CB CE CT CN) := ⟨f_row_of, d_row_of, _, ok_row F_row_of WT c_is_whole c_need_row m_Level, PySem.W.mg_of X G a_row_of, F_row_of.kp, b_row_of⟩
  have c__lines_in : CalG P w K mg base 3 "_lines_in" (spLinesIn K CX) := ⟨f__lines_in, d__lines_in, _, ok_lines_in F__lines_in TT, PySem.W.mg_of X G a__lines_in, F__lines_in.kp, b__lines_in⟩
  have c__room_in : CalG P w K mg base 6 "_room_in" (spRoomIn CR) := ⟨f__room_in, d__room_in, _, ok_room_in F__room_in TT m_Room, PySem.W.mg_of X G a__room_in, F__room_in.kp, b__room_in⟩
  have c__lines_of : CalG P w K mg base 61 "_lines_of" (atMost 59 (spLinesOf K CR CV)) := cal_most (r := 1) (N := 59) (PySem.W.mg_of X G a__lines_of) F__lines_of.kp b__lines_of (fun n c_self => ok_lines_of F__lines_of LT n_Room_rows c_self)
  have c_write_level : CalG P w K mg base 62 "write_level" (spWrite K CR CV) := ⟨f_write_level, d_write_level, _, ok_write F_write_level LT c_need_level c__lines_of, PySem.W.mg_of X G a_write_level, F_write_level.kp, b_write_level⟩
  have c__built : CalG P w K mg base 6 "_built" (spBuild K CR CV CT) := ⟨f__built, d__built, _, ok_build F__built TT LB.n_range m_Level, PySem.W.mg_of X G a__built, F__built.kp, b__built⟩
  have c_read_level : CalG P w K mg base 7 "read_level" (spRead K CR CV CT CX) := ⟨f_read_level, d_read_level, _, ok_read F_read_level TT c__lines_in c__room_in c__built, PySem.W.mg_of X G a_read_level, F_read_level.kp, b_read_level⟩
  have q_Room : FnG P w K mg base (CXe P w) 1 f_Room_eq d_Room_eq ["self", "other"] (spEqB (RmB K CR)) := ok_reqB F_Room_eq LT n_Room_rows
  have q_Level : FnG P w K mg base (CXe P w) 182 f_Level_eq d_Level_eq ["self", "other"] (spEqB (LvQ K CR CV 60)) := okB_levels F_Level_eq LT ⟨qC_Room, b_Room_eq, q_Room, qC_Level, b_Level_eq⟩ 60
  have c__law_pool : CalG P w K mg base 1 "_law_pool" (spPool K) := ⟨f__law_pool, d__law_pool, _, ok_pool F__law_pool B0, PySem.W.mg_of X G a__law_pool, F__law_pool.kp, b__law_pool⟩
  have c__law_draw : CalG P w K mg base 1 "_law_draw" (spDraw K) := ⟨f__law_draw, d__law_draw, _, ok_draw F__law_draw B0, PySem.W.mg_of X G a__law_draw, F__law_draw.kp, b__law_draw⟩
  have c__law_pick : CalG P w K mg base 2 "_law_pick" (spPk K) := ⟨f__law_pick, d__law_pick, _, ok_pk F__law_pick B0 c__law_draw, PySem.W.mg_of X G a__law_pick, F__law_pick.kp, b__law_pick⟩
  have c__law_mark : CalG P w K mg base 3 "_law_mark" (spMark K) := ⟨f__law_mark, d__law_mark, _, ok_mark F__law_mark B c__law_pick, PySem.W.mg_of X G a__law_mark, F__law_mark.kp, b__law_mark⟩
  have c__law_room_of : CalG P w K mg base 4 "_law_room_of" (spRoomOf K) := ⟨f__law_room_of, d__law_room_of, _, ok_room_of F__law_room_of B c__law_draw c__law_pick c__law_mark, PySem.W.mg_of X G a__law_room_of, F__law_room_of.kp, b__law_room_of⟩
  have c__law_room_drawn : CalG P w K mg base 5 "_law_room_drawn" (spRD K) := ⟨f__law_room_drawn, d__law_room_drawn, _, ok_rd F__law_room_drawn B c__law_pick c__law_room_of, PySem.W.mg_of X G a__law_room_drawn, F__law_room_drawn.kp, b__law_room_drawn⟩
  have c__law_small : CalG P w K mg base 5 "_law_small" (spRD K) := ⟨f__law_small, d__law_small, _, ok_small F__law_small B c__law_pick c__law_room_of, PySem.W.mg_of X G a__law_small, F__law_small.kp, b__law_small⟩
  have c__law_tree : CalG P w K mg base 13 "_law_tree" (atMost 7 (spTree K)) := cal_most (r := 5) (N := 7) (PySem.W.mg_of X G a__law_tree) F__law_tree.kp b__law_tree (fun n c_self => ok_tree F__law_tree LB c__law_draw c__law_pick c__law_small c__law_room_drawn c_self)
  have c__law_level_drawn : CalG P w K mg base 14 "_law_level_drawn" (spLD K 7) := ⟨f__law_level_drawn, d__law_level_drawn, _, ok_ld (N := 7) F__law_level_drawn c__law_tree, PySem.W.mg_of X G a__law_level_drawn, F__law_level_drawn.kp, b__law_level_drawn⟩
  have c__law_level : CalG P w K mg base 65 "_law_level" (atMost 59 (spLL K CR CV)) := cal_most (r := 5) (N := 59) (PySem.W.mg_of X G a__law_level) F__law_level.kp b__law_level (fun n c_self => ok_ll F__law_level LT (m_Room) m_Level c_self)
  have c__law_lines : CalG P w K mg base 61 "_law_lines" (atMost 59 (spLines K)) := cal_most (r := 1) (N := 59) (PySem.W.mg_of X G a__law_lines) F__law_lines.kp b__law_lines (fun n c_self => ok_lines F__law_lines c_self)
  have c__law_mouths : CalG P w K mg base 1 "_law_mouths" (spMo K) := ⟨f__law_mouths, d__law_mouths, _, ok_mo F__law_mouths LB, PySem.W.mg_of X G a__law_mouths, F__law_mouths.kp, b__law_mouths⟩
  have c__law_made : CalG P w K mg base 63 "_law_made" (atMost 59 (spMade K)) := cal_most (r := 3) (N := 59) (PySem.W.mg_of X G a__law_made) F__law_made.kp b__law_made (fun n c_self => ok_made F__law_made LB c__law_mouths c_self)
  have c__law_due : CalG P w K mg base 65 "_law_due" (spDue K) := ⟨f__law_due, d__law_due, _, ok_due F__law_due LB c__law_mouths c__law_made, PySem.W.mg_of X G a__law_due, F__law_due.kp, b__law_due⟩
  have c__law_told : CalG P w K mg base 8 "_law_told" (spToldL K CR CV) := ⟨f__law_told, d__law_told, _, ok_toldL F__law_told TT ex_tx c_read_level, PySem.W.mg_of X G a__law_told, F__law_told.kp, b__law_told⟩
  have c__law_is_due : CalG P w K mg base 184 "_law_is_due" (spIsDue K) := ⟨f__law_is_due, d__law_is_due, _, ok_is_due F__law_is_due TT LB q_Level qC_Level b_Level_eq c__law_due c__law_told c__law_level c_write_level, PySem.W.mg_of X G a__law_is_due, F__law_is_due.kp, b__law_is_due⟩
  have c__law_changed : CalG P w K mg base 6 "_law_changed" (spChanged K) := ⟨f__law_changed, d__law_changed, _, ok_changed F__law_changed LI c__law_draw c__law_pick c__law_room_drawn, PySem.W.mg_of X G a__law_changed, F__law_changed.kp, b__law_changed⟩
  exact ok_law F_law TT LI c__law_pool c__law_draw c__law_pick c__law_small c__law_level_drawn c__law_level m_Room m_Level1 c__law_lines c_write_level c_read_level c__law_is_due c__law_changed c__law_told c_row_of kf_vs eD
theorem walk {l : PySem.W.OpenLaw} {q : Program} {loose : List Str} {XP : (Str → Option Value) → Heap → Prop} {YP : World → Heap → Prop} {d : DefRec} {K : Params → PySem.W.Frag} (hn : l.most = some 63) (hdf : d.params.defaults = [])
    (hY : ∀ (w : World) (h : Heap), YP w h → (K w.params).In h)
    (F : ∀ (w : World) (mg : Str → Option Value) (fa : Addr) (h : Heap), (K w.params).In h → h.Ns mainGlobals mg → mg d.name = some (.ref fa) →
      ∃ fd : FuncData, (∀ (s : Shared) (u : Value), BindsTo s fd ⟨[u], []⟩ [("script", u)]) ∧ ∀ base : Heap, (K w.params).In base → base.Ns mainGlobals mg → FnG l.prog w (K w.params) mg base (CXe l.prog w) 190 fa fd ["script"] (spLaw (K w.params))) :
    PySem.W.WalkO q loose XP YP l.row.toRowW d [] (fun f vs => PySem.call f vs) :=
  L2.walk_ofG (n := 63) (k := 190) (x := "script") (CX := fun w => CXe l.prog w) (sp := fun w => spLaw (K w.params)) hn (by decide) hdf ⟨rfl, by decide, by decide⟩ hY F (fun _ _ a ns hl _ hS => ⟨a, ns, rfl, hS, hl, fun _ => rfl⟩) fun w H s e s' z => by
    obtain ⟨_, _, _, _, _, _, _, _, _, _, _, _, hE⟩ := z
    exact hE
end K88
end
section
set_option Elab.async false
set_option maxRecDepth 100000
open PySem PySem.W PyProof.Rows
set_option maxRecDepth 100000 in
set_option maxHeartbeats 0 in
theorem PySem.Challenge.cw_roomsthrough_k88_whole_level_texts_holds : PySem.Challenge.rw_roomsthrough_k88_whole_level_texts.Holds := by
  w_on; o_law; k_head; (case hw => w_witness2)
  k_fill
  refine K88.walk (l := PySem.Challenge.rw_roomsthrough_k88_whole_level_texts) rfl rfl (fun w h Y => PySem.W.kIn_of Y) ?F
  case F =>
    intro w mg fa h KX G hmg
    refine' K88.all_mk KX G hmg ?aC_Room ?cC_Room ?n_Room_rows ?n_Room_cells ?n_Room_entry ?n_Room_mouths ?n_Room_crates ?n_Room_plates ?n_Room_near ?aC_Level ?cC_Level ?n_Level_room ?n_Level_children ?n_Level_rooms ?n_Level_depth ?a_is_whole ?F_is_whole ?a_is_row ?F_is_row ?a__is_line ?F__is_line ?a__need_lines ?F__need_lines ?a__many ?F__many ?a__is_whole_room ?F__is_whole_room ?a__places ?F__places ?a__neighbours ?F__neighbours ?mC_Room ?F_Room_init ?a_need_room ?F_need_room ?mC_Level ?F_Level_init ?a_need_level ?F_need_level ?a_need_row ?F_need_row ?a_row_of ?F_row_of ?a__lines_in ?F__lines_in ?a__room_in ?F__room_in ?a__lines_of ?F__lines_of ?a_write_level ?F_write_level ?a__built ?F__built ?a_read_level ?F_read_level ?qC_Room ?F_Room_eq ?qC_Level ?F_Level_eq ?a__law_pool ?F__law_pool ?a__law_draw ?F__law_draw ?a__law_pick ?F__law_pick ?a__law_mark ?F__law_mark ?a__law_room_of ?F__law_room_of ?a__law_room_drawn ?F__law_room_drawn ?a__law_small ?F__law_small ?a__law_tree ?F__law_tree ?a__law_level_drawn ?F__law_level_drawn ?a__law_level ?F__law_level ?a__law_lines ?F__law_lines ?a__law_mouths ?F__law_mouths ?a__law_made ?F__law_made ?a__law_due ?F__law_due ?a__law_told ?F__law_told ?a__law_is_due ?F__law_is_due ?a__law_changed ?F__law_changed ?a_law ?F_law ?x_BadRoom ?x_BadLevel ?x_BadCount ?x_BadText ?z_isinstance ?z_int ?z_bool ?z_list ?z_len ?z_range ?z_abs ?z_tuple ?z_str ?z_repr ?z_max ?z_sum ?z_enumerate ?z_min ?k_MARKS ?k_MOST_LINES ?k_MOST_ACROSS ?k_MOST_CELLS ?k_MOST_CRATES ?k_MOST_KEYS_AND_DOORS ?k_MOST_ROOMS ?k_MOST_IN_ROW ?x_TooMany ?ic_Room ?ic_Level ?kn_Room ?kn_Level ?ko_Level_Room ?ks_Level_Room ?ko_Room_Level ?ks_Room_Level ?lD ?rD ?ex_tx ?kf_vs
    (case aC_Room => k_is)
    (case cC_Room => exact ⟨by k_is, by k_is, by k_is, by k_is⟩)
    (case n_Room_rows => unfold L2.NoAttr; k_is)
    (case n_Room_cells => unfold L2.NoAttr; k_is)
    (case n_Room_entry => unfold L2.NoAttr; k_is)
    (case n_Room_mouths => unfold L2.NoAttr; k_is)
    (case n_Room_crates => unfold L2.NoAttr; k_is)
    (case n_Room_plates => unfold L2.NoAttr; k_is)
    (case n_Room_near => unfold L2.NoAttr; k_is)
    (case aC_Level => k_is)
    (case cC_Level => exact ⟨by k_is, by k_is, by k_is, by k_is⟩)
    (case n_Level_room => unfold L2.NoAttr; k_is)
    (case n_Level_children => unfold L2.NoAttr; k_is)
    (case n_Level_rooms => unfold L2.NoAttr; k_is)
    (case n_Level_depth => unfold L2.NoAttr; k_is)
    (case a_is_whole => k_is)
    (case F_is_whole => (refine' L2.fun_mk ?l_is_whole ?c_is_whole ?q_is_whole; (case l_is_whole => k_is); (case c_is_whole => k_is); (case q_is_whole => k_is)))
    (case a_is_row => k_is)
    (case F_is_row => (refine' L2.fun_mk ?l_is_row ?c_is_row ?q_is_row; (case l_is_row => k_is); (case c_is_row => k_is); (case q_is_row => k_is)))
    (case a__is_line => k_is)
    (case F__is_line => (refine' L2.fun_mk ?l__is_line ?c__is_line ?q__is_line; (case l__is_line => k_is); (case c__is_line => k_is); (case q__is_line => k_is)))
    (case a__need_lines => k_is)
    (case F__need_lines => (refine' L2.fun_mk ?l__need_lines ?c__need_lines ?q__need_lines; (case l__need_lines => k_is); (case c__need_lines => k_is); (case q__need_lines => k_is)))
    (case a__many => k_is)
    (case F__many => (refine' L2.fun_mk ?l__many ?c__many ?q__many; (case l__many => k_is); (case c__many => k_is); (case q__many => k_is)))
    (case a__is_whole_room => k_is)
    (case F__is_whole_room => (refine' L2.fun_mk ?l__is_whole_room ?c__is_whole_room ?q__is_whole_room; (case l__is_whole_room => k_is); (case c__is_whole_room => k_is); (case q__is_whole_room => k_is)))
    (case a__places => k_is)
    (case F__places => (refine' L2.fun_mk ?l__places ?c__places ?q__places; (case l__places => k_is); (case c__places => k_is); (case q__places => k_is)))
    (case a__neighbours => k_is)
    (case F__neighbours => (refine' L2.fun_mk ?l__neighbours ?c__neighbours ?q__neighbours; (case l__neighbours => k_is); (case c__neighbours => k_is); (case q__neighbours => k_is)))
    (case mC_Room => refine' ⟨?a_Room, ?b_Room, ?c2_Room, ?d_Room⟩; (case a_Room => k_is); (case b_Room => k_is); (case c2_Room => k_is); (case d_Room => k_is))
    (case F_Room_init => (refine' L2.fun_mk ?l_Room_init ?c_Room_init ?q_Room_init; (case l_Room_init => k_is); (case c_Room_init => k_is); (case q_Room_init => k_is)))
    (case a_need_room => k_is)
    (case F_need_room => (refine' L2.fun_mk ?l_need_room ?c_need_room ?q_need_room; (case l_need_room => k_is); (case c_need_room => k_is); (case q_need_room => k_is)))
    (case mC_Level => refine' ⟨?a_Level, ?b_Level, ?c2_Level, ?d_Level⟩; (case a_Level => k_is); (case b_Level => k_is); (case c2_Level => k_is); (case d_Level => k_is))
    (case F_Level_init => refine' L2.funD_mk ?l_Level_init ?c_Level_init ?k_Level_init ?t_Level_init ?u_Level_init ?v_Level_init ?ne_Level_init; (case l_Level_init => k_is); (case c_Level_init => k_is); (case k_Level_init => k_is); (case t_Level_init => k_is); (case u_Level_init => rfl); (case v_Level_init => exact .cons rfl .nil); (case ne_Level_init => exact List.cons_ne_nil _ _))
    (case a_need_level => k_is)
    (case F_need_level => (refine' L2.fun_mk ?l_need_level ?c_need_level ?q_need_level; (case l_need_level => k_is); (case c_need_level => k_is); (case q_need_level => k_is)))
    (case a_need_row => k_is)
    (case F_need_row => (refine' L2.fun_mk ?l_need_row ?c_need_row ?q_need_row; (case l_need_row => k_is); (case c_need_row => k_is); (case q_need_row => k_is)))
    (case a_row_of => k_is)
    (case F_row_of => (refine' L2.fun_mk ?l_row_of ?c_row_of ?q_row_of; (case l_row_of => k_is); (case c_row_of => k_is); (case q_row_of => k_is)))
    (case a__lines_in => k_is)
    (case F__lines_in => (refine' L2.fun_mk ?l__lines_in ?c__lines_in ?q__lines_in; (case l__lines_in => k_is); (case c__lines_in => k_is); (case q__lines_in => k_is)))
    (case a__room_in => k_is)
    (case F__room_in => (refine' L2.fun_mk ?l__room_in ?c__room_in ?q__room_in; (case l__room_in => k_is); (case c__room_in => k_is); (case q__room_in => k_is)))
    (case a__lines_of => k_is)
    (case F__lines_of => (refine' L2.fun_mk ?l__lines_of ?c__lines_of ?q__lines_of; (case l__lines_of => k_is); (case c__lines_of => k_is); (case q__lines_of => k_is)))
    (case a_write_level => k_is)
    (case F_write_level => (refine' L2.fun_mk ?l_write_level ?c_write_level ?q_write_level; (case l_write_level => k_is); (case c_write_level => k_is); (case q_write_level => k_is)))
    (case a__built => k_is)
    (case F__built => (refine' L2.fun_mk ?l__built ?c__built ?q__built; (case l__built => k_is); (case c__built => k_is); (case q__built => k_is)))
    (case a_read_level => k_is)
    (case F_read_level => (refine' L2.fun_mk ?l_read_level ?c_read_level ?q_read_level; (case l_read_level => k_is); (case c_read_level => k_is); (case q_read_level => k_is)))
    (case qC_Room =>
      refine' ⟨?qqa_Room, ?qqb_Room, ?qqc_Room, ?qqd_Room⟩
      (case qqa_Room => k_is); (case qqb_Room => k_is); (case qqc_Room => k_is); (case qqd_Room => k_is))
    (case F_Room_eq => (refine' L2.fun_mk ?l_Room_eq ?c_Room_eq ?q_Room_eq; (case l_Room_eq => k_is); (case c_Room_eq => k_is); (case q_Room_eq => k_is)))
    (case qC_Level =>
      refine' ⟨?qqa_Level, ?qqb_Level, ?qqc_Level, ?qqd_Level⟩
      (case qqa_Level => k_is); (case qqb_Level => k_is); (case qqc_Level => k_is); (case qqd_Level => k_is))
    (case F_Level_eq => (refine' L2.fun_mk ?l_Level_eq ?c_Level_eq ?q_Level_eq; (case l_Level_eq => k_is); (case c_Level_eq => k_is); (case q_Level_eq => k_is)))
    (case a__law_pool => k_is)
    (case F__law_pool => (refine' L2.fun_mk ?l__law_pool ?c__law_pool ?q__law_pool; (case l__law_pool => k_is); (case c__law_pool => k_is); (case q__law_pool => k_is)))
    (case a__law_draw => k_is)
    (case F__law_draw => (refine' L2.fun_mk ?l__law_draw ?c__law_draw ?q__law_draw; (case l__law_draw => k_is); (case c__law_draw => k_is); (case q__law_draw => k_is)))
    (case a__law_pick => k_is)
    (case F__law_pick => (refine' L2.fun_mk ?l__law_pick ?c__law_pick ?q__law_pick; (case l__law_pick => k_is); (case c__law_pick => k_is); (case q__law_pick => k_is)))
    (case a__law_mark => k_is)
    (case F__law_mark => (refine' L2.fun_mk ?l__law_mark ?c__law_mark ?q__law_mark; (case l__law_mark => k_is); (case c__law_mark => k_is); (case q__law_mark => k_is)))
    (case a__law_room_of => k_is)
    (case F__law_room_of => (refine' L2.fun_mk ?l__law_room_of ?c__law_room_of ?q__law_room_of; (case l__law_room_of => k_is); (case c__law_room_of => k_is); (case q__law_room_of => k_is)))
    (case a__law_room_drawn => k_is)
    (case F__law_room_drawn => (refine' L2.fun_mk ?l__law_room_drawn ?c__law_room_drawn ?q__law_room_drawn; (case l__law_room_drawn => k_is); (case c__law_room_drawn => k_is); (case q__law_room_drawn => k_is)))
    (case a__law_small => k_is)
    (case F__law_small => (refine' L2.fun_mk ?l__law_small ?c__law_small ?q__law_small; (case l__law_small => k_is); (case c__law_small => k_is); (case q__law_small => k_is)))
    (case a__law_tree => k_is)
    (case F__law_tree => (refine' L2.fun_mk ?l__law_tree ?c__law_tree ?q__law_tree; (case l__law_tree => k_is); (case c__law_tree => k_is); (case q__law_tree => k_is)))
    (case a__law_level_drawn => k_is)
    (case F__law_level_drawn => (refine' L2.fun_mk ?l__law_level_drawn ?c__law_level_drawn ?q__law_level_drawn; (case l__law_level_drawn => k_is); (case c__law_level_drawn => k_is); (case q__law_level_drawn => k_is)))
    (case a__law_level => k_is)
    (case F__law_level => (refine' L2.fun_mk ?l__law_level ?c__law_level ?q__law_level; (case l__law_level => k_is); (case c__law_level => k_is); (case q__law_level => k_is)))
    (case a__law_lines => k_is)
    (case F__law_lines => (refine' L2.fun_mk ?l__law_lines ?c__law_lines ?q__law_lines; (case l__law_lines => k_is); (case c__law_lines => k_is); (case q__law_lines => k_is)))
    (case a__law_mouths => k_is)
    (case F__law_mouths => (refine' L2.fun_mk ?l__law_mouths ?c__law_mouths ?q__law_mouths; (case l__law_mouths => k_is); (case c__law_mouths => k_is); (case q__law_mouths => k_is)))
    (case a__law_made => k_is)
    (case F__law_made => (refine' L2.fun_mk ?l__law_made ?c__law_made ?q__law_made; (case l__law_made => k_is); (case c__law_made => k_is); (case q__law_made => k_is)))
    (case a__law_due => k_is)
    (case F__law_due => (refine' L2.fun_mk ?l__law_due ?c__law_due ?q__law_due; (case l__law_due => k_is); (case c__law_due => k_is); (case q__law_due => k_is)))
    (case a__law_told => k_is)
    (case F__law_told => (refine' L2.fun_mk ?l__law_told ?c__law_told ?q__law_told; (case l__law_told => k_is); (case c__law_told => k_is); (case q__law_told => k_is)))
    (case a__law_is_due => k_is)
    (case F__law_is_due => (refine' L2.fun_mk ?l__law_is_due ?c__law_is_due ?q__law_is_due; (case l__law_is_due => k_is); (case c__law_is_due => k_is); (case q__law_is_due => k_is)))
    (case a__law_changed => k_is)
    (case F__law_changed => (refine' L2.fun_mk ?l__law_changed ?c__law_changed ?q__law_changed; (case l__law_changed => k_is); (case c__law_changed => k_is); (case q__law_changed => k_is)))
    (case a_law => k_is)
    (case F_law => (refine' L2.fun_mk ?l_law ?c_law ?q_law; (case l_law => k_is); (case c_law => k_is); (case q_law => k_is)))
    (case x_BadRoom =>
      refine' RX.errT_mk KX G ?y_BadRoom_gC ?y_BadRoom_cls ?y_BadRoom_rv ?y_BadRoom_sa ?y_BadRoom_ga ?y_BadRoom_gg ?y_BadRoom_noN ?y_BadRoom_iC ?y_BadRoom_tC ?y_BadRoom_kC ?y_BadRoom_exC ?y_BadRoom_tyC ?y_BadRoom_hdC ?y_BadRoom_icC ?y_BadRoom_sC ?y_BadRoom_veC ?y_BadRoom_selfM ?y_BadRoom_up ?y_BadRoom_third ?y_BadRoom_noS ?y_BadRoom_top ?y_BadRoom_fl ?y_BadRoom_bd ?y_BadRoom_l ?y_BadRoom_cd ?y_BadRoom_lc ?y_BadRoom_v2 ?y_BadRoom_vf ?y_BadRoom_lcc ?y_BadRoom_ln
      (case y_BadRoom_gC => k_is); (case y_BadRoom_cls => k_is); (case y_BadRoom_rv => decide +kernel); (case y_BadRoom_sa => k_is); (case y_BadRoom_ga => k_is); (case y_BadRoom_gg => k_is); (case y_BadRoom_noN => k_is); (case y_BadRoom_iC => k_is); (case y_BadRoom_tC => k_is); (case y_BadRoom_kC => k_is); (case y_BadRoom_exC => k_is); (case y_BadRoom_tyC => k_is); (case y_BadRoom_hdC => k_is); (case y_BadRoom_icC => k_is); (case y_BadRoom_sC => first | rfl | k_is); (case y_BadRoom_veC => k_is); (case y_BadRoom_selfM => k_is); (case y_BadRoom_up => ks_is); (case y_BadRoom_third => k_is); (case y_BadRoom_noS => k_is); (case y_BadRoom_top => decide +kernel); (case y_BadRoom_fl => decide +kernel); (case y_BadRoom_bd => intros; rfl); (case y_BadRoom_l => k_is); (case y_BadRoom_cd => k_is); (case y_BadRoom_lc => k_is); (case y_BadRoom_v2 => rfl); (case y_BadRoom_vf => decide +kernel); (case y_BadRoom_lcc => k_is); (case y_BadRoom_ln => rfl))
    (case x_BadLevel =>
      refine' RX.errT_mk KX G ?y_BadLevel_gC ?y_BadLevel_cls ?y_BadLevel_rv ?y_BadLevel_sa ?y_BadLevel_ga ?y_BadLevel_gg ?y_BadLevel_noN ?y_BadLevel_iC ?y_BadLevel_tC ?y_BadLevel_kC ?y_BadLevel_exC ?y_BadLevel_tyC ?y_BadLevel_hdC ?y_BadLevel_icC ?y_BadLevel_sC ?y_BadLevel_veC ?y_BadLevel_selfM ?y_BadLevel_up ?y_BadLevel_third ?y_BadLevel_noS ?y_BadLevel_top ?y_BadLevel_fl ?y_BadLevel_bd ?y_BadLevel_l ?y_BadLevel_cd ?y_BadLevel_lc ?y_BadLevel_v2 ?y_BadLevel_vf ?y_BadLevel_lcc ?y_BadLevel_ln
      (case y_BadLevel_gC => k_is); (case y_BadLevel_cls => k_is); (case y_BadLevel_rv => decide +kernel); (case y_BadLevel_sa => k_is); (case y_BadLevel_ga => k_is); (case y_BadLevel_gg => k_is); (case y_BadLevel_noN => k_is); (case y_BadLevel_iC => k_is); (case y_BadLevel_tC => k_is); (case y_BadLevel_kC => k_is); (case y_BadLevel_exC => k_is); (case y_BadLevel_tyC => k_is); (case y_BadLevel_hdC => k_is); (case y_BadLevel_icC => k_is); (case y_BadLevel_sC => first | rfl | k_is); (case y_BadLevel_veC => k_is); (case y_BadLevel_selfM => k_is); (case y_BadLevel_up => ks_is); (case y_BadLevel_third => k_is); (case y_BadLevel_noS => k_is); (case y_BadLevel_top => decide +kernel); (case y_BadLevel_fl => decide +kernel); (case y_BadLevel_bd => intros; rfl); (case y_BadLevel_l => k_is); (case y_BadLevel_cd => k_is); (case y_BadLevel_lc => k_is); (case y_BadLevel_v2 => rfl); (case y_BadLevel_vf => decide +kernel); (case y_BadLevel_lcc => k_is); (case y_BadLevel_ln => rfl))
    (case x_BadCount =>
      refine' RX.errT_mk KX G ?y_BadCount_gC ?y_BadCount_cls ?y_BadCount_rv ?y_BadCount_sa ?y_BadCount_ga ?y_BadCount_gg ?y_BadCount_noN ?y_BadCount_iC ?y_BadCount_tC ?y_BadCount_kC ?y_BadCount_exC ?y_BadCount_tyC ?y_BadCount_hdC ?y_BadCount_icC ?y_BadCount_sC ?y_BadCount_veC ?y_BadCount_selfM ?y_BadCount_up ?y_BadCount_third ?y_BadCount_noS ?y_BadCount_top ?y_BadCount_fl ?y_BadCount_bd ?y_BadCount_l ?y_BadCount_cd ?y_BadCount_lc ?y_BadCount_v2 ?y_BadCount_vf ?y_BadCount_lcc ?y_BadCount_ln
      (case y_BadCount_gC => k_is); (case y_BadCount_cls => k_is); (case y_BadCount_rv => decide +kernel); (case y_BadCount_sa => k_is); (case y_BadCount_ga => k_is); (case y_BadCount_gg => k_is); (case y_BadCount_noN => k_is); (case y_BadCount_iC => k_is); (case y_BadCount_tC => k_is); (case y_BadCount_kC => k_is); (case y_BadCount_exC => k_is); (case y_BadCount_tyC => k_is); (case y_BadCount_hdC => k_is); (case y_BadCount_icC => k_is); (case y_BadCount_sC => first | rfl | k_is); (case y_BadCount_veC => k_is); (case y_BadCount_selfM => k_is); (case y_BadCount_up => ks_is); (case y_BadCount_third => k_is); (case y_BadCount_noS => k_is); (case y_BadCount_top => decide +kernel); (case y_BadCount_fl => decide +kernel); (case y_BadCount_bd => intros; rfl); (case y_BadCount_l => k_is); (case y_BadCount_cd => k_is); (case y_BadCount_lc => k_is); (case y_BadCount_v2 => rfl); (case y_BadCount_vf => decide +kernel); (case y_BadCount_lcc => k_is); (case y_BadCount_ln => rfl))
    (case x_BadText =>
      refine' RX.errT_mk KX G ?y_BadText_gC ?y_BadText_cls ?y_BadText_rv ?y_BadText_sa ?y_BadText_ga ?y_BadText_gg ?y_BadText_noN ?y_BadText_iC ?y_BadText_tC ?y_BadText_kC ?y_BadText_exC ?y_BadText_tyC ?y_BadText_hdC ?y_BadText_icC ?y_BadText_sC ?y_BadText_veC ?y_BadText_selfM ?y_BadText_up ?y_BadText_third ?y_BadText_noS ?y_BadText_top ?y_BadText_fl ?y_BadText_bd ?y_BadText_l ?y_BadText_cd ?y_BadText_lc ?y_BadText_v2 ?y_BadText_vf ?y_BadText_lcc ?y_BadText_ln
      (case y_BadText_gC => k_is); (case y_BadText_cls => k_is); (case y_BadText_rv => decide +kernel); (case y_BadText_sa => k_is); (case y_BadText_ga => k_is); (case y_BadText_gg => k_is); (case y_BadText_noN => k_is); (case y_BadText_iC => k_is); (case y_BadText_tC => k_is); (case y_BadText_kC => k_is); (case y_BadText_exC => k_is); (case y_BadText_tyC => k_is); (case y_BadText_hdC => k_is); (case y_BadText_icC => k_is); (case y_BadText_sC => first | rfl | k_is); (case y_BadText_veC => k_is); (case y_BadText_selfM => k_is); (case y_BadText_up => ks_is); (case y_BadText_third => k_is); (case y_BadText_noS => k_is); (case y_BadText_top => decide +kernel); (case y_BadText_fl => decide +kernel); (case y_BadText_bd => intros; rfl); (case y_BadText_l => k_is); (case y_BadText_cd => k_is); (case y_BadText_lc => k_is); (case y_BadText_v2 => rfl); (case y_BadText_vf => decide +kernel); (case y_BadText_lcc => k_is); (case y_BadText_ln => rfl))
    (case z_isinstance => k_is)
    (case z_int => k_is)
    (case z_bool => k_is)
    (case z_list => k_is)
    (case z_len => k_is)
    (case z_range => k_is)
    (case z_abs => k_is)
    (case z_tuple => k_is)
    (case z_str => k_is)
    (case z_repr => k_is)
    (case z_max => k_is)
    (case z_sum => k_is)
    (case z_enumerate => k_is)
    (case z_min => k_is)
    (case k_MARKS => k_is)
    (case k_MOST_LINES => k_is)
    (case k_MOST_ACROSS => k_is)
    (case k_MOST_CELLS => k_is)
    (case k_MOST_CRATES => k_is)
    (case k_MOST_KEYS_AND_DOORS => k_is)
    (case k_MOST_ROOMS => k_is)
    (case k_MOST_IN_ROW => k_is)
    (case x_TooMany =>
      refine' L2.errN_mk KX G ?en1_TooMany ?en2_TooMany ?en3_TooMany ?en4_TooMany ?en5_TooMany ?en6_TooMany ?en7_TooMany
      (case en1_TooMany => k_is); (case en2_TooMany => k_exc); (case en3_TooMany => k_is); (case en4_TooMany => k_is); (case en5_TooMany => k_is); (case en6_TooMany => k_is); (case en7_TooMany => k_is))
    (case ic_Room =>
      refine' ⟨⟨?qa1_Room, ?qa2_Room, ?qa3_Room, ?qa4_Room⟩, ?qe_Room, ?qf_Room, ?qg_Room, ?qh_Room, ?qi_Room⟩
      (case qa1_Room => k_is); (case qa2_Room => k_is); (case qa3_Room => k_is); (case qa4_Room => k_is); (case qe_Room => k_is); (case qf_Room => k_is); (case qg_Room => k_is); (case qh_Room => k_is); (case qi_Room => first | k_is | kit_is | (unfold PySem.W.kitOne; simp)))
    (case ic_Level =>
      refine' ⟨⟨?qa1_Level, ?qa2_Level, ?qa3_Level, ?qa4_Level⟩, ?qe_Level, ?qf_Level, ?qg_Level, ?qh_Level, ?qi_Level⟩
      (case qa1_Level => k_is); (case qa2_Level => k_is); (case qa3_Level => k_is); (case qa4_Level => k_is); (case qe_Level => k_is); (case qf_Level => k_is); (case qg_Level => k_is); (case qh_Level => k_is); (case qi_Level => first | k_is | kit_is | (unfold PySem.W.kitOne; simp)))
    (case kn_Room =>
      refine' ⟨?kn0_Room, ?kn1_Room, ?kn2_Room, ?kn3_Room, ?kn4_Room, ?kn5_Room, ?kn6_Room, ?kn7_Room, ?kn8_Room, ?kn9_Room, ?kn10_Room, ?kn11_Room, ?kn12_Room, ?kn13_Room⟩
      (case kn0_Room => first | k_is | kit_is); (case kn1_Room => first | k_is | kit_is); (case kn2_Room => first | k_is | kit_is); (case kn3_Room => first | k_is | kit_is); (case kn4_Room => first | k_is | kit_is); (case kn5_Room => first | k_is | kit_is); (case kn6_Room => first | k_is | kit_is); (case kn7_Room => first | k_is | kit_is); (case kn8_Room => first | k_is | kit_is); (case kn9_Room => first | k_is | kit_is); (case kn10_Room => first | k_is | kit_is); (case kn11_Room => first | k_is | kit_is); (case kn12_Room => first | k_is | kit_is); (case kn13_Room => first | k_is | kit_is))
    (case kn_Level =>
      refine' ⟨?kn0_Level, ?kn1_Level, ?kn2_Level, ?kn3_Level, ?kn4_Level, ?kn5_Level, ?kn6_Level, ?kn7_Level, ?kn8_Level, ?kn9_Level, ?kn10_Level, ?kn11_Level, ?kn12_Level, ?kn13_Level⟩
      (case kn0_Level => first | k_is | kit_is); (case kn1_Level => first | k_is | kit_is); (case kn2_Level => first | k_is | kit_is); (case kn3_Level => first | k_is | kit_is); (case kn4_Level => first | k_is | kit_is); (case kn5_Level => first | k_is | kit_is); (case kn6_Level => first | k_is | kit_is); (case kn7_Level => first | k_is | kit_is); (case kn8_Level => first | k_is | kit_is); (case kn9_Level => first | k_is | kit_is); (case kn10_Level => first | k_is | kit_is); (case kn11_Level => first | k_is | kit_is); (case kn12_Level => first | k_is | kit_is); (case kn13_Level => first | k_is | kit_is))
    (case ko_Level_Room => first | k_is | kit_is | (unfold PySem.W.kitOne; simp))
    (case ks_Level_Room => k_is)
    (case ko_Room_Level => first | k_is | kit_is | (unfold PySem.W.kitOne; simp))
    (case ks_Room_Level => k_is)
    (case lD => k_is)
    (case rD => rfl)
    (case ex_tx =>
      refine' L2.te_no ?xa_tx ?xb_tx ?xc_tx ?xd_tx
      (case xa_tx => k_is); (case xb_tx => k_is); (case xc_tx => k_is); (case xd_tx => k_is))
    (case kf_vs => first | k_is | kit_is | (unfold PySem.W.kitOne; simp))
end
