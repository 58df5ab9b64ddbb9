import PyProof.Rows.All
import Wide.All
import OpenK.AllK
import Wide.FinOn
import PyProof.EqAt
import PyProof.EqKinds
import PyProof.TupleCall
import HandS.ForMost
import HandS.ForExc
import HandS.ExcField
import HandS.ExcInit
import HandS.IsInst
import HandS.Defaults
import HandS.Small
import KE.KExcSuper
import KE.KExcMake
import HandS.Codes
import HandS.Evl
import HandS.Walk
import KE.GoesEnum
import HandS.Zip0
import HandS.Translate
import HandS.Replace
import PyProof.Rows.StrRev
import KE.KEqDict
import HandS.More
import HandS.TupAny
import HandS.Style
import HandS.Star
import HandS.SortInts
import HandS.Conv
import PyProof.ListStr
import HandS.Exc
import KE.KEqSeq
import HandS.DeepEq
import KE.KRevSl
import KE.KDictKeyed
import PyProof.Rows.TupDisplay
import HandS.SetFor
import HandS.SortKw
import HandS.RaiseMore
import PyProof.ExcBaseAll.ValueError
import HandS.TryOnly
import HandS.OwnEq
import PyProof.NeKinds
import HandS.TupMul
import PyProof.StrBlock2
import HandS.Zip
import KE.KDictZip
import HandS.ListItems
import PyProof.ListNew
import KE.SortData
import HandS.ExcIs
import HandS.ExcValue
import KE.KExcIs
import KE.DataMinMax
import HandS.Words
import PySem.Challenge.RW_roomsthrough_k16_plays_walked_letter_by
/-! The kit's table of the kept part of the heap has a twin that no step reads; where its name stands, it is not made (it would be 18 MB of the compiled file). -/
theorem PySem.W.Fast.te18324039597895641143 : True := trivial
section
set_option Elab.async false
set_option linter.all false
set_option maxRecDepth 100000
set_option maxHeartbeats 2000000
namespace RX
open PySem PySem.W PySem.Calls PyProof.Rows PySem.HandSPX
def eA (fld : Str) (p1 p2 : Pos) : Arguments := { posonlyargs := [], args := [{ arg := "self", annotation := none, pos := p1 }, { arg := fld, annotation := none, pos := p2 }], vararg := none, kwonlyargs := [], kw_defaults := [], kwarg := none, defaults := [] }
def eB (fld msg : Str) (q1 q2 q3 q4 q5 q6 q7 q8 q9 q10 : Pos) : List Stmt :=
  [.Expr (.Call (.Attribute (.Call (.Name "super" q1) [] [] q2) "__init__" q3) [.Constant (.str msg) 0 q4] [] q5) q6,
   .Assign [.Attribute (.Name "self" q7) fld q8] (.Name fld q9) q10]
def eS (fld : Str) : Scope := { kind := .function, names := [("self", .local), (fld, .local), ("__class__", .free), ("super", .globalImplicit)], isGenerator := false, isCoroutine := false, more := [] }
/-- what the top says of the class at C, whose __init__ stands at fI and sees the class by the cell at cc -/
structure ErrT (prog : Program) (K : Frag) (mg : Str → Option Value) (cn fld : Str) (C fI : Addr) : Prop where
  gC : mg cn = some (.ref C)
  cls : ∃ nm q N bs bm sn sub ab col dd k0 k1 k2 k3 k5, K.lookup C = some (excClassObj nm q C N bs bm true sn sub ab col dd k0 k1 k2 k3 k5 "ValueError.__new__") ∧ refsVE bm = true
  sa : findIn K (.ref C) "__setattr__" = some (some (.builtin "object.__setattr__"))
  xf : L2.XfC K C
  noN : findIn K (.ref C) fld = some none
  iC : findIn K (.ref C) "__init__" = some (some (.ref fI))
  tC : typeIn K (.ref fI) = some (.type "function")
  kC : keepIn K (.ref C) = true
  exC : subIn K (.ref C) (.type "BaseException") = some true
  tyC : typeIn K (.ref C) = some (.type "type")
  hdC : hasDictIn K C = true
  te : exmOne K (.ref C) (.ref C) = some true
  veC : subIn K (.ref C) (.type "ValueError") = some true
  selfM : mroIn K C (.ref C) = some true
  up : ks_superIn K C C "__init__" = some (some (.builtin "ValueError.__init__"))
  third : nsIn K cStatics "thirdparty.any" = some none
  noS : nsIn K mainGlobals "super" = some none
  top : (prog.main.scope.names.lookup ("super" : Str)).isSome = false
  fl : (eS fld).names.lookup fld = some .local ∧ (fld == ("self" : Str)) = false ∧ (eS fld).names.lookup ("super" : Str) = some .globalImplicit ∧ (eS fld).names.lookup ("__class__" : Str) = some .free ∧ (fld == ("__debug__" : Str)) = false
  bd : ∀ (qual : Str) (body : List Stmt) (doc pm : Value) (an : Option Addr) (cd ct : Value) (cc : Addr) (p1 p2 : Pos) (a b : Value), bindArgs (ksFn "__init__" qual (eA fld p1 p2) body (eS fld) .none .none doc pm an cd ct cc) ⟨[a, b], []⟩ = pure [(("self" : Str), a), (fld, b)]
  fn : ∃ (oc : Value) (od : Option Addr) (doc pm : Value) (an : Option Addr) (cda cc : Addr) (ct : Value) (osl : Array (Option Value)) (msg : Str) (qual : Str) (p1 p2 q1 q2 q3 q4 q5 q6 q7 q8 q9 q10 : Pos)
    (ccl cl : Value) (cdd cld : Option Addr) (ccs csl : Array (Option Value)) (vs : Array Value) (file : Str) (tf : Tok),
    K.lookup fI = some ⟨oc, od, .func (ksFn "__init__" qual (eA fld p1 p2) (eB fld msg q1 q2 q3 q4 q5 q6 q7 q8 q9 q10) (eS fld) .none .none doc pm an (.ref cda) ct cc), osl⟩ ∧ codeIn K (.ref cda) qual = true ∧
    K.lookup cda = some ⟨ccl, cdd, .fields vs, ccs⟩ ∧ vs[2]? = some (.str file tf) ∧ ((prog.main.file : Str) == file) = true ∧ K.lookup cc = some ⟨cl, cld, .cell (some (.ref C)), csl⟩ ∧ (q3.endLine == q5.line) = true
/-- what such an __init__ leaves of a fresh exception at x -/
structure ErrEnd (h h' : Heap) (fld : Str) (x C dx : Addr) (v : Value) : Prop where
  keep : ∀ b o, b ≠ x → h.get? b = some o → h'.get? b = some o
  obj : ∃ t1, h'.get? x = some { cls := .ref C, dict := some dx, data := .fields #[.ref t1, .none, .none, .none, .bool false, .none] }
  dbig : h.objs.size ≤ dx
  dne : dx ≠ x
  ns : h'.Ns1 dx (fun y => if y = fld then some v else none)
theorem size1 (v : Value) : [v].length ≤ sizeLine := by
  rw [sizeLine_eq]; exact (by decide : 1 ≤ 16777216)
section
variable {prog : Program} {w : World} {A : Around} {E : Value → Shared → Prop} {R : Result → Shared → Prop} {s : Shared} {K : Frag} {mg : Str → Option Value} {g : Heap} {cn fld : Str} {C fI : Addr}
theorem err_init (T : ErrT prog K mg cn fld C fI) {x t0 : Addr} {v : Value} (M : L2.Mod K mg g) (hg : ∀ b o, g.get? b = some o → s.heap.get? b = some o) (hx : s.heap.get? x = some (excO C t0)) (hnx : K.lookup x = none) (hroom : A.depth < recursionLimit)
    (hq : ∀ h' tk dx, ErrEnd s.heap h' fld x C dx v → R (.ok (.ret .none)) { s with heap := h', toks := tk }) :
    codeAny (model prog w) A (.call (.ref fI) ⟨[.ref x, v], []⟩) R s := by
  obtain ⟨oc, od, doc, pm, an, cda, cc, ct, osl, msg, qual, p1, p2, q1, q2, q3, q4, q5, q6, q7, q8, q9, q10, ccl, cl, cdd, cld, ccs, csl, vs, file, tf, ho, hcd, hcode, hvs, hfile, hcell, hpos⟩ := T.fn
  obtain ⟨nm, q, N, bs, bm, sn, sub, ab, col, dd, k0, k1, k2, k3, k5, hC, hbm⟩ := T.cls
  obtain ⟨hfl, hfs, hsu, hcs, hfd⟩ := T.fl
  have X : K.In s.heap := M.kin.keeps hg
  have hcl : clsIn K C = some { name := nm, bases := bs, mro := .ref C :: bm, ns := N, qualname := q, hasDict := true, slotNames := sn, subclasses := sub, abstract := ab, collection := col, hasDel := false } := by unfold clsIn; rw [hC] <;> rfl
  have hfs' : ("self" == fld) = false := by
    have : ¬ fld = ("self" : Str) := by simpa using hfs
    simpa using fun z => this z.symm
  refine ks_codeAny_call_defAt (fd := ksFn "__init__" qual (eA fld p1 p2) (eB fld msg q1 q2 q3 q4 q5 q6 q7 q8 q9 q10) (eS fld) .none .none doc pm an (.ref cda) ct cc) (binds := [("self", .ref x), (fld, v)])
    hroom (X _ _ ho) rfl (M.nolimit.keeps hg) (codeRec_of X hcd) rfl ?hb ?hc ?hl (fun h1 hns k => ?_) rfl rfl rfl
  case hb => exact BindsTo.of_eq (T.bd _ _ _ _ _ _ _ _ _ _ _ _)
  case hc => 
    intro y hy
    simp only [ksFn, eS, List.mem_cons, List.not_mem_nil, or_false] at hy
    rcases hy with rfl | rfl | rfl | rfl <;> (intro z; cases z)
  case hl =>
    intro y hy
    simp only [List.mem_cons, List.not_mem_nil, or_false] at hy
    rcases hy with rfl | rfl
    · rfl
    · exact hfl
  have k : ∀ b o, s.heap.get? b = some o → h1.get? b = some o := k
  have X1 : K.In h1 := X.keeps k
  have hx1 := k _ _ hx
  have M1 : ∀ b o, g.get? b = some o → h1.get? b = some o := fun b o e => k b o (hg b o e)
  have mself : (fun y => List.lookup y ([("self", .ref x), (fld, v)] : List (Str × Value)).reverse) "self" = some (.ref x) := by
    simp only [List.reverse_cons, List.reverse_nil, List.nil_append, List.cons_append, List.lookup]
    rw [hfs']
    rfl
  have mfld : (fun y => List.lookup y ([("self", .ref x), (fld, v)] : List (Str × Value)).reverse) fld = some v := by
    simp [List.reverse_cons, List.lookup]
  refine ks_wpAt_execs_cons (ks_wpAt_Expr_any (ks_wpAt_MethodCall (pl := (do return (← importBound (.Call (.Name "super" q1) [] [] q2) (callEnv (ksFn "__init__" qual (eA fld p1 p2) (eB fld msg q1 q2 q3 q4 q5 q6 q7 q8 q9 q10) (eS fld) .none .none doc pm an (.ref cda) ct cc) s.heap.objs.size fI)).getD true)) ?_ ?he))
  case he =>
    show (do let ov ← _; standAt q3.atName; methodCall _ _ _ _ _ ov _ _ _) = _
    unfold methodCall methodCallPos
    rw [hpos]
    rfl
  have hD : ∃ oD, h1.get? C = some oD ∧ oD.data = .cls { name := nm, bases := bs, mro := .ref C :: bm, ns := N, qualname := q, hasDict := true, slotNames := sn, subclasses := sub, abstract := ab, collection := col, hasDel := false } := ⟨_, X1 _ _ hC, rfl⟩
  obtain ⟨oD, hD1, hD2⟩ := hD
  refine ks_wpAt_super_base hsu hcs rfl rfl (X1 _ _ ho) rfl rfl rfl (X1 _ _ hcode) rfl hvs hfile T.top ?_
  obtain ⟨mb, hmb, hmb2⟩ := M.blt
  refine ks_loadName_global rfl hsu (loadGlobal_builtin (mg := mg) (mb := mb) (M.glob.keeps M1) (mg_none_of M.kin M.glob T.noS) (hmb.keeps M1) ((hmb2 _ (by decide)).trans (by decide +kernel)) ⟨rfl, ?_⟩)
  refine wpAny_loadName_free rfl hcs rfl ⟨_, X1 _ _ hcell, rfl⟩ ?_
  refine wpAny_loadName_local rfl rfl hns mself ?_
  refine ks_wpAny_isType_cls hD1 hD2 ⟨rfl, ?_⟩
  refine ks_wpAny_call_super hD1 hD2 hx1 rfl (fun c z => by cases z) (looks_mroIn X1 T.selfM) (fun h2 e2 k2 => ?_)
  have X2 : K.In h2 := X1.keeps k2
  have hx2 := k2 _ _ hx1
  have I2 : InstAt h2 x (excO C t0) C none := ⟨hx2, rfl, rfl, trivial⟩
  have hf2 : alongIn K "__init__" (((.ref C :: bm : List Value).dropWhile (· != .ref C)).drop 1) = some (some (.builtin "ValueError.__init__")) := by
    have := T.up
    unfold ks_superIn at this
    rw [hcl] at this
    exact this
  refine kxs_getMethod kxs_ValueError e2 (looks_opaque X2 T.third) (l₀ := .ref C :: bm) (fun A Q E s k q => wpAny_bind ((looks_clsIn X2 hcl) A _ E s k (wpAny_pure q))) rfl X2 hf2 (I2.type.andThen (looks_subIn X2 T.veC)) (ks_ne X2 I2 hcl) rfl ?_
  -- the wrapper is called with the text
  have hu3 : (h2.push (kxs_mw "ValueError.__init__" x)).get? h2.objs.size = some (kxs_mw "ValueError.__init__" x) := Heap.get?_push_at rfl rfl
  have k3 : ∀ b o, h2.get? b = some o → (h2.push (kxs_mw "ValueError.__init__" x)).get? b = some o := fun b o e => Heap.get?_push_of_some _ e
  refine kxs_callWith (i := "ValueError.__init__") (x := x) rfl (evalArgs_plain ?_)
  refine spliced_more (Calls.Constant_str ?_)
  refine spliced_none ?_
  refine ⟨hu3, ?_⟩
  have hx3 := k3 _ _ hx2
  have hC3 := k3 _ _ (X2 _ _ hC)
  show wpAny (model prog w) (A.deeper _) (call (.ref h2.objs.size) [.str msg _]) _ _ _
  refine wpAny_call (codeAny_of_tree ?_)
  show wpAny _ (A.deeper _).in1 (callAny (.ref h2.objs.size) ⟨[.str msg _], []⟩) _ _ _
  simp only [callAny]
  refine wpAny_bind (wpAny_load hu3 ?_)
  simp only [kxs_mw, show (Value.type "method-wrapper" == Value.type "method" || Value.type "method-wrapper" == Value.type "builtin_function_or_method" || Value.type "method-wrapper" == Value.type "method-wrapper") = true by decide, if_true]
  refine KFB.if_so (by decide) ?_
  refine wpAny_bind (check_bound_init F.excBase_ValueError.toExcCallFacts hC3 hx3 rfl ?_)
  refine wpAny_bind (wpAny_pure (wpAny_pure ?_))
  refine ⟨plainId_quiet F.excBase_ValueError.init.plain _, codeAny_builtin F.excBase_ValueError.initEntry ?_⟩
  refine exc_init_tree (cls := .ref C) (t0 := t0) (dv := none) (c2 := .none) (c3 := .none) (b4 := .bool false) hx3 (size1 _) (fun h4 k4 hx4 ht4 => ?_)
  -- self.field = value
  have k14 : ∀ b o, b ≠ x → h1.get? b = some o → h4.get? b = some o := fun b o hb e => k4 b o hb (k3 _ _ (k2 _ _ e))
  have X4 : K.In h4 := fun a o e => k14 a o (fun z => by rw [z, hnx] at e; cases e) (X1 a o e)
  have hL : s.heap.objs.size ≠ x := Nat.ne_of_gt (Heap.lt_size hx)
  have hn4 : h4.Ns s.heap.objs.size (fun y => List.lookup y ([("self", .ref x), (fld, v)] : List (Str × Value)).reverse) := hns.at (fun o e => k14 _ _ hL e)
  show PySem.wpAt _ _ _ (execs _ _) _ _ _
  refine ks_wpAt_execs_cons (ks_wpAt_Assign_Attr ?_)
  have hfl' : (callEnv (ksFn "__init__" qual (eA fld p1 p2) (eB fld msg q1 q2 q3 q4 q5 q6 q7 q8 q9 q10) (eS fld) .none .none doc pm an (.ref cda) ct cc) s.heap.objs.size fI).kindOf fld = some .local := hfl
  refine wpAt_of_wpAny (wpAny_Name ?_ hfd)
  refine wpAny_loadName_local (m := fun y => List.lookup y ([("self", .ref x), (fld, v)] : List (Str × Value)).reverse) (v := v) rfl hfl' hn4 mfld ?_
  refine wpAny_Name ?_
  refine wpAny_loadName_local (m := fun y => List.lookup y ([("self", .ref x), (fld, v)] : List (Str × Value)).reverse) (v := .ref x) rfl rfl hn4 mself ?_
  have hx5 : h4.get? x = some (excO C _) := hx4
  refine set_plain X4 (ox := excO C _) (od := none) ⟨hx5, rfl, rfl, trivial⟩ T.sa ?_
  refine exc_osa X4 hx5 hcl (show refsVE (.ref C :: bm) = true from hbm) rfl T.noN (fun h5 tk5 dx k5' dn dne hx6 hn5 => ?_)
  show PySem.wpAt _ _ _ (execs _ _) _ _ _
  have big : s.heap.objs.size ≤ dx := Nat.le_trans (Nat.le_of_lt hn4.lt) dn
  refine wpAt_of_wpAny (wpAny_execs_nil (hq h5 tk5 dx ⟨fun b o hb e => k5' b o hb (k14 b o hb (k b o e)), ⟨_, hx6⟩, big, dne, hn5⟩))
/-- a made error -/
structure ErrMade (h h' : Heap) (fld : Str) (e C d : Addr) (v : Value) : Prop where
  keep : ∀ b o, h.get? b = some o → h'.get? b = some o
  new : h.objs.size ≤ e
  obj : ∃ oe vs, h'.get? e = some oe ∧ oe.cls = .ref C ∧ oe.dict = some d ∧ oe.data = .fields vs ∧ vs[1]? = some .none
  dbig : h.objs.size ≤ d
  dne : d ≠ e
  ns : h'.Ns1 d (fun y => if y = fld then some v else none)
theorem err_made (T : ErrT prog K mg cn fld C fI) {v : Value} (M : L2.Mod K mg g) (hg : ∀ b o, g.get? b = some o → s.heap.get? b = some o) (hroom : A.depth + 1 < recursionLimit)
    (hq : ∀ h' tk e d, ErrMade s.heap h' fld e C d v → R (.ok (.ret (.ref e))) { s with heap := h', toks := tk }) :
    codeAny (model prog w) A (.call (.ref C) ⟨[v], []⟩) R s := by
  obtain ⟨nm, q, N, bs, bm, sn, sub, ab, col, dd, k0, k1, k2, k3, k5, hC, hbm⟩ := T.cls
  have X : K.In s.heap := M.kin.keeps hg
  obtain ⟨hp, gs, dr, tk, os⟩ := s
  have k : ∀ b o, hp.get? b = some o → ((hp.push (kdv_tup [v])).push (excO C hp.objs.size)).get? b = some o := fun b o e => Heap.get?_push_of_some _ (Heap.get?_push_of_some _ e)
  have hget : ((hp.push (kdv_tup [v])).push (excO C hp.objs.size)).get? (hp.objs.size + 1) = some (excO C hp.objs.size) := by heap_get
  have hnx : K.lookup (hp.objs.size + 1) = none := by
    cases e : K.lookup (hp.objs.size + 1) with
    | none => rfl
    | some o =>
      have z : hp.get? (hp.objs.size + 1) = some o := X _ _ e
      exact absurd (Nat.lt_of_succ_lt (Heap.lt_size z)) (Nat.lt_irrefl _)
  refine call_own F.excBase_ValueError (fun X => refsVE_contains X bm hbm) (X _ _ hC) (looks_findIn X T.iC) (fun self => bind_fn X self T.tC) (size1 v) ?_
  refine err_init (s := ⟨(hp.push (kdv_tup [v])).push (excO C hp.objs.size), gs, dr, tk, os⟩) (g := g) T M (fun b o e => k b o (hg b o e)) hget hnx ?_ fun h' tk' dx ⟨k', hx, dn, dne, hns⟩ => ?_
  · show A.depth + 1 < recursionLimit
    exact hroom
  · obtain ⟨t1, hx⟩ := hx
    have old : ∀ b o, hp.get? b = some o → h'.get? b = some o := fun b o e => k' b o (Nat.ne_of_lt (Nat.lt_succ_of_lt (Heap.lt_size e))) (k b o e)
    have z : hp.objs.size + 1 + 1 ≤ dx := by
      first
        | (simpa only [Heap.size_push] using dn)
        | exact dn
        | (have q := dn; rw [Heap.size_push, Heap.size_push] at q; exact q)
    exact ⟨rfl, hq h' tk' (hp.objs.size + 1) dx ⟨old, Nat.le_succ _, ⟨_, _, hx, rfl, rfl, rfl, rfl⟩, Nat.le_trans (Nat.le_trans (Nat.le_succ _) (Nat.le_succ _)) z, dne, hns⟩⟩
end
end RX
namespace L2
open PySem PySem.Spec PyProof.Rows
theorem relO_one {fld : Str} {v : V} {v' : Value} (r : RelV v v') (f : Str) : RelO (List.lookup f [(fld, v)]) (if f = fld then some v' else none) := by
  by_cases hw : f = fld
  · subst hw
    rw [if_pos rfl]
    have q : List.lookup f [(f, v)] = some v := by simp [List.lookup]
    rw [q]; exact r
  · rw [if_neg hw]
    have qw : (f == fld) = false := by simpa using hw
    have q2 : List.lookup f [(fld, v)] = none := by simp [List.lookup, qw]
    rw [q2]; trivial
section
variable {X : Cx} {C fI : Addr} {cn fld : Str}
/-- Err(e): its own dict d is new and holds the field -/
def tMkErr (fld : Str) (C : Addr) (ta : TA) : St → Hp → XK → Prop := fun σ H Q => ta σ H fun vs H1 => ∃ v, vs = [v] ∧ ∀ d, H1 d = none → Q (.ref C) (some d) (upd H1 d (.xd [(fld, v)]))
theorem pmk_err {a : Expr} {ta : TA} {p pos : Pos} {k : Nat} (T : RX.ErrT X.prog X.K X.mg cn fld C fI) (hr : Room k X.A) (ha : PA X [a] ta) (hg : Gl X cn := by rfl) (hdb : (cn == ("__debug__" : Str)) = false := by decide)
    (he : starEach (a :: []) X.env = (false, eval a X.env) :: starEach [] X.env := by rfl) (hpl : (backTo pos (starEach [] X.env)).any (·.1) = false := by rfl) :
    PMk X (.Call (.Name cn p) [a] [] pos) (tMkErr fld C ta) := by
  intro pins s σ H Q I h
  refine wpAny_Call_Name_kw (ld_glob I hg T.gC ?_ hdb)
  refine PySem.W.callWith_K (h₀ := X.base) I.ok.mod.kin T.kC (thn (ha.run pos pins s σ H _ I h) fun us s1 hh => ?_) he hpl
  obtain ⟨vs, H1, I1, r1, v, ev, q1⟩ := hh
  subst ev
  refine ⟨I1.kIn, ?_⟩
  cases r1 with
  | cons rv rn =>
    rename_i v' us'
    cases rn
    show wpAny _ _ (call (.ref C) [v']) _ _ _
    have hbk := I1.bk
    obtain ⟨hp, g, dr, tk, os⟩ := s1
    refine wpAny_call (RX.err_made T I1.mod hbk (by have := hr.dp; omega) fun h' tk' e d M => ?_)
    show MkP X pins σ Q (.ref e) ⟨h', g, dr, tk', os⟩
    obtain ⟨oe, fv, hoe, hc, hd, hdat, h1⟩ := M.obj
    have hns := M.ns
    obtain ⟨G', g1, g2⟩ := restrict h' fun b => decide (b ≠ e)
    have gk : ∀ b, b ≠ e → G'.get? b = h'.get? b := fun b hb => g1 b (decide_eq_true hb)
    have ge : G'.get? e = none := g2 e (by simp)
    have old : ∀ b o, hp.get? b = some o → G'.get? b = some o := fun b o q => (gk b (Nat.ne_of_lt (Nat.lt_of_lt_of_le (Heap.lt_size q) M.new))).trans (M.keep b o q)
    have ob : ObjOk X.prog X.w (upd H1 d (.xd [(fld, v)])) G' d (.xd [(fld, v)]) :=
      ⟨_, hns.at (fun o q => (gk d M.dne).trans q), fun f => relO_one rv f⟩
    have J : Inv X pins σ (upd H1 d (.xd [(fld, v)])) ⟨G', g, dr, tk', os⟩ := I1.laid (t' := tk') old M.dbig ob
    refine ⟨e, oe, fv, ⟨G', g, dr, tk', os⟩, _, .ref C, some d, rfl, J, fun b o q => ?_, ge, hoe, ⟨hc, hd⟩, hdat, h1, ?_, rfl, I1.bare, raises_own T.exC T.tyC, q1 d (I1.hok.fresh M.dbig)⟩
    · by_cases hb : b = e
      · have q' : G'.get? b = some o := q
        rw [hb, ge] at q'; cases q'
      · exact (gk b hb).symm.trans q
    · rw [upd_ne (Ne.symm M.dne)]
      exact I1.hok.fresh M.new
/-- raise Err(e) -/
def tRaiseErr (fld : Str) (C : Addr) (W : WX) (ta : TA) : TS := fun _ σ H => tMkErr fld C ta σ H fun cls d H' => W cls d σ H'
theorem ps_raiseErr {a : Expr} {ta : TA} {W : WX} {p pos pos2 : Pos} {k : Nat} (hc : X.calm = true) (T : RX.ErrT X.prog X.K X.mg cn fld C fI) (hr : Room k X.A) (tk : Takes X W) (ha : PA X [a] ta) (hg : Gl X cn := by rfl) (hdb : (cn == ("__debug__" : Str)) = false := by decide)
    (he : starEach (a :: []) X.env = (false, eval a X.env) :: starEach [] X.env := by rfl) (hpl : (backTo pos (starEach [] X.env)).any (·.1) = false := by rfl) :
    PS X (.Raise (some (.Call (.Name cn p) [a] [] pos)) none pos2) (tRaiseErr fld C W ta) := ps_raise hc tk (pmk_err T hr ha hg hdb he hpl)
end
end L2
end
section
set_option Elab.async false
set_option linter.all false
set_option maxRecDepth 100000
set_option maxHeartbeats 2000000
namespace L2
open PySem PySem.Spec PyProof.Rows
/-- as FnOk, but only where no repr is under way around the call -/
structure FnG (P : Program) (w : World) (K : PySem.W.Frag) (mg : Str → Option Value) (base : Heap)
    (CX : CXT) (k : Nat) (f : Addr) (fd : FuncData) (ps : List Str) (sp : Sp) : Prop where
  len : ∀ vs H Q E, sp vs H Q E → vs.length = ps.length
  run : ∀ (A : Around) (outer : List Env) (s : Shared) (H : Hp) (args : Args) (us : List Value)
    (vs : List V) (Q : VK) (E : XK), A.guards = some [] → Room k A → Env0 P w K mg base A outer s H →
    BindsTo s fd args (ps.zip us) → Vals vs us → sp vs H Q E →
    codeAny (model P w) A (.call (.ref f) args) (CR CX outer P w H s Q E) s
section
variable {P : Program} {w : World} {K : PySem.W.Frag} {mg : Str → Option Value} {base : Heap}
  {CX : CXT} {k j : Nat} {f : Addr} {fd : FuncData} {ps : List Str} {sp sp' : Sp}
theorem FnOk.g (F : FnOk P w K mg base CX k f fd ps sp) : FnG P w K mg base CX k f fd ps sp :=
  ⟨F.len, fun A o s H a us vs Q E _ => F.run A o s H a us vs Q E⟩
theorem FnG.mono (F : FnG P w K mg base CX j f fd ps sp) (h : j ≤ k) : FnG P w K mg base CX k f fd ps sp :=
  ⟨F.len, fun A o s H a us vs Q E hg hr => F.run A o s H a us vs Q E hg (hr.mono h)⟩
theorem FnG.imp (F : FnG P w K mg base CX k f fd ps sp) (h : ∀ vs H Q E, sp' vs H Q E → sp vs H Q E) :
    FnG P w K mg base CX k f fd ps sp' :=
  ⟨fun vs H Q E q => F.len vs H Q E (h _ _ _ _ q),
   fun A o s H a us vs Q E hg hr he hb hv hs => F.run A o s H a us vs Q E hg hr he hb hv (h _ _ _ _ hs)⟩
end
/-- a def by its body, where nothing is being shown -/
theorem fn_ofG {CX : CXT} {P : Program} {w : World} {K : PySem.W.Frag} {mg : Str → Option Value} {base : Heap}
    {k : Nat} {f : Addr} {name qual : Str} {params : Arguments} {body : List Stmt} {scope : Scope}
    {dV kV doc pm cdv ct oc : Value} {an od : Option Addr} {osl : Array (Option Value)} {N ps : List Str} {sp : Sp}
    (lk : K.lookup f = some ⟨oc, od, .func (PySem.W.fnOf name qual params body scope dV kV doc pm an cdv ct), osl⟩)
    (hcd : PySem.W.codeIn K cdv qual = true) (S : FnScope N ps scope)
    (len : ∀ vs H Q E, sp vs H Q E → vs.length = ps.length)
    (hbody : ∀ (A : Around) (outer : List Env) (s : Shared) (H : Hp) (vs : List V) (Q : VK) (E : XK),
      A.guards = some [] → Room k (A.deeper (envOfC qual scope s.heap.objs.size f cdv)) → sp vs H Q E →
      ∃ t, PSs (cxOf CX P w K mg base N qual scope f cdv A outer s H E) body t ∧
        t { nx := fun _ H' => Q .non H', rt := Q } (start N vs) H) :
    FnG P w K mg base CX (k + 1) f (PySem.W.fnOf name qual params body scope dV kV doc pm an cdv ct) ps sp := by
  constructor
  · exact len
  intro A outer s H args us vs Q E hgd hr e0 hb r hsp
  have lenV := len _ _ _ _ hsp
  have kept : ∀ b o, base.get? b = some o → s.heap.get? b = some o := fun b o e => (e0.bs b o e).1
  have KX : K.In s.heap := e0.mod.kin.keeps kept
  have noLim : s.heap.NoLimit := e0.mod.nolimit.keeps kept
  have kinds : ∀ y ∈ ps.zip us, scope.names.lookup y.1 = some .local ∨
      (scope.names.lookup y.1 = some .cell ∧ ((cellsFrom (s.heap.objs.size + 1) scope.names []).lookup y.1).isSome = true) := by
    rintro ⟨n, v⟩ hy
    have hn : n ∈ ps := (List.of_mem_zip hy).1
    rcases S.par n hn with z | z
    · exact Or.inl z
    · exact Or.inr ⟨z, PySem.W.cellsFrom_some _ _ _ (Or.inl z)⟩
  refine codeAny_call_function hr.depth (KX _ _ lk) rfl S.co S.gen rfl (PySem.W.codeRec_of KX hcd) ?_
  apply hb
  refine wpAny_newFunctionEnv_cells S.kind kinds ?_
  rintro env rfl s1 x
  refine ⟨noLim.keeps x.toInCall.keep, codeAny_func ?_⟩
  obtain ⟨t, ht, hq⟩ := hbody A outer s H vs Q E hgd (hr.deeper _) hsp
  have I := inv_start (CX := CX) (E := E) S hr.hd e0 lenV r x
  refine wpAny_mono (ht.run [] s1 (start N vs) H _ I hq) ?_ (fun _ _ z => z)
  intro fl s' hs
  have done : ∀ {σ' : St} {H' : Hp} {v : V} {u : Value},
      Inv (cxOf CX P w K mg base N qual scope f cdv A outer s H E) [] σ' H' s' → RelV v u → Q v H' →
      CE outer P w H s Q u s' := by
    intro σ' H' v u J rv q
    exact ⟨v, H', J.os, J.bare, J.base, J.hok, rv, q⟩
  match fl, hs with
  | .ret u, hs => obtain ⟨v, σ', H', J, rv, q⟩ := hs; exact done J rv q
  | .next, hs => obtain ⟨σ', H', J, q⟩ := hs; exact done (v := .non) (u := .none) J rfl q
  | .brk, hs => obtain ⟨_, _, _, q⟩ := hs; exact q.elim
  | .cont, hs => obtain ⟨_, _, _, q⟩ := hs; exact q.elim
/-- the law's own call, at the heap behind the top -/
theorem law_callG {P : Program} {w : World} {K : PySem.W.Frag} {mg mb : Str → Option Value} {CX : CXT} {k : Nat} {fa a : Addr} {fd : FuncData} {x : Str} {sp : Sp} {s₁ : Shared} {vs : List Value} {ns : List Int}
    (KX : K.In s₁.heap) (hns : s₁.heap.Ns mainGlobals mg) (hb : s₁.heap.Ns builtinsNs mb) (hbb : ∀ x : Str, x ≠ "__name__" → mb x = bootBuiltins x)
    (hlim : s₁.heap.NoLimit) (hg : s₁.gens = #[]) (ha : s₁.heap.get? a = some { cls := .type "list", data := .seq vs.toArray })
    (hi : IntsAre vs ns) (hl : ns.length ≤ sizeLine) (hr : Room k callerA)
    (F : ∀ base : Heap, K.In base → base.Ns mainGlobals mg → FnG P w K mg base CX k fa fd [x] sp)
    (hbind : ∀ (s : Shared) (u : Value), BindsTo s fd ⟨[u], []⟩ [(x, u)])
    (hsp : ∀ H : Hp, Only H → SqL K H a (ns.map V.int) → sp [.ref a] H (fun v _ => v = .bl true) fun _ _ _ => False)
    (hCX : ∀ H e s', CX [] H s₁ (fun _ _ _ => False) e s' → False) :
    codeAny (model P w) callerA (.call (.ref fa) ⟨[.ref a], []⟩)
      (fun r s' => r = .ok (.ret (.bool true)) ∧ OldK s₁.heap s'.heap ∧ s'.os = s₁.os ∧ AllBare s'.gens) s₁ := by
  have rv := vals_ints hi
  have lenV := hi.length
  have core : ∀ H : Hp, Only H → SqL K H a (ns.map V.int) → HOk P w H s₁.heap → (∀ b, H b ≠ none → b = a) → (H a ≠ none → K.lookup a = none) →
      codeAny (model P w) callerA (.call (.ref fa) ⟨[.ref a], []⟩)
        (fun r s' => r = .ok (.ret (.bool true)) ∧ OldK s₁.heap s'.heap ∧ s'.os = s₁.os ∧ AllBare s'.gens) s₁ := by
    intro H hO hS hok hA hK
    have toB : ∀ {b : Addr} {o : Obj}, s₁.heap.get? b = some o → H b = none → (hidT s₁.heap H).get? b = some o := hidT_get
    have notA : ∀ {b : Addr} {o : Obj} {es : Array DictEntry} {ep : Nat}, s₁.heap.get? b = some o → o.data = .dict es ep → H b = none := by
      intro b o es ep e d
      cases q : H b with
      | none => rfl
      | some u =>
        cases (hA b (by rw [q]; simp))
        rw [ha] at e
        cases e
        exact nomatch (show Data.seq vs.toArray _ = Data.dict es ep from d)
    have toNs : ∀ {b : Addr} {m : Str → Option Value}, s₁.heap.Ns b m → (hidT s₁.heap H).Ns b m := by
      rintro b m ⟨o, es, ep, e, d, r⟩
      exact ⟨o, es, ep, toB e (notA e d), d, r⟩
    have inB : K.In (hidT s₁.heap H) := by
      intro b o e
      refine toB (KX b o e) ?_
      cases q : H b with
      | none => rfl
      | some u =>
        cases (hA b (by rw [q]; simp))
        have z := hK (by rw [q]; simp)
        rw [z] at e
        cases e
    have hM : Mod K mg (hidT s₁.heap H) := by
      obtain ⟨mc, h1, h2⟩ := hlim
      exact ⟨inB, toNs hns, ⟨mb, toNs hb, hbb⟩, ⟨mc, toNs h1, h2⟩⟩
    have e0 : Env0 P w K mg (hidT s₁.heap H) callerA [] s₁ H :=
      { frames := rfl, mod := hM, bs := fun b o e => of_hidT e, bsz := Nat.le_of_eq (hidT_size _ _), funs := trivial,
        frf := fun b hb => absurd (show b ∈ ([] : List Addr) from hb) (by simp), hok := hok, bare := .of_eq hg }
    have run := (F _ inB (toNs hns)).run callerA [] s₁ H ⟨[.ref a], []⟩ [.ref a] [.ref a] _ _ rfl hr e0 (hbind s₁ (.ref a)) (.cons rfl .nil) (hsp H hO hS)
    refine codeAny_mono run ?_
    intro r s' h
    match r, h with
    | .error e, h => exact (hCX H e s' h).elim
    | .ok .next, h => exact False.elim h
    | .ok .brk, h => exact False.elim h
    | .ok .cont, h => exact False.elim h
    | .ok (.ret u), h =>
      obtain ⟨v, H', os, bare, un, hok', r', q⟩ := h
      cases (show v = V.bl true from q)
      cases (show u = Value.bool true from r')
      refine ⟨rfl, OldK.of_keep ?_, os, bare⟩
      intro b o e
      cases q2 : H b with
      | none => exact un.keep b o e q2 (by intro z; exact absurd (show b ∈ ([] : List Addr) from z) (by simp)) (by simp)
      | some u2 =>
        rcases hO b with z | ⟨ob, xs, z⟩
        · rw [q2] at z
          cases z
        · obtain ⟨e1, _⟩ := hok b _ z
          obtain ⟨e2, _⟩ := hok' b _ (un.frzs b ob _ z)
          rw [e] at e1
          cases e1
          exact e2
  cases hk : K.lookup a with
  | some o =>
    have e := KX a o hk
    rw [ha] at e
    cases e
    refine core (fun _ => none) (fun _ => Or.inl rfl) (Or.inr ⟨_, vs.toArray, _, hk, rfl, rfl, rfl, ?_, ?_⟩) ?_ (fun b z => absurd rfl z) (fun z => absurd rfl z)
    · rw [List.size_toArray, lenV]
      exact hl
    · simpa using rv
    · intro b u z
      exact nomatch (show (none : Option HO) = some u from z)
  | none =>
    have hif : ∀ b, b ≠ a → (fun b => if b = a then some (HO.frz { cls := .type "list", data := .seq vs.toArray } (.lst (ns.map V.int))) else none) b = none := fun b h => if_neg h
    refine core (fun b => if b = a then some (.frz { cls := .type "list", data := .seq vs.toArray } (.lst (ns.map V.int))) else none) ?_ (Or.inl (Or.inr ⟨_, if_pos rfl⟩)) ?_ ?_ (fun _ => hk)
    · intro b
      by_cases h : b = a
      · exact Or.inr ⟨_, _, if_pos h⟩
      · exact Or.inl (hif b h)
    · intro b u z
      by_cases h : b = a
      · subst h
        cases (if_pos rfl).symm.trans z
        refine ⟨ha, ?_, vs, _, rv, ha⟩
        rw [List.length_map]
        exact hl
      · cases (hif b h).symm.trans z
    · intro b z
      by_cases h : b = a
      · exact h
      · exact absurd (hif b h) z
theorem walk_ofG {l : PySem.W.OpenLaw} {n k : Nat} {q : Program} {loose : List Str} {XP : (Str → Option Value) → Heap → Prop} {YP : World → Heap → Prop} {d : DefRec} {K : Params → PySem.W.Frag} {CX : World → CXT} {sp : World → Sp} {x : Str}
    (hn : l.most = some n) (hn2 : n ≤ sizeLine) (hdf : d.params.defaults = []) (hr : Room k callerA) (hY : ∀ (w : World) (h : Heap), YP w h → (K w.params).In h)
    (F : ∀ (w : World) (mg : Str → Option Value) (fa : Addr) (h : Heap), (K w.params).In h → h.Ns mainGlobals mg → mg d.name = some (.ref fa) →
      ∃ fd : FuncData, (∀ (s : Shared) (u : Value), BindsTo s fd ⟨[u], []⟩ [(x, u)]) ∧ ∀ base : Heap, (K w.params).In base → base.Ns mainGlobals mg → FnG l.prog w (K w.params) mg base (CX w) k fa fd [x] (sp w))
    (hsp : ∀ (w : World) (H : Hp) (a : Addr) (ns : List Int), ns.length ≤ n → Only H → SqL (K w.params) H a (ns.map V.int) → sp w [.ref a] H (fun v _ => v = .bl true) fun _ _ _ => False)
    (hCX : ∀ (w : World) (H : Hp) (s : Shared) (e : Value) (s' : Shared), CX w [] H s (fun _ _ _ => False) e s' → False) :
    PySem.W.WalkO q loose XP YP l.row.toRowW d [] (fun f vs => PySem.call f vs) := by
  refine Att.attach_call hn hdf ?_
  intro w s₀ s₁ mg mb fa o pm cd doc a vs ns G Y ho hd hcd hmg hobj hints hlen hg
  have KX := hY w _ Y
  obtain ⟨fd, hb, hF⟩ := F w mg fa _ KX G.T.g hmg
  exact law_callG KX G.T.g G.T.b G.T.builtins G.T.nolimit hg hobj hints (Nat.le_trans hlen hn2) hr hF hb
    (fun H hO hS => hsp w H a ns hlen hO hS) (fun H e s' => hCX w H s₁ e s')
end L2
end
section
set_option Elab.async false
set_option linter.all false
set_option maxRecDepth 100000
set_option maxHeartbeats 2000000
namespace L2
open PySem PySem.Spec PyProof.Rows
mutual
inductive Dr (L : Bool) (M : Addr → Prop) (H : Hp) : V → PyData → Prop
  | non : Dr L M H .non .none
  | bl (b : Bool) : Dr L M H (.bl b) (.bool b)
  | int (i : Int) : Dr L M H (.int i) (.int i)
  | str (x : Str) : Dr L M H (.str x) (.str x)
  | lst {a : Addr} {xs : List V} {ds : List PyData} (e : H a = some (.lst xs)) (n : ¬ M a) (l : L = true) (t : DrAll L M H xs ds) : Dr L M H (.ref a) (.list ds)
  | tup {a : Addr} {xs : List V} {ds : List PyData} (e : H a = some (.tup xs)) (n : ¬ M a) (t : DrAll L M H xs ds) : Dr L M H (.ref a) (.tuple ds)
  | dct {a : Addr} (e : H a = some (.dK [])) (n : ¬ M a) (l : L = false) : Dr L M H (.ref a) (.dict [])
inductive DrAll (L : Bool) (M : Addr → Prop) (H : Hp) : List V → List PyData → Prop
  | nil : DrAll L M H [] []
  | cons {v : V} {vs : List V} {d : PyData} {ds : List PyData} (h : Dr L M H v d) (t : DrAll L M H vs ds) : DrAll L M H (v :: vs) (d :: ds)
end
/-- what is tracked off M stays -/
def Off (M : Addr → Prop) (H H' : Hp) : Prop := ∀ b o, ¬ M b → H b = some o → H' b = some o
theorem Off.refl {M : Addr → Prop} (H : Hp) : Off M H H := fun _ _ _ e => e
theorem Off.trans {M : Addr → Prop} {H H1 H2 : Hp} (a : Off M H H1) (b : Off M H1 H2) : Off M H H2 := fun c o n e => b c o n (a c o n e)
theorem Off.new {M : Addr → Prop} {H : Hp} {p : Addr} {o : HO} (h : H p = none) : Off M H (upd H p o) := fun b u _ e => by
  rw [upd_ne (ne_of_none e h)]; exact e
theorem Off.mut {M : Addr → Prop} {H : Hp} {p : Addr} {o : HO} (h : M p) : Off M H (upd H p o) := fun b u n e => by
  rw [upd_ne (fun z => n (by rw [z]; exact h))]; exact e
theorem Off.same {M : Addr → Prop} {H H' : Hp} (h : Same H H') : Off M H H' := fun b o _ e => h b o e
section
variable {L : Bool} {M M' : Addr → Prop} {H H' : Hp}
mutual
theorem Dr.keep (h : Off M H H') : ∀ {v : V} {d : PyData}, Dr L M H v d → Dr L M H' v d
  | _, _, .non => .non
  | _, _, .bl b => .bl b
  | _, _, .int i => .int i
  | _, _, .str x => .str x
  | _, _, .lst e n l t => .lst (h _ _ n e) n l (DrAll.keep h t)
  | _, _, .tup e n t => .tup (h _ _ n e) n (DrAll.keep h t)
  | _, _, .dct e n l => .dct (h _ _ n e) n l
theorem DrAll.keep (h : Off M H H') : ∀ {vs : List V} {ds : List PyData}, DrAll L M H vs ds → DrAll L M H' vs ds
  | _, _, .nil => .nil
  | _, _, .cons a t => .cons (Dr.keep h a) (DrAll.keep h t)
end
mutual
theorem Dr.noDict : ∀ {v : V} {d : PyData}, Dr true M H v d → d.hasDict = false
  | _, _, .non => rfl
  | _, _, .bl _ => rfl
  | _, _, .int _ => rfl
  | _, _, .str _ => rfl
  | _, _, .lst _ _ _ t => by simpa [PyData.hasDict] using DrAll.noDict t
  | _, _, .tup _ _ t => by simpa [PyData.hasDict] using DrAll.noDict t
  | _, _, .dct _ _ l => by cases l
theorem DrAll.noDict : ∀ {vs : List V} {ds : List PyData}, DrAll true M H vs ds → PyData.hasDictAll ds = false
  | _, _, .nil => rfl
  | _, _, .cons a t => by simp [PyData.hasDictAll, Dr.noDict a, DrAll.noDict t]
end
mutual
theorem Dr.reads {P : Program} {w : World} {h : Heap} (ok : HOk P w H h) : ∀ {v : V} {d : PyData} {u : Value}, Dr L M H v d → RelV v u → ∃ as, Reads h u d as ∧ (L = false → sysModules ∉ as)
  | _, _, _, .non, r => by
    cases (show _ = Value.none from r)
    exact ⟨[], .none, fun _ => by simp⟩
  | _, _, _, .bl b, r => by
    cases (show _ = Value.bool b from r)
    exact ⟨[], .bool b, fun _ => by simp⟩
  | _, _, _, .int i, r => by
    obtain ⟨t, rfl⟩ := (show ∃ t, _ = Value.int i t from r)
    exact ⟨[], .int i t, fun _ => by simp⟩
  | _, _, _, .str x, r => by
    obtain ⟨t, rfl⟩ := (show ∃ t, _ = Value.str x t from r)
    exact ⟨[], .str x t, fun _ => by simp⟩
  | _, _, _, .lst (a := a) e n l t, r => by
    cases (show _ = Value.ref a from r)
    obtain ⟨_, its, m, rv, ho⟩ := ok a _ e
    obtain ⟨as, hr, _⟩ := DrAll.reads ok t rv
    exact ⟨a :: as, .list ho rfl rfl (by simpa using hr), fun z => by rw [l] at z; cases z⟩
  | _, _, _, .tup (a := a) e n t, r => by
    cases (show _ = Value.ref a from r)
    obtain ⟨_, its, rv, o, ho, hc, m, hd⟩ := ok a _ e
    obtain ⟨as, hr, hs⟩ := DrAll.reads ok t rv
    exact ⟨as, .tuple ho hc hd (by simpa using hr), hs⟩
  | _, _, _, .dct (a := a) e n l, r => by
    cases (show _ = Value.ref a from r)
    obtain ⟨_, hn, vs, kv, o, es, ep, ho, hc, hd, hrest⟩ := ok a _ e
    cases kv
    obtain ⟨_, hp, _⟩ := hrest
    have hes : es.toList = [] := by
      generalize es.toList = l at hp
      cases hp
      rfl
    refine ⟨[a], ?_, fun _ z => ?_⟩
    · have q : Reads h (.ref a) (.dict []) (a :: [] ++ []) := .dict ho hc.1 hd (by rw [hes]; exact .nil) (by rw [hes]; exact .nil)
      simpa using q
    · simp only [List.mem_singleton] at z
      rw [← z] at hn
      simp at hn
theorem DrAll.reads {P : Program} {w : World} {h : Heap} (ok : HOk P w H h) : ∀ {vs : List V} {ds : List PyData} {us : List Value}, DrAll L M H vs ds → Vals vs us → ∃ as, ReadsAll h us ds as ∧ (L = false → sysModules ∉ as)
  | _, _, _, .nil, .nil => ⟨[], .nil, fun _ => by simp⟩
  | _, _, _, .cons a t, .cons r rs => by
    obtain ⟨as, h1, s1⟩ := Dr.reads ok a r
    obtain ⟨bs, h2, s2⟩ := DrAll.reads ok t rs
    exact ⟨as ++ bs, .cons h1 h2, fun z y => (List.mem_append.mp y).elim (s1 z) (s2 z)⟩
end
end
/-- repr(x), x a datum, where nothing is being shown -/
def rRepr : List V → Hp → VK → Prop := fun xs H Q => ∃ (v : V) (d : PyData) (L : Bool) (M : Addr → Prop), xs = [v] ∧ Dr L M H v d ∧ d.showable = true ∧ d.depth ≤ 60 ∧ d.shown.length ≤ sizeLine ∧ Q (.str d.shown) H
theorem call_reprD {X : Cx} {k : Nat} (hgd : X.A.guards = some []) (hr : Room k X.A) : CallR X (.builtin "repr") rRepr := by
  intro pins s σ H xs us Q I r h
  obtain ⟨v, d, L, M, rfl, hd, hs, hdep, hz, q⟩ := h
  obtain ⟨u, rfl, ru⟩ : ∃ u, us = [u] ∧ RelV v u := by
    cases r with
    | cons r1 r2 => cases r2; exact ⟨_, rfl, r1⟩
  have hu := hr.un
  obtain ⟨as, hreads, hsys⟩ := hd.reads I.hok ru
  have hsm : d.hasDict = true → sysModules ∉ as := by
    intro z
    cases L with
    | false => exact hsys rfl
    | true => rw [hd.noDict] at z; cases z
  cases hd with
  | non =>
    cases (show u = Value.none from ru)
    exact PySem.P.repr_of_none ⟨.str _, H, I.tok _, ⟨_, rfl⟩, q⟩
  | bl b =>
    cases (show u = Value.bool b from ru)
    exact PySem.P.repr_of_bool ⟨.str _, H, I.tok _, ⟨_, rfl⟩, by simpa [PyData.shown] using q⟩
  | int i =>
    obtain ⟨t, rfl⟩ := (show ∃ t, u = Value.int i t from ru)
    exact PySem.P.repr_of_int (by simpa [PyData.showable] using hs) ⟨.str _, H, I.tok _, ⟨_, rfl⟩, by simpa [PyData.shown] using q⟩
  | str x =>
    obtain ⟨t, rfl⟩ := (show ∃ t, u = Value.str x t from ru)
    exact PySem.P.repr_of_str ⟨.str _, H, I.tok _, ⟨_, rfl⟩, by simpa [PyData.shown] using q⟩ (by simpa [PyData.shown] using hz)
  | @lst a xs ds e n l t =>
    cases (show u = Value.ref a from ru)
    exact repr_of_reads' hreads hs hsm hgd (by omega) (fun _ _ z => z) (fun h' u' tk hk => ⟨.str _, H, I.kept (t' := tk) hk, ⟨u', rfl⟩, q⟩) hz
  | @tup a xs ds e n t =>
    cases (show u = Value.ref a from ru)
    exact repr_of_reads' hreads hs hsm hgd (by omega) (fun _ _ z => z) (fun h' u' tk hk => ⟨.str _, H, I.kept (t' := tk) hk, ⟨u', rfl⟩, q⟩) hz
  | @dct a e n l =>
    cases (show u = Value.ref a from ru)
    exact repr_of_reads' hreads hs hsm hgd (by omega) (fun _ _ z => z) (fun h' u' tk hk => ⟨.str _, H, I.kept (t' := tk) hk, ⟨u', rfl⟩, q⟩) hz
end L2
end
section
set_option Elab.async false
set_option linter.all false
set_option maxRecDepth 100000
set_option maxHeartbeats 2000000
namespace L2
open PySem PySem.Spec PyProof.Rows
section
variable {X : Cx} {pins : List (Addr × Obj)} {σ : St} {H : Hp} {s : Shared}
theorem tyOf_looks {M : Model} {x : V} {u t : Value} (I : Inv X pins σ H s) (rx : RelV x u) (ty : TyOf X.K H x t) : PySem.W.Looks M s.heap (typeOf u) t := by
  have viaRef : ∀ {a : Addr} {o : Obj} {T : String}, s.heap.get? a = some o → o.cls = .type T → PySem.W.Looks M s.heap (typeOf (.ref a)) (.type T) := by
    intro a o T ho hc A Q E s' k q
    exact wpAny_typeOf ⟨o, k _ _ ho, hc⟩ q
  cases ty with
  | non => cases (show u = Value.none from rx); exact fun A Q E s' k q => wpAny_typeOf (PySem.typeIs_none s') q
  | bl b => cases (show u = Value.bool b from rx); exact fun A Q E s' k q => wpAny_typeOf (PySem.typeIs_bool s' b) q
  | int i => obtain ⟨t, rfl⟩ := (show ∃ t, u = Value.int i t from rx); exact fun A Q E s' k q => wpAny_typeOf (typeIs_int s' i t) q
  | str y => obtain ⟨t, rfl⟩ := (show ∃ t, u = Value.str y t from rx); exact fun A Q E s' k q => wpAny_typeOf (typeIs_str s' y t) q
  | flt y => obtain ⟨t, rfl⟩ := (show ∃ t, u = Value.float y t from rx); exact fun A Q E s' k q => wpAny_typeOf (PySem.typeIs_float s' y t) q
  | @lst a xs e =>
    cases (show u = Value.ref a from rx)
    obtain ⟨_, its, m, _, ho⟩ := I.hok a _ e
    exact viaRef ho rfl
  | @frz a o xs e =>
    cases (show u = Value.ref a from rx)
    obtain ⟨_, _, its, m, _, ho⟩ := I.hok a _ e
    exact viaRef ho rfl
  | @tup a xs e =>
    cases (show u = Value.ref a from rx)
    obtain ⟨_, its, _, o, ho, hc, _⟩ := I.hok a _ e
    exact viaRef ho hc
  | @dK a kvs e =>
    cases (show u = Value.ref a from rx)
    obtain ⟨_, _, vs, _, o, es, ep, ho, hc, _⟩ := I.hok a _ e
    exact viaRef ho hc.1
  | @dT a kvs e =>
    cases (show u = Value.ref a from rx)
    obtain ⟨_, _, xs, _, o, es, ep, ho, hc, _⟩ := I.hok a _ e
    exact viaRef ho hc.1
  | @ins a C dx fs e cl ha hn htk hm =>
    cases (show u = Value.ref a from rx)
    obtain ⟨mA, O, _⟩ := ins_get I.hok e
    obtain ⟨od, J, _⟩ := O.look
    exact J.type
end
section
variable {X : Cx} {CX : CXT} {C f : Addr} {fd : FuncData} {ps : List Str} {sp : Sp} {n : Nat} {E : XK}
/-- what the top says of a class with an __eq__ of its own, at f -/
structure EqC (K : PySem.W.Frag) (C f : Addr) : Prop where
  eq : PySem.W.findIn K (.ref C) "__eq__" = some (some (.ref f))
  ne : PySem.W.findIn K (.ref C) "__ne__" = some (some (.builtin "object.__ne__"))
  fn : PySem.W.isFn K (.ref f) = true
  ob : PySem.W.mroIn K C (.type "object") = some true
theorem ne_body {A : Around} {M : Model} {a : Addr} {b : Value} {Q : Fin → Shared → Prop} {E' : Value → Shared → Prop} {s : Shared} (hu : A.units < cLine)
    (h : wpAny M A (callSpecialIfBound? (.ref a) "__eq__" [b]) (fun r s' => ∃ k, r = some (.bool k) ∧ Q (.done (.ret (.bool (!k)))) s') E' s) :
    wpAny M A (Builtin.«object.__ne__» ⟨[.ref a, b], []⟩) Q E' s := by
  unfold Builtin.«object.__ne__»
  repeat (first | with_reducible refine wpAny_cRoomFor hu ?_ | (with_reducible refine wpAny_bind (wpAny_mono h ?_ fun _ _ z => z)) | wp_step)
  rintro r s' ⟨k, rfl, hq⟩
  exact wpAny_bind (wpAny_of_eq (show truthy (.bool k) = pure k from rfl) (wpAny_pure hq))
end
end L2
end
section
set_option Elab.async false
set_option linter.all false
set_option maxRecDepth 100000
set_option maxHeartbeats 2000000
namespace L2
open PySem PySem.Spec PyProof.Rows
end L2
end
section
set_option Elab.async false
set_option linter.all false
set_option maxRecDepth 100000
set_option maxHeartbeats 2000000
namespace L2
open PySem PySem.Spec PyProof.Rows
abbrev CXe (P : Program) (w : World) : CXT := L2.CX P w
/-- a def of the module, called by its name -/
structure CalG (P : Program) (w : World) (K : PySem.W.Frag) (mg : Str → Option Value) (base : Heap) (k : Nat) (x : Str) (sp : Sp) : Prop where
  ex : ∃ (f : Addr) (fd : FuncData) (ps : List Str), FnG P w K mg base (CXe P w) k f fd ps sp ∧ mg x = some (.ref f) ∧ PySem.W.keepIn K (.ref f) = true ∧ Binds K fd ps []
/-- a class, called: its __init__ at sp, dvs its last defaults -/
structure MakG (P : Program) (w : World) (K : PySem.W.Frag) (mg : Str → Option Value) (base : Heap) (k : Nat) (x : Str) (C : Addr) (sp : Sp) (dvs : List V) : Prop where
  ex : ∃ (f : Addr) (fd : FuncData) (ps : List Str) (ds : List Value), FnG P w K mg base (CXe P w) k f fd ps sp ∧ Mk K C f ∧ mg x = some (.ref C) ∧ Binds K fd ps ds ∧ Vals dvs ds
/-- a method -/
structure MetG (P : Program) (w : World) (K : PySem.W.Frag) (mg : Str → Option Value) (base : Heap) (k : Nat) (C : Addr) (m : Str) (sp : Sp) : Prop where
  ex : ∃ (f : Addr) (fd : FuncData) (ps : List Str), FnG P w K mg base (CXe P w) k f fd ps sp ∧ Cls K C ∧ Meth K C m f ∧ Binds K fd ps []
section
variable {X : Cx} {k j : Nat} {x m : Str} {C : Addr} {sp : Sp} {dvs : List V} {e o : Expr} {es : List Expr} {ta : TE} {t : TA} {p pos apos : Pos} {E : St → XK}
theorem run_fnGS {pins : List (Addr × Obj)} {σ : St} {H : Hp} {s : Shared} {Q : VK} {us : List Value} {vs : List V} {CX : CXT} {f : Addr} {fd : FuncData} {ps : List Str} {E : XK}
    (F : FnG X.prog X.w X.K X.mg X.base CX k f fd ps sp) (hgd : X.A.guards = some []) (hr : Room k X.A) (hb : Binds X.K fd ps [])
    (hx : PassesAt CX X σ E) (I : Inv X pins σ H s) (r : Vals vs us) (h : sp vs H Q E) :
    wpAny (model X.prog X.w) X.A (call (.ref f) us) (EP X pins σ Q) X.xe s := by
  have hl : (us ++ []).length = ps.length := by
    rw [List.append_nil]
    exact r.length.symm.trans (F.len _ _ _ _ h)
  have hbb := hb s us I.kIn hl
  rw [List.append_nil] at hbb
  apply wpAny_call
  refine codeAny_mono (F.run X.A X.stack s H ⟨us, []⟩ us vs Q E hgd hr I.env0 hbb r h) ?_
  intro r s' hq
  match r, hq with
  | .error e, hq => exact hx pins H s e s' I hq
  | .ok (.ret u), hq => exact I.after hq
  | .ok .next, hq => exact False.elim hq
  | .ok .brk, hq => exact False.elim hq
  | .ok .cont, hq => exact False.elim hq
/-- f(e, ..): E says by the slots what is wanted of an exception -/
theorem pg_cS (c : CalG X.prog X.w X.K X.mg X.base k x sp) (hgd : X.A.guards = some []) (hr : Room j X.A) (hk : k ≤ j) (hx : ∀ σ, PassesAt (CXe X.prog X.w) X σ (E σ))
    (ha : PA X (e :: es) t) (hg : Gl X x := by rfl) (hdb : (x == ("__debug__" : Str)) = false := by decide)
    (he : starEach (e :: es) X.env = (false, eval e X.env) :: starEach es X.env := by rfl)
    (hpl : (backTo pos (starEach es X.env)).any (·.1) = false := by rfl) :
    PE X (.Call (.Name x p) (e :: es) [] pos) (tCallS sp E t) := by
  obtain ⟨f, fd, ps, F, hm, kp, hb⟩ := c.ex
  constructor
  intro pins s σ H Q I h
  refine wpAny_Call_Name_kw (ld_glob I hg hm ?_ hdb)
  refine PySem.W.callWith_K (h₀ := X.base) I.ok.mod.kin kp (thn (ha.run pos pins s σ H _ I h) ?_) he hpl
  rintro us s1 ⟨vs, H1, I1, r, q⟩
  exact ⟨I1.kIn, run_fnGS F hgd (hr.mono hk) hb (hx σ) I1 r q⟩
/-- where no exception leaves -/
theorem pg_c (c : CalG X.prog X.w X.K X.mg X.base k x sp) (hgd : X.A.guards = some []) (hr : Room j X.A) (hk : k ≤ j)
    (ha : PA X (e :: es) t) (hg : Gl X x := by rfl) (hdb : (x == ("__debug__" : Str)) = false := by decide)
    (he : starEach (e :: es) X.env = (false, eval e X.env) :: starEach es X.env := by rfl)
    (hpl : (backTo pos (starEach es X.env)).any (·.1) = false := by rfl) :
    PE X (.Call (.Name x p) (e :: es) [] pos) (tCallS sp (fun _ => E0) t) :=
  pg_cS c hgd hr hk (fun σ pins H s e s' I c => passL pins σ H s e s' I c) ha hg hdb he hpl
def tMakeS (C : Addr) (sp : Sp) (dvs : List V) (E : St → XK) (t : TA) : TE := fun σ H Q => t σ H fun vs H1 => ∀ x dx, H1 x = none → H1 dx = none → dx ≠ x →
  sp (.ref x :: (vs ++ dvs)) (upd (upd H1 dx (.own x)) x (.ins C dx [])) (fun v H2 => v = .non ∧ Q (.ref x) H2) (E σ)
theorem run_makeGS {pins : List (Addr × Obj)} {σ : St} {H : Hp} {s : Shared} {Q : VK} {us ds : List Value} {vs : List V} {CX : CXT} {f : Addr} {fd : FuncData} {ps : List Str} {E : XK}
    (M : Mk X.K C f) (F : FnG X.prog X.w X.K X.mg X.base CX k f fd ps sp) (hgd : X.A.guards = some []) (hr : Room (k + 1) X.A) (hb : Binds X.K fd ps ds) (hd : Vals dvs ds)
    (hx : PassesAt CX X σ E) (I : Inv X pins σ H s) (r : Vals vs us)
    (h : ∀ x dx, H x = none → H dx = none → dx ≠ x → sp (.ref x :: (vs ++ dvs)) (upd (upd H dx (.own x)) x (.ins C dx [])) (fun v H2 => v = .non ∧ Q (.ref x) H2) E) :
    wpAny (model X.prog X.w) X.A (call (.ref C) us) (EP X pins σ Q) X.xe s := by
  have q0 := h (s.heap.objs.size + 1) s.heap.objs.size (I.hok.fresh (Nat.le_succ _)) (I.hok.fresh (Nat.le_refl _)) (Nat.ne_of_lt (Nat.lt_succ_self _))
  have I2 := Inv.made (C := C) I
  have r2 : Vals (V.ref (s.heap.objs.size + 1) :: (vs ++ dvs)) (Value.ref (s.heap.objs.size + 1) :: (us ++ ds)) := Paired.cons rfl (r.append hd)
  have hl : (Value.ref (s.heap.objs.size + 1) :: us ++ ds).length = ps.length := r2.length.symm.trans (F.len _ _ _ _ q0)
  have gd : (X.A.under (.builtin "type.__call__" ⟨.ref C :: us, []⟩)).guards = some [] := by
    have z : (X.A.under (.builtin "type.__call__" ⟨.ref C :: us, []⟩)).guards = X.A.guards := by
      first | rfl | simp [Around.under, Code.guards, pushGuards, guardIds]
    rw [z, hgd]
  apply wpAny_call
  refine make_map (f := f) I.kIn M.makes M.init (beq_iff_eq.mp M.fn) ?_
  refine codeAny_mono (F.run _ X.stack _ _ ⟨Value.ref (s.heap.objs.size + 1) :: us, []⟩ (Value.ref (s.heap.objs.size + 1) :: (us ++ ds)) _ _ E gd (hr.make C us []) (I2.env0.make C us []) (hb _ (Value.ref (s.heap.objs.size + 1) :: us) I2.kIn hl) r2 q0) ?_
  intro r s' hq
  match r, hq with
  | .error e, hq => exact hx pins _ _ e s' I2 hq
  | .ok (.ret u), hq =>
    obtain ⟨v, H', I3, rv, ev, q3⟩ := I2.after hq
    subst ev
    exact ⟨rv, ⟨V.ref (s.heap.objs.size + 1), H', I3, rfl, q3⟩⟩
  | .ok .next, hq => exact False.elim hq
  | .ok .brk, hq => exact False.elim hq
  | .ok .cont, hq => exact False.elim hq
theorem pg_mkS (c : MakG X.prog X.w X.K X.mg X.base k x C sp dvs) (hgd : X.A.guards = some []) (hr : Room j X.A) (hk : k + 1 ≤ j) (hx : ∀ σ, PassesAt (CXe X.prog X.w) X σ (E σ))
    (ha : PA X (e :: es) t) (hg : Gl X x := by rfl) (hdb : (x == ("__debug__" : Str)) = false := by decide)
    (he : starEach (e :: es) X.env = (false, eval e X.env) :: starEach es X.env := by rfl)
    (hpl : (backTo pos (starEach es X.env)).any (·.1) = false := by rfl) :
    PE X (.Call (.Name x p) (e :: es) [] pos) (tMakeS C sp dvs E t) := by
  obtain ⟨f, fd, ps, ds, F, M, hm, hb, hd⟩ := c.ex
  constructor
  intro pins s σ H Q I h
  refine wpAny_Call_Name_kw (ld_glob I hg hm ?_ hdb)
  refine PySem.W.callWith_K (h₀ := X.base) I.ok.mod.kin M.kp (thn (ha.run pos pins s σ H _ I h) ?_) he hpl
  rintro us s1 ⟨vs, H1, I1, r, q⟩
  exact ⟨I1.kIn, run_makeGS M F hgd (hr.mono hk) hb hd (hx σ) I1 r q⟩
theorem pg_mk (c : MakG X.prog X.w X.K X.mg X.base k x C sp dvs) (hgd : X.A.guards = some []) (hr : Room j X.A) (hk : k + 1 ≤ j)
    (ha : PA X (e :: es) t) (hg : Gl X x := by rfl) (hdb : (x == ("__debug__" : Str)) = false := by decide)
    (he : starEach (e :: es) X.env = (false, eval e X.env) :: starEach es X.env := by rfl)
    (hpl : (backTo pos (starEach es X.env)).any (·.1) = false := by rfl) :
    PE X (.Call (.Name x p) (e :: es) [] pos) (tMakeS C sp dvs (fun _ => E0) t) :=
  pg_mkS c hgd hr hk (fun σ pins H s e s' I c => passL pins σ H s e s' I c) ha hg hdb he hpl
def tMethX6 (C : Addr) (m : Str) (sp : Sp) (E : St → XK) (ta : TE) (t : TA) : TE := fun σ H Q => ta σ H fun x H1 => ∃ a dx fs, x = .ref a ∧ H1 a = some (.ins C dx fs) ∧ fs.lookup m = none ∧
  t σ H1 fun vs H2 => sp (x :: vs) H2 Q (E σ)
theorem pg_mtS {pl : Sem Bool} (c : MetG X.prog X.w X.K X.mg X.base k C m sp) (hgd : X.A.guards = some []) (hr : Room j X.A) (hk : k ≤ j) (hx : ∀ σ, PassesAt (CXe X.prog X.w) X σ (E σ)) (ho : PE X o ta) (ha : PA X (e :: es) t)
    (hst : starEach (e :: es) X.env = (false, eval e X.env) :: starEach es X.env := by rfl)
    (hpl : (backTo pos (starEach es X.env)).any (·.1) = false := by rfl)
    (ht : eval (.Call (.Attribute o m apos) (e :: es) [] pos) X.env =
      (do let ov ← eval o X.env; standAt apos.atName; let (f, first) ← holding [ov] (getMethod ov m pl); callWith pos f first (backTo pos (starEach (e :: es) X.env)) (backToKw pos (keywordEach [] X.env))) := by rfl) :
    PE X (.Call (.Attribute o m apos) (e :: es) [] pos) (tMethX6 C m sp E ta t) := by
  obtain ⟨f, fd, ps, F, cl, hm, hb⟩ := c.ex
  constructor
  intro pins s σ H Q I h
  refine PySem.W.methodCall_KW (pl := pl) (thn (ho.run pins s σ H _ I h) ?_) ht
  rintro u s1 ⟨x, H1, I1, rx, a, dx, fs, ex, ea, l, q⟩
  subst ex
  cases (show u = Value.ref a from rx)
  refine getmeth_ok I1 ea cl hm l ?_
  refine PySem.W.callWith_K (first := [.ref a]) (h₀ := X.base) I.ok.mod.kin hm.kp (thn (ha.run pos pins s1 σ H1 _ I1 q) ?_) hst hpl
  rintro us s2 ⟨vs, H2, I2, r, q2⟩
  exact ⟨I2.kIn, run_fnGS (us := .ref a :: us) (vs := .ref a :: vs) F hgd (hr.mono hk) hb (hx σ) I2 (.cons rfl r) q2⟩
theorem pg_mt {pl : Sem Bool} (c : MetG X.prog X.w X.K X.mg X.base k C m sp) (hgd : X.A.guards = some []) (hr : Room j X.A) (hk : k ≤ j) (ho : PE X o ta) (ha : PA X (e :: es) t)
    (hst : starEach (e :: es) X.env = (false, eval e X.env) :: starEach es X.env := by rfl)
    (hpl : (backTo pos (starEach es X.env)).any (·.1) = false := by rfl)
    (ht : eval (.Call (.Attribute o m apos) (e :: es) [] pos) X.env =
      (do let ov ← eval o X.env; standAt apos.atName; let (f, first) ← holding [ov] (getMethod ov m pl); callWith pos f first (backTo pos (starEach (e :: es) X.env)) (backToKw pos (keywordEach [] X.env))) := by rfl) :
    PE X (.Call (.Attribute o m apos) (e :: es) [] pos) (tMethX6 C m sp (fun _ => E0) ta t) :=
  pg_mtS c hgd hr hk (fun σ pins H s e s' I c => passL pins σ H s e s' I c) ho ha hst hpl ht
theorem pg_mt0 {pl : Sem Bool} (c : MetG X.prog X.w X.K X.mg X.base k C m sp) (hgd : X.A.guards = some []) (hr : Room j X.A) (hk : k ≤ j) (ho : PE X o ta)
    (ht : eval (.Call (.Attribute o m apos) [] [] pos) X.env =
      (do let ov ← eval o X.env; standAt apos.atName; let (f, first) ← holding [ov] (getMethod ov m pl); callWith pos f first (backTo pos (starEach [] X.env)) (backToKw pos (keywordEach [] X.env))) := by rfl) :
    PE X (.Call (.Attribute o m apos) [] [] pos) (tMethX6 C m sp (fun _ => E0) ta tNil) := by
  obtain ⟨f, fd, ps, F, cl, hm, hb⟩ := c.ex
  constructor
  intro pins s σ H Q I h
  refine PySem.W.methodCall_KW (pl := pl) (thn (ho.run pins s σ H _ I h) ?_) ht
  rintro u s1 ⟨x, H1, I1, rx, a, dx, fs, ex, ea, l, q⟩
  subst ex
  cases (show u = Value.ref a from rx)
  refine getmeth_ok I1 ea cl hm l ?_
  exact PySem.W.callWith_K0 (first := [.ref a]) I1.kIn hm.kp (run_fnGS (us := [.ref a]) (vs := [.ref a]) F hgd (hr.mono hk) hb (fun pins H s e s' I c => passL pins σ H s e s' I c) I1 (.cons rfl .nil) q)
end
section
variable {P : Program} {w : World} {K : PySem.W.Frag} {mg : Str → Option Value} {base : Heap} {x qual : Str} {f : Addr} {fd : FuncData} {N ps : List Str} {k : Nat} {sp : Sp}
/-- a def by its body: it may raise, and nothing is being shown around it -/
theorem Fun.okG {st : Stmt} (F : Fun K x qual st f fd) (S : FnScope N ps (defScope st)) (len : ∀ vs H Q E, sp vs H Q E → vs.length = ps.length)
    (hbody : ∀ (cdv : Value) (A : Around) (outer : List Env) (s : Shared) (H : Hp) (vs : List V) (Q : VK) (E : XK), (A.deeper (envOfC qual (defScope st) s.heap.objs.size f cdv)).guards = some [] →
      Room k (A.deeper (envOfC qual (defScope st) s.heap.objs.size f cdv)) → sp vs H Q E →
      ∃ t, PSs (cxOf (CXe P w) P w K mg base N qual (defScope st) f cdv A outer s H E) (defBody st) t ∧ t { nx := fun _ H' => Q .non H', rt := Q } (start N vs) H) :
    FnG P w K mg base (CXe P w) (k + 1) f fd ps sp := by
  obtain ⟨oc, od, kV, doc, pm, an, cdv, ct, osl, rfl, lk, hcd⟩ := F.ex
  exact fn_ofG lk hcd S len fun A outer s H vs Q E hg hr hsp => hbody cdv A outer s H vs Q E hg hr hsp
theorem FunD.okG {params : Arguments} {body : List Stmt} {scope : Scope} {dvs : List V} {kws : List (Str × V)} (F : FunD K x qual params body scope dvs kws f fd) (S : FnScope N ps scope) (len : ∀ vs H Q E, sp vs H Q E → vs.length = ps.length)
    (hbody : ∀ (cdv : Value) (A : Around) (outer : List Env) (s : Shared) (H : Hp) (vs : List V) (Q : VK) (E : XK), (A.deeper (envOfC qual scope s.heap.objs.size f cdv)).guards = some [] →
      Room k (A.deeper (envOfC qual scope s.heap.objs.size f cdv)) → sp vs H Q E →
      ∃ t, PSs (cxOf (CXe P w) P w K mg base N qual scope f cdv A outer s H E) body t ∧ t { nx := fun _ H' => Q .non H', rt := Q } (start N vs) H) :
    FnG P w K mg base (CXe P w) (k + 1) f fd ps sp := by
  obtain ⟨oc, od, dV, kV, doc, pm, an, cdv, ct, osl, rfl, lk, hcd, _, _⟩ := F.ex
  exact fn_ofG lk hcd S len fun A outer s H vs Q E hg hr hsp => hbody cdv A outer s H vs Q E hg hr hsp
end
/-- the type of a tracked value, where it is one of the common ones -/
def tyN (H : Hp) : V → Option String
  | .non => some "NoneType"
  | .bl _ => some "bool"
  | .int _ => some "int"
  | .str _ => some "str"
  | .ref a => match H a with
    | some (.lst _) => some "list"
    | some (.tup _) => some "tuple"
    | some (.dK _) => some "dict"
    | some (.dT _) => some "dict"
    | _ => none
  | _ => none
theorem tyN_of {K : PySem.W.Frag} {H : Hp} {v : V} {n : String} (h : tyN H v = some n) : TyOf K H v (.type n) := by
  cases v with
  | non => cases h; exact .non
  | bl b => cases h; exact .bl b
  | int i => cases h; exact .int i
  | str x => cases h; exact .str x
  | byt b => cases h
  | flt b => cases h
  | ty t => cases h
  | ref a =>
    simp only [tyN] at h
    cases e : H a with
    | none => rw [e] at h; cases h
    | some o =>
      rw [e] at h
      cases o <;> simp only at h <;> first | (cases h; done) | skip
      all_goals first
        | (cases h; exact .lst e)
        | (cases h; exact .tup e)
        | (cases h; exact .dK e)
        | (cases h; exact .dT e)
end L2
end
section
set_option Elab.async false
set_option linter.all false
set_option maxRecDepth 100000
set_option maxHeartbeats 2000000
namespace L2
open PySem PySem.Spec PyProof.Rows
theorem same_new {H : Hp} {p : Addr} {o : HO} (h : H p = none) : Same H (upd H p o) := fun b u e => by
  rw [upd_ne (ne_of_none e h)]; exact e
/-- o stands at p, new, in H2; else H2 is H -/
structure New (H H2 : Hp) (p : Addr) (o : HO) : Prop where
  free : H p = none
  at_ : H2 p = some o
  same : Same H H2
  rest : ∀ b, b ≠ p → H2 b = H b
theorem New.mk' {H : Hp} {p : Addr} {o : HO} (h : H p = none) : New H (upd H p o) p o := ⟨h, upd_same, same_new h, fun _ hb => upd_ne hb⟩
theorem New.off {M : Addr → Prop} {H H2 : Hp} {p : Addr} {o : HO} (n : New H H2 p o) : Off M H H2 := Off.same n.same
section
variable {X : Cx} {es : List Expr} {t : TA} {pos : Pos}
def tTupA (t : TA) : TE := fun σ H Q => t σ H fun xs H1 => xs.length ≤ sizeLine ∧ ∀ p H2, New H1 H2 p (.tup xs) → Q (.ref p) H2
def tLstA (t : TA) : TE := fun σ H Q => t σ H fun xs H1 => xs.length ≤ sizeLine ∧ ∀ p H2, New H1 H2 p (.lst xs) → Q (.ref p) H2
theorem pe_tupA {x1} (h : PA X es t) : PE X (.Tuple es x1 pos) (tTupA t) := by
  constructor
  intro pins s σ H Q I hq
  refine wpAny_Tuple_spliced (thn (h.run pos pins s σ H _ I hq) ?_)
  rintro us s1 ⟨xs, H1, I1, r, z, q⟩
  refine ⟨by rw [← r.length]; exact z, ?_⟩
  have hf : H1 s1.heap.objs.size = none := I1.hok.fresh (Nat.le_refl _)
  refine ⟨.ref s1.heap.objs.size, upd H1 s1.heap.objs.size (.tup xs), ?_, rfl, q _ _ (New.mk' hf)⟩
  exact I1.laid (t' := s1.toks) (fun b u e => Heap.get?_push_of_some _ e) (Nat.le_refl _) ⟨z, us, r, _, Heap.get?_push_size _ rfl, rfl, _, rfl⟩
theorem pe_lstA (h : PA X es t) : PE X (.List es pos) (tLstA t) := by
  constructor
  intro pins s σ H Q I hq
  refine wpAny_List_spliced (thn (h.run pos pins s σ H _ I hq) ?_)
  rintro us s1 ⟨xs, H1, I1, r, z, q⟩
  refine ⟨by rw [← r.length]; exact z, ?_⟩
  have hf : H1 s1.heap.objs.size = none := I1.hok.fresh (Nat.le_refl _)
  refine ⟨.ref s1.heap.objs.size, upd H1 s1.heap.objs.size (.lst xs), ?_, rfl, q _ _ (New.mk' hf)⟩
  exact I1.laid (t' := s1.toks) (fun b u e => Heap.get?_push_of_some _ e) (Nat.le_refl _) ⟨z, us, 0, r, Heap.get?_push_size _ rfl⟩
end
end L2
end
section
set_option Elab.async false
set_option linter.all false
set_option maxRecDepth 100000
set_option maxHeartbeats 2000000
namespace L2
open PySem PySem.Spec PyProof.Rows
theorem funD_mk {K : PySem.W.Frag} {x qual : Str} {params : Arguments} {body : List Stmt} {scope : Scope} {dvs : List V} {f T : Addr} {oc : Value} {od an : Option Addr} {osl : Array (Option Value)} {kV doc pm cdv ct : Value} {o : Obj} {its : List Value} {n : Nat}
    (l : K.lookup f = some ⟨oc, od, .func (PySem.W.fnOf x qual params body scope (.ref T) kV doc pm an cdv ct), osl⟩) (c : PySem.W.codeIn K cdv qual = true) (k : PySem.W.keepIn K (.ref f) = true)
    (t : K.lookup T = some o) (u : o.data = .seq its.toArray n) (v : Vals dvs its) (ne : dvs ≠ []) : FunD K x qual params body scope dvs [] f (PySem.W.fnOf x qual params body scope (.ref T) kV doc pm an cdv ct) :=
  ⟨⟨oc, od, _, kV, doc, pm, an, cdv, ct, osl, rfl, l, c, .inr ⟨ne, T, o, its, n, rfl, t, u, v⟩, .inl rfl⟩, k⟩
end L2
namespace RX
open PySem PySem.W PySem.Calls PyProof.Rows PySem.HandSPX
theorem te_of {K : Frag} {S : Addr} (a : subIn K (.ref S) (.type "BaseException") = some true) (b : isClsIn K S = true) (c : typeIn K (.ref S) = some (.type "type")) (d : subIn K (.ref S) (.ref S) = some true) : exmOne K (.ref S) (.ref S) = some true := by
  have b' : (clsIn K S).isSome = true := b
  simp [exmOne, kitCls, a, b', c, d]
/-- an error of the package, from facts that are looked up -/
theorem errT_mk {prog : Program} {K : Frag} {mg : Str → Option Value} {h : Heap} {cn fld : Str} {C fI : Addr} (X : K.In h) (G : h.Ns mainGlobals mg)
    {nm q : Str} {N : Addr} {bs bm : List Value} {sn : List Str} {sub : List Value} {ab : Bool} {col : Option Bool} {dd : Option Addr} {k0 k1 k2 k3 k5 : Option Value}
    {oc : Value} {od : Option Addr} {doc pm : Value} {an : Option Addr} {cda cc : Addr} {ct : Value} {osl : Array (Option Value)} {msg : Str} {qual : Str} {p1 p2 q1 q2 q3 q4 q5 q6 q7 q8 q9 q10 : Pos}
    {ccl cl : Value} {cdd cld : Option Addr} {ccs csl : Array (Option Value)} {vs : Array Value} {file : Str} {tf : Tok}
    (gC : nsIn K mainGlobals cn = some (some (.ref C)))
    (cls : K.lookup C = some (excClassObj nm q C N bs bm true sn sub ab col dd k0 k1 k2 k3 k5 "ValueError.__new__")) (rv : refsVE bm = true)
    (sa : findIn K (.ref C) "__setattr__" = some (some (.builtin "object.__setattr__")))
    (ga : findIn K (.ref C) "__getattribute__" = some (some (.builtin "BaseException.__getattribute__"))) (gg : findIn K (.ref C) "__getattr__" = some none)
    (noN : findIn K (.ref C) fld = some none) (iC : findIn K (.ref C) "__init__" = some (some (.ref fI))) (tC : typeIn K (.ref fI) = some (.type "function")) (kC : keepIn K (.ref C) = true)
    (exC : subIn K (.ref C) (.type "BaseException") = some true) (tyC : typeIn K (.ref C) = some (.type "type")) (hdC : hasDictIn K C = true)
    (icC : isClsIn K C = true) (sC : subIn K (.ref C) (.ref C) = some true)
    (veC : subIn K (.ref C) (.type "ValueError") = some true) (selfM : mroIn K C (.ref C) = some true) (up : ks_superIn K C C "__init__" = some (some (.builtin "ValueError.__init__")))
    (third : nsIn K cStatics "thirdparty.any" = some none) (noS : nsIn K mainGlobals "super" = some none) (top : (prog.main.scope.names.lookup ("super" : Str)).isSome = false)
    (fl : (eS fld).names.lookup fld = some .local ∧ (fld == ("self" : Str)) = false ∧ (eS fld).names.lookup ("super" : Str) = some .globalImplicit ∧ (eS fld).names.lookup ("__class__" : Str) = some .free ∧ (fld == ("__debug__" : Str)) = false)
    (bd : ∀ (qual : Str) (body : List Stmt) (doc pm : Value) (an : Option Addr) (cd ct : Value) (cc : Addr) (p1 p2 : Pos) (a b : Value), bindArgs (ksFn "__init__" qual (eA fld p1 p2) body (eS fld) .none .none doc pm an cd ct cc) ⟨[a, b], []⟩ = pure [(("self" : Str), a), (fld, b)])
    (l : K.lookup fI = some ⟨oc, od, .func (ksFn "__init__" qual (eA fld p1 p2) (eB fld msg q1 q2 q3 q4 q5 q6 q7 q8 q9 q10) (eS fld) .none .none doc pm an (.ref cda) ct cc), osl⟩) (cd : codeIn K (.ref cda) qual = true)
    (lc : K.lookup cda = some ⟨ccl, cdd, .fields vs, ccs⟩) (v2 : vs[2]? = some (.str file tf)) (vf : ((prog.main.file : Str) == file) = true) (lcc : K.lookup cc = some ⟨cl, cld, .cell (some (.ref C)), csl⟩) (ln : (q3.endLine == q5.line) = true) :
    ErrT prog K mg cn fld C fI :=
  { gC := mg_of X G gC, cls := ⟨nm, q, N, bs, bm, sn, sub, ab, col, dd, k0, k1, k2, k3, k5, cls, rv⟩, sa := sa, xf := ⟨ga, gg, exC, hdC⟩, noN := noN, iC := iC, tC := tC, kC := kC, exC := exC, tyC := tyC, hdC := hdC, te := te_of exC icC tyC sC, veC := veC, selfM := selfM, up := up, third := third,
    noS := noS, top := top, fl := fl, bd := bd, fn := ⟨oc, od, doc, pm, an, cda, cc, ct, osl, msg, qual, p1, p2, q1, q2, q3, q4, q5, q6, q7, q8, q9, q10, ccl, cl, cdd, cld, ccs, csl, vs, file, tf, l, cd, lc, v2, vf, lcc, ln⟩ }
end RX
end
section
set_option Elab.async false
set_option linter.all false
set_option maxRecDepth 100000
set_option maxHeartbeats 2000000
namespace L2
open PySem PySem.Spec PyProof.Rows
theorem meets_en1 {v : Value} {o : Obj} {Z : Heap → Prop} (B : Begins v o Z) :
    Meets (Builtin.«enumerate.__new__» ⟨[.type "enumerate", v], []⟩) (fun _ R s => Z s.heap ∧ R (.ok (.ret (.ref (s.heap.push o).objs.size)))
      { s with heap := (s.heap.push o).push { cls := .type "enumerate", data := .fields #[.none, .bool false, .ref s.heap.objs.size, rawInt 0, .none, .none] } }) :=
  .of_wp fun prog w A R s q => by
    obtain ⟨hp, ge, dr, tk, os⟩ := s
    obtain ⟨z1, q⟩ := q
    have hs := sub_enumerate
    have step : ∀ {A' : Around} {E : Value → Shared → Prop} {Q : Value → Shared → Prop}, Q (.ref hp.objs.size) ⟨hp.push o, ge, dr, tk, os⟩ → wpAny (model prog w) A' (pyIter v) Q E ⟨hp, ge, dr, tk, os⟩ := fun u => B.iter prog w _ _ ⟨hp, ge, dr, tk, os⟩ _ z1 u
    wp_walk using step
    refine wpAny_stack_any fun sk => wpAny_pure ?_
    split
    · rename_i c _ _ _ _ _
      cases (c == Value.type "enumerate") <;> (wp_walk using step; exact ⟨_, rfl, q⟩)
    · wp_walk using step
      exact ⟨_, rfl, q⟩
section
variable {prog : Program} {w : World} {A : Around} {E : Value → Shared → Prop} {s : Shared}
/-- enumerate(v): its two new cells -/
theorem call_en {v : Value} {o : Obj} {Z : Heap → Prop} {Q : Value → Shared → Prop} (B : Begins v o Z) (z1 : Z s.heap)
    (q : ∀ h', IsEnum h' (s.heap.objs.size + 1) s.heap.objs.size 0 .none → h'.get? s.heap.objs.size = some o → h'.objs.size = s.heap.objs.size + 2 → (∀ b u, s.heap.get? b = some u → h'.get? b = some u) → Q (.ref (s.heap.objs.size + 1)) { s with heap := h' }) :
    wpAny (model prog w) A (call (.type "enumerate") [v]) Q E s := by
  refine callType_new F.called_enumerate (by decide) (F.typeCall_enumerate_1 _) (F.newCall_enumerate_1 _) (fun obj => F.args_object_init_2 obj _) F.entry_enumerate_new (meets_en1 B) ⟨z1, ?_⟩
  have e1 : (s.heap.push o).objs.size = s.heap.objs.size + 1 := Heap.size_push ..
  show _ ∧ _
  rw [e1]
  have he : IsEnum ((s.heap.push o).push { cls := .type "enumerate", data := .fields #[.none, .bool false, .ref s.heap.objs.size, rawInt 0, .none, .none] }) (s.heap.objs.size + 1) s.heap.objs.size 0 .none := by
    have u := Heap.get?_push_size (s.heap.push o) (o := { cls := .type "enumerate", data := .fields #[.none, .bool false, .ref s.heap.objs.size, rawInt 0, .none, .none] }) rfl
    rwa [e1] at u
  exact ⟨⟨_, he, rfl⟩, q _ he (Heap.get?_push_of_some _ (Heap.get?_push_size _ B.free)) (by rw [Heap.size_push, e1]) fun b u x => Heap.get?_push_of_some _ (Heap.get?_push_of_some _ x)⟩
end
/-- the tuple at a, each item in a new pair -/
def IteT (K : PySem.W.Frag) (a : Addr) : It :=
  ⟨fun i H => ∃ (xs : List V) (x : V), SqT K H a xs ∧ xs[i]? = some x, fun i H v H' => ∃ T x, v = .ref T ∧ H T = none ∧ H' = upd H T (.tup [.int (i : Nat), x]) ∧ ∀ xs, SqT K H a xs → xs[i]? = some x, fun i H => ∃ xs : List V, SqT K H a xs ∧ xs.length ≤ i⟩
theorem turn_enT {P : Program} {w : World} {K : PySem.W.Frag} {elts : List Expr} {kk : Nat} {tpos : Pos} (a e it : Addr) :
    Turn P w K (.Tuple elts kk tpos) (IteT K a) [e, it] e (fun i h => (∃ old, IsEnum h e it ((i : Nat) : Int) old) ∧ h.IsTupleIter it a i ∧ e ≠ it) where
  mem := by simp
  obj := fun i h st b hb => by
    obtain ⟨⟨old, he⟩, ⟨o, ho, hc, hd⟩, _⟩ := st
    rcases (by simpa using hb : b = e ∨ b = it) with z | z
    · exact z ▸ ⟨_, he, fun v q => nomatch q⟩
    · exact z ▸ ⟨o, ho, fun v q => by rw [hd] at q; cases q⟩
  keep := fun i h h' st k => ⟨let ⟨old, he⟩ := st.1; ⟨old, k e (by simp) _ he⟩, st.2.1.at fun o q => k it (by simp) o q, st.2.2⟩
  item := by
    intro X hP hw hK hc i pins s σ H E I hf st hg
    subst hP hw hK
    obtain ⟨⟨old, he⟩, hit, hne⟩ := st
    obtain ⟨xs, x, hq, hx⟩ := hg
    obtain ⟨its, rv, p, hz⟩ := I.tuple hq
    obtain ⟨u, hu, ru⟩ := rv.get hx
    have hel : e < s.heap.objs.size := Heap.lt_size he
    have hil : it < s.heap.objs.size := by obtain ⟨_, q, _⟩ := hit; exact Heap.lt_size q
    have ht : s.heap.IsTuple a its.toArray := p
    have hai : a ≠ it := by
      rintro rfl
      obtain ⟨o1, q1, c1, _⟩ := hit
      obtain ⟨o2, q2, c2, _⟩ := ht
      rw [q1] at q2
      cases q2
      exact absurd (Value.type.inj (c1.symm.trans c2)) (by decide)
    have hea : e ≠ a := by
      rintro rfl
      obtain ⟨o2, q2, c2, _⟩ := ht
      rw [he] at q2
      cases q2
      exact absurd (Value.type.inj (c2 : Value.type "enumerate" = .type "tuple")) (by decide)
    have hlt : i < its.toArray.size := by
      have := (List.getElem?_eq_some_iff.mp (by simpa using hu : its[i]? = some u)).1
      simpa using this
    refine wpAny_pyNext_enum_itemD (Draws.tuple (A := X.A.in1) (I.ok.hd hc) it a hai its.toArray) he ⟨hit, ht⟩ hlt hne (by simp [hne, hea]) fun x' h' tk hx' ho hst hT hsz hk => ?_
    have eu : x' = u := by
      have : its.toArray[i]? = some u := by simpa using hu
      exact Option.some.inj (hx'.symm.trans this)
    subst eu
    refine ⟨_, rfl, wpAny_letOwnedTupleGo_enum (s := { s with heap := h', toks := tk + 1 }) ho fun h'' he' sb => ?_⟩
    have hT2 : h''.get? s.heap.objs.size = some { cls := .type "tuple", data := .seq #[.int i tk, x'] } := (sb.2 _ (Nat.ne_of_gt hel)).trans hT
    have nw : ObjOk X.prog X.w (upd H s.heap.objs.size (.tup [.int (i : Nat), x])) h'' s.heap.objs.size (.tup [.int (i : Nat), x]) :=
      ⟨by show 2 ≤ sizeLine; decide, [.int i tk, x'], .cons ⟨_, rfl⟩ (.cons ru .nil), ⟨_, hT2, rfl, _, rfl⟩⟩
    have I1 : Inv X pins σ (upd H s.heap.objs.size (.tup [.int (i : Nat), x])) { s with heap := h'', toks := tk + 1 } :=
      I.turnedNew (ch := [e, it]) (fun b ob hb q => (sb.2 b (fun z => hb (by simp [z]))).trans (hk b ob (fun z => hb (by simp [z])) (fun z => hb (by simp [z])) q)) hf (Nat.le_refl _) nw
    refine ⟨.ref s.heap.objs.size, _, I1, rfl, ⟨_, x, rfl, I.hok.fresh (Nat.le_refl _), rfl, fun ys hy => by rw [I.tuple_inj hy hq]; exact hx⟩, ⟨⟨x', ?_⟩, hst.1.at fun o q => (sb.2 it (Ne.symm hne)).trans q, hne⟩, fun b hb => ?_⟩
    · rw [show ((i + 1 : Nat) : Int) = (i : Int) + 1 by omega]
      exact he'
    · have hb' : b < s.heap.objs.size := by
        rcases (by simpa using hb : b = e ∨ b = it) with z | z
        · exact z ▸ hel
        · exact z ▸ hil
      rw [upd_ne (Nat.ne_of_lt hb')]
      exact (hf b hb).1
  done := by
    intro X hP hw hK hc i pins s σ H E I hf st hg
    subst hP hw hK
    obtain ⟨⟨old, he⟩, hit, hne⟩ := st
    obtain ⟨xs, hq, hx⟩ := hg
    obtain ⟨its, rv, p, hz⟩ := I.tuple hq
    have ht : s.heap.IsTuple a its.toArray := p
    have hl := rv.length
    obtain ⟨f0, f1, f2, f3, f4, f5⟩ := hf it (by simp)
    have hT : s.TypeIs (.ref e) "enumerate" := ⟨_, he, rfl⟩
    have nn : its.toArray[i]? = none := by simp; omega
    unfold pyNext
    refine wpAny_bind (wpAny_attempt (wpAny_callSpecial?_slot (name := Str.ofString "__next__") hT F.slot_enumerate_next (wpAny_call_entry F.slot_enumerate_next hT F.entry_enumerate_next ?_ (F.args_enumerate_next_1 _))))
    show wpAny _ X.A.in1 (field (.ref e) 2 >>= _) _ _ s
    refine wpAny_bind (wpAny_field he rfl (x := .ref it) rfl (wpAny_bind (RZ.nextOf_tuple_end (A := X.A.in1) (I.ok.hd hc) hit ht nn fun h' y hy ht' => ?_)))
    obtain ⟨o, q1, q2⟩ := ht'
    refine wpAny_bind (wpAny_isInstance (T := "StopIteration") (b := true) ⟨o, q1, q2⟩ isSubtype_stop (wpAny_pure ⟨rfl, ?_⟩))
    exact I.turned (t' := s.toks) (fun b o hb q => hy b o hb q) f0 f1 f3 f4 f5
  self := fun A i s Q E st h => let ⟨⟨_, he⟩, _⟩ := st; wpAny_pyIter_enum he h
theorem walk_enT {K : PySem.W.Frag} {a : Addr} {xs : List V} : Walk (IteT K a) xs.length (fun H => SqT K H a xs) (YPair (fun i => some (.int (i : Nat))) (fun i => xs[i]?)) :=
  ⟨fun i _ hi q => ⟨xs, xs[i], q, by simp [hi]⟩, fun _ q => ⟨xs, q, Nat.le_refl _⟩, fun i H v H' _ q ⟨T, x, h1, h2, h3, h4⟩ => ⟨T, .int (i : Nat), x, h1, h2, h3, rfl, h4 xs q⟩⟩
section
variable {X : Cx} {e : Expr} {ta : TA} {p pos tpos : Pos} {elts : List Expr} {kk : Nat}
/-- enumerate(v), v a list or a tuple -/
def iEnum2 (K : PySem.W.Frag) (ta : TA) : TI := fun σ H R => ta σ H fun vs H1 => ∃ a xs, vs = [.ref a] ∧ (SqL K H1 a xs ∨ SqT K H1 a xs) ∧
  ∀ (J : It) (G : Hp → Prop), Walk J xs.length G (YPair (fun i => some (.int (i : Nat))) (fun i => xs[i]?)) → (∀ H', Same H1 H' → G H') → R J H1
theorem pi_enum2 (hg : Gl X "enumerate") (hm : X.mg "enumerate" = none) (ha : PA X [e] ta) (hs : starEach [e] X.env = [(false, eval e X.env)] := by rfl) : PI X (.Tuple elts kk tpos) (.Call (.Name "enumerate" p) [e] [] pos) (iEnum2 X.K ta) := by
  refine ⟨fun pins s σ H R I h => ?_⟩
  refine Call_ (ld_blt I hg hm boot_enumerate (PyProof.Rows.callWith_type1 (thn (ha.run pos pins s σ H _ I h) fun us s1 ⟨vs, H1, I1, r1, q1⟩ => ?_) hs rfl))
  obtain ⟨a, xs, ex, q1, q2⟩ := q1
  subst ex
  cases r1 with
  | cons r rr =>
    cases rr
    cases r
    have big : ∀ (b : Addr), b ∈ [s1.heap.objs.size + 1, s1.heap.objs.size] → FpOk X pins H1 b := fun b hb => by
      have hle : s1.heap.objs.size ≤ b := by
        rcases (by simpa using hb : b = s1.heap.objs.size + 1 ∨ b = s1.heap.objs.size) with z | z
        · exact z ▸ Nat.le_succ _
        · exact z ▸ Nat.le_refl _
      exact I1.fpOk hle (I1.hok.fresh hle)
    rcases q1 with hq | hq
    · have q := q2 _ _ walk_enum fun H' s' => s'.seq hq
      obtain ⟨its, rv, p', hz⟩ := I1.list hq
      refine call_en (begins_list a its.toArray) p'.isList fun h' he ho hsz hk => wpAny_pyIter_enum he ?_
      exact ⟨s1.heap.objs.size + 1, [s1.heap.objs.size + 1, s1.heap.objs.size], _, _, H1, rfl, I1.kept (t' := s1.toks) hk, turn_enum a (s1.heap.objs.size + 1) s1.heap.objs.size, ⟨⟨.none, he⟩, ⟨_, ho, rfl, rfl⟩, Nat.succ_ne_self _⟩, big, q⟩
    · have q := q2 _ _ walk_enT fun H' s' => hq.imp (fun z => z.imp (fun e => s' _ _ e) (fun ⟨o, e⟩ => ⟨o, s' _ _ e⟩)) id
      obtain ⟨its, rv, p', hz⟩ := I1.tuple hq
      refine call_en (begins_tuple a its.toArray) (show s1.heap.IsTuple a its.toArray from p') fun h' he ho hsz hk => wpAny_pyIter_enum he ?_
      exact ⟨s1.heap.objs.size + 1, [s1.heap.objs.size + 1, s1.heap.objs.size], _, _, H1, rfl, I1.kept (t' := s1.toks) hk, turn_enT a (s1.heap.objs.size + 1) s1.heap.objs.size, ⟨⟨.none, he⟩, ⟨_, ho, rfl, rfl⟩, Nat.succ_ne_self _⟩, big, q⟩
end
section
variable {X : Cx}
/-- tuple(v), v a list or a tuple that stands: a tuple of the same things stands then, the old one or a new one -/
def rTup2 : List V → Hp → VK → Prop := fun xs H Q => ∃ a ys, xs = [.ref a] ∧ (H a = some (.lst ys) ∨ H a = some (.tup ys)) ∧ ∀ t H', Same H H' → H' t = some (.tup ys) → (H t = none ∨ t = a) → Q (.ref t) H'
theorem cr_tup2 : CallR X (.type "tuple") rTup2 := fun pins s σ H xs us Q I rv h => by
  obtain ⟨a, ys, rfl, h1, k⟩ := h
  refine call_tuple_of pins s σ H [.ref a] us Q I rv ⟨a, ys, rfl, ?_⟩
  rcases h1 with e | e
  · exact .inl ⟨SqL.of e, fun l hl => k l _ (same_new hl) upd_same (.inl hl)⟩
  · exact .inr ⟨SqT.of e, k a H (Same.refl _) e (.inr rfl)⟩
end
end L2
end
section
set_option Elab.async false
set_option linter.all false
set_option maxRecDepth 100000
set_option maxHeartbeats 2000000
namespace L2
open PySem PySem.Spec PyProof.Rows PySem.Builtin PySem.Builtin.Str
section
variable {X : Cx}
/-- text.index(sign), where it is -/
theorem mt_signAt : MtR X "str.index" (fun x xs H Q => ∃ (z : Str) (c : Nat), x = .str z ∧ xs = [.str ⟨#[c]⟩] ∧ c ∈ z.cps.toList ∧ Q (.int (Txt.find z ⟨#[c]⟩)) H) := by
  intro pins s σ H x xs v us Q I rx rs h
  obtain ⟨z, c, rfl, rfl, hm, q⟩ := h
  have f := PySem.StrLaws.found_one z c
  rw [decide_eq_true hm] at f
  cases ho : Builtin.Str.occurrences z ⟨#[c]⟩ 0 z.length 1 with
  | nil => rw [ho] at f; cases f
  | cons i rest =>
    refine mt_sindex pins s σ H _ _ v us Q I rx rs ⟨z, _, i, rest, rfl, rfl, ho, ?_⟩
    have e : Txt.find z ⟨#[c]⟩ = (i : Int) := by
      unfold Txt.find
      rw [ho]
    rw [← e]
    exact q
end
end L2
end
section
set_option Elab.async false
set_option linter.all false
set_option maxRecDepth 100000
set_option maxHeartbeats 2000000
namespace L2
open PySem PySem.Spec PyProof.Rows
/-- what the written dict at a has for a text -/
structure KD (K : PySem.W.Frag) (w : World) (a : Addr) (x : Str) (r : Option Value) : Prop where
  ex : ∃ es n, K.lookup a = some ⟨.type "dict", none, .dict es n, #[]⟩ ∧ PySem.W.KeysLit w.params es.toList ∧ (a == sysModules) = false ∧ PySem.W.nsIn K a x = some r
theorem KD.get {K : PySem.W.Frag} {w : World} {a : Addr} {x : Str} {u : Value} {v : V} (h : KD K w a x (some u)) (r : RelV v u) : KDct K w a x v := by
  obtain ⟨es, n, h1, h2, _, h4⟩ := h.ex
  exact ⟨es, n, u, h1, h2, h4, r⟩
theorem iteT' {c : Prop} [Decidable c] {A B : Prop} (h : c) (a : A) : if c then A else B := by rw [if_pos h]; exact a
theorem iteF' {c : Prop} [Decidable c] {A B : Prop} (h : ¬ c) (b : B) : if c then A else B := by rw [if_neg h]; exact b
/-- t[lo:hi] of a tracked tuple -/
def rSlU : V → Option Int → Option Int → Hp → VK → Prop := fun x lo hi H Q => ∃ a xs, x = .ref a ∧ H a = some (.tup xs) ∧ ∀ t H', Same H H' → H' t = some (.tup (cutV xs lo hi)) → (H t = none ∨ t = a) → Q (.ref t) H'
theorem cutV_whole {xs : List V} {lo hi : Option Int} (h : HT.sIx xs.length 0 lo = 0 ∧ HT.sIx xs.length xs.length hi = xs.length) : cutV xs lo hi = xs := by
  unfold cutV
  rw [h.1, h.2]
  simp
theorem sl_tupU {X : Cx} : SlR X rSlU := by
  intro pins s σ H x v vl vu lo hi sl Q I rx hs pl pu h
  obtain ⟨a, xs, rfl, ha, k⟩ := h
  exact sl_tupA pins s σ H _ v vl vu lo hi sl Q I rx hs pl pu ⟨a, xs, rfl, SqT.of ha, fun z => k a H (Same.refl _) (by rw [cutV_whole z]; exact ha) (.inr rfl), fun _ p hp => k p _ (same_new hp) upd_same (.inl hp)⟩
end L2
end
section
set_option Elab.async false
set_option linter.all false
set_option maxRecDepth 100000
set_option maxHeartbeats 2000000
namespace L2
open PySem PySem.Spec PyProof.Rows
/-- a written dict stands at a -/
structure KIsD (K : PySem.W.Frag) (w : World) (a : Addr) : Prop where
  ex : ∃ es n, K.lookup a = some ⟨.type "dict", none, .dict es n, #[]⟩ ∧ PySem.W.KeysLit w.params es.toList ∧ (a == sysModules) = false
theorem KD.is {K : PySem.W.Frag} {w : World} {a : Addr} {x : Str} {r : Option Value} (h : KD K w a x r) : KIsD K w a := by
  obtain ⟨es, n, h1, h2, h3, _⟩ := h.ex
  exact ⟨es, n, h1, h2, h3⟩
def tKGet2 (K : PySem.W.Frag) (w : World) (td ty tx : TE) : TE := fun σ H Q => td σ H fun x H1 => ∃ a, x = .ref a ∧ KIsD K w a ∧ ty σ H1 fun y H2 => tx σ H2 fun z H3 => ∃ (k : Str) (r : Option Value) (v : V), y = .str k ∧ KD K w a k r ∧ (r = none → v = z) ∧ (∀ u, r = some u → RelV v u) ∧ Q v H3
section
variable {X : Cx} {o e f : Expr} {apos cpos : Pos} {td ty tx : TE}
theorem pe_kget2 (ho : PE X o td) (he : PE X e ty) (hf : PE X f tx) (m : M2 X o "get" apos e f cpos) : PE X (.Call (.Attribute o "get" apos) [e, f] [] cpos) (tKGet2 X.K X.w td ty tx) := by
  refine ⟨fun pins s σ H Q I h => ?_⟩
  refine wpAny_Call_method m.base m.few m.line PySem.F.plainAttrs_dict PySem.F.slot_dict_get PySem.F.type_dict_get (thn (ho.run pins s σ H _ I h) fun u s1 ⟨x, H1, I1, rx, a, ex, d, q1⟩ => ?_)
  subst ex
  obtain rfl : u = Value.ref a := rx
  obtain ⟨es, n, hl, hk, low⟩ := d.ex
  refine ⟨(PySem.W.mapOf_K (prog := X.prog) (w := X.w) I1.kIn hl hk).typeIs, fun b q => by cases q; exact ⟨_, I1.kIn _ _ hl, rfl⟩, ?_⟩
  rw [m.trees]
  refine Calls.callWith_builtin rfl (Calls.evalArgs_plain (Calls.spliced_cons (thn (he.run pins s1 σ H1 _ I1 q1) fun iv s2 ⟨y, H2, I2, ry, q2⟩ =>
    Calls.spliced_cons (thn (hf.run pins s2 σ H2 _ I2 q2) fun fv s3 ⟨z, H3, I3, rz, k, r, v, ey, kd, h1, h2, q3⟩ => Calls.spliced_nil ?_))))
  subst ey
  obtain ⟨t, rfl⟩ := (show ∃ t, iv = Value.str k t from ry)
  obtain ⟨es', n', hl', hk', low', hn⟩ := kd.ex
  have dm := PySem.W.mapOf_K (prog := X.prog) (w := X.w) I3.kIn hl' hk'
  refine call_meetsIn PySem.F.slot_dict_get dm.typeIs PySem.F.entry_dict_get (PySem.F.args_dict_get_3 _ _ _) (meets_dict_get_default (strKind X.prog X.w) a (strKind_is X.prog X.w k t) low' fv) ⟨_, dm, ?_⟩
  rw [PySem.W.find_K hl' hn]
  cases r with
  | none =>
    rw [h1 rfl] at q3
    exact ⟨z, H3, I3.tok _, rz, q3⟩
  | some u => exact ⟨v, H3, I3.tok _, h2 u rfl, q3⟩
end
end L2
end
section
set_option Elab.async false
set_option linter.all false
set_option maxRecDepth 100000
set_option maxHeartbeats 2000000
namespace L2
open PySem PySem.Spec PyProof.Rows
/-- d can be shown, so deep and so long at most -/
structure Sh (d : PyData) (n l : Nat) : Prop where
  ok : d.showable = true
  deep : d.depth ≤ n
  len : d.shown.length ≤ l
theorem Sh.mono {d : PyData} {n l n' l' : Nat} (h : Sh d n l) (h1 : n ≤ n') (h2 : l ≤ l') : Sh d n' l' := ⟨h.ok, Nat.le_trans h.deep h1, Nat.le_trans h.len h2⟩
theorem sh_all {n : Nat} : ∀ {ds : List PyData}, (∀ d ∈ ds, d.showable = true ∧ d.depth ≤ n) → PyData.showableAll ds = true ∧ PyData.depthAll ds ≤ n
  | [], _ => ⟨rfl, Nat.zero_le _⟩
  | d :: r, h => by
    obtain ⟨a, b⟩ := sh_all (ds := r) fun x hx => h x (List.mem_cons_of_mem _ hx)
    obtain ⟨c, e⟩ := h d (List.mem_cons_self ..)
    constructor
    · simp only [PyData.showableAll, a, c, Bool.and_self]
    · simp only [PyData.depthAll]
      omega
theorem sum_shown {l : Nat} : ∀ {ds : List PyData}, (∀ d ∈ ds, d.shown.length ≤ l) → (ds.map fun d => d.shown.length + 2).sum ≤ ds.length * (l + 2)
  | [], _ => by simp
  | d :: r, h => by
    have a := sum_shown (ds := r) fun x hx => h x (List.mem_cons_of_mem _ hx)
    have b := h d (List.mem_cons_self ..)
    simp only [List.map_cons, List.sum_cons, List.length_cons, Nat.succ_mul]
    omega
theorem piled_shown (d : PyData) (r : List PyData) : piled (PyData.shownAll (d :: r)) = ((d :: r).map fun d => d.shown.length + 2).sum := by
  unfold piled
  rw [PyProof.Rows.shownAll_eq_map, List.map_map]
  rfl
theorem tuple_len (ds : List PyData) : (PyData.tuple ds).shown.length ≤ (ds.map fun d => d.shown.length + 2).sum + 3 := by
  rw [PyData.shown_tuple, strLen_append, strLen_append]
  have x : ("(" : Str).length = 1 := rfl
  have y : ((if (ds.length == 1) = true then ",)" else ")" : String) : Str).length ≤ 2 := by
    split <;> decide +kernel
  rw [x]
  cases ds with
  | nil =>
    have : (Str.join ", " (PyData.shownAll [])).length = 0 := rfl
    rw [this]
    simp only [List.map_nil, List.sum_nil]
    omega
  | cons d r =>
    have j := join_length_add (PyData.shownAll (d :: r)) (by simp [PyData.shownAll])
    rw [piled_shown] at j
    omega
theorem list_len (ds : List PyData) : (PyData.list ds).shown.length ≤ (ds.map fun d => d.shown.length + 2).sum + 3 := by
  rw [PyData.shown_list, strLen_append, strLen_append]
  have x : ("[" : Str).length = 1 := rfl
  have y : ("]" : Str).length = 1 := rfl
  rw [x, y]
  cases ds with
  | nil =>
    have : (Str.join ", " (PyData.shownAll [])).length = 0 := rfl
    rw [this]
    simp only [List.map_nil, List.sum_nil]
    omega
  | cons d r =>
    have j := join_length_add (PyData.shownAll (d :: r)) (by simp [PyData.shownAll])
    rw [piled_shown] at j
    omega
theorem Sh.tuple {ds : List PyData} {n l m : Nat} (h : ∀ d ∈ ds, Sh d n l) (hm : ds.length ≤ m) : Sh (.tuple ds) (n + 1) (m * (l + 2) + 3) := by
  obtain ⟨a, b⟩ := sh_all (n := n) (ds := ds) fun d hd => ⟨(h d hd).ok, (h d hd).deep⟩
  refine ⟨a, ?_, ?_⟩
  · simp only [PyData.depth]; omega
  · have c := tuple_len ds
    have d := sum_shown (l := l) (ds := ds) fun d hd => (h d hd).len
    have e : ds.length * (l + 2) ≤ m * (l + 2) := Nat.mul_le_mul_right _ hm
    omega
theorem Sh.list {ds : List PyData} {n l m : Nat} (h : ∀ d ∈ ds, Sh d n l) (hm : ds.length ≤ m) : Sh (.list ds) (n + 1) (m * (l + 2) + 3) := by
  obtain ⟨a, b⟩ := sh_all (n := n) (ds := ds) fun d hd => ⟨(h d hd).ok, (h d hd).deep⟩
  refine ⟨a, ?_, ?_⟩
  · simp only [PyData.depth]; omega
  · have c := list_len ds
    have d := sum_shown (l := l) (ds := ds) fun d hd => (h d hd).len
    have e : ds.length * (l + 2) ≤ m * (l + 2) := Nat.mul_le_mul_right _ hm
    omega
theorem small_int : ∀ n : Fin 1000, (PyData.int (n.val : Int)).shown.length ≤ 3 ∧ (PyData.int (n.val : Int)).showable = true := by decide +kernel
theorem Sh.int {i : Int} (h0 : 0 ≤ i) (h1 : i < 1000) : Sh (.int i) 0 3 := by
  obtain ⟨k, rfl⟩ := Int.eq_ofNat_of_zero_le h0
  obtain ⟨a, b⟩ := small_int ⟨k, by omega⟩
  exact ⟨b, Nat.le_refl _, a⟩
theorem Sh.ints {xs : List Int} {m : Nat} (h : ∀ x ∈ xs, 0 ≤ x ∧ x < 1000) (hm : xs.length ≤ m) : Sh (.tuple (xs.map .int)) 1 (m * 5 + 3) := by
  refine Sh.tuple (n := 0) (l := 3) (fun d hd => ?_) (by simpa using hm)
  obtain ⟨x, hx, rfl⟩ := List.mem_map.mp hd
  exact Sh.int (h x hx).1 (h x hx).2
theorem Sh.non : Sh .none 0 4 := ⟨rfl, Nat.le_refl _, by decide +kernel⟩
theorem Sh.fit {d : PyData} {n l : Nat} (h : Sh d n l) (h1 : n ≤ 60) (h2 : l ≤ 1000000) : d.showable = true ∧ d.depth ≤ 60 ∧ d.shown.length ≤ sizeLine :=
  ⟨h.ok, Nat.le_trans h.deep h1, Nat.le_trans h.len (Nat.le_trans h2 (by decide +kernel))⟩
end L2
end
section
set_option Elab.async false
set_option linter.all false
set_option maxRecDepth 100000
set_option maxHeartbeats 2000000
namespace L2
open PySem PySem.Spec PyProof.Rows
end L2
end
section
set_option Elab.async false
set_option linter.all false
set_option maxRecDepth 100000
set_option maxHeartbeats 2000000
namespace L2
open PySem PySem.Spec PyProof.Rows
section
variable {X : Cx} {Wout : WX} {a : Addr} {B : Heap} {sI s' : Shared} {pins : List (Addr × Obj)} {cls : Value} {d : Option Addr}
/-- no frame is an exception's object -/
theorem notFrame {h : Heap} {o : Obj} {vs : Array Value} (ff : h.FunFrames B (X.env :: X.outer)) (e : h.get? a = some o) (dd : o.data = .fields vs) : a ∉ frs (X.env :: X.outer) := fun hm => by
  obtain ⟨_, o', e', nf⟩ := ff.mem hm
  rw [e] at e'
  cases e'
  exact nf _ dd
end
end L2
end
section
set_option Elab.async false
set_option linter.all false
set_option maxRecDepth 100000
set_option maxHeartbeats 2000000
namespace L2
open PySem PySem.Spec PyProof.Rows
end L2
end
section
set_option Elab.async false
set_option linter.all false
set_option maxRecDepth 100000
set_option maxHeartbeats 2000000
namespace L2
open PySem PySem.Spec PyProof.Rows
end L2
end
section
set_option Elab.async false
set_option linter.all false
set_option maxRecDepth 100000
set_option maxHeartbeats 2000000
namespace L2
open PySem PySem.Spec PyProof.Rows
end L2
end
section
set_option Elab.async false
set_option linter.all false
set_option maxRecDepth 100000
set_option maxHeartbeats 2000000
namespace L2
open PySem PySem.Spec PyProof.Rows
theorem count_eqU {x : V} : ∀ {xs : List V} {us : List Value}, Vals xs us → xs.all flatV = true → us.countP (eqU x) = xs.countP fun y => eqV y x
  | _, _, .nil, _ => rfl
  | y :: ys, u :: us, .cons r t, f => by
    rw [List.all_cons, Bool.and_eq_true] at f
    rw [List.countP_cons, List.countP_cons, count_eqU t f.2, eqU_of r f.1]
def rCntF (K : PySem.W.Frag) : V → List V → Hp → VK → Prop := fun x xs H Q => ∃ (p : Addr) (ys : List V) (y : V), x = .ref p ∧ xs = [y] ∧ SqL K H p ys ∧ flatV y = true ∧ ys.all flatV = true ∧ Q (.int ((ys.countP fun z => eqV z y : Nat) : Int)) H
section
variable {X : Cx}
/-- xs.count(y) -/
theorem mt_lcountF : MtR X "list.count" (rCntF X.K) := by
  intro pins s σ H x xs v us Q I rx rxs h
  obtain ⟨p, ys, y, rfl, rfl, hs, fy, fs, q⟩ := h
  cases rx
  obtain ⟨u, rfl, ru⟩ := rxs.one
  obtain ⟨its, rv, ⟨⟨cls, dd, data, sl⟩, n, ho, hc, hdn, hd⟩, hlen⟩ := I.list hs
  simp only at hc hd
  subst hc hd
  refine call_meets PySem.F.slot_list_count ⟨_, ho, rfl⟩ PySem.F.entry_list_count (PySem.F.args_list_count_2 _ _)
    (SeqAt.list_countAt p its.toArray n dd sl u (eqU y)) ⟨ho, fun z hz => mem_eqAt ru fy rv fs z (by simpa using hz), ?_⟩
  have ec : its.toArray.toList.countP (eqU y) = ys.countP fun z => eqV z y := by
    rw [List.toList_toArray]
    exact count_eqU rv fs
  refine ⟨.int ((ys.countP fun z => eqV z y : Nat) : Int), H, I.tok _, ⟨s.toks, ?_⟩, q⟩
  show Value.int ((its.toArray.toList.countP (eqU y) : Nat) : Int) s.toks = _
  rw [ec]
theorem call_or {f : Value} {r1 r2 : List V → Hp → VK → Prop} (h1 : CallR X f r1) (h2 : CallR X f r2) : CallR X f fun xs H Q => r1 xs H Q ∨ r2 xs H Q := by
  intro pins s σ H xs us Q I rx h
  rcases h with h | h
  · exact h1 pins s σ H xs us Q I rx h
  · exact h2 pins s σ H xs us Q I rx h
end
end L2
end
section
set_option Elab.async false
set_option linter.all false
set_option maxRecDepth 100000
set_option maxHeartbeats 2000000
namespace MxD
open PySem PySem.Spec PyProof.Rows
section
variable {prog : Program} {w : World} {A : Around} {R : Result → Shared → Prop} {I : Addr} {fp wr : List Addr} {n : Nat} {P : Nat → Value → Prop} {St : Nat → Heap → Prop} {d : Value}
/-- the keywords of the call -/
def kwD (d : Value) : List (Str × Value) := [(Str.ofString "default", d)]
theorem nm : (toString "max" ++ toString ".loop" : String) = "max.loop" := by decide
/-- some are seen: vb is the greatest of them -/
theorem go_on (W : Walks prog w A.in1 I fp wr n P St) (bt : Nat → Nat → Bool) (hcmp : CmpOf prog w A.in1 .Gt P bt) (S : Addr) (hSf : S ∉ fp)
    (r : Nat) : ∀ (j : Nat) (s : Shared) (vb : Value) (c : Nat), n = j + 1 + r → St (j + 1) s.heap → P (argBest bt j) vb →
    s.heap.get? S = some { cls := .type "list", dict := none, data := .seq #[vb, vb] c, slots := #[] } →
    (∀ v h' tk, P (argBest bt (n - 1)) v → (∀ b o, b ∉ wr → b ≠ S → s.heap.get? b = some o → h'.get? b = some o) → R (.ok (.ret v)) { s with heap := h', toks := tk }) →
    codeAny (model prog w) A (.builtin "max.loop" ⟨[.ref I, .none, .ref S], kwD d⟩) R s := by
  have hw : S ∉ wr := fun z => hSf (W.sub _ z)
  induction r with
  | zero =>
    intro j s vb c en st hb hS k
    refine codeAny_builtin F.entry_max_loop ?_
    rw [Around.under_plainId F.plain_max_loop _]
    show wpAny _ A.in1 (seqItems? (.ref S) >>= _) _ _ s
    refine wpAny_bind (wpAny_seqItems hS rfl ?_)
    show wpAny _ A.in1 (tryCatch (pyNext (.ref I)) _ >>= _) _ _ s
    refine wpAny_bind (wpAny_tryCatch (W.done s _ _ (by rw [show n = j + 1 by omega]; exact st) fun h1 tk old => ?_))
    show wpAny _ A.in1 (updateSeq S (fun _ => #[]) >>= _) _ _ _
    refine wpAny_bind (wpAny_updateSeq (old S _ hw hS) rfl (wpAny_bind (wpAny_letGo (wpAny_pure ?_))))
    refine k vb _ tk (by rw [show n - 1 = j by omega]; exact hb) fun b o nb ns e => ?_
    exact (Heap.get?_update_other _ _ (Ne.symm ns)).trans (old b o nb e)
  | succ r ih =>
    intro j s vb c en st hb hS k
    refine codeAny_builtin F.entry_max_loop ?_
    rw [Around.under_plainId F.plain_max_loop _]
    show wpAny _ A.in1 (seqItems? (.ref S) >>= _) _ _ s
    refine wpAny_bind (wpAny_seqItems hS rfl ?_)
    show wpAny _ A.in1 (tryCatch (pyNext (.ref I)) _ >>= _) _ _ s
    refine wpAny_bind (wpAny_tryCatch (W.item (j + 1) s _ _ (by omega) st fun v h1 tk hv st1 old => ?_))
    have hS1 := old S _ hw hS
    show wpAny _ A.in1 (tryCatch (holding [v, v] (richCompare .Gt v vb >>= _)) _ >>= _) _ _ _
    refine wpAny_bind (wpAny_tryCatch (wpAny_holding (wpAny_bind (hcmp (j + 1) (argBest bt j) v vb _ _ _ hv hb ?_))))
    refine wpAny_bind (wpAny_holding (wpAny_truthy_bool (wpAny_bind (wpAny_letGo (wpAny_pure ?_)))))
    by_cases hc : bt (j + 1) (argBest bt j) = true
    · rw [if_pos hc]
      refine wpAny_bind (wpAny_updateSeq hS1 rfl (wpAny_bind (wpAny_letGo ?_)))
      rw [nm]
      refine wpAny_pure ⟨plainId_quiet F.plain_max_loop _, ih (j + 1) _ v _ (by omega) (W.frame _ _ _ st1 fun b hbf o e => ?_) (by unfold argBest; rw [if_pos hc]; exact hv) (Heap.get?_update_self _ hS1 rfl) fun v' h2 tk2 hv2 old2 => ?_⟩
      · exact (Heap.get?_update_other _ _ (fun z : S = b => hSf (by rw [z]; exact hbf))).trans e
      · exact k v' h2 tk2 hv2 fun b o nb ns e => old2 b o nb ns ((Heap.get?_update_other _ _ (Ne.symm ns)).trans (old b o nb e))
    · rw [if_neg hc]
      refine wpAny_bind (wpAny_letGo ?_)
      rw [nm]
      refine wpAny_pure ⟨plainId_quiet F.plain_max_loop _, ih (j + 1) _ vb c (by omega) st1 (by unfold argBest; rw [if_neg hc]; exact hb) hS1 fun v' h2 tk2 hv2 old2 => ?_⟩
      exact k v' h2 tk2 hv2 fun b o nb ns e => old2 b o nb ns (old b o nb e)
/-- none is seen yet -/
theorem start (W : Walks prog w A.in1 I fp wr n P St) (bt : Nat → Nat → Bool) (hcmp : CmpOf prog w A.in1 .Gt P bt) (S : Addr) (hSf : S ∉ fp) {s : Shared} {c : Nat} (st : St 0 s.heap)
    (hS : s.heap.get? S = some { cls := .type "list", dict := none, data := .seq #[] c, slots := #[] })
    (k : ∀ v h' tk, (0 < n ∧ P (argBest bt (n - 1)) v ∨ n = 0 ∧ v = d) → (∀ b o, b ∉ wr → b ≠ S → s.heap.get? b = some o → h'.get? b = some o) → R (.ok (.ret v)) { s with heap := h', toks := tk }) :
    codeAny (model prog w) A (.builtin "max.loop" ⟨[.ref I, .none, .ref S], kwD d⟩) R s := by
  have hw : S ∉ wr := fun z => hSf (W.sub _ z)
  refine codeAny_builtin F.entry_max_loop ?_
  rw [Around.under_plainId F.plain_max_loop _]
  show wpAny _ A.in1 (seqItems? (.ref S) >>= _) _ _ s
  refine wpAny_bind (wpAny_seqItems hS rfl ?_)
  show wpAny _ A.in1 (tryCatch (pyNext (.ref I)) _ >>= _) _ _ s
  by_cases hn : n = 0
  · refine wpAny_bind (wpAny_tryCatch (W.done s _ _ (by rw [hn]; exact st) fun h1 tk old => ?_))
    refine wpAny_bind (wpAny_rule (wpAny_pure ?_))
    exact k d h1 tk (.inr ⟨hn, rfl⟩) fun b o nb _ e => old b o nb e
  refine wpAny_bind (wpAny_tryCatch (W.item 0 s _ _ (by omega) st fun v h1 tk hv st1 old => ?_))
  have hS1 := old S _ hw hS
  show wpAny _ A.in1 (updateSeq S (fun _ => #[v, v]) >>= _) _ _ _
  refine wpAny_bind (wpAny_updateSeq hS1 rfl ?_)
  rw [nm]
  refine wpAny_pure ⟨plainId_quiet F.plain_max_loop _, go_on W bt hcmp S hSf (n - 1) 0 _ v _ (by omega) (W.frame _ _ _ st1 fun b hbf o e => ?_) hv (Heap.get?_update_self _ hS1 rfl) fun v' h2 tk2 hv2 old2 => ?_⟩
  · exact (Heap.get?_update_other _ _ (fun z : S = b => hSf (by rw [z]; exact hbf))).trans e
  · exact k v' h2 tk2 (.inl ⟨by omega, hv2⟩) fun b o nb ns e => old2 b o nb ns ((Heap.get?_update_other _ _ (Ne.symm ns)).trans (old b o nb e))
end
section
variable {prog : Program} {w : World} {A : Around} {E : Value → Shared → Prop} {s : Shared} {d : Value}
theorem args_ok (a d : Value) : argsOk "max" ⟨[a], kwD d⟩ := by unfold argsOk; kernel_rfl
theorem tree_kw {id : String} {b : Builtin} {args : List Value} {kw : List (Str × Value)} {Q : Value → Shared → Prop} (hk : builtinKind id = none) (hp : plainId id = true)
    (hb : entryFor table id = some b) (ha : argsOk id ⟨args, kw⟩)
    (hc : wpAny (model prog w) A.in1 (b ⟨args, kw⟩) (fun fin s' => match fin with
      | .done f => (match (Except.ok f : Result) with | .ok (.ret v) => Q v s' | .ok _ => False | .error e => E e s')
      | .again c' => c'.quiet = true ∧ codeAny (model prog w) A c' (fun r s' => match r with | .ok (.ret v) => Q v s' | .ok _ => False | .error e => E e s') s') E s) :
    wpAny (model prog w) A (call (.builtin id) args kw) Q E s := by
  refine wpAny_call (codeAny_call_builtin hp hb ?_)
  simp only [checkBuiltinCall, hk]
  cases hs : Manifest.signature? id with
  | none => exact wpAny_pure hc
  | some sig =>
    have ha' : Bind.checkArgs id sig ⟨args, kw⟩ = pure () := by simpa only [argsOk, hs] using ha
    simp only [ha']
    exact wpAny_pure hc
theorem call_walk {x : Value} {Q : Value → Shared → Prop}
    (h : wpAny (model prog w) A.in1 (pyIter x) (fun it s₂ => ∃ I fp wr n P St bt, it = .ref I ∧ Walks prog w A.in1 I fp wr n P St ∧ St 0 s₂.heap ∧ (∀ b ∈ fp, b < s₂.heap.objs.size) ∧ CmpOf prog w A.in1 .Gt P bt ∧
      ∀ v h' tk, (0 < n ∧ P (argBest bt (n - 1)) v ∨ n = 0 ∧ v = d) → (∀ b o, b ∉ wr → s₂.heap.get? b = some o → h'.get? b = some o) → Q v { s₂ with heap := h', toks := tk }) E s) :
    wpAny (model prog w) A (call (.builtin "max") [x] (kwD d)) Q E s := by
  refine tree_kw F.kind_max F.plain_max F.entry_max (args_ok _ _) ?_
  show wpAny _ A.in1 (Builtin.Builtins.bindParams "max" ["key", "default"] 0 ⟨[], kwD d⟩ >>= _) _ _ s
  refine wpAny_bind (wpAny_of_eq (show Builtin.Builtins.bindParams "max" ["key", "default"] 0 ⟨[], kwD d⟩ = pure [none, some d] from rfl) ?_)
  refine wpAny_bind (wpAny_pure ?_)
  refine wpAny_bind (wpAny_mono h (fun it s₂ h₂ => ?_) fun _ _ e => e)
  obtain ⟨I, fp, wr, n, P, St, bt, rfl, W, hst, hfp, hcmp, k⟩ := h₂
  refine wpAny_bind (wpAny_newObj_type ?_)
  have hSf : s₂.heap.objs.size ∉ fp := fun z => Nat.lt_irrefl _ (hfp _ z)
  rw [nm]
  refine wpAny_pure ⟨plainId_quiet F.plain_max_loop _, start W bt hcmp s₂.heap.objs.size hSf (W.frame _ _ _ hst fun b _ o e => Heap.get?_push_of_some _ e) (Heap.get?_push_size _ rfl) fun v h' tk hv old => ?_⟩
  exact k v h' tk hv fun b o nb e => old b o nb (Nat.ne_of_lt (Heap.lt_size e)) (Heap.get?_push_of_some _ e)
theorem ints_raw {l : Addr} {its : List Value} {ns : List Int} {d : Int} {t : Tok} {Q : Value → Shared → Prop} (hh : A.handled = none) (hl : s.heap.IsList l its.toArray) (hi : IntsAre its ns)
    (k : ∀ h' tk M t', (∀ b o, s.heap.get? b = some o → h'.get? b = some o) → (M ∈ ns ∧ (∀ a, a ∈ ns → a ≤ M) ∨ ns = [] ∧ M = d) → Q (.int M t') { s with heap := h', toks := tk }) : wpAny (model prog w) A (call (.builtin "max") [.ref l] (kwD (.int d t))) Q E s := by
  obtain ⟨xs, e⟩ := hi.allInts.items
  have hn : numsOf (intItems xs).toList = ns := by rw [← e]; exact hi.numsOf
  rw [nums_intItems] at hn
  subst hn
  rw [e] at hl
  refine call_walk (iter_intList hl fun s₂ e st hfp hlI => ?_)
  subst e
  refine ⟨_, _, _, _, _, _, _, rfl, Walks.list (A := A.in1) hh _ l hlI (intItems xs), st, hfp, CmpOf.ints_gt (numAt xs) (fun _ _ => intItems_at), fun v h' tk hP hk => ?_⟩
  have old : ∀ b o, s.heap.get? b = some o → h'.get? b = some o := old_kept hk
  rcases hP with ⟨hp, hv⟩ | ⟨h0, rfl⟩
  · obtain ⟨t, rfl⟩ := intItems_at hv
    obtain ⟨h1, h2⟩ := argBest_gt (numAt xs) ((intItems xs).size - 1)
    have hsz : 0 < xs.size := by simpa [intItems] using hp
    have hs2 : (intItems xs).size = xs.size := by simp [intItems]
    refine k h' tk _ t old (.inl ⟨?_, fun a ha => ?_⟩)
    · rw [numAt_eq]; exact PySem.getD_mem (by rw [List.length_map, Array.length_toList]; omega)
    · obtain ⟨j, hj, rfl⟩ := mem_getD ha
      rw [List.length_map, Array.length_toList] at hj
      rw [← numAt_eq]; exact h2 j (by omega)
  · refine k h' tk d t old (.inr ⟨?_, rfl⟩)
    have : xs.size = 0 := by simpa [intItems] using h0
    rw [Array.eq_empty_of_size_eq_zero this]
    rfl
end
end MxD
namespace L2
open PySem PySem.Spec PyProof.Rows
/-- max(numbers, default=d) -/
def rMaxDf (K : PySem.W.Frag) : List V → List V → Hp → VK → Prop := fun vs zs H Q => ∃ (a : Addr) (ns : List Int) (d : Int), vs = [V.ref a] ∧ zs = [V.int d] ∧ SqL K H a (ns.map V.int) ∧ ∀ m, (m ∈ ns ∧ (∀ y, y ∈ ns → y ≤ m) ∨ ns = [] ∧ m = d) → Q (.int m) H
theorem cr_maxDf {X : Cx} (hc : X.calm = true) : CallRK X (.builtin "max") [Str.ofString "default"] (rMaxDf X.K) := by
  intro pins s σ H vs zs us ws Q I r rz h
  obtain ⟨a, ns, d, rfl, rfl, hs, q⟩ := h
  obtain rfl := Vals.ref1 r
  obtain ⟨w1, rfl, t, e1⟩ := vals1 rz
  obtain ⟨its, rv, hl, _⟩ := I.list hs
  rw [e1]
  exact MxD.ints_raw (I.ok.hd hc) hl.isList rv.ints fun h' tk m t' hk hm => ⟨.int _, H, I.kept hk, ⟨_, rfl⟩, q m hm⟩
end L2
end
section
set_option Elab.async false
set_option linter.all false
set_option maxRecDepth 100000
set_option maxHeartbeats 2000000
namespace L2
open PySem PySem.Spec PyProof.Rows
section
variable {X : Cx} {C : Addr} {bmB : List Value} {B newId initId : String}
theorem pmk_own0 {x : Str} {p pos : Pos} (F : ExcBaseFacts B newId initId bmB) (q : PySem.W.excIn X.K C bmB newId = true) (gC : X.mg x = some (.ref C)) (kC : PySem.W.keepIn X.K (.ref C) = true) (r : Raises X (.ref C)) (hg : Gl X x)
    (hdb : (x == ("__debug__" : Str)) = false := by decide) : PMk X (.Call (.Name x p) [] [] pos) (fun _ H Q => Q (.ref C) none H) := by
  intro pins s σ H Q I h
  refine wpAny_Call_Name_kw (ld_glob I hg gC ?_ hdb)
  refine PySem.W.callWith_K0 I.kIn kC ?_
  show wpAny _ _ (call (.ref C) []) _ _ _
  obtain ⟨bm, N, nm, qn, bs, hdct, sn, sub, ab, col, dd, k0, k1, k2, k3, k5, mN, hC, hN, hni, T⟩ := exc_obj I.kIn q
  refine wpAny_call_exc_subT F T hC hN hni (fun h' e hm => ?_) (Nat.zero_le _)
  exact mk_of I hm r h (I.hok.gone hm.new)
/-- the class of an error that adds nothing to ValueError but its name -/
structure ErrN (K : PySem.W.Frag) (mg : Str → Option Value) (cn : Str) (C : Addr) : Prop where
  gC : mg cn = some (.ref C)
  ex : PySem.W.excIn K C [.type "ValueError", .type "Exception", .type "BaseException", .type "object"] "ValueError.__new__" = true
  kC : PySem.W.keepIn K (.ref C) = true
  exC : PySem.W.subIn K (.ref C) (.type "BaseException") = some true
  tyC : PySem.W.typeIn K (.ref C) = some (.type "type")
  te : PySem.W.exmOne K (.ref C) (.ref C) = some true
/-- raise X() -/
theorem ps_raiseN {cn : Str} {W : WX} {p pos pos2 : Pos} (hc : X.calm = true) (T : ErrN X.K X.mg cn C) (tk : Takes X W) (hg : Gl X cn := by rfl) (hdb : (cn == ("__debug__" : Str)) = false := by decide) :
    PS X (.Raise (some (.Call (.Name cn p) [] [] pos)) none pos2) (fun _ σ H => W (.ref C) none σ H) :=
  ps_raise hc tk (pmk_own0 PySem.F.excBase_ValueError T.ex T.gC T.kC (raises_own T.exC T.tyC) hg hdb)
end
end L2
end
section
set_option Elab.async false
set_option linter.all false
set_option maxRecDepth 100000
set_option maxHeartbeats 2000000
namespace L2
open PySem PySem.Spec PyProof.Rows
def iSeq (K : PySem.W.Frag) (te : TE) : TI := fun σ H R => te σ H fun x H1 => ∃ a, x = .ref a ∧ (((∃ xs, SqL K H1 a xs) ∧ R (Itl K a) H1) ∨ ((∃ xs, SqT K H1 a xs) ∧ R (Itt K a) H1))
theorem fresh_fp {X : Cx} {pins : List (Addr × Obj)} {σ : St} {H : Hp} {s : Shared} (I : Inv X pins σ H s) : ∀ b ∈ [s.heap.objs.size], FpOk X pins H b := fun b hb => by
  rw [List.mem_singleton.mp hb]
  exact I.fpOk (Nat.le_refl _) (I.hok.fresh (Nat.le_refl _))
theorem pi_seq {X : Cx} {tg e : Expr} {te : TE} (he : PE X e te) : PI X tg e (iSeq X.K te) := by
  constructor
  intro pins s σ H R I h
  refine thn (he.run pins s σ H _ I h) fun v s1 ⟨x, H1, J, r, q⟩ => ?_
  obtain ⟨a, rfl, ⟨⟨xs, hq⟩, q⟩ | ⟨⟨xs, hq⟩, q⟩⟩ := q
  · cases r
    obtain ⟨its, rv, p, hz⟩ := J.list hq
    exact wpAny_pyIter_list p.isList ⟨_, _, _, _, H1, rfl, J.kept (t' := s1.toks) (fun b o z => Heap.get?_push_of_some _ z), turn_list a _, ⟨_, Heap.get?_push_size _ rfl, rfl, rfl⟩, fresh_fp J, q⟩
  · cases r
    obtain ⟨its, rv, p, hz⟩ := J.tuple hq
    exact wpAny_pyIter_tuple (show s1.heap.IsTuple a its.toArray from p) ⟨_, _, _, _, H1, rfl, J.kept (t' := s1.toks) (fun b o z => Heap.get?_push_of_some _ z), turn_tuple a _, ⟨_, Heap.get?_push_size _ rfl, rfl, rfl⟩, fresh_fp J, q⟩
end L2
end
section
set_option Elab.async false
set_option linter.all false
set_option maxRecDepth 100000
set_option maxHeartbeats 2000000
namespace L2
open PySem PySem.Spec PyProof.Rows
/-- the clauses of a try, and what they want of an exception of the body -/
inductive ClausesN (X : Cx) (Wout : WX) : List ExceptHandler → (Ends → WX) → Prop
  | nil : ClausesN X Wout [] fun _ => Wout
  | cons {x n : Str} {c : Value} {i : Nat} {suite : List Stmt} {b₀ : Stmt} {np pos : Pos} {ts : Addr → Value → Option Addr → TS} {hds : List ExceptHandler} {W : Ends → WX}
      (hi : X.N[i]? = some n) (hl : X.env.kindOf n = some .local) (hc : Names X x c)
      (hs : ∀ (a : Addr) (oe : Obj) (cls : Value) (d : Option Addr) (pn : List (Addr × Obj)), Zc cls d oe → (∃ vs, oe.data = .fields vs) → PSs (X.suite a ((a, oe) :: pn)) (b₀ :: suite) (ts a cls d))
      (r : ClausesN X Wout hds W) : ClausesN X Wout (.ExceptHandler (some (.Name x np)) (some n) (b₀ :: suite) pos :: hds) fun D => wAs X.K c i ts (W D) D
  | only {x : Str} {c : Value} {suite : List Stmt} {b₀ : Stmt} {np pos : Pos} {ts : Addr → Value → Option Addr → TS} {hds : List ExceptHandler} {W : Ends → WX}
      (hc : Names X x c)
      (hs : ∀ (a : Addr) (oe : Obj) (cls : Value) (d : Option Addr) (pn : List (Addr × Obj)), Zc cls d oe → (∃ vs, oe.data = .fields vs) → PSs (X.suite a ((a, oe) :: pn)) (b₀ :: suite) (ts a cls d))
      (r : ClausesN X Wout hds W) : ClausesN X Wout (.ExceptHandler (some (.Name x np)) none (b₀ :: suite) pos :: hds) fun D => wOnly X.K c ts (W D) D
section
variable {X : Cx} {Wout : WX} {a : Addr} {B : Heap} {sI s' : Shared} {pins : List (Addr × Obj)} {cls : Value} {d : Option Addr}
/-- the clauses, one behind another, where the exception has landed -/
theorem clsn_land (hs : X.stack = X.env :: X.outer) (hf : X.env.frame = some X.env.locals) (hN : X.N.Nodup) (tk : Takes X Wout) {D : Ends} {σ : St} {H : Hp} (J : Inv X pins σ H sI)
    (nb : ∀ b o, sI.heap.get? b = some o → b ∉ frs X.stack → B.get? b = some o) (na : H a = none) (os : s'.os = sI.os) (ag : AllBare s'.gens) :
    ∀ {hds : List ExceptHandler} {W : Ends → WX}, ClausesN X Wout hds W → ∀ {h : Heap}, HandSPX.FlyingZ B (X.env :: X.outer) a (Zc cls d) h → sI.heap.UpToSlots h → W D cls d σ H →
      wpAny (model X.prog X.w) X.A (handleBy (.ref a) X.env hds) (SP X pins D) X.xe { s' with heap := h } := by
  have ok := J.ok
  have hfr : X.A.frames = some (X.env :: X.outer) := by rw [ok.frames, hs]
  intro hds W q
  induction q with
  | nil =>
    intro h fl up wish
    refine wpAny_handleBy_nil ?_
    obtain ⟨k1, k2, k3, oe, vs, T, oT, ts', he, hz, hd, h1, hr⟩ := id fl
    have go : wpAny (model X.prog X.w) X.A (setFlight (.ref a) X.env.frame) (fun _ s4 => wpAny (model X.prog X.w) X.A (throw (.ref a) : Sem Flow) (SP X pins D) X.xe s4) X.xe { s' with heap := h } := by
      rw [hf]
      refine HandSPX.setFlight_upZ fl fun h4 hh4 up4 => wpAny_throw (tk _ _ ?_)
      exact ⟨a, B, sI, pins, σ, H, cls, d, rfl, J, nb, up.trans up4, .inr (.inr (by rw [hs]; exact hh4)), na, os, ag, wish⟩
    unfold PySem.passOn
    refine wpAny_bind (wpAny_field he hd h1 ?_)
    rw [if_neg (show ¬ ((Value.ref T == Value.none) = true) from by simp)]
    first
      | exact wpAny_bind (wpAny_pure (wpAny_bind go))
      | exact wpAny_bind go
  | @cons x n c i suite b₀ np pos ts hds W hi hl hc hsu r ih =>
    intro h fl up wish
    obtain ⟨b, hb, yes, no⟩ := wish
    have land : ∀ {h4 : Heap}, HandSPX.FlyingZ B (X.env :: X.outer) a (Zc cls d) h4 → sI.heap.UpToSlots h4 →
        ∃ oe vs, h4.get? a = some oe ∧ Zc cls d oe ∧ oe.data = .fields vs ∧ Inv X pins σ H { s' with heap := h4 } ∧ Inv (X.suite a ((a, oe) :: (X.pn ++ pins))) [] σ H { s' with heap := h4 } := by
      intro h4 f4 u4
      have J4 : Inv X pins σ H { s' with heap := h4 } := J.landed nb f4.1 u4 os ag
      obtain ⟨oe, vs, e, hz, hd⟩ := f4.there
      have nf := notFrame (X := X) f4.2.2.1 e hd
      refine ⟨oe, vs, e, hz, hd, J4, J4.suite e hd na (fun z => nf ?_) fun hm => ?_⟩
      · exact List.mem_filterMap.mpr ⟨X.env, List.mem_cons_self, by rw [hf, z]⟩
      · obtain ⟨v, hv, q⟩ := List.mem_filterMap.mp hm
        exact nf (List.mem_filterMap.mpr ⟨v, List.mem_cons_of_mem _ hv, q⟩)
    obtain ⟨oe, vs, he, hz, hd, J3, S3⟩ := land fl up
    refine wpAny_handleBy_cons (codeAny_handlers_test ?_) (by intro q; cases q)
    have look : PySem.W.Looks (model X.prog X.w) h (typeOf (.ref a)) cls := fun A Q E s k q => wpAny_typeOf_ref (k _ _ he) (by rw [hz.1]; exact q)
    have match_ := PySem.W.exm_one (M := model X.prog X.w) J3.kIn look hb
    have named : ∀ {Q : Value → Shared → Prop} {E : Value → Shared → Prop}, Q c { s' with heap := h } → wpAny (model X.prog X.w) (X.A.mark (some (.ref a))) (eval (.Name x np) X.env) Q E { s' with heap := h } := fun {Q E} q => by
      obtain ⟨hg, nd, hm | ⟨hm, hv, hne⟩⟩ := hc
      · exact ld_glob (X := X.suite a ((a, oe) :: (X.pn ++ pins))) S3 hg hm q nd
      · exact ld_blt (X := X.suite a ((a, oe) :: (X.pn ++ pins))) S3 hg hm hv q hne nd
    refine named (match_.here ?_)
    cases b with
    | false => exact ih fl up (no rfl)
    | true =>
      refine codeAny_handlers_suite_as ?_
      refine HandSPX.lands_againZ fl fun h4 fl4 up4 => ?_
      obtain ⟨oe4, vs4, he4, hz4, hd4, J4, S4⟩ := land fl4 (up.trans up4)
      refine store_ok (X := X.suite a ((a, oe4) :: (X.pn ++ pins))) (v := .ref a) S4 hN hi (.inl hl) rfl (fun s5 S5 => ?_) (.inr hl)
      refine wpAny_mono ((hsu a oe4 cls d (X.pn ++ pins) hz4 ⟨_, hd4⟩).run [] s5 _ H _ S5 (yes rfl a na)) (fun f s6 out => ?_) (fun _ _ z => False.elim z)
      have drop : ∀ {σ6 : St} {H6 : Hp} {Q : Shared → Prop}, Inv (X.suite a ((a, oe4) :: (X.pn ++ pins))) [] σ6 H6 s6 → (∀ s7, Inv X pins (σ6.set i none) H6 s7 → Q s7) →
          wpAny (model X.prog X.w) X.A (do bindName X.env n .none; unbindBehindTheSuite X.env n pos) (fun _ s7 => Q s7) X.xe s6 := fun {σ6 H6 Q} S6 k => gone_ok (S6.unsuite ok) hN hi hl k
      cases f with
      | ret u =>
        obtain ⟨v6, σ6, H6, S6, r6, q6⟩ := out
        exact drop S6 fun s7 J7 => ⟨_, _, _, J7, r6, q6⟩
      | next =>
        obtain ⟨σ6, H6, S6, q6⟩ := out
        exact drop S6 fun s7 J7 => ⟨_, _, J7, q6⟩
      | brk =>
        obtain ⟨σ6, H6, S6, q6⟩ := out
        exact drop S6 fun s7 J7 => ⟨_, _, J7, q6⟩
      | cont =>
        obtain ⟨σ6, H6, S6, q6⟩ := out
        exact drop S6 fun s7 J7 => ⟨_, _, J7, q6⟩
  | @only x c suite b₀ np pos ts hds W hc hsu r ih =>
    intro h fl up wish
    obtain ⟨b, hb, yes, no⟩ := wish
    have land : ∀ {h4 : Heap}, HandSPX.FlyingZ B (X.env :: X.outer) a (Zc cls d) h4 → sI.heap.UpToSlots h4 →
        ∃ oe vs, h4.get? a = some oe ∧ Zc cls d oe ∧ oe.data = .fields vs ∧ Inv X pins σ H { s' with heap := h4 } ∧ Inv (X.suite a ((a, oe) :: (X.pn ++ pins))) [] σ H { s' with heap := h4 } := by
      intro h4 f4 u4
      have J4 : Inv X pins σ H { s' with heap := h4 } := J.landed nb f4.1 u4 os ag
      obtain ⟨oe, vs, e, hz, hd⟩ := f4.there
      have nf := notFrame (X := X) f4.2.2.1 e hd
      refine ⟨oe, vs, e, hz, hd, J4, J4.suite e hd na (fun z => nf ?_) fun hm => ?_⟩
      · exact List.mem_filterMap.mpr ⟨X.env, List.mem_cons_self, by rw [hf, z]⟩
      · obtain ⟨v, hv, q⟩ := List.mem_filterMap.mp hm
        exact nf (List.mem_filterMap.mpr ⟨v, List.mem_cons_of_mem _ hv, q⟩)
    obtain ⟨oe, vs, he, hz, hd, J3, S3⟩ := land fl up
    refine wpAny_handleBy_cons (codeAny_handlers_test ?_) (by intro q; cases q)
    have look : PySem.W.Looks (model X.prog X.w) h (typeOf (.ref a)) cls := fun A Q E s k q => wpAny_typeOf_ref (k _ _ he) (by rw [hz.1]; exact q)
    have match_ := PySem.W.exm_one (M := model X.prog X.w) J3.kIn look hb
    have named : ∀ {Q : Value → Shared → Prop} {E : Value → Shared → Prop}, Q c { s' with heap := h } → wpAny (model X.prog X.w) (X.A.mark (some (.ref a))) (eval (.Name x np) X.env) Q E { s' with heap := h } := fun {Q E} q => by
      obtain ⟨hg, nd, hm | ⟨hm, hv, hne⟩⟩ := hc
      · exact ld_glob (X := X.suite a ((a, oe) :: (X.pn ++ pins))) S3 hg hm q nd
      · exact ld_blt (X := X.suite a ((a, oe) :: (X.pn ++ pins))) S3 hg hm hv q hne nd
    refine named (match_.here ?_)
    cases b with
    | false => exact ih fl up (no rfl)
    | true =>
      refine codeAny_handlers_suite ?_
      refine HandSPX.lands_againZ fl fun h4 fl4 up4 => ?_
      obtain ⟨oe4, vs4, he4, hz4, hd4, J4, S4⟩ := land fl4 (up.trans up4)
      refine wpAny_mono ((hsu a oe4 cls d (X.pn ++ pins) hz4 ⟨_, hd4⟩).run [] _ _ H _ S4 (yes rfl a na)) (fun f s6 out => ?_) (fun _ _ z => False.elim z)
      cases f with
      | ret u =>
        obtain ⟨v6, σ6, H6, S6, r6, q6⟩ := out
        exact ⟨_, _, _, S6.unsuite ok, r6, q6⟩
      | next =>
        obtain ⟨σ6, H6, S6, q6⟩ := out
        exact ⟨_, _, S6.unsuite ok, q6⟩
      | brk =>
        obtain ⟨σ6, H6, S6, q6⟩ := out
        exact ⟨_, _, S6.unsuite ok, q6⟩
      | cont =>
        obtain ⟨σ6, H6, S6, q6⟩ := out
        exact ⟨_, _, S6.unsuite ok, q6⟩
end
section
variable {X : Cx} {body : List Stmt} {h₀ : ExceptHandler} {hds : List ExceptHandler} {pos : Pos} {tb : WX → TS} {Wout : WX} {W : Ends → WX}
theorem ps_try_clsN (hs : X.stack = X.env :: X.outer) (hf : X.env.frame = some X.env.locals) (hN : X.N.Nodup) (tk : Takes X Wout) (q : ClausesN X Wout (h₀ :: hds) W)
    (hb : ∀ (W' : WX) (pn : List (Addr × Obj)) (xe : Value → Shared → Prop), Takes (X.tr pn xe) W' → PassesOwn (model X.prog X.w) X.A X.env xe → PSs (X.tr pn xe) body (tb W')) :
    PS X (.Try body (h₀ :: hds) [] [] pos) (fun D σ H => tb (W D) D σ H) := by
  refine ⟨fun pins s σ H D I h => ?_⟩
  have hfr : X.A.frames = some (X.env :: X.outer) := by rw [I.ok.frames, hs]
  refine wpAny_Try_except ?_
  refine wpAny_mono ((hb (W D) (X.pn ++ pins) (fun e s₁ => wpAny (model X.prog X.w) X.A (noteFrame e X.env) (fun _ s₂ => wpAny (model X.prog X.w) X.A (setFlight e none) (fun _ s₃ =>
    wpAny (model X.prog X.w) X.A (handleBy e X.env (h₀ :: hds)) (SP X pins D) X.xe s₃) X.xe s₂) X.xe s₁) (fun u s' xx => ?_) PassesOwn.looking).run [] s σ H D (I.toTry _) h) (fun f s1 out => ?_) (fun e s1 z => z)
  · obtain ⟨a, B, sI, pins', σ', H', cls, d, rfl, J, nb, up, sky, na, os, ag, wish⟩ := xx
    refine Sky.land Zc.steady hfr hf (by rw [← hs]; exact sky) fun h3 fl3 up3 => ?_
    exact clsn_land hs hf hN tk (J.ofTry I.ok) nb na os ag q fl3 (up.trans up3) wish
  · cases f with
    | ret u =>
      obtain ⟨v, σ', H', J, r, z⟩ := out
      exact ⟨v, σ', H', J.ofTry I.ok, r, z⟩
    | next =>
      obtain ⟨σ', H', J, z⟩ := out
      exact wpAny_execs_nil ⟨σ', H', J.ofTry I.ok, z⟩
    | brk =>
      obtain ⟨σ', H', J, z⟩ := out
      exact ⟨σ', H', J.ofTry I.ok, z⟩
    | cont =>
      obtain ⟨σ', H', J, z⟩ := out
      exact ⟨σ', H', J.ofTry I.ok, z⟩
end
end L2
end
section
set_option Elab.async false
set_option linter.all false
set_option maxRecDepth 100000
set_option maxHeartbeats 2000000
namespace GQB
open PySem PySem.SeqAt
open AutoSeq1 (wpAny_loadPart')
open MeetsSeq MeetsSeq2 MeetsSeq3 SeqRoads2
def resOf : CmpOp → Bool → Bool
  | .NotEq, b => !b
  | _, b => b
section
variable {prog : Program} {w : World} {A : Around} {R : Result → Shared → Prop}
abbrev FinOf (prog : Program) (w : World) (A : Around) (R : Result → Shared → Prop) : Fin → Shared → Prop := fun fin s' => match fin with
  | .done f => R (.ok f) s'
  | .again c' => c'.quiet = true ∧ codeAny (model prog w) A c' R s'
theorem tuple_opB (op : CmpOp) (hop : op = .Eq ∨ op = .NotEq) (l b : Addr) (items items2 : Array Value) (n n2 : Nat) (dd dd2 : Option Addr) (sl sl2 : Array (Option Value)) (res : Bool) (I : Nat → Shared → Prop)
    (turn : ∀ i (h1 : i < items.size) (h2 : i < items2.size) s, I i s → wpAny (model prog w) A.in1 (eqBool items[i] items2[i]) (fun r s' => (r = true ∧ I (i + 1) s') ∨ (r = false ∧ R (.ok (.ret (.bool (resOf op false)))) s')) (fun e s' => R (.error e) s') s)
    (fin : ∀ s, I (min items.size items2.size) s → R (.ok (.ret (.bool (resOf op (items.size == items2.size))))) s) {s : Shared} (hl1 : s.heap.get? l = some { cls := .type "tuple", dict := dd, data := .seq items n, slots := sl }) (hb1 : s.heap.get? b = some { cls := .type "tuple", dict := dd2, data := .seq items2 n2, slots := sl2 }) (h : I 0 s) :
    wpAny (model prog w) A.in1 ((match op with | .Eq => Builtin.«tuple.__eq__» | _ => Builtin.«tuple.__ne__») ⟨[.ref l, .ref b], []⟩) (FinOf prog w A R) (fun e s' => R (.error e) s') s := by
  have f2 := AutoSeq1.sub_tuple_tuple
  have hZ : (items.toList.zip items2.toList).length = min items.size items2.size := by simp
  have h0 := h
  obtain ⟨hp, g, d, tk, os⟩ := s
  rcases hop with rfl | rfl
  all_goals wp_walk using wpAny_loadPart' hl1, wpAny_loadPart' hb1, wpAny_forIn_list _ (fun rest b s' => b.1 = none ∧ ∃ i, rest = (items.toList.zip items2.toList).drop i ∧ i ≤ min items.size items2.size ∧ I i s') _
  all_goals try exact ⟨rfl, 0, rfl, Nat.zero_le _, h0⟩
  case inl.h.h.hq.h.hq.hq.turn | inr.h.h.hq.h.hq.hq.turn =>
    rintro ⟨y, x⟩ rest b s' ⟨hb', i, hz, hi, hI⟩
    have hlt : i < (items.toList.zip items2.toList).length := by
      rcases Nat.lt_or_ge i (items.toList.zip items2.toList).length with h' | h'
      · exact h'
      · rw [List.drop_of_length_le h'] at hz; cases hz
    have hm : i < min items.size items2.size := hZ ▸ hlt
    have h1 : i < items.size := Nat.lt_of_lt_of_le hm (Nat.min_le_left _ _)
    have h2 : i < items2.size := Nat.lt_of_lt_of_le hm (Nat.min_le_right _ _)
    rw [List.drop_eq_getElem_cons hlt] at hz
    injection hz with hyx hrest
    have hy : y = items[i] := by have := congrArg Prod.fst hyx; simpa using this
    have hx : x = items2[i] := by have := congrArg Prod.snd hyx; simpa using this
    subst hy hx
    refine wpAny_bind (wpAny_mono (turn i h1 h2 s' hI) (fun r s2 q2 => ?_) fun _ _ x => x)
    rcases q2 with ⟨rfl, q2⟩ | ⟨rfl, q2⟩
    · wp_walk
      exact ⟨rfl, i + 1, hrest, hm, q2⟩
    · wp_walk
      simpa [resOf] using q2
  all_goals
    rintro ⟨b1, b2⟩ s' ⟨hb', i, hz, hi, hI⟩
    simp only at hb'
    subst hb'
    have hge : min items.size items2.size ≤ i := by
      rcases Nat.lt_or_ge i (items.toList.zip items2.toList).length with h' | h'
      · rw [List.drop_eq_getElem_cons h'] at hz; cases hz
      · exact hZ ▸ h'
    have hi' : i = min items.size items2.size := by omega
    have hR := fin s' (hi' ▸ hI)
    wp_walk
    first
      | exact hR
      | simpa [Builtin.Tuple.tupleCompareSizes, resOf, bne] using hR
end
section
variable {prog : Program} {w : World} {A : Around} {E : Value → Shared → Prop} {s : Shared}
/-- == of two things inside a builtin, by their rich comparison -/
theorem eqBool_rcB {l : Addr} {v : Value} {Q : Bool → Shared → Prop} (hne : (Value.ref l == v) = false) (h : wpAny (model prog w) A (richCompare .Eq (.ref l) v) (fun r s' => ∃ b, r = .bool b ∧ Q b s') E s) : wpAny (model prog w) A (eqBool (.ref l) v) Q E s := by
  unfold eqBool
  refine wpAny_holding ?_
  refine wpAny_ite_split (fun hab => by rw [hne] at hab; cases hab) (fun _ => ?_)
  refine wpAny_bind (wpAny_mono h (fun r s' hv => ?_) fun _ _ x => x)
  obtain ⟨b, rfl, q⟩ := hv
  exact wpAny_truthy_bool q
theorem rc_tupB (op : CmpOp) (hop : op = .Eq ∨ op = .NotEq) {l b : Addr} {items items2 : Array Value} {Q : Value → Shared → Prop} (hu : A.units < cLine) (I : Nat → Shared → Prop)
    (hl1 : s.heap.IsTuple l items) (hb1 : s.heap.IsTuple b items2)
    (turn : ∀ i (h1 : i < items.size) (h2 : i < items2.size) s, I i s → wpAny (model prog w) A.in1 (eqBool items[i] items2[i]) (fun r s' => (r = true ∧ I (i + 1) s') ∨ (r = false ∧ Q (.bool (resOf op false)) s')) E s)
    (fin : ∀ s, I (min items.size items2.size) s → Q (.bool (resOf op (items.size == items2.size))) s) (h : I 0 s) : wpAny (model prog w) A (richCompare op (.ref l) (.ref b)) Q E s := by
  obtain ⟨⟨cls, dd, data, sl⟩, ho, hc, n, hd⟩ := id hl1
  obtain ⟨⟨cls2, dd2, data2, sl2⟩, ho2, hc2, n2, hd2⟩ := id hb1
  simp only at hc hd hc2 hd2
  subst hc hd hc2 hd2
  have go := tuple_opB (A := A) (prog := prog) (w := w) (R := wants (fun v s' => v ≠ .notImplemented ∧ Q v s') E) op hop l b items items2 n n2 dd dd2 sl sl2 true I
    (fun i h1 h2 s q => wpAny_mono (turn i h1 h2 s q) (fun r s' z => z.imp id fun z => ⟨z.1, (fun x => nomatch x), z.2⟩) fun _ _ x => x) (fun s q => ⟨(fun x => nomatch x), fin s q⟩) ho ho2 h
  rcases hop with rfl | rfl
  · exact wpAny_richCompare_same_room (op := .Eq) ⟨_, ho, rfl⟩ ⟨_, ho2, rfl⟩ F.slot_tuple_eq (GQ.call_here F.slot_tuple_eq ⟨_, ho, rfl⟩ F.entry_tuple_eq (F.args_tuple_eq_2 _ _) go) hu
  · exact wpAny_richCompare_same_room (op := .NotEq) ⟨_, ho, rfl⟩ ⟨_, ho2, rfl⟩ F.slot_tuple_ne (GQ.call_here F.slot_tuple_ne ⟨_, ho, rfl⟩ F.entry_tuple_ne (F.args_tuple_ne_2 _ _) go) hu
end
end GQB
namespace L2
open PySem PySem.Spec PyProof.Rows GQB
/-- how two values compare, by the abstract heap -/
abbrev EqB := V → V → Hp → Bool → Prop
def MonB (D : EqB) : Prop := ∀ x y H H' b, Ext H H' → D x y H b → D x y H' b
structure SubG (X : Cx) (n : Nat) (A : Around) : Prop where
  room : Room n A
  fr : A.frames = X.A.frames
  gd : A.guards = some []
theorem SubG.in1 {X : Cx} {n : Nat} {A : Around} (s : SubG X (n + 1) A) : SubG X n A.in1 := ⟨s.room.in1, s.fr, s.gd⟩
theorem SubG.mono {X : Cx} {n m : Nat} {A : Around} (s : SubG X n A) (h : m ≤ n) : SubG X m A := ⟨s.room.mono h, s.fr, s.gd⟩
def EqX (X : Cx) (n : Nat) (D : EqB) : Prop :=
  ∀ (A : Around) (pins : List (Addr × Obj)) (s : Shared) (σ : St) (H : Hp) (x y : V) (u v : Value) (b : Bool), SubG X n A → Inv X pins σ H s → RelV x u → RelV y v → D x y H b →
    wpAny (model X.prog X.w) A (eqBool u v) (fun r s' => r = b ∧ ∃ H', Inv X pins σ H' s' ∧ Ext H H') X.xe s
def RcX (X : Cx) (op : CmpOp) (n : Nat) (D : EqB) : Prop :=
  ∀ (A : Around) (pins : List (Addr × Obj)) (s : Shared) (σ : St) (H : Hp) (x y : V) (u v : Value) (b : Bool), SubG X n A → Inv X pins σ H s → RelV x u → RelV y v → D x y H b →
    wpAny (model X.prog X.w) A (richCompare op u v) (fun r s' => r = .bool (resOf op b) ∧ ∃ H', Inv X pins σ H' s' ∧ Ext H H') X.xe s
/-- item by item, up to the first two that differ -/
inductive PrsB (D : EqB) (H : Hp) : List V → List V → Bool → Prop
  | nil : PrsB D H [] [] true
  | more {y : V} {ys : List V} : PrsB D H [] (y :: ys) false
  | less {x : V} {xs : List V} : PrsB D H (x :: xs) [] false
  | same {x y : V} {xs ys : List V} {b : Bool} : D x y H true → PrsB D H xs ys b → PrsB D H (x :: xs) (y :: ys) b
  | diff {x y : V} {xs ys : List V} : D x y H false → PrsB D H (x :: xs) (y :: ys) false
section
variable {X : Cx} {n m : Nat} {D D' : EqB} {op : CmpOp}
theorem EqX.or (h : EqX X n D) (h' : EqX X n D') : EqX X n (fun x y H b => D x y H b ∨ D' x y H b) := fun A pins s σ H x y u v b sb I rx ry d => by
  rcases d with d | d
  · exact h A pins s σ H x y u v b sb I rx ry d
  · exact h' A pins s σ H x y u v b sb I rx ry d
theorem MonB.or (h : MonB D) (h' : MonB D') : MonB (fun x y H b => D x y H b ∨ D' x y H b) := fun x y H H' b e d => d.elim (fun d => .inl (h x y H H' b e d)) fun d => .inr (h' x y H H' b e d)
theorem RcX.mono (h : RcX X op n D) (hn : n ≤ m) : RcX X op m D := fun A pins s σ H x y u v b sb => h A pins s σ H x y u v b (sb.mono hn)
theorem RcX.imp (h : RcX X op n D) (hd : ∀ x y H b, D' x y H b → D x y H b) : RcX X op n D' := fun A pins s σ H x y u v b sb I rx ry d => h A pins s σ H x y u v b sb I rx ry (hd x y H b d)
theorem RcX.or (h : RcX X op n D) (h' : RcX X op n D') : RcX X op n (fun x y H b => D x y H b ∨ D' x y H b) := fun A pins s σ H x y u v b sb I rx ry d => by
  rcases d with d | d
  · exact h A pins s σ H x y u v b sb I rx ry d
  · exact h' A pins s σ H x y u v b sb I rx ry d
theorem PrsB.mon (hD : MonB D) {xs ys : List V} {b : Bool} {H H' : Hp} (e : Ext H H') (p : PrsB D H xs ys b) : PrsB D H' xs ys b := by
  induction p with
  | nil => exact .nil
  | more => exact .more
  | less => exact .less
  | same h _ ih => exact .same (hD _ _ _ _ _ e h) ih
  | diff h => exact .diff (hD _ _ _ _ _ e h)
theorem PrsB.full {xs ys : List V} {b : Bool} {H : Hp} (p : PrsB D H xs ys b) (h : xs = [] ∨ ys = []) : b = decide (xs.length = ys.length) := by
  cases p with
  | nil => rfl
  | more => simp
  | less => simp
  | same _ _ => simp at h
  | diff _ => simp at h
def LoopB (X : Cx) (pins : List (Addr × Obj)) (σ : St) (H : Hp) (D : EqB) (xs ys : List V) (b : Bool) (i : Nat) (s' : Shared) : Prop := ∃ H', Inv X pins σ H' s' ∧ Ext H H' ∧ PrsB D H' (xs.drop i) (ys.drop i) b
theorem turnB (hD : MonB D) (h : EqX X n D) {A : Around} (sb : SubG X (n + 1) A) {pins : List (Addr × Obj)} {σ : St} {H : Hp} {xs ys : List V} {its its2 : List Value} {b : Bool} (r : Vals xs its) (r2 : Vals ys its2)
    (i : Nat) (h1 : i < its.toArray.size) (h2 : i < its2.toArray.size) (s' : Shared) (l : LoopB X pins σ H D xs ys b i s') :
    wpAny (model X.prog X.w) A.in1 (eqBool its.toArray[i] its2.toArray[i]) (fun r s2 => (r = true ∧ LoopB X pins σ H D xs ys b (i + 1) s2) ∨ (r = false ∧ b = false ∧ LoopB X pins σ H D xs ys b i s2)) X.xe s' := by
  obtain ⟨H1, I1, e1, p⟩ := l
  have g1 : its[i]? = some its.toArray[i] := by
    have h1' : i < its.length := by simpa using h1
    rw [List.getElem?_eq_getElem h1'] <;> simp
  have g2 : its2[i]? = some its2.toArray[i] := by
    have h2' : i < its2.length := by simpa using h2
    rw [List.getElem?_eq_getElem h2'] <;> simp
  have k1 : i < xs.length := by rw [r.length]; simpa using h1
  have k2 : i < ys.length := by rw [r2.length]; simpa using h2
  obtain ⟨u, hu, ru⟩ := r.get (List.getElem?_eq_getElem k1)
  obtain ⟨v, hv, rv⟩ := r2.get (List.getElem?_eq_getElem k2)
  rw [g1] at hu
  rw [g2] at hv
  rw [Option.some.inj hu, Option.some.inj hv]
  have pp := p
  rw [List.drop_eq_getElem_cons k1, List.drop_eq_getElem_cons k2] at p
  cases p with
  | same d q =>
    refine wpAny_mono (h A.in1 pins s' σ H1 _ _ u v true sb.in1 I1 ru rv d) (fun r s2 z => ?_) fun _ _ x => x
    obtain ⟨hr, H2, I2, e2⟩ := z
    exact .inl ⟨hr, H2, I2, e1.trans e2, q.mon hD e2⟩
  | diff d =>
    refine wpAny_mono (h A.in1 pins s' σ H1 _ _ u v false sb.in1 I1 ru rv d) (fun r s2 z => ?_) fun _ _ x => x
    obtain ⟨hr, H2, I2, e2⟩ := z
    exact .inr ⟨hr, rfl, H2, I2, e1.trans e2, pp.mon hD e2⟩
def DTupB (K : PySem.W.Frag) (D : EqB) : EqB := fun x y H b => ∃ p q xs ys, x = .ref p ∧ y = .ref q ∧ SqT K H p xs ∧ SqT K H q ys ∧ PrsB D H xs ys b
theorem rcX_tup (hop : op = .Eq ∨ op = .NotEq) (hD : MonB D) (h : EqX X n D) : RcX X op (n + 1) (DTupB X.K D) := by
  intro A pins s σ H x y u v b sb I rx ry d
  obtain ⟨p, q, xs, ys, rfl, rfl, ha, hb, z⟩ := d
  cases rx
  cases ry
  obtain ⟨its, r, e, _⟩ := I.tuple ha
  obtain ⟨its2, r2, e2, _⟩ := I.tuple hb
  refine rc_tupB op hop sb.room.units0 (LoopB X pins σ H D xs ys b) e e2 (fun i h1 h2 s' l => wpAny_mono (turnB hD h sb r r2 i h1 h2 s' l) (fun r' s2 w => ?_) fun _ _ x => x) (fun s' l => ?_) ⟨H, I, Ext.rfl', z⟩
  · rcases w with w | ⟨w1, rfl, H2, I2, e3, _⟩
    · exact .inl w
    · exact .inr ⟨w1, rfl, H2, I2, e3⟩
  · obtain ⟨H2, I2, e3, w⟩ := l
    have hl1 := r.length
    have hl2 := r2.length
    have hm : min its.toArray.size its2.toArray.size = min xs.length ys.length := by rw [List.size_toArray, List.size_toArray, ← hl1, ← hl2]
    rw [hm] at w
    have eb := w.full (by
      rcases Nat.le_total xs.length ys.length with k | k
      · left; rw [Nat.min_eq_left k, List.drop_length]
      · right; rw [Nat.min_eq_right k, List.drop_length])
    refine ⟨?_, H2, I2, e3⟩
    rw [eb, List.size_toArray, List.size_toArray, ← hl1, ← hl2, List.length_drop, List.length_drop]
    have : (xs.length == ys.length) = decide (xs.length - min xs.length ys.length = ys.length - min xs.length ys.length) := by
      by_cases k : xs.length = ys.length
      · rw [k]; simp
      · have : ¬ (xs.length - min xs.length ys.length = ys.length - min xs.length ys.length) := by omega
        simp [k, this]
    rw [this]
/-- instances of the class at C with the text's own ==, with anything -/
def DInsB (K : PySem.W.Frag) (C : Addr) (D : EqB) : EqB := fun x y H b => (∃ a dx fs, x = .ref a ∧ H a = some (.ins C dx fs)) ∧ (∃ t, TyOf K H y t ∧ PySem.W.notFirst K C t = true) ∧ D x y H b
/-- what the own == promises -/
def spEqB (D : EqB) : Sp := fun vs H Q _ => ∃ x y b, vs = [x, y] ∧ D x y H b ∧ ∀ H', Ext H H' → Q (.bl b) H'
theorem rcX_eqI {CX : CXT} {C f : Addr} {fd : FuncData} {ps : List Str} {E : XK} (T : EqC X.K C f) (F : FnG X.prog X.w X.K X.mg X.base CX n f fd ps (spEqB D)) (hb : Binds X.K fd ps []) (hx : Passes CX X E) : RcX X .Eq n (DInsB X.K C D) := by
  intro A pins s σ H x y u v b sb I rx ry d
  obtain ⟨⟨a, dx, fs, rfl, ha⟩, ⟨t, ty, hn⟩, hd⟩ := d
  cases rx
  obtain ⟨mA, J, _⟩ := ins_get I.hok ha
  obtain ⟨od, J, _⟩ := J.look
  obtain ⟨m, hF⟩ := I.fr
  refine PySem.W.cmp_K (op := .Eq) (tb := t) sb.room.units0 hF I.ok.mod.kin J (tyOf_looks I ry ty) hn T.eq T.fn ?_
  have hsp : spEqB D [.ref a, y] H (fun v H' => v = .bl b ∧ Ext H H') E := ⟨.ref a, y, b, rfl, hd, fun H' e => ⟨rfl, e⟩⟩
  have e0 : Env0 X.prog X.w X.K X.mg X.base A X.stack s H := by
    have e := I.env0
    exact ⟨by rw [sb.fr]; exact e.frames, e.mod, e.bs, e.bsz, e.funs, e.frf, e.hok, e.bare⟩
  have hl := F.len _ _ _ _ hsp
  have r2 : Vals [V.ref a, y] [Value.ref a, v] := .cons rfl (.cons ry .nil)
  refine wpAny_call (codeAny_mono (F.run A X.stack s H ⟨[.ref a, v], []⟩ [.ref a, v] [.ref a, y] _ E sb.gd sb.room e0 (by
    have := hb s [.ref a, v] I.kIn (by simpa using hl)
    simpa using this) r2 hsp) fun r s' hq => ?_)
  cases r with
  | error e => exact hx pins σ H s e s' I hq
  | ok fl =>
    cases fl with
    | ret w =>
      obtain ⟨z, H', I', rz, ez, ex⟩ := I.after hq
      subst ez
      cases rz
      exact ⟨rfl, H', I', ex⟩
    | next => exact False.elim hq
    | brk => exact False.elim hq
    | cont => exact False.elim hq
theorem rcX_neI {CX : CXT} {C f : Addr} {fd : FuncData} {ps : List Str} {E : XK} (T : EqC X.K C f) (F : FnG X.prog X.w X.K X.mg X.base CX n f fd ps (spEqB D)) (hb : Binds X.K fd ps []) (hx : Passes CX X E) : RcX X .NotEq (n + 1) (DInsB X.K C D) := by
  intro A pins s σ H x y u v b sb I rx ry d
  obtain ⟨⟨a, dx, fs, rfl, ha⟩, ⟨t, ty, hn⟩, hd⟩ := d
  cases rx
  obtain ⟨mA, O, _⟩ := ins_get I.hok ha
  obtain ⟨od, J, _⟩ := O.look
  have X0 : X.K.In s.heap := I.kIn
  have hb2 := tyOf_looks (M := model X.prog X.w) I ry ty
  have hr := sb.room
  have hsp : spEqB D [.ref a, y] H (fun v H' => v = .bl b ∧ Ext H H') E := ⟨.ref a, y, b, rfl, hd, fun H' e => ⟨rfl, e⟩⟩
  have e0 : Env0 X.prog X.w X.K X.mg X.base A.in1 X.stack s H := by
    have e := I.env0
    exact ⟨by rw [show A.in1.frames = A.frames from rfl, sb.fr]; exact e.frames, e.mod, e.bs, e.bsz, e.funs, e.frf, e.hok, e.bare⟩
  have inner : wpAny (model X.prog X.w) A.in1 (call (.ref f) [.ref a, v]) (fun w s' => w = .bool b ∧ ∃ H', Inv X pins σ H' s' ∧ Ext H H') X.xe s := by
    have r2 : Vals [V.ref a, y] [Value.ref a, v] := .cons rfl (.cons ry .nil)
    have hl := F.len _ _ _ _ hsp
    apply wpAny_call
    refine codeAny_mono (F.run A.in1 X.stack s H ⟨[.ref a, v], []⟩ [.ref a, v] [.ref a, y] _ E sb.gd hr.in1 e0 (by
      have := hb s [.ref a, v] X0 (by simpa using hl)
      simpa using this) r2 hsp) fun r s' hq => ?_
    match r, hq with
    | .error e, hq => exact hx pins σ H s e s' I hq
    | .ok (.ret w), hq =>
      obtain ⟨z, H', I', rz, ez, ex⟩ := I.after hq
      subst ez
      cases rz
      exact ⟨rfl, H', I', ex⟩
    | .ok .next, hq => exact False.elim hq
    | .ok .brk, hq => exact False.elim hq
    | .ok .cont, hq => exact False.elim hq
  have one : wpAny (model X.prog X.w) A (tryCompare (.ref a) "__ne__" v) (fun r s' => r = some (.bool (!b)) ∧ ∃ H', Inv X pins σ H' s' ∧ Ext H H') X.xe s := by
    unfold tryCompare
    refine wpAny_bind ?_
    simp only [callSpecialIfBound?, bindSpecialIfBound?]
    refine wpAny_holding (wpAny_bind (wpAny_bind (wpAny_bind (J.type.here ((PySem.W.looks_findIn X0 T.ne).here ?_)))))
    refine wpAny_bind (wpAny_askSetting (wpAny_ite ?_))
    have sub : PySem.W.Looks (model X.prog X.w) s.heap (isInstance (.ref a) (.type "object")) true := J.type.andThen (PySem.W.looks_mroIn X0 T.ob)
    have called : wpAny (model X.prog X.w) A (call (.builtin "object.__ne__") [.ref a, v]) (fun w s' => w = .bool (!b) ∧ ∃ H', Inv X pins σ H' s' ∧ Ext H H') X.xe s := by
      refine wpAny_call (codeAny_call_builtin PySem.F.cmp_object.ne.plain PySem.F.cmpEntry_ne (PySem.W.check_slot PySem.F.cmpKind_ne PySem.F.cmpSplit_ne sub (PySem.F.cmpArgs_ne _ _) ?_))
      refine ne_body (by have := hr.un; show A.units + 1 < cLine; omega) ?_
      refine PySem.W.ifBound_K X0 J T.eq T.fn (wpAny_mono inner ?_ fun _ _ z => z)
      rintro w s' ⟨rfl, z⟩
      exact ⟨b, rfl, rfl, z⟩
    have fin : wpAny (model X.prog X.w) A (call (.builtin "object.__ne__") ([.ref a] ++ [v]) >>= fun v => pure (some v)) (fun r s' => wpAny (model X.prog X.w) A (match r with
        | some .notImplemented => pure none
        | none => pure none
        | some v => pure (some v)) (fun r s' => r = some (.bool (!b)) ∧ ∃ H', Inv X pins σ H' s' ∧ Ext H H') X.xe s') X.xe s := by
      refine wpAny_bind (wpAny_mono called ?_ fun _ _ z => z)
      rintro w s' ⟨rfl, z⟩
      exact wpAny_pure (wpAny_pure ⟨rfl, z⟩)
    split
    · exact wpAny_bind (wpAny_of_eq (PySem.F.cmp_object.ne.bind _) (wpAny_pure fin))
    · exact wpAny_tryCatch (wpAny_bind (wpAny_of_eq (PySem.F.cmp_object.ne.bind _) (wpAny_pure fin)))
  show wpAny (model X.prog X.w) A (richCompare .NotEq (.ref a) v) (fun r s' => r = .bool (!b) ∧ ∃ H', Inv X pins σ H' s' ∧ Ext H H') X.xe s
  unfold richCompare
  simp only [PySem.oneThing_ref]
  refine wpAny_holding (wpAny_bind (wpAny_cRoomFor hr.units0 ?_))
  refine wpAny_bind (J.type.here (wpAny_bind (hb2.here ?_)))
  split
  · rename_i z
    have e : PySem.W.subIn X.K t (.ref C) = some false := by
      rcases Bool.or_eq_true_iff.mp hn with e | e
      · rw [beq_iff_eq.mp e] at z
        simp at z
      · exact beq_iff_eq.mp e
    refine wpAny_bind ((PySem.W.looks_subIn X0 e).here ?_)
    simp only [Bool.false_eq_true, if_false]
    refine wpAny_bind (wpAny_mono one ?_ fun _ _ z => z)
    rintro r s' ⟨rfl, z⟩
    exact wpAny_pure ⟨rfl, z⟩
  · refine wpAny_bind (wpAny_pure ?_)
    simp only [Bool.false_eq_true, if_false]
    refine wpAny_bind (wpAny_mono one ?_ fun _ _ z => z)
    rintro r s' ⟨rfl, z⟩
    exact wpAny_pure ⟨rfl, z⟩
theorem rcX_ins {CX : CXT} {C f : Addr} {fd : FuncData} {ps : List Str} {E : XK} (hop : op = .Eq ∨ op = .NotEq) (T : EqC X.K C f) (F : FnG X.prog X.w X.K X.mg X.base CX n f fd ps (spEqB D)) (hb : Binds X.K fd ps []) (hx : Passes CX X E) : RcX X op (n + 1) (DInsB X.K C D) := by
  rcases hop with rfl | rfl
  · exact (rcX_eqI T F hb hx).mono (Nat.le_succ n)
  · exact rcX_neI T F hb hx
/-- from a rich comparison to == inside a list or tuple: a thing is equal to itself -/
theorem RcX.eqX (h : RcX X .Eq n D) (hr : ∀ x y H b, D x y H b → (∃ a, x = .ref a) ∧ (x = y → b = true)) : EqX X n D := by
  intro A pins s σ H x y u v b sb I rx ry d
  obtain ⟨⟨a, rfl⟩, hs⟩ := hr _ _ _ _ d
  cases rx
  by_cases hab : V.ref a = y
  · cases hab
    cases ry
    rw [hs rfl]
    exact SeqAt.EqAt.same (A := A) (s := s) (.ref a) X.prog X.w X.xe _ ⟨rfl, H, I, Ext.rfl'⟩
  · refine eqBool_rcB (?_) (wpAny_mono (h A pins s σ H (.ref a) y _ v b sb I rfl ry d) (fun r s' q => ?_) fun _ _ x => x)
    · cases hz : (Value.ref a == v) with
      | false => rfl
      | true =>
        exfalso
        have e : v = Value.ref a := (eq_of_beq hz).symm
        subst e
        cases y with
        | ref c => cases (show Value.ref a = Value.ref c from ry); exact hab rfl
        | non => cases (show Value.ref a = Value.none from ry)
        | bl k => cases (show Value.ref a = Value.bool k from ry)
        | int k => obtain ⟨t, e⟩ := (show ∃ t, Value.ref a = Value.int k t from ry); cases e
        | str k => obtain ⟨t, e⟩ := (show ∃ t, Value.ref a = Value.str k t from ry); cases e
        | byt k => obtain ⟨t, e⟩ := (show ∃ t, Value.ref a = Value.bytes k t from ry); cases e
        | flt k => obtain ⟨t, e⟩ := (show ∃ t, Value.ref a = Value.float k t from ry); cases e
        | ty k => first | (cases (show Value.ref a = Value.type k from ry)) | (obtain ⟨t, e⟩ := ry; cases e) | cases ry
    · obtain ⟨hr', q⟩ := q
      exact ⟨b, hr', rfl, q⟩
/-- x == y as an expression, x != y likewise -/
def rOpB (op : CmpOp) (D : EqB) : R2 := fun x y H Q => ∃ b, D x y H b ∧ ∀ H', Ext H H' → Q (.bl (resOf op b)) H'
theorem op_X (hop : op = .Eq ∨ op = .NotEq) (h : RcX X op n D) (hgd : X.A.guards = some []) (hr : Room n X.A) : OpR X (compareOp op) (rOpB op D) := by
  intro pins s σ H x y v u Q I rx ry hq
  obtain ⟨b, d, q⟩ := hq
  have go : wpAny (model X.prog X.w) X.A (richCompare op v u) (EP X pins σ Q) X.xe s := by
    refine wpAny_mono (h X.A pins s σ H x y v u b ⟨hr, rfl, hgd⟩ I rx ry d) (fun r s' z => ?_) fun _ _ x => x
    obtain ⟨hr', H', I', e⟩ := z
    subst hr'
    exact ⟨.bl _, H', I', rfl, q H' e⟩
  rcases hop with rfl | rfl <;> exact go
end
end L2
end
section
set_option Elab.async false
set_option linter.all false
set_option maxRecDepth 100000
set_option maxHeartbeats 2000000
namespace L2
open PySem PySem.Spec PyProof.Rows GQB
/-- a thing of another kind than the class C -/
def NoIns (K : PySem.W.Frag) (C : Addr) (H : Hp) (y : V) : Prop := ∃ ty, TyOf K H y ty ∧ PySem.W.kitOne K ty (.ref C) = some false ∧ PySem.W.notFirst K C ty = true
theorem tyOf_ext {K : PySem.W.Frag} {H H' : Hp} {y : V} {ty : Value} (e : Ext H H') (h : TyOf K H y ty) : TyOf K H' y ty := by
  cases h with
  | non => exact .non
  | bl b => exact .bl b
  | int i => exact .int i
  | str x => exact .str x
  | flt x => exact .flt x
  | lst h => exact .lst (e _ _ h)
  | frz h => exact .frz (e _ _ h)
  | tup h => exact .tup (e _ _ h)
  | dK h => exact .dK (e _ _ h)
  | dT h => exact .dT (e _ _ h)
  | ins h a b c d f => exact .ins (e _ _ h) a b c d f
theorem NoIns.ext {K : PySem.W.Frag} {C : Addr} {H H' : Hp} {y : V} (e : Ext H H') (h : NoIns K C H y) : NoIns K C H' y := by
  obtain ⟨ty, a, b, c⟩ := h
  exact ⟨ty, tyOf_ext e a, b, c⟩
/-- the built-in kinds of data are no class of ours -/
structure KitNo (K : PySem.W.Frag) (C : Addr) : Prop where
  n0 : PySem.W.kitOne K (.type "NoneType") (.ref C) = some false
  n1 : PySem.W.kitOne K (.type "bool") (.ref C) = some false
  n2 : PySem.W.kitOne K (.type "int") (.ref C) = some false
  n3 : PySem.W.kitOne K (.type "str") (.ref C) = some false
  n4 : PySem.W.kitOne K (.type "list") (.ref C) = some false
  n5 : PySem.W.kitOne K (.type "tuple") (.ref C) = some false
  n6 : PySem.W.kitOne K (.type "dict") (.ref C) = some false
  s0 : PySem.W.subIn K (.type "NoneType") (.ref C) = some false
  s1 : PySem.W.subIn K (.type "bool") (.ref C) = some false
  s2 : PySem.W.subIn K (.type "int") (.ref C) = some false
  s3 : PySem.W.subIn K (.type "str") (.ref C) = some false
  s4 : PySem.W.subIn K (.type "list") (.ref C) = some false
  s5 : PySem.W.subIn K (.type "tuple") (.ref C) = some false
  s6 : PySem.W.subIn K (.type "dict") (.ref C) = some false
theorem first_of {K : PySem.W.Frag} {C : Addr} {t : Value} (h : PySem.W.subIn K t (.ref C) = some false) : PySem.W.notFirst K C t = true := by
  simp [PySem.W.notFirst, h]
section
variable {K : PySem.W.Frag} {C : Addr} {H : Hp} (N : KitNo K C)
include N
theorem KitNo.bl (b : Bool) : NoIns K C H (.bl b) := ⟨_, .bl b, N.n1, first_of N.s1⟩
theorem KitNo.str (x : Str) : NoIns K C H (.str x) := ⟨_, .str x, N.n3, first_of N.s3⟩
theorem KitNo.lst {a : Addr} {xs : List V} (e : H a = some (.lst xs)) : NoIns K C H (.ref a) := ⟨_, .lst e, N.n4, first_of N.s4⟩
theorem KitNo.dK {a : Addr} {xs : List (Key × V)} (e : H a = some (.dK xs)) : NoIns K C H (.ref a) := ⟨_, .dK e, N.n6, first_of N.s6⟩
theorem KitNo.dT {a : Addr} {xs : List (List Key × V)} (e : H a = some (.dT xs)) : NoIns K C H (.ref a) := ⟨_, .dT e, N.n6, first_of N.s6⟩
end
end L2
end
section
set_option Elab.async false
set_option linter.all false
set_option maxRecDepth 100000
set_option maxHeartbeats 2000000
namespace L2
open PySem PySem.Spec PyProof.Rows
section
open PySem.W
/-- the class of an error without methods, from facts that are looked up -/
theorem errN_mk {K : Frag} {mg : Str → Option Value} {h : Heap} {cn : Str} {C : Addr} (X : K.In h) (G : h.Ns mainGlobals mg) (gC : nsIn K mainGlobals cn = some (some (.ref C)))
    (ex : excIn K C [.type "ValueError", .type "Exception", .type "BaseException", .type "object"] "ValueError.__new__" = true) (kC : keepIn K (.ref C) = true) (exC : subIn K (.ref C) (.type "BaseException") = some true) (tyC : typeIn K (.ref C) = some (.type "type"))
    (icC : isClsIn K C = true) (sC : subIn K (.ref C) (.ref C) = some true) : ErrN K mg cn C := ⟨mg_of X G gC, ex, kC, exC, tyC, RX.te_of exC icC tyC sC⟩
end
end L2
end
section
set_option Elab.async false
set_option linter.all false
set_option maxRecDepth 100000
set_option maxHeartbeats 2000000
namespace L2
open PySem PySem.Spec PyProof.Rows
section
variable {K : PySem.W.Frag} {H : Hp} {a b : Addr} {xs ys : List V} {Q : VK}
theorem catU (ha : H a = some (.tup xs)) (hb : H b = some (.tup ys)) (hz : xs.length + ys.length ≤ sizeLine) (k : ∀ p H', Ext H H' → H' p = some (.tup (xs ++ ys)) → Q (.ref p) H') : rCatA K (.ref a) (.ref b) H Q :=
  ⟨a, b, xs, ys, rfl, rfl, SqT.of ha, SqT.of hb, hz, fun z => k b H Ext.rfl' (by rw [z]; exact hb), fun _ z => k a H Ext.rfl' (by rw [z, List.append_nil]; exact ha), fun _ _ p hp => k p _ (Ext.upd hp) upd_same⟩
theorem slU {lo hi : Option Int} (ha : H a = some (.tup xs)) (k : ∀ p H', Ext H H' → H' p = some (.tup (cutV xs lo hi)) → Q (.ref p) H') : rSlA K (.ref a) lo hi H Q :=
  ⟨a, xs, rfl, SqT.of ha, fun z => k a H Ext.rfl' (by
    have : cutV xs lo hi = xs := by unfold cutV; rw [z.1, z.2, List.drop_zero, Nat.sub_zero, List.take_length]
    rw [this]; exact ha), fun _ p hp => k p _ (Ext.upd hp) upd_same⟩
theorem nopart_of {σ : St} {H : Hp} {Q : Option Int → Hp → Prop} (h : Q none H) : tNoPart σ H Q := h
end
end L2
end
section
set_option Elab.async false
set_option linter.all false
set_option maxRecDepth 100000
set_option maxHeartbeats 2000000
namespace L2
open PySem PySem.Spec PyProof.Rows
end L2
end
section
set_option Elab.async false
set_option linter.all false
set_option maxRecDepth 100000
set_option maxHeartbeats 2000000
namespace L2
open PySem PySem.Spec PyProof.Rows
end L2
end
section
set_option Elab.async false
set_option linter.all false
set_option maxRecDepth 100000
set_option maxHeartbeats 2000000
namespace L2
open PySem PySem.Spec PyProof.Rows
end L2
end
section
set_option Elab.async false
set_option linter.all false
set_option maxRecDepth 100000
set_option maxHeartbeats 2000000
namespace L2
open PySem PySem.Spec PyProof.Rows
/-- the signs of a text, each with its number in a new pair -/
def IteS (z : Str) : It :=
  ⟨fun i _ => ∃ c, z.cps[i]? = some c, fun i H v H' => ∃ T c, v = .ref T ∧ H T = none ∧ H' = upd H T (.tup [.int (i : Nat), .str ⟨#[c]⟩]) ∧ z.cps[i]? = some c, fun i _ => z.cps.size ≤ i⟩
theorem turn_enS {P : Program} {w : World} {K : PySem.W.Frag} {elts : List Expr} {kk : Nat} {tpos : Pos} (z : Str) (tz : Tok) (e it : Addr) :
    Turn P w K (.Tuple elts kk tpos) (IteS z) [e, it] e (fun i h => (∃ old, IsEnum h e it ((i : Nat) : Int) old) ∧ h.IsStrIter it (strIterType z) z tz i ∧ i ≤ z.cps.size ∧ e ≠ it) where
  mem := by simp
  obj := fun i h st b hb => by
    obtain ⟨⟨old, he⟩, ⟨o, ho, hc, hd⟩, _⟩ := st
    rcases (by simpa using hb : b = e ∨ b = it) with z | z
    · exact z ▸ ⟨_, he, fun v q => nomatch q⟩
    · exact z ▸ ⟨o, ho, fun v q => by rw [hd] at q; cases q⟩
  keep := fun i h h' st k => ⟨let ⟨old, he⟩ := st.1; ⟨old, k e (by simp) _ he⟩, let ⟨o, ho, r⟩ := st.2.1; ⟨o, k it (by simp) o ho, r⟩, st.2.2⟩
  item := by
    intro X hP hw hK hc i pins s σ H E I hf st hg
    subst hP hw hK
    obtain ⟨⟨old, he⟩, hit, hle, hne⟩ := st
    obtain ⟨c, hx⟩ := hg
    have hel : e < s.heap.objs.size := Heap.lt_size he
    have hil : it < s.heap.objs.size := by obtain ⟨_, q, _⟩ := hit; exact Heap.lt_size q
    have hlt : i < z.cps.size := (Array.getElem?_eq_some_iff.mp hx).1
    refine wpAny_pyNext_enum_itemD (Draws.text (A := X.A.in1) (I.ok.hd hc) it z tz) he hit hlt hne (by simp [hne]) fun x' h' tk hx' ho hst hT hsz hk => ?_
    obtain ⟨c', u, e1, rfl⟩ := hx'
    obtain rfl : c = c' := Option.some.inj (hx.symm.trans e1)
    refine ⟨_, rfl, wpAny_letOwnedTupleGo_enum (s := { s with heap := h', toks := tk + 1 }) ho fun h'' he' sb => ?_⟩
    have hT2 : h''.get? s.heap.objs.size = some { cls := .type "tuple", data := .seq #[.int i tk, .str ⟨#[c]⟩ u] } := (sb.2 _ (Nat.ne_of_gt hel)).trans hT
    have nw : ObjOk X.prog X.w (upd H s.heap.objs.size (.tup [.int (i : Nat), .str ⟨#[c]⟩])) h'' s.heap.objs.size (.tup [.int (i : Nat), .str ⟨#[c]⟩]) :=
      ⟨by show 2 ≤ sizeLine; decide, [.int i tk, .str ⟨#[c]⟩ u], .cons ⟨_, rfl⟩ (.cons ⟨_, rfl⟩ .nil), ⟨_, hT2, rfl, _, rfl⟩⟩
    have I1 : Inv X pins σ (upd H s.heap.objs.size (.tup [.int (i : Nat), .str ⟨#[c]⟩])) { s with heap := h'', toks := tk + 1 } :=
      I.turnedNew (ch := [e, it]) (fun b ob hb q => (sb.2 b (fun z => hb (by simp [z]))).trans (hk b ob (fun z => hb (by simp [z])) (fun z => hb (by simp [z])) q)) hf (Nat.le_refl _) nw
    refine ⟨.ref s.heap.objs.size, _, I1, rfl, ⟨_, c, rfl, I.hok.fresh (Nat.le_refl _), rfl, hx⟩, ⟨⟨Value.str ⟨#[c]⟩ u, ?_⟩, (let ⟨o, ho, r⟩ := hst; ⟨o, (sb.2 it (Ne.symm hne)).trans ho, r⟩), hlt, hne⟩, fun b hb => ?_⟩
    · rw [show ((i + 1 : Nat) : Int) = (i : Int) + 1 by omega]
      exact he'
    · have hb' : b < s.heap.objs.size := by
        rcases (by simpa using hb : b = e ∨ b = it) with z | z
        · exact z ▸ hel
        · exact z ▸ hil
      rw [upd_ne (Nat.ne_of_lt hb')]
      exact (hf b hb).1
  done := by
    intro X hP hw hK hc i pins s σ H E I hf st hg
    subst hP hw hK
    obtain ⟨⟨old, he⟩, hit, hle, hne⟩ := st
    obtain rfl : i = z.cps.size := Nat.le_antisymm hle hg
    obtain ⟨f0, f1, f2, f3, f4, f5⟩ := hf it (by simp)
    refine wpAny_pyNext_enum_endD (Draws.text (A := X.A.in1) (I.ok.hd hc) it z tz) he hit fun h' hy => ⟨rfl, ?_⟩
    exact I.turned (t' := s.toks) (fun b o hb q => hy b o hb q) f0 f1 f3 f4 f5
  self := fun A i s Q E st h => let ⟨⟨_, he⟩, _⟩ := st; wpAny_pyIter_enum he h
theorem walk_enS {z : Str} : Walk (IteS z) z.cps.size (fun _ => True) (YPair (fun i => some (.int (i : Nat))) (fun i => z.cps[i]?.map fun c => .str ⟨#[c]⟩)) :=
  ⟨fun i _ hi q => ⟨z.cps[i], by simp [hi]⟩, fun _ q => Nat.le_refl _, fun i H v H' _ q ⟨T, c, h1, h2, h3, h4⟩ => ⟨T, .int (i : Nat), .str ⟨#[c]⟩, h1, h2, h3, rfl, by show Option.map _ _ = _; rw [h4]; rfl⟩⟩
section
variable {X : Cx} {e : Expr} {ta : TA} {p pos tpos : Pos} {elts : List Expr} {kk : Nat}
/-- enumerate(v), v a text -/
def iEnumS (ta : TA) : TI := fun σ H R => ta σ H fun vs H1 => ∃ z, vs = [.str z] ∧ R (IteS z) H1
theorem pi_enumS (hg : Gl X "enumerate") (hm : X.mg "enumerate" = none) (ha : PA X [e] ta) (hs : starEach [e] X.env = [(false, eval e X.env)] := by rfl) : PI X (.Tuple elts kk tpos) (.Call (.Name "enumerate" p) [e] [] pos) (iEnumS ta) := by
  refine ⟨fun pins s σ H R I h => ?_⟩
  refine Call_ (ld_blt I hg hm boot_enumerate (PyProof.Rows.callWith_type1 (thn (ha.run pos pins s σ H _ I h) fun us s1 ⟨vs, H1, I1, r1, q1⟩ => ?_) hs rfl))
  obtain ⟨z, ex, q⟩ := q1
  subst ex
  cases r1 with
  | cons r rr =>
    cases rr
    obtain ⟨tz, rfl⟩ := r
    have big : ∀ (b : Addr), b ∈ [s1.heap.objs.size + 1, s1.heap.objs.size] → FpOk X pins H1 b := fun b hb => by
      have hle : s1.heap.objs.size ≤ b := by
        rcases (by simpa using hb : b = s1.heap.objs.size + 1 ∨ b = s1.heap.objs.size) with z | z
        · exact z ▸ Nat.le_succ _
        · exact z ▸ Nat.le_refl _
      exact I1.fpOk hle (I1.hok.fresh hle)
    refine call_en (begins_text z tz) trivial fun h' he ho hsz hk => wpAny_pyIter_enum he ?_
    exact ⟨s1.heap.objs.size + 1, [s1.heap.objs.size + 1, s1.heap.objs.size], _, _, H1, rfl, I1.kept (t' := s1.toks) hk, turn_enS z tz (s1.heap.objs.size + 1) s1.heap.objs.size, ⟨⟨.none, he⟩, ⟨_, ho, rfl, rfl⟩, Nat.zero_le _, Nat.succ_ne_self _⟩, big, q⟩
end
end L2
end
section
set_option Elab.async false
set_option linter.all false
set_option maxRecDepth 100000
set_option maxHeartbeats 2000000
namespace L2
open PySem PySem.Spec PyProof.Rows
def rSortedIT (K : PySem.W.Frag) : List V → Hp → VK → Prop := fun vs H Q => ∃ (a : Addr) (ns : List Int), vs = [V.ref a] ∧ (SqL K H a (ns.map V.int) ∨ SqT K H a (ns.map V.int)) ∧
  ∀ (ns' : List Int) (p : Addr), ns'.Perm ns → ns'.Pairwise (· ≤ ·) → H p = none → Q (.ref p) (upd H p (.lst (ns'.map V.int)))
section
variable {X : Cx}
theorem cr_sortedIT : CallR X (.builtin "sorted") (rSortedIT X.K) := by
  intro pins s σ H vs us Q I r h
  obtain ⟨a, ns, rfl, hq, q⟩ := h
  rw [Vals.ref1 r]
  obtain ⟨its, T, o, n, rv, hz, hT, ho, hc, hd⟩ : ∃ its T o n, Vals (ns.map V.int) its ∧ (ns.map V.int).length ≤ sizeLine ∧ (T = "list" ∨ T = "tuple") ∧ s.heap.get? a = some o ∧ o.cls = .type T ∧ o.data = .seq its.toArray n := by
    rcases hq with hq | hq
    · obtain ⟨its, rv, pl, hz⟩ := I.list hq
      obtain ⟨o, ho, hc, n, hd⟩ := pl.isList
      exact ⟨its, "list", o, n, rv, hz, .inl rfl, ho, hc, hd⟩
    · obtain ⟨its, rv, pl, hz⟩ := I.tuple hq
      obtain ⟨o, ho, hc, n, hd⟩ := pl
      exact ⟨its, "tuple", o, n, rv, hz, .inr rfl, ho, hc, hd⟩
  have hlen := rv.length
  have hi := rv.ints
  have hz' : its.length ≤ sizeLine := by omega
  refine Calls.call_function_entry kind_sorted plain_sorted entry_sorted (args_sorted1 _) ?_
  unfold Builtin.«sorted»
  refine wpAny_bind (m := checkCount "sorted" 1 1 _) (wpAny_pure ?_)
  refine wpAny_bind (wpAny_collect_seq (hsz := by simpa using hz') a hT ho hc hd fun h1 k1 => ?_)
  have I1 : Inv X pins σ H { s with heap := h1 } := I.kept (t' := s.toks) k1
  have et : its.toArray.toList = its := by simp
  rw [et]
  refine wpAny_bind (wpAny_newList ?_ hz')
  have new : (h1.push (seqObj "list" its.toArray 0)).get? h1.objs.size = some (seqObj "list" its.toArray 0) := Heap.get?_push_size _ rfl
  refine wpAny_bind (wpAny_holding (wpAny_call_entry slot_list_sort ⟨_, new, rfl⟩ entry_list_sort (SrtO.list_sort_ord SrtO.swo_int new hz' (fun h2 => SrtO.ints_sortable hi h2) fun out hs hb => ⟨_, rfl, ?_⟩) (args_list_sort _)))
  obtain ⟨g1, g2, g3⟩ := SrtO.ints_out hi hs hb
  obtain ⟨e, he⟩ := sortedHeap_at (vs := its) (out := out.toArray) new
  have hl2 : ((out.map SrtO.iv).map V.int).length ≤ sizeLine := by
    rw [List.length_map, g2.length_eq]
    rw [List.length_map] at hz
    exact hz
  refine wpAny_pure ⟨_, rfl, .ref _, upd H h1.objs.size (.lst ((out.map SrtO.iv).map V.int)), I1.laid (t' := s.toks) (fun b u e1 => ?_) (Nat.le_refl _) ⟨hl2, out, e, vals_of_ints g1, he⟩, rfl, q _ _ g2 g3 (I1.hok.fresh (Nat.le_refl _))⟩
  have hlt := Heap.lt_size e1
  rw [sortedHeap_old (Nat.ne_of_lt hlt) (by rw [Heap.size_push]; exact Nat.lt_succ_of_lt hlt)]
  exact Heap.get?_push_of_some _ e1
end
end L2
end
section
set_option Elab.async false
set_option linter.all false
set_option maxRecDepth 100000
set_option maxHeartbeats 2000000
namespace L2
open PySem PySem.Spec PyProof.Rows
theorem reads_ints {h : Heap} : ∀ {ns : List Int} {us : List Value}, Vals (ns.map V.int) us → ∃ as, ReadsAll h us (ns.map PyData.int) as
  | [], _, .nil => ⟨_, .nil⟩
  | n :: ns, _, .cons r rs => by
    obtain ⟨t, rfl⟩ := r
    obtain ⟨as, hr⟩ := reads_ints rs
    exact ⟨_, .cons (.int n t) hr⟩
theorem alike_int_all (ns : List Int) : PySem.W.AlikeAll (ns.map PyData.int) := by
  refine ⟨fun x hx y hy => ?_, fun x hx => ?_⟩
  · obtain ⟨i, _, rfl⟩ := List.mem_map.mp hx
    obtain ⟨j, _, rfl⟩ := List.mem_map.mp hy
    simp [PySem.W.alike]
  · obtain ⟨i, _, rfl⟩ := List.mem_map.mp hx
    intro z; cases z
theorem depth_int_all : ∀ ns : List Int, PyData.depthAll (ns.map PyData.int) ≤ 1
  | [] => by simp [PyData.depthAll]
  | n :: ns => by have := depth_int_all ns; simp [PyData.depthAll, PyData.depth]; omega
theorem reads_is_int {h : Heap} {v : Value} {n : Int} {as : List Addr} (r : Reads h v (.int n) as) : ∃ t, v = .int n t := by
  cases r with
  | int i t => exact ⟨t, rfl⟩
def rMinT (K : PySem.W.Frag) : List V → Hp → VK → Prop := fun vs H Q => ∃ (a : Addr) (n : Int) (ns : List Int), vs = [V.ref a] ∧ SqT K H a ((n :: ns).map V.int) ∧ Q (.int (ns.foldl min n)) H
def rMaxT (K : PySem.W.Frag) : List V → Hp → VK → Prop := fun vs H Q => ∃ (a : Addr) (n : Int) (ns : List Int), vs = [V.ref a] ∧ SqT K H a ((n :: ns).map V.int) ∧ Q (.int (ns.foldl max n)) H
section
variable {X : Cx}
theorem cr_minT (hc : X.calm = true) (hu : X.A.units + 64 < cLine) : CallR X (.builtin "min") (rMinT X.K) := by
  intro pins s σ H vs us Q I r h
  obtain ⟨a, n, ns, rfl, hq, q⟩ := h
  rw [Vals.ref1 r]
  obtain ⟨its, rv, pl, hz⟩ := I.tuple hq
  obtain ⟨as, hr⟩ := reads_ints (h := s.heap) rv
  have hd := depth_int_all (n :: ns)
  refine PySem.W.min_tuple_data (I.ok.hd hc) (show s.heap.IsTuple a its.toArray from pl) (x := .int n) (xs := ns.map PyData.int) (as := as) (by simpa using hr) (alike_int_all (n :: ns)) (by show X.A.units + 1 + PyData.depthAll ((n :: ns).map PyData.int) < cLine; omega) fun i v h' tk bs hv rd hk => ?_
  rw [PySem.W.minD_ints] at rd
  obtain ⟨t, rfl⟩ := reads_is_int rd
  exact ⟨.int _, H, I.kept hk, ⟨_, rfl⟩, q⟩
theorem cr_maxT (hc : X.calm = true) (hu : X.A.units + 64 < cLine) : CallR X (.builtin "max") (rMaxT X.K) := by
  intro pins s σ H vs us Q I r h
  obtain ⟨a, n, ns, rfl, hq, q⟩ := h
  rw [Vals.ref1 r]
  obtain ⟨its, rv, pl, hz⟩ := I.tuple hq
  obtain ⟨as, hr⟩ := reads_ints (h := s.heap) rv
  have hd := depth_int_all (n :: ns)
  refine PySem.W.max_tuple_data (I.ok.hd hc) (show s.heap.IsTuple a its.toArray from pl) (x := .int n) (xs := ns.map PyData.int) (as := as) (by simpa using hr) (alike_int_all (n :: ns)) (by show X.A.units + 1 + PyData.depthAll ((n :: ns).map PyData.int) < cLine; omega) fun i v h' tk bs hv rd hk => ?_
  rw [PySem.W.maxD_ints] at rd
  obtain ⟨t, rfl⟩ := reads_is_int rd
  exact ⟨.int _, H, I.kept hk, ⟨_, rfl⟩, q⟩
end
end L2
end
section
set_option Elab.async false
set_option linter.all false
set_option maxRecDepth 100000
set_option maxHeartbeats 2000000
namespace L2
open PySem PySem.Spec PyProof.Rows
def rReprT (K : PySem.W.Frag) : List V → Hp → VK → Prop := fun xs H Q => ∃ (v : V) (ds : List PyData), xs = [v] ∧ Dp K H v (.tuple ds) ∧ (PyData.tuple ds).showable = true ∧ (PyData.tuple ds).hasDict = false ∧ (PyData.tuple ds).depth ≤ 60 ∧ (PyData.tuple ds).shown.length ≤ sizeLine ∧ Q (.str (PyData.tuple ds).shown) H
theorem call_reprT {X : Cx} {k : Nat} (hgd : X.A.guards = some []) (hr : Room k X.A) : CallR X (.builtin "repr") (rReprT X.K) := by
  intro pins s σ H xs us Q I r h
  obtain ⟨v, ds, rfl, hd, hs, hnd, hdep, hz, q⟩ := h
  obtain ⟨u, rfl, ru⟩ : ∃ u, us = [u] ∧ RelV v u := by
    cases r with
    | cons r1 r2 => cases r2; exact ⟨_, rfl, r1⟩
  have hu := hr.un
  obtain ⟨as, hreads⟩ := Dp.reads I _ v u hd ru
  cases hd with
  | @tup a ys es e t =>
    cases (show u = Value.ref a from ru)
    exact repr_of_reads' hreads hs (fun z => by rw [hnd] at z; cases z) hgd (by omega) (fun _ _ z => z) (fun h' u' tk hk => ⟨.str _, H, I.kept (t' := tk) hk, ⟨u', rfl⟩, q⟩) hz
end L2
end
section
set_option Elab.async false
set_option linter.all false
set_option maxRecDepth 100000
set_option maxHeartbeats 2000000
namespace K16
open PySem L2
local macro_rules | `(tactic| walk_at "hp") => `(tactic| first | assumption | exact upd_same | (refine (upd_ne (by first | assumption | (apply Ne.symm; assumption))).trans ?_; walk_at "hp"))
local macro_rules | `(tactic| walk_at "rd1") => `(tactic| first
  | (refine ⟨_, rfl, ?_⟩)
  | (refine ⟨_, _, rfl, rfl, ?_⟩)
  | (refine ⟨(rfl : scal _ _ = true), ?_⟩)
  | (refine And.intro (by show (0 : Int) < _; decide) ?_)
  | (refine And.intro (And.intro (by decide) (by decide)) ?_)
  | (refine And.intro (Or.inr (And.intro (by decide) (by decide))) ?_)
  | (refine And.intro (And.intro (by decide) (And.intro (by decide) (by decide))) ?_)
  | (refine And.intro (by assumption) ?_)
  | (refine And.intro (And.intro (by omega) (by omega)) ?_)
  | (refine And.intro (Or.inl (And.intro (by omega) (by omega))) ?_)
  | (refine' ⟨_, _, _, _, rfl, rfl, Or.inl (Or.inl ?h1), ?h2, ?h3⟩; (case h1 => walk_at "hp"); (case h2 => rfl))
  | (refine' ⟨_, _, _, _, rfl, rfl, ?h1, ?h2, ?h3⟩; (case h1 => walk_at "hp"); (case h2 => rfl))
  | (refine' ⟨_, _, rfl, Or.inl (Or.inl (Or.inl ?h1)), ?h3⟩; (case h1 => walk_at "hp"))
  | (refine Or.inl ⟨_, rfl, ?_⟩))
local macro_rules | `(tactic| walk_at "rd") => `(tactic| repeat walk_at "rd1")
def top (i : Nat) : Stmt := PySem.Challenge.pw_roomsthrough_k16_plays_walked_letter_by.main.body.getD i (.Pass ⟨0, 0, 0, 0⟩)
abbrev s_is_whole : Stmt := top 13
abbrev s_is_row : Stmt := top 14
abbrev s_is_bag : Stmt := top 16
abbrev s_need_bag : Stmt := top 17
abbrev s_Room_init : Stmt := inClass (top 25) 0
abbrev s_Room_eq : Stmt := inClass (top 25) 1
abbrev s_need_room : Stmt := top 26
abbrev s__need_lines : Stmt := top 27
abbrev s__is_line : Stmt := top 28
abbrev s__many : Stmt := top 29
abbrev s__is_whole_room : Stmt := top 30
abbrev s__places : Stmt := top 31
abbrev s__neighbours : Stmt := top 32
abbrev s_Level_init : Stmt := inClass (top 35) 0
abbrev s_Level_eq : Stmt := inClass (top 35) 1
abbrev s_need_level : Stmt := top 36
abbrev s_first_state : Stmt := top 41
abbrev s_can_lie : Stmt := top 42
abbrev s_moved : Stmt := top 43
abbrev s_mouth_here : Stmt := top 44
abbrev s_come_back : Stmt := top 45
abbrev s__with_one : Stmt := top 46
abbrev s__entered : Stmt := top 47
abbrev s__is_gate_open : Stmt := top 48
abbrev s__changed_bag : Stmt := top 49
abbrev s__pushed : Stmt := top 50
abbrev s__pulled : Stmt := top 51
abbrev s_Rules_init : Stmt := inClass (top 53) 0
abbrev s_need_rules : Stmt := top 54
abbrev s_Walker_init : Stmt := inClass (top 57) 0
abbrev s_Walker_place : Stmt := inClass (top 57) 2
abbrev s_Walker_walk_on : Stmt := inClass (top 57) 3
abbrev s_Walkerdo : Stmt := inClass (top 57) 4
abbrev s_Walkerstep : Stmt := inClass (top 57) 5
abbrev s_Walkergo_in : Stmt := inClass (top 57) 6
abbrev s_Walkergo_out : Stmt := inClass (top 57) 7
abbrev s_walk : Stmt := top 59
abbrev s_walked : Stmt := top 60
abbrev s_is_play : Stmt := top 61
abbrev s__need_start : Stmt := top 62
abbrev s__law_pool : Stmt := top 64
abbrev s__law_draw : Stmt := top 65
abbrev s__law_pick : Stmt := top 66
abbrev s__law_rules_drawn : Stmt := top 67
abbrev s__law_bag_drawn : Stmt := top 68
abbrev s__law_mark : Stmt := top 69
abbrev s__law_room_of : Stmt := top 70
abbrev s__law_room_drawn : Stmt := top 71
abbrev s__law_small : Stmt := top 72
abbrev s__law_tree : Stmt := top 73
abbrev s__law_level_drawn : Stmt := top 74
abbrev s__law_next : Stmt := top 75
abbrev s__law_sign : Stmt := top 76
abbrev s__law_lies : Stmt := top 77
abbrev s__law_pushed : Stmt := top 78
abbrev s__law_is_shut : Stmt := top 79
abbrev s__law_step : Stmt := top 80
abbrev s__law_begin : Stmt := top 81
abbrev s__law_inside : Stmt := top 82
abbrev s__law_move : Stmt := top 83
abbrev s__law_outcome : Stmt := top 84
abbrev s__law_walked : Stmt := top 85
abbrev s__law_rules : Stmt := top 86
abbrev s__law_level : Stmt := top 87
abbrev s__law_play : Stmt := top 88
abbrev s__law_told : Stmt := top 89
abbrev s__law_right : Stmt := top 90
abbrev s_law : Stmt := top 91
theorem sc_is_whole : FnScope ["thing"] ["thing"] (defScope s_is_whole) := ⟨rfl, rfl, rfl, by decide +kernel, rfl, by decide +kernel, by decide +kernel⟩
theorem sc__law_pool : FnScope ["script", "cells", "great", "small", "cell"] ["script"] (defScope s__law_pool) := ⟨rfl, rfl, rfl, by decide +kernel, rfl, by decide +kernel, by decide +kernel⟩
theorem sc__law_draw : FnScope ["pool", "many", "great", "digit", "seed", "number"] ["pool", "many"] (defScope s__law_draw) := ⟨rfl, rfl, rfl, by decide +kernel, rfl, by decide +kernel, by decide +kernel⟩
theorem sc__law_pick : FnScope ["pool", "items"] ["pool", "items"] (defScope s__law_pick) := ⟨rfl, rfl, rfl, by decide +kernel, rfl, by decide +kernel, by decide +kernel⟩
/-- built-ins that stand -/
structure Blt (mg : Str → Option Value) : Prop where
  n_isinstance : mg "isinstance" = none
  n_int : mg "int" = none
  n_bool : mg "bool" = none
  n_list : mg "list" = none
  n_len : mg "len" = none
  n_range : mg "range" = none
  n_abs : mg "abs" = none
  n_tuple : mg "tuple" = none
  n_str : mg "str" = none
  n_repr : mg "repr" = none
section
variable {P : Program} {w : World} {K : PySem.W.Frag} {mg : Str → Option Value} {base : Heap}
def spWhole (K : PySem.W.Frag) : Sp := fun vs H Q _ => ∃ v t b1 b2, vs = [v] ∧ TyX K H v t ∧ PySem.W.kitOne K t (.type "int") = some b1 ∧ PySem.W.kitOne K t (.type "bool") = some b2 ∧ Q (.bl (b1 && !b2)) H
theorem ok_whole {f : Addr} {fd : FuncData} (F : Fun K "is_whole" "is_whole" s_is_whole f fd) (T : Blt mg) : FnG P w K mg base (CXe P w) 1 f fd ["thing"] (spWhole K) := by
  refine F.okG sc_is_whole (fun vs H Q E h => ?_) (fun cdv A outer s H vs Q E hgd hr h => ?_)
  · obtain ⟨v, t, b1, b2, rfl, _⟩ := h; rfl
  · obtain ⟨v, t, b1, b2, rfl, ty, e1, e2, k⟩ := h
    refine ⟨_, (pss_one (ps_ret (pe_and (pe_callB call_isi (by rfl) T.n_isinstance (by decide +kernel) (pa_cons (pv 0) (pa_cons (pe_bltn (v := .ty "int") (u := .type "int") rfl T.n_int (by decide +kernel) rfl) pa_nil))) (pe_one (pe_not (pe_callB call_isi (by rfl) T.n_isinstance (by decide +kernel) (pa_cons (pv 0) (pa_cons (pe_bltn (v := .ty "bool") (u := .type "bool") rfl T.n_bool (by decide +kernel) rfl) pa_nil)))))))), ?_⟩
    refine ⟨_, rfl, _, _, _, _, _, rfl, .ty _, ty, e1, _, rfl, ?_⟩
    cases b1 with
    | false => exact iteF k
    | true =>
      refine iteT ⟨_, rfl, _, _, _, _, _, rfl, .ty _, ty, e2, _, rfl, ?_⟩
      exact k
/-- a pool: the great cells at g, the small ones at s, and two numbers -/
def PoolAt (H : Hp) (p : Addr) : Prop := ∃ (g s : Addr) (gs ss : List Int) (c n : Int), H p = some (.lst [.ref g, .ref s, .int c, .int n]) ∧ g ≠ p ∧ s ≠ p ∧ H g = some (.lst (gs.map V.int)) ∧ H s = some (.lst (ss.map V.int)) ∧ gs.length ≤ 63 ∧ ss.length ≤ 63
theorem PoolAt.same {H H' : Hp} {p : Addr} (s : Same H H') (h : PoolAt H p) : PoolAt H' p := by
  obtain ⟨g, s', gs, ss, c, n, h1, h2, h3, h4, h5, h6⟩ := h
  exact ⟨g, s', gs, ss, c, n, s _ _ h1, h2, h3, s _ _ h4, s _ _ h5, h6⟩
theorem PoolAt.ne {H : Hp} {p b : Addr} (h : PoolAt H p) (e : H b = none) : b ≠ p := by
  obtain ⟨g, s', gs, ss, c, n, h1, _⟩ := h
  intro z
  rw [← z, e] at h1
  cases h1
theorem PoolAt.isL {H : Hp} {p : Addr} (h : PoolAt H p) : ∃ xs, H p = some (HO.lst xs) := by
  obtain ⟨g, s', gs, ss, c, n, h1, _⟩ := h
  exact ⟨_, h1⟩
theorem PoolAt.notTup {H : Hp} {p t : Addr} {xs : List V} (h : PoolAt H p) (e : H t = some (HO.tup xs)) : t ≠ p := by
  obtain ⟨g, s', gs, ss, c, n, h1, _⟩ := h
  intro z
  rw [← z, e] at h1
  cases h1
/-- a is none of the pool's lists -/
def Apart (H : Hp) (p a : Addr) : Prop := a ≠ p ∧ ∀ g s x y, H p = some (HO.lst [V.ref g, V.ref s, x, y]) → a ≠ g ∧ a ≠ s
/-- the pool is there, and it has taken in nothing that was apart from it -/
def PoolK (H H' : Hp) (p : Addr) : Prop := PoolAt H' p ∧ ∀ a, H a ≠ none → Apart H p a → H' a ≠ none ∧ Apart H' p a
theorem PoolK.refl {H : Hp} {p : Addr} (h : PoolAt H p) : PoolK H H p := ⟨h, fun _ e a => ⟨e, a⟩⟩
theorem PoolK.trans {H H1 H2 : Hp} {p : Addr} (h : PoolK H H1 p) (h2 : PoolK H1 H2 p) : PoolK H H2 p := ⟨h2.1, fun a e q => by
  obtain ⟨x, y⟩ := h.2 a e q
  exact h2.2 a x y⟩
theorem Apart.same {H H' : Hp} {p a : Addr} (hp : PoolAt H p) (s : Same H H') (h : Apart H p a) : Apart H' p a := by
  obtain ⟨g, s', gs, ss, c, n, h1, _⟩ := hp
  refine ⟨h.1, fun g2 s2 x y e => ?_⟩
  rw [s _ _ h1] at e
  cases e
  exact h.2 _ _ _ _ h1
theorem PoolK.same {H H1 H2 : Hp} {p : Addr} (h : PoolK H H1 p) (s : Same H1 H2) : PoolK H H2 p := ⟨h.1.same s, fun a e q => by
  obtain ⟨x, y⟩ := h.2 a e q
  refine ⟨fun z => ?_, y.same h.1 s⟩
  cases e1 : H1 a with
  | none => exact x e1
  | some o => rw [s _ _ e1] at z; cases z⟩
theorem PoolAt.k {H H' : Hp} {p : Addr} (h : PoolAt H p) (s : Same H H') : PoolK H H' p := (PoolK.refl h).same s
theorem PoolAt.apart {H : Hp} {p a : Addr} (h : PoolAt H p) (e : H a = none) : Apart H p a := by
  obtain ⟨g, s', gs, ss, c, n, h1, h2, h3, h4, h5, h6⟩ := h
  refine ⟨fun z => (by rw [z, h1] at e; cases e), fun g2 s2 x y e2 => ?_⟩
  rw [h1] at e2
  cases e2
  exact ⟨fun z => (by rw [z, h4] at e; cases e), fun z => (by rw [z, h5] at e; cases e)⟩
theorem PoolAt.mut {H : Hp} {p a : Addr} {o : HO} (h : PoolAt H p) (q : Apart H p a) : PoolAt (upd H a o) p := by
  obtain ⟨g, s', gs, ss, c, n, h1, h2, h3, h4, h5, h6⟩ := h
  obtain ⟨q1, q2⟩ := q
  obtain ⟨n2, n3⟩ := q2 g s' _ _ h1
  exact ⟨g, s', gs, ss, c, n, (upd_ne q1.symm).trans h1, h2, h3, (upd_ne n2.symm).trans h4, (upd_ne n3.symm).trans h5, h6⟩
theorem Apart.upd {H : Hp} {p a b : Addr} {o : HO} (h : Apart H p a) (n : b ≠ p) : Apart (upd H b o) p a := ⟨h.1, fun g s x y e => h.2 g s x y (by rw [upd_ne n.symm] at e; exact e)⟩
theorem PoolK.mut {H H1 : Hp} {p a : Addr} {o : HO} (h : PoolK H H1 p) (q : Apart H1 p a) : PoolK H (upd H1 a o) p := ⟨h.1.mut q, fun b e z => by
  obtain ⟨x, y⟩ := h.2 b e z
  refine ⟨fun w => ?_, y.upd q.1⟩
  by_cases eb : b = a
  · rw [eb, upd_same] at w; cases w
  · rw [upd_ne eb] at w; exact x w⟩
theorem PoolK.own {H H1 : Hp} {p g s : Addr} {x y x' y' : V} {o : HO} (h : PoolK H H1 p) (e : H1 p = some (HO.lst [V.ref g, V.ref s, x, y])) (e2 : upd H1 p o p = some (HO.lst [V.ref g, V.ref s, x', y'])) (hp : PoolAt (upd H1 p o) p) : PoolK H (upd H1 p o) p := ⟨hp, fun a d q => by
  obtain ⟨z1, z2⟩ := h.2 a d q
  refine ⟨by rw [upd_ne z2.1]; exact z1, z2.1, fun g2 s2 u v e3 => ?_⟩
  rw [e2] at e3
  cases e3
  exact z2.2 _ _ _ _ e⟩
theorem PoolK.taken {H H' : Hp} {p g s q : Addr} {x y x' y' : V} {gs ss : List V} (hp : H p = some (HO.lst [V.ref g, V.ref s, x, y])) (hgp : g ≠ p) (hsp : s ≠ p) (hg : H g = some (HO.lst gs)) (hs : H s = some (HO.lst ss)) (hq : H q = none)
    (h : PoolAt H' p) (k : ∀ a, H a ≠ none → H' a ≠ none) (e : H' p = some (HO.lst [V.ref q, V.ref s, x', y'])) : PoolK H H' p := ⟨h, fun a d z => ⟨k a d, z.1, fun g2 s2 u v e2 => by
  rw [e] at e2
  cases e2
  exact ⟨fun w => d (by rw [w]; exact hq), (z.2 _ _ _ _ hp).2⟩⟩⟩
theorem yes_of {σ : St} {H : Hp} {Q : Bool → Hp → Prop} (h : Q true H) : tYes σ H Q := h
theorem cutV_map {α : Type} (f : α → V) (xs : List α) (lo hi : Option Int) : ∃ ys : List α, cutV (xs.map f) lo hi = ys.map f ∧ ys.length ≤ xs.length ∧ ∀ y ∈ ys, y ∈ xs := by
  unfold cutV
  refine ⟨(xs.drop (HT.sIx (xs.map f).length 0 lo)).take (HT.sIx (xs.map f).length (xs.map f).length hi - HT.sIx (xs.map f).length 0 lo), by rw [← List.map_drop, ← List.map_take], ?_, fun y hy => List.mem_of_mem_drop (List.mem_of_mem_take hy)⟩
  rw [List.length_take, List.length_drop]
  omega
def spPool (K : PySem.W.Frag) : Sp := fun vs H Q _ => ∃ (a : Addr) (ns : List Int), vs = [.ref a] ∧ SqL K H a (ns.map V.int) ∧ ns.length ≤ 63 ∧ ∀ p H', H p = none → Same H H' → PoolAt H' p → Q (.ref p) H'
theorem ok_pool {f : Addr} {fd : FuncData} (F : Fun K "_law_pool" "_law_pool" s__law_pool f fd) (T : Blt mg) : FnG P w K mg base (CXe P w) 1 f fd ["script"] (spPool K) := by
  refine F.okG sc__law_pool (fun vs H Q E h => ?_) (fun cdv A outer s H vs Q E hgd hr h => ?_)
  · obtain ⟨a, ns, rfl, _⟩ := h; rfl
  · obtain ⟨a, ns, rfl, hs, hl, k⟩ := h
    refine ⟨_, (pss_cons (ps_setLc (i := 1) (own := [("cell", 4)]) (g := gName 4) (tt := tYes) rfl sc__law_pool.nd rfl rfl (sw_true rfl rfl rfl (by decide +kernel)) (pi_list (pe_slice sl_list (pv 0) po_none (po_some pe_int))) (blkOk_by (own := [("cell", 4)]) (N := ["script", "cells", "great", "small", "cell"]) (sc := defScope s__law_pool) (by decide +kernel)) (fun _ _ _ _ _ => pg_name (i := 4) sc__law_pool.nd rfl (Or.inl rfl)) (fun _ _ _ _ _ => pts_nil) (fun _ _ _ _ _ => (pe_callTy call_int1 (by rfl) T.n_int (by decide +kernel) (pa_cons (pv 4) pa_nil))))
      (pss_cons (ps_setLc (i := 2) (own := [("cell", 4)]) (g := gName 4) rfl sc__law_pool.nd rfl rfl (sw_true rfl rfl rfl (by decide +kernel)) (pi_list (pv 1)) (blkOk_by (own := [("cell", 4)]) (N := ["script", "cells", "great", "small", "cell"]) (sc := defScope s__law_pool) (by decide +kernel)) (fun _ _ _ _ _ => pg_name (i := 4) sc__law_pool.nd rfl (Or.inl rfl)) (fun _ _ _ _ _ => pts_one (pt_cmpR op_ge (pe_callB call_abs (by rfl) T.n_abs (by decide +kernel) (pa_cons (pv 4) pa_nil)) (pe_op op_pow pe_int pe_int) (nomark _))) (fun _ _ _ _ _ => (pe_callB call_abs (by rfl) T.n_abs (by decide +kernel) (pa_cons (pv 4) pa_nil))))
      (pss_cons (ps_setLc (i := 3) (own := [("cell", 4)]) (g := gName 4) rfl sc__law_pool.nd rfl rfl (sw_true rfl rfl rfl (by decide +kernel)) (pi_list (pv 1)) (blkOk_by (own := [("cell", 4)]) (N := ["script", "cells", "great", "small", "cell"]) (sc := defScope s__law_pool) (by decide +kernel)) (fun _ _ _ _ _ => pg_name (i := 4) sc__law_pool.nd rfl (Or.inl rfl)) (fun _ _ _ _ _ => pts_one (pt_cmpR op_lt (pe_callB call_abs (by rfl) T.n_abs (by decide +kernel) (pa_cons (pv 4) pa_nil)) (pe_op op_pow pe_int pe_int) (nomark _))) (fun _ _ _ _ _ => (pe_op op_mod (pe_callTy call_int1 (by rfl) T.n_int (by decide +kernel) (pa_cons (pv 4) pa_nil)) pe_int)))
      (pss_one (ps_ret (pe_lstA (pa_cons (pv 2) (pa_cons (pv 3) (pa_cons pe_int (pa_cons pe_int pa_nil)))))))))), ?_⟩
    walk_at "rd"
    refine ⟨a, ns.map V.int, rfl, hs, fun q hq => ?_⟩
    obtain ⟨ns1, e1, hl1, _⟩ := cutV_map V.int ns none (some 63)
    rw [e1]
    have s1 : Same H (upd H q (.lst (ns1.map V.int))) := same_new hq
    have eq1 : upd H q (.lst (ns1.map V.int)) q = some (.lst (ns1.map V.int)) := upd_same
    generalize upd H q (.lst (ns1.map V.int)) = H1 at s1 eq1 ⊢
    refine ⟨q, rfl, ⟨_, SqL.of eq1⟩, ?_⟩
    refine fun D hD => lc_it (walk_list (xs := ns1.map V.int)) (fun i H' => ∃ acc : List Int, H' D = some (.lst (acc.map V.int)) ∧ acc.length ≤ i ∧ Off (fun b => b = D) H1 H') ⟨[], upd_same, Nat.le_refl _, Off.new hD⟩ (fun i H' _ h => ?_) ?_ ?_
    · obtain ⟨acc, h1, h2, h3⟩ := h
      exact SqL.of (h3 _ _ (ne_of_none eq1 hD) eq1)
    · rintro i x H2 H3 hi ⟨acc, h1, h2, h3⟩ ⟨rfl, hx⟩
      rw [List.length_map] at hi
      have hx' : x = .int ns1[i] := by
        rw [List.getElem?_map, List.getElem?_eq_getElem hi] at hx
        exact (Option.some.inj hx).symm
      subst hx'
      refine And.intro rfl (yes_of (iteT ?_))
      refine ⟨_, rfl, .inl ⟨_, rfl, ?_⟩⟩
      exact ⟨_, h1, by rw [List.length_map]; exact small1000 (by omega), acc ++ [ns1[i]], by rw [upd_same, List.map_append]; rfl, by simp; omega, h3.trans (Off.mut rfl)⟩
    · rintro H2 ⟨acc, h1, h2, h3⟩
      rw [List.length_map] at h2
      have hDm : H D = none := s1.free hD
      have s2 : Same H H2 := fun b o e => h3 b o (fun y => by rw [y, hDm] at e; cases e) (s1 _ _ e)
      refine ⟨_, rfl, _, rfl, ⟨_, SqL.of h1⟩, ?_⟩
      refine fun D2 hD2 => lc_it (walk_list (xs := acc.map V.int)) (fun i H' => ∃ acc2 : List Int, H' D2 = some (.lst (acc2.map V.int)) ∧ acc2.length ≤ i ∧ Off (fun b => b = D2) H2 H') ⟨[], upd_same, Nat.le_refl _, Off.new hD2⟩ (fun i H' _ h => ?_) ?_ ?_
      · obtain ⟨acc2, g1, g2, g3⟩ := h
        exact SqL.of (g3 _ _ (ne_of_none h1 hD2) h1)
      · rintro i x H4 H5 hi ⟨acc2, g1, g2, g3⟩ ⟨rfl, hx⟩
        rw [List.length_map] at hi
        have hx' : x = .int acc[i] := by
          rw [List.getElem?_map, List.getElem?_eq_getElem hi] at hx
          exact (Option.some.inj hx).symm
        subst hx'
        refine And.intro rfl ?_
        walk_at "rd"
        refine ite2 (fun q => ?_) (fun q => ?_)
        · refine ⟨_, rfl, _, rfl, ?_⟩
          exact ⟨_, g1, by rw [List.length_map]; exact small1000 (by omega), acc2 ++ [if acc[i] < 0 then -acc[i] else acc[i]], by rw [upd_same, List.map_append]; rfl, by simp; omega, g3.trans (Off.mut rfl)⟩
        · exact ⟨acc2, g1, by omega, g3⟩
      · rintro H3 ⟨acc2, g1, g2, g3⟩
        have hD2m : H D2 = none := s2.free hD2
        have s3 : Same H H3 := fun b o e => g3 b o (fun y => by rw [y, hD2m] at e; cases e) (s2 _ _ e)
        have h13 : H3 D = some (.lst (acc.map V.int)) := g3 _ _ (ne_of_none h1 hD2) h1
        refine ⟨_, rfl, _, rfl, ⟨_, SqL.of h13⟩, ?_⟩
        refine fun D3 hD3 => lc_it (walk_list (xs := acc.map V.int)) (fun i H' => ∃ acc3 : List Int, H' D3 = some (.lst (acc3.map V.int)) ∧ acc3.length ≤ i ∧ Off (fun b => b = D3) H3 H') ⟨[], upd_same, Nat.le_refl _, Off.new hD3⟩ (fun i H' _ h => ?_) ?_ ?_
        · obtain ⟨acc3, f1, f2, f3⟩ := h
          exact SqL.of (f3 _ _ (ne_of_none h13 hD3) h13)
        · rintro i x H4 H5 hi ⟨acc3, f1, f2, f3⟩ ⟨rfl, hx⟩
          rw [List.length_map] at hi
          have hx' : x = .int acc[i] := by
            rw [List.getElem?_map, List.getElem?_eq_getElem hi] at hx
            exact (Option.some.inj hx).symm
          subst hx'
          refine And.intro rfl ?_
          walk_at "rd"
          refine ite2 (fun q => ?_) (fun q => ?_)
          · refine ⟨_, rfl, .inl ⟨_, rfl, ?_⟩⟩
            refine ⟨_, _, rfl, rfl, by show (0 : Int) < _; decide, ?_⟩
            exact ⟨_, f1, by rw [List.length_map]; exact small1000 (by omega), acc3 ++ [acc[i] % 1000003], by rw [upd_same, List.map_append]; rfl, by simp; omega, f3.trans (Off.mut rfl)⟩
          · exact ⟨acc3, f1, by omega, f3⟩
        · rintro H4 ⟨acc3, f1, f2, f3⟩
          have hD3m : H D3 = none := s3.free hD3
          have s4 : Same H H4 := fun b o e => f3 b o (fun y => by rw [y, hD3m] at e; cases e) (s3 _ _ e)
          have g14 : H4 D2 = some (.lst (acc2.map V.int)) := f3 _ _ (ne_of_none g1 hD3) g1
          rw [List.length_map] at g2 f2
          walk_at "rd"
          refine And.intro (Nat.le_of_ble_eq_true rfl) (fun p H5 n5 => ?_)
          exact k p H5 (s4.free n5.free) (s4.trans n5.same) ⟨D2, D3, acc2, acc3, 0, 0, n5.at_, ne_of_none g14 n5.free, ne_of_none f1 n5.free, n5.same _ _ g14, n5.same _ _ f1, by omega, by omega⟩
def spDraw (K : PySem.W.Frag) : Sp := fun vs H Q _ => ∃ (p : Addr) (m : Int), vs = [.ref p, .int m] ∧ PoolAt H p ∧ 0 < m ∧ m < 1000000 ∧
  ∀ r H', 0 ≤ r → r < m → Off (fun b => b = p) H H' → PoolK H H' p → Q (.int r) H'
theorem ok_draw {f : Addr} {fd : FuncData} (F : Fun K "_law_draw" "_law_draw" s__law_draw f fd) (T : Blt mg) : FnG P w K mg base (CXe P w) 1 f fd ["pool", "many"] (spDraw K) := by
  refine F.okG sc__law_draw (fun vs H Q E h => ?_) (fun cdv A outer s H vs Q E hgd hr h => ?_)
  · obtain ⟨p, m, rfl, _⟩ := h; rfl
  · obtain ⟨p, m, rfl, ⟨g, s', gs, ss, c, n, hp, hgp, hsp, hg, hs, lg, ls⟩, hm0, hm1, k⟩ := h
    refine ⟨_, (C8.pss_cut (ps_if (PW.pt (pw_and (pt_cmpR op_eq (pe_ix ix_list (pv 0) pe_int (fun _ _ => rfl)) pe_int (nomark _)) (pw_and1 (pt_cmpR op_gt (pe_callB call_len_seq (by rfl) T.n_len (by decide +kernel) (pa_cons (pe_ix ix_list (pv 0) pe_int (fun _ _ => rfl)) pa_nil)) pe_int (nomark _))))) (pss_cons (ps_set (i := 2) sc__law_draw.nd rfl (Or.inl rfl) (pe_ix ix_list (pv 0) pe_int (fun _ _ => rfl)))
      (pss_cons (ps_asg (pe_ix ix_list (pv 2) pe_int (fun _ _ => rfl)) (pg_sub (pv 0) pe_int set_list))
      (pss_one (ps_asg (pe_slice sl_list (pv 2) (po_some pe_int) po_none) (pg_sub (pv 0) pe_int set_list))))) pss_nil)
      (pss_cons (ps_if (pt_cmpR op_gt (pe_ix ix_list (pv 0) pe_int (fun _ _ => rfl)) pe_int (nomark _)) (pss_cons (ps_set (i := 3) sc__law_draw.nd rfl (Or.inl rfl) (pe_op op_mod (pe_callTy call_int1 (by rfl) T.n_int (by decide +kernel) (pa_cons (pe_ix ix_list (pv 0) pe_int (fun _ _ => rfl)) pa_nil)) (pv 1)))
      (pss_cons (ps_asg (pe_op op_fdivN (pe_ix ix_list (pv 0) pe_int (fun _ _ => rfl)) (pv 1)) (pg_sub (pv 0) pe_int set_list))
      (pss_one (ps_ret (pv 3))))) pss_nil)
      (pss_cons (ps_asg (pe_op op_add (pe_ix ix_list (pv 0) pe_int (fun _ _ => rfl)) pe_int) (pg_sub (pv 0) pe_int set_list))
      (pss_cons (ps_set (i := 4) sc__law_draw.nd rfl (Or.inl rfl) pe_int)
      (C8.pss_cut (ps_if (pt_cmpR op_gt (pe_callB call_len_seq (by rfl) T.n_len (by decide +kernel) (pa_cons (pe_ix ix_list (pv 0) pe_int (fun _ _ => rfl)) pa_nil)) pe_int (nomark _)) (pss_one (ps_set (i := 4) sc__law_draw.nd rfl (Or.inl rfl) (pe_ix ix_list (pe_ix ix_list (pv 0) pe_int (fun _ _ => rfl)) (pe_op op_mod (pe_callTy call_int1 (by rfl) T.n_int (by decide +kernel) (pa_cons (pe_ix ix_list (pv 0) pe_int (fun _ _ => rfl)) pa_nil)) (pe_callB call_len_seq (by rfl) T.n_len (by decide +kernel) (pa_cons (pe_ix ix_list (pv 0) pe_int (fun _ _ => rfl)) pa_nil))) (fun _ _ => rfl)))) pss_nil)
      (pss_cons (ps_set (i := 5) sc__law_draw.nd rfl (Or.inl rfl) (pe_op op_mod (pe_callTy call_int1 (by rfl) T.n_int (by decide +kernel) (pa_cons (pe_op op_mul (pe_op op_add (pe_op op_add (pv 4) (pe_op op_mul pe_int (pe_ix ix_list (pv 0) pe_int (fun _ _ => rfl)))) pe_int) pe_int) pa_nil)) pe_int))
      (pss_cons (ps_set (i := 5) sc__law_draw.nd rfl (Or.inl rfl) (pe_op op_mod (pe_callTy call_int1 (by rfl) T.n_int (by decide +kernel) (pa_cons (pe_op op_mul (pv 5) (pe_op op_add (pe_op op_fdivN (pv 5) pe_int) pe_int)) pa_nil)) pe_int))
      (pss_cons (ps_set (i := 5) sc__law_draw.nd rfl (Or.inl rfl) (pe_op op_mod (pe_callTy call_int1 (by rfl) T.n_int (by decide +kernel) (pa_cons (pe_op op_mul (pv 5) (pe_op op_add (pe_op op_fdivN (pv 5) pe_int) pe_int)) pa_nil)) pe_int))
      (pss_one (ps_ret (pe_op op_mod (pe_callTy call_int1 (by rfl) T.n_int (by decide +kernel) (pa_cons (pe_op op_fdivN (pv 5) pe_int) pa_nil)) (pv 1)))))))))))), ?_⟩
    refine ⟨fun σ' H' => ∃ (x : Option V), σ' = [some (.ref p), some (.int m), x, none, none, none] ∧ Off (fun b => b = p) H H' ∧ PoolK H H' p, ?_, ?_⟩
    · walk_at "rd"
      refine ite2 (fun h => ?_) (fun h => ?_)
      · walk_at "rd"
        refine ite2 (fun h2 => ?_) (fun h2 => ?_)
        · have hl : 0 < gs.length := by simpa using h2
          obtain ⟨g0, gr, rfl⟩ : ∃ g0 gr, gs = g0 :: gr := by
            cases gs with
            | nil => cases hl
            | cons a b => exact ⟨a, b, rfl⟩
          walk_at "rd"
          refine ⟨g, _, 0, .int g0, rfl, rfl, SqL.of hg, atI_nat (xs := (g0 :: gr).map V.int) (j := 0) (v := V.int g0) rfl, ?_⟩
          walk_at "rd"
          refine ⟨g, _, rfl, SqL.of ((upd_ne hgp).trans hg), fun q hq => ?_⟩
          have hpq : p ≠ q := ne_of_none upd_same hq
          have hq0 : H q = none := by rw [← hq, upd_ne hpq.symm]
          walk_at "rd"
          obtain ⟨gs2, e2, hl2, _⟩ := cutV_map V.int (g0 :: gr) (some 1) none
          rw [e2]
          refine ⟨fun b o hb e => ?_, PoolK.taken hp hgp hsp hg hs hq0 ⟨q, s', gs2, ss, g0, n, upd_same, hpq.symm, hsp, ?_, ?_, by omega, ls⟩ (fun b hb z => ?_) upd_same⟩
          · rw [upd_ne hb, upd_ne (ne_of_none e hq0), upd_ne hb]; exact e
          · rw [upd_ne hpq.symm]; exact upd_same
          · rw [upd_ne hsp, upd_ne (ne_of_none hs hq0), upd_ne hsp]; exact hs
          · by_cases bp : b = p
            · rw [bp, upd_same] at z; cases z
            · rw [upd_ne bp, upd_ne (fun w => hb (by rw [w]; exact hq0)), upd_ne bp] at z; exact hb z
        · exact ⟨none, rfl, Off.refl _, .refl ⟨g, s', gs, ss, c, n, hp, hgp, hsp, hg, hs, lg, ls⟩⟩
      · exact ⟨none, rfl, Off.refl _, .refl ⟨g, s', gs, ss, c, n, hp, hgp, hsp, hg, hs, lg, ls⟩⟩
    · rintro σ' H1 ⟨x, rfl, off1, ⟨⟨g, s', gs, ss, c, n, hp, hgp, hsp, hg, hs, lg, ls⟩, kp⟩⟩
      walk_at "rd"
      refine ite2 (fun h => ?_) (fun h => ?_)
      · walk_at "rd"
        refine k _ _ (Int.emod_nonneg _ (by omega)) (Int.emod_lt_of_pos _ hm0) (off1.trans (Off.mut rfl)) (PoolK.own ⟨⟨g, s', gs, ss, c, n, hp, hgp, hsp, hg, hs, lg, ls⟩, kp⟩ hp upd_same ⟨g, s', gs, ss, _, n, upd_same, hgp, hsp, (upd_ne hgp).trans hg, (upd_ne hsp).trans hs, lg, ls⟩)
      · walk_at "rd"
        have hu : ∀ o, upd H1 p o p = some o := fun o => upd_same
        refine ⟨fun σ' H' => ∃ seed : Int, σ' = [some (.ref p), some (.int m), x, none, some (.int seed), none] ∧ H' = upd H1 p (.lst [.ref g, .ref s', .int c, .int (n + 1)]), ?_, ?_⟩
        · walk_at "rd"
          refine ite2 (fun h2 => ?_) (fun h2 => ?_)
          · have hl : 0 < ss.length := by simpa using h2
            walk_at "rd"
            have hl2 : (0 : Int) < (ss.map V.int).length := by rw [List.length_map]; omega
            refine And.intro hl2 ?_
            have r0 : 0 ≤ (n + 1) % ((ss.map V.int).length : Int) := Int.emod_nonneg _ (by omega)
            have r1 : (n + 1) % ((ss.map V.int).length : Int) < (ss.map V.int).length := Int.emod_lt_of_pos _ hl2
            obtain ⟨jn, hj⟩ := Int.eq_ofNat_of_zero_le r0
            have hjl : jn < ss.length := by rw [List.length_map] at r1 hj; omega
            refine ⟨s', ss.map V.int, (jn : Int), .int ss[jn], rfl, by show V.int ((n + 1) % _) = _; rw [hj], SqL.of ((upd_ne hsp).trans hs), atI_nat (by rw [List.getElem?_map, List.getElem?_eq_getElem hjl]; rfl), ?_⟩
            exact ⟨ss[jn], rfl, rfl⟩
          · exact ⟨0, rfl, rfl⟩
        · rintro σ' H2 ⟨seed, rfl, rfl⟩
          walk_at "rd"
          refine k _ _ (Int.emod_nonneg _ (by omega)) (Int.emod_lt_of_pos _ hm0) (off1.trans (Off.mut rfl)) (PoolK.own ⟨⟨g, s', gs, ss, c, n, hp, hgp, hsp, hg, hs, lg, ls⟩, kp⟩ hp upd_same ⟨g, s', gs, ss, _, _, upd_same, hgp, hsp, (upd_ne hgp).trans hg, (upd_ne hsp).trans hs, lg, ls⟩)
end
end K16
end
section
set_option Elab.async false
set_option linter.all false
set_option maxRecDepth 100000
set_option maxHeartbeats 2000000
namespace K16
open PySem L2
local macro_rules | `(tactic| walk_at "hp") => `(tactic| first | assumption | exact upd_same | (refine (upd_ne (by first | assumption | (apply Ne.symm; assumption))).trans ?_; walk_at "hp"))
local macro_rules | `(tactic| walk_at "rd1") => `(tactic| first
  | (refine ⟨_, rfl, ?_⟩)
  | (refine ⟨_, _, rfl, rfl, ?_⟩)
  | (refine ⟨(rfl : scal _ _ = true), ?_⟩)
  | (refine And.intro (by show (0 : Int) < _; decide) ?_)
  | (refine And.intro (And.intro (by decide) (by decide)) ?_)
  | (refine And.intro (by assumption) ?_)
  | (refine Or.inl ⟨_, rfl, ?_⟩))
local macro_rules | `(tactic| walk_at "rd") => `(tactic| repeat walk_at "rd1")
theorem sc_is_row : FnScope ["thing"] ["thing"] (defScope s_is_row) := ⟨rfl, rfl, rfl, by decide +kernel, rfl, by decide +kernel, by decide +kernel⟩
theorem sc__is_line : FnScope ["thing", "mark"] ["thing"] (defScope s__is_line) := ⟨rfl, rfl, rfl, by decide +kernel, rfl, by decide +kernel, by decide +kernel⟩
theorem sc__need_lines : FnScope ["rows", "at", "row"] ["rows"] (defScope s__need_lines) := ⟨rfl, rfl, rfl, by decide +kernel, rfl, by decide +kernel, by decide +kernel⟩
theorem sc__many : FnScope ["cells", "marks", "mark"] ["cells", "marks"] (defScope s__many) := ⟨rfl, rfl, rfl, by decide +kernel, rfl, by decide +kernel, by decide +kernel⟩
theorem sc__is_whole_room : FnScope ["cells", "mark"] ["cells"] (defScope s__is_whole_room) := ⟨rfl, rfl, rfl, by decide +kernel, rfl, by decide +kernel, by decide +kernel⟩
theorem sc__places : FnScope ["cells", "mark", "cell"] ["cells", "mark"] (defScope s__places) := ⟨rfl, rfl, rfl, by decide +kernel, rfl, by decide +kernel, by decide +kernel⟩
theorem sc__neighbours : FnScope ["rows", "down", "across", "width", "found", "cell", "line", "place", "is_there"] ["rows", "down", "across"] (defScope s__neighbours) := ⟨rfl, rfl, rfl, by decide +kernel, rfl, by decide +kernel, by decide +kernel⟩
theorem sc_Room_init : FnScope ["self", "rows", "cells"] ["self", "rows"] (defScope s_Room_init) := ⟨rfl, rfl, rfl, by decide +kernel, rfl, by decide +kernel, by decide +kernel⟩
/-- built-ins and constants that stand -/
structure Rb (mg : Str → Option Value) : Prop extends Blt mg where
  n_max : mg "max" = none
  n_sum : mg "sum" = none
  n_enumerate : mg "enumerate" = none
  k_MARKS : ∃ t, mg "MARKS" = some (.str "#.^v<>abABoxpg*@12" t)
  k_MOST_LINES : ∃ t, mg "MOST_LINES" = some (.int 5 t)
  k_MOST_ACROSS : ∃ t, mg "MOST_ACROSS" = some (.int 6 t)
  k_MOST_CELLS : ∃ t, mg "MOST_CELLS" = some (.int 24 t)
  k_MOST_CRATES : ∃ t, mg "MOST_CRATES" = some (.int 3 t)
  k_MOST_KEYS_AND_DOORS : ∃ t, mg "MOST_KEYS_AND_DOORS" = some (.int 4 t)
section
variable {P : Program} {w : World} {K : PySem.W.Frag} {mg : Str → Option Value} {base : Heap}
def marksS : Str := "#.^v<>abABoxpg*@12"
/-- a row of a room -/
def lineS (s : Str) : Bool := decide (1 ≤ s.length) && (decide (s.length ≤ 6) && s.cps.toList.all fun c => decide (c ∈ marksS.cps.toList))
def spIsRow (K : PySem.W.Frag) : Sp := fun vs H Q _ => ∃ (v : V) (t : Value) (b : Bool), vs = [v] ∧ TyX K H v t ∧ (∀ H', Same H H' → TyX K H' v t) ∧ PySem.W.kitAny K t [.type "list", .type "tuple"] = some b ∧ ∀ H', Same H H' → Q (.bl b) H'
theorem ok_is_row {f : Addr} {fd : FuncData} (F : Fun K "is_row" "is_row" s_is_row f fd) (T : Rb mg) : FnG P w K mg base (CXe P w) 1 f fd ["thing"] (spIsRow K) := by
  refine F.okG sc_is_row (fun vs H Q E h => ?_) (fun cdv A outer s H vs Q E hgd hr h => ?_)
  · obtain ⟨v, t, b, rfl, _⟩ := h; rfl
  · obtain ⟨v, t, b, rfl, ty, tyk, e, k⟩ := h
    refine ⟨_, (pss_one (ps_ret (pe_callB call_isiT (by rfl) T.n_isinstance (by decide +kernel) (pa_cons (pv 0) (pa_cons (pe_tupA (pa_cons (pe_bltn (v := .ty "list") (u := .type "list") rfl T.n_list (by decide +kernel) rfl) (pa_cons (pe_bltn (v := .ty "tuple") (u := .type "tuple") rfl T.n_tuple (by decide +kernel) rfl) pa_nil))) pa_nil))))), ?_⟩
    walk_at "rd"
    refine And.intro (Nat.le_of_ble_eq_true rfl) (fun p H1 n1 => ?_)
    exact ⟨v, p, _, t, _, b, rfl, n1.at_, .cons (.ty _) (.cons (.ty _) .nil), tyk _ n1.same, e, k _ n1.same⟩
def spIsLine (K : PySem.W.Frag) : Sp := fun vs H Q _ => ∃ (v : V) (t : Value) (b : Bool), vs = [v] ∧ TyX K H v t ∧ PySem.W.kitOne K t (.type "str") = some b ∧ (b = false → Q (.bl false) H) ∧ (b = true → ∃ s, v = .str s ∧ s.length ≤ sizeLine ∧ Q (.bl (lineS s)) H)
theorem ok_is_line {f : Addr} {fd : FuncData} (F : Fun K "_is_line" "_is_line" s__is_line f fd) (T : Rb mg) : FnG P w K mg base (CXe P w) 1 f fd ["thing"] (spIsLine K) := by
  refine F.okG sc__is_line (fun vs H Q E h => ?_) (fun cdv A outer s H vs Q E hgd hr h => ?_)
  · obtain ⟨v, t, b, rfl, _⟩ := h; rfl
  · obtain ⟨v, t, b, rfl, ty, e, k0, k1⟩ := h
    refine ⟨_, (pss_cons (ps_if (PW.pt (pw_or (pt_not (pt_val (pe_callB call_isi (by rfl) T.n_isinstance (by decide +kernel) (pa_cons (pv 0) (pa_cons (pe_bltn (v := .ty "str") (u := .type "str") rfl T.n_str (by decide +kernel) rfl) pa_nil))))) (pw_or1 (pt_not (pt_chain op_le op_le pe_int (pe_callB call_len_str (by rfl) T.n_len (by decide +kernel) (pa_cons (pv 0) pa_nil)) (pe_glob (v := .int 6) rfl (Exists.choose_spec T.k_MOST_ACROSS) ⟨_, rfl⟩)))))) (pss_one (ps_ret pe_bl)) pss_nil)
      (pss_cons (ps_for (passes_of rfl) rfl (pi_str (pv 0)) (pg_name (i := 1) sc__is_line.nd rfl (Or.inl rfl))
      (pss_one (ps_if (pt_cmpR op_notIn_sign (pv 1) (pe_glob (v := .str "#.^v<>abABoxpg*@12") rfl (Exists.choose_spec T.k_MARKS) ⟨_, rfl⟩) (by rfl)) (pss_one (ps_ret pe_bl)) pss_nil)))
      (pss_one (ps_ret pe_bl)))), ?_⟩
    refine ⟨_, rfl, _, _, _, _, _, rfl, .ty _, ty, e, _, rfl, ?_⟩
    cases b with
    | false => exact iteT (k0 rfl)
    | true =>
      obtain ⟨s, rfl, hs, k⟩ := k1 rfl
      refine iteF ?_
      walk_at "rd"
      refine ite2 (fun h1 => ?_) (fun h1 => ?_)
      · refine ⟨_, _, rfl, rfl, ?_⟩
        refine ⟨_, rfl, ?_⟩
        have l1 : 1 ≤ s.length := by have : (1 : Int) ≤ (s.length : Int) := by simpa using h1
                                     omega
        refine ite2 (fun h2 => ?_) (fun h2 => ?_)
        · have e : lineS s = false := by
            have : ¬ s.length ≤ 6 := by
              have : ¬ (s.length : Int) ≤ 6 := by simpa using h2
              omega
            simp [lineS, this]
          rw [← e]; exact k
        · have l2 : s.length ≤ 6 := by
            have : (s.length : Int) ≤ 6 := by simpa using h2
            omega
          refine ⟨_, rfl, s, rfl, for_it walk_str (fun i σ H' => H' = H ∧ (∃ o, σ = [some (.str s), o]) ∧ (s.cps.toList.take i).all (fun c => decide (c ∈ marksS.cps.toList)) = true) ⟨rfl, ⟨none, rfl⟩, by simp⟩ (fun _ _ _ _ _ => trivial) ?_ ?_⟩
          · rintro i x σ H1 H' hi ⟨rfl, ⟨o, rfl⟩, ha⟩ ⟨rfl, c, hc, rfl⟩
            walk_at "rd"
            have ht : s.cps.toList.take (i + 1) = s.cps.toList.take i ++ [c] := by
              have : s.cps.toList[i]? = some c := by simpa using hc
              rw [List.take_add_one, this]; rfl
            refine ite2 (fun h3 => ?_) (fun h3 => ?_)
            · have hm : ¬ c ∈ marksS.cps.toList := by simpa [marksS] using h3
              have e : lineS s = false := by
                have : s.cps.toList.all (fun c => decide (c ∈ marksS.cps.toList)) = false := by
                  rw [List.all_eq_false]
                  refine ⟨c, ?_, by simpa using hm⟩
                  exact List.mem_of_getElem? (by simpa using hc)
                unfold lineS
                rw [this, Bool.and_false, Bool.and_false]
              have := k
              rw [e] at this
              exact this
            · have hm : c ∈ marksS.cps.toList := by simpa [marksS] using h3
              exact ⟨rfl, ⟨_, rfl⟩, by rw [ht, List.all_append, ha]; simpa using hm⟩
          · rintro σ H' ⟨rfl, ⟨o, rfl⟩, ha⟩
            have e : lineS s = true := by
              have z : s.cps.toList.all (fun c => decide (c ∈ marksS.cps.toList)) = true := by
                have : s.cps.toList.take s.cps.size = s.cps.toList := List.take_of_length_le (by simp)
                rwa [this] at ha
              have a1 : decide (1 ≤ s.length) = true := by simpa using l1
              have a2 : decide (s.length ≤ 6) = true := by simpa using l2
              unfold lineS
              rw [a1, a2, z]; rfl
            have := k
            rw [e] at this
            exact this
      · have e : lineS s = false := by
          have : ¬ 1 ≤ s.length := by
            have : ¬ (1 : Int) ≤ (s.length : Int) := by simpa using h1
            omega
          simp [lineS, this]
        have := k
        rw [e] at this
        exact ⟨_, rfl, iteT this⟩
/-- how many of these signs there are -/
def manyZ (z m : Str) : Int := (m.cps.toList.map fun c => Txt.count z ⟨#[c]⟩).sum
def spMany : Sp := fun vs H Q _ => ∃ (z m : Str), vs = [.str z, .str m] ∧ m.length ≤ 1000 ∧ ∀ H', Same H H' → Q (.int (manyZ z m)) H'
theorem ok_many {f : Addr} {fd : FuncData} (F : Fun K "_many" "_many" s__many f fd) (T : Rb mg) : FnG P w K mg base (CXe P w) 1 f fd ["cells", "marks"] spMany := by
  refine F.okG sc__many (fun vs H Q E h => ?_) (fun cdv A outer s H vs Q E hgd hr h => ?_)
  · obtain ⟨z, m, rfl, _⟩ := h; rfl
  · obtain ⟨z, m, rfl, hm, k⟩ := h
    refine ⟨_, (pss_one (ps_ret (pe_callB (cr_sum rfl) (by rfl) T.n_sum (by decide +kernel) (pa_cons (pe_lc (own := [("mark", 2)]) (g := gName 2) (tt := tYes) rfl sc__many.nd (pi_str (pv 1)) (blkOk_by (own := [("mark", 2)]) (N := ["cells", "marks", "mark"]) (sc := defScope s__many) (by decide +kernel)) (fun _ _ _ _ _ => pg_name (i := 2) sc__many.nd rfl (Or.inl rfl)) (fun _ _ _ _ _ => pts_nil) (fun _ _ _ _ _ => (pe_m1 PySem.F.slot_str_count PySem.F.type_str_count mt_count (pv 0) (pv 2)))) pa_nil)))), ?_⟩
    walk_at "rd"
    refine fun D hD => lc_it walk_str (fun i H' => ∃ acc : List Int, H' D = some (.lst (acc.map V.int)) ∧ acc = (m.cps.toList.take i).map (fun c => Txt.count z ⟨#[c]⟩) ∧ Off (fun b => b = D) H H') ⟨[], upd_same, by simp, Off.new hD⟩ (fun _ _ _ _ => trivial) ?_ ?_
    · rintro i x H1 H2 hi ⟨acc, hacc, hv, off⟩ ⟨rfl, c, hc, rfl⟩
      refine And.intro rfl (yes_of ?_)
      refine iteT ?_
      refine ⟨_, rfl, ⟨_, rfl⟩, _, rfl, z, ⟨#[c]⟩, rfl, rfl, acc.map V.int, hacc, ?_, acc ++ [Txt.count z ⟨#[c]⟩], ?_, ?_, off.trans (Off.mut rfl)⟩
      · have : acc.length ≤ m.length := by
          rw [hv, List.length_map, List.length_take]
          exact Nat.le_trans (Nat.min_le_left _ _) (Nat.le_of_lt hi)
        rw [List.length_map]
        exact small1000 (by omega)
      · rw [upd_same, List.map_append]; rfl
      · have ht : m.cps.toList.take (i + 1) = m.cps.toList.take i ++ [c] := by
          have : m.cps.toList[i]? = some c := by simpa using hc
          rw [List.take_add_one, this]; rfl
        rw [ht, List.map_append, ← hv]; rfl
    · rintro H1 ⟨acc, hacc, hv, off⟩
      refine ⟨D, acc, rfl, SqL.of hacc, ?_⟩
      have : m.cps.toList.take m.cps.size = m.cps.toList := List.take_of_length_le (by simp)
      rw [this] at hv
      rw [hv]
      exact k _ fun b o e => off b o (fun y => by rw [y, hD] at e; cases e) e
/-- the signs of all rows, one behind another, are those of a room -/
def wholeZ (z : Str) : Bool := (!(decide ((z.length : Int) > 24) || !decide (Txt.count z "@" = 1))) && ((!(decide (Txt.count z "*" > 1) || (decide (Txt.count z "1" > 1) || decide (Txt.count z "2" > 1)) || (decide (50 ∈ z.cps.toList) && !decide (49 ∈ z.cps.toList)))) &&
  (decide (Txt.count z "o" ≤ 3) && decide (manyZ z "abAB" ≤ 4)))
def spWR : Sp := fun vs H Q _ => ∃ (z : Str), vs = [.str z] ∧ z.length ≤ sizeLine ∧ ∀ H', Same H H' → Q (.bl (wholeZ z)) H'
theorem ok_whole_room {f : Addr} {fd : FuncData} (F : Fun K "_is_whole_room" "_is_whole_room" s__is_whole_room f fd) (T : Rb mg) (c__many : CalG P w K mg base 1 "_many" spMany) : FnG P w K mg base (CXe P w) 2 f fd ["cells"] spWR := by
  refine F.okG sc__is_whole_room (fun vs H Q E h => ?_) (fun cdv A outer s H vs Q E hgd hr h => ?_)
  · obtain ⟨z, rfl, _⟩ := h; rfl
  · obtain ⟨z, rfl, hz, k⟩ := h
    refine ⟨_, (pss_cons (ps_if (PW.pt (pw_or (pt_cmpR op_gt (pe_callB call_len_str (by rfl) T.n_len (by decide +kernel) (pa_cons (pv 0) pa_nil)) (pe_glob (v := .int 24) rfl (Exists.choose_spec T.k_MOST_CELLS) ⟨_, rfl⟩) (nomark _)) (pw_or1 (pt_cmpR op_ne (pe_m1 PySem.F.slot_str_count PySem.F.type_str_count mt_count (pv 0) pe_str) pe_int (nomark _))))) (pss_one (ps_ret pe_bl)) pss_nil)
      (pss_cons (ps_if (PW.pt (pw_or (pt_cmpR op_gt (pe_callB (cr_max rfl) (by rfl) T.n_max (by decide +kernel) (pa_cons (pe_lc (own := [("mark", 1)]) (g := gName 1) (tt := tYes) rfl sc__is_whole_room.nd (pi_str pe_str) (blkOk_by (own := [("mark", 1)]) (N := ["cells", "mark"]) (sc := defScope s__is_whole_room) (by decide +kernel)) (fun _ _ _ _ _ => pg_name (i := 1) sc__is_whole_room.nd rfl (Or.inl rfl)) (fun _ _ _ _ _ => pts_nil) (fun _ _ _ _ _ => (pe_m1 PySem.F.slot_str_count PySem.F.type_str_count mt_count (pv 0) (pv 1)))) pa_nil)) pe_int (nomark _)) (pw_or1 (PW.pt (pw_and (pt_cmpR op_in_sign pe_str (pv 0) (by rfl)) (pw_and1 (pt_cmpR op_notIn_sign pe_str (pv 0) (by rfl)))))))) (pss_one (ps_ret pe_bl)) pss_nil)
      (pss_one (ps_ret (pe_and (pe_cmpR op_le (pe_m1 PySem.F.slot_str_count PySem.F.type_str_count mt_count (pv 0) pe_str) (pe_glob (v := .int 3) rfl (Exists.choose_spec T.k_MOST_CRATES) ⟨_, rfl⟩) (nomark _)) (pe_one (pe_cmpR op_le (pg_c c__many hgd hr (by first | decide | omega) (pa_cons (pv 0) (pa_cons pe_str pa_nil))) (pe_glob (v := .int 4) rfl (Exists.choose_spec T.k_MOST_KEYS_AND_DOORS) ⟨_, rfl⟩) (nomark _)))))))), ?_⟩
    have kf : wholeZ z = false → ∀ H', Same H H' → Q (.bl false) H' := fun e H' s' => by
      have := k H' s'
      rwa [e] at this
    walk_at "rd"
    refine ite2 (fun h1 => ?_) (fun h1 => ?_)
    · refine iteT (kf ?_ _ (Same.refl _))
      have h1' : decide ((z.length : Int) > 24) = true := by simpa using h1
      unfold wholeZ
      rw [h1']; rfl
    have h1' : decide ((z.length : Int) > 24) = false := by simpa using h1
    refine ⟨_, rfl, ⟨_, rfl⟩, z, "@", rfl, rfl, ?_⟩
    walk_at "rd"
    refine ite2 (fun h2 => ?_) (fun h2 => ?_)
    · refine kf ?_ _ (Same.refl _)
      have h2' : decide (Txt.count z "@" = 1) = false := by simpa using h2
      unfold wholeZ
      rw [h1', h2']; rfl
    have h2' : decide (Txt.count z "@" = 1) = true := by simpa using h2
    walk_at "rd"
    refine fun D hD => lc_it walk_str (fun i H' => ∃ acc : List Int, H' D = some (.lst (acc.map V.int)) ∧ acc = ((("*12" : Str).cps.toList.take i).map fun c => Txt.count z ⟨#[c]⟩) ∧ Off (fun b => b = D) H H') ⟨[], upd_same, by simp, Off.new hD⟩ (fun _ _ _ _ => trivial) ?_ ?_
    · rintro i x H1 H2 hi ⟨acc, hacc, hv, off⟩ ⟨rfl, c, hc, rfl⟩
      refine And.intro rfl (yes_of ?_)
      refine iteT ?_
      refine ⟨_, rfl, ⟨_, rfl⟩, _, rfl, z, ⟨#[c]⟩, rfl, rfl, acc.map V.int, hacc, ?_, acc ++ [Txt.count z ⟨#[c]⟩], ?_, ?_, off.trans (Off.mut rfl)⟩
      · have : acc.length ≤ 3 := by
          rw [hv, List.length_map, List.length_take]
          exact Nat.min_le_right _ _
        rw [List.length_map]
        exact small1000 (by omega)
      · rw [upd_same, List.map_append]; rfl
      · have ht : ("*12" : Str).cps.toList.take (i + 1) = ("*12" : Str).cps.toList.take i ++ [c] := by
          have : ("*12" : Str).cps.toList[i]? = some c := by simpa using hc
          rw [List.take_add_one, this]; rfl
        rw [ht, List.map_append, ← hv]; rfl
    · rintro H1 ⟨acc, hacc, hv, off⟩
      have hv' : acc = [Txt.count z "*", Txt.count z "1", Txt.count z "2"] := by
        rw [hv]
        have : ("*12" : Str).cps.toList.take ("*12" : Str).cps.size = [42, 49, 50] := by decide +kernel
        rw [this]; rfl
      have s1 : Same H H1 := fun b o e => off b o (fun y => by rw [y, hD] at e; cases e) e
      refine ⟨D, acc, rfl, SqL.of hacc, by rw [hv']; exact Nat.zero_lt_succ _, fun mx hm hle => ?_⟩
      rw [hv'] at hm hle
      have hb : decide (1 < mx) = (decide (Txt.count z "*" > 1) || (decide (Txt.count z "1" > 1) || decide (Txt.count z "2" > 1))) := by
        have q1 := hle (Txt.count z "*") (by simp)
        have q2 := hle (Txt.count z "1") (by simp)
        have q3 := hle (Txt.count z "2") (by simp)
        by_cases h3 : 1 < mx
        · have : Txt.count z "*" > 1 ∨ Txt.count z "1" > 1 ∨ Txt.count z "2" > 1 := by
            simp only [List.mem_cons, List.not_mem_nil, or_false] at hm
            rcases hm with rfl | rfl | rfl
            · exact .inl h3
            · exact .inr (.inl h3)
            · exact .inr (.inr h3)
          rw [decide_eq_true h3]
          rcases this with h | h | h <;> simp [h]
        · rw [decide_eq_false h3, decide_eq_false (by omega), decide_eq_false (by omega), decide_eq_false (by omega)]; rfl
      walk_at "rd"
      refine ite2 (fun h3 => ?_) (fun h3 => ?_)
      · refine iteT (kf ?_ _ s1)
        have h3' : decide (1 < mx) = true := h3
        unfold wholeZ
        rw [h1', h2', ← hb, h3']; rfl
      have h3' : decide (1 < mx) = false := by simpa using h3
      refine ⟨_, rfl, 50, z, rfl, rfl, _, rfl, ?_⟩
      refine ite2 (fun h4 => ?_) (fun h4 => ?_)
      · have h4' : decide (50 ∈ z.cps.toList) = true := h4
        refine ⟨_, rfl, 49, z, rfl, rfl, _, rfl, ?_⟩
        refine ite2 (fun h5 => ?_) (fun h5 => ?_)
        · have h5' : decide (49 ∈ z.cps.toList) = false := by simpa using h5
          refine kf ?_ _ s1
          unfold wholeZ
          rw [h1', h2', ← hb, h3', h4', h5']; rfl
        · have hc : (decide (50 ∈ z.cps.toList) && !decide (49 ∈ z.cps.toList)) = false := by
            have h5' : decide (49 ∈ z.cps.toList) = true := by simpa using h5
            rw [h4', h5']; rfl
          refine ⟨_, rfl, ⟨_, rfl⟩, z, "o", rfl, rfl, ?_⟩
          walk_at "rd"
          refine ite2 (fun h6 => ?_) (fun h6 => ?_)
          · have h6' : decide (Txt.count z "o" ≤ 3) = true := h6
            walk_at "rd"
            refine ⟨z, "abAB", rfl, by decide +kernel, fun H2 s2 => ?_⟩
            walk_at "rd"
            have := k H2 (s1.trans s2)
            unfold wholeZ at this
            rw [h1', h2', ← hb, h3', hc, h6'] at this
            exact this
          · have h6' : decide (Txt.count z "o" ≤ 3) = false := by simpa using h6
            refine kf ?_ _ s1
            unfold wholeZ
            rw [h1', h2', ← hb, h3', hc, h6']; rfl
      · have hc : (decide (50 ∈ z.cps.toList) && !decide (49 ∈ z.cps.toList)) = false := by
          have h4' : decide (50 ∈ z.cps.toList) = false := by simpa using h4
          rw [h4']; rfl
        refine ⟨_, rfl, ⟨_, rfl⟩, z, "o", rfl, rfl, ?_⟩
        walk_at "rd"
        refine ite2 (fun h6 => ?_) (fun h6 => ?_)
        · have h6' : decide (Txt.count z "o" ≤ 3) = true := h6
          walk_at "rd"
          refine ⟨z, "abAB", rfl, by decide +kernel, fun H2 s2 => ?_⟩
          walk_at "rd"
          have := k H2 (s1.trans s2)
          unfold wholeZ at this
          rw [h1', h2', ← hb, h3', hc, h6'] at this
          exact this
        · have h6' : decide (Txt.count z "o" ≤ 3) = false := by simpa using h6
          refine kf ?_ _ s1
          unfold wholeZ
          rw [h1', h2', ← hb, h3', hc, h6']; rfl
end
section
variable {P : Program} {w : World} {K : PySem.W.Frag} {mg : Str → Option Value} {base : Heap}
/-- where this sign stands, ascending, up to the n-th sign -/
def placesL (z : Str) (c n : Nat) : List Int := ((List.range n).filter fun i => decide (z.cps[i]? = some c)).map Int.ofNat
theorem placesL_le (z : Str) (c n : Nat) : (placesL z c n).length ≤ n := by
  unfold placesL
  rw [List.length_map]
  exact Nat.le_trans (List.length_filter_le _ _) (Nat.le_of_eq List.length_range)
theorem placesL_yes {z : Str} {c n : Nat} (h : z.cps[n]? = some c) : placesL z c (n + 1) = placesL z c n ++ [(n : Int)] := by
  unfold placesL
  rw [List.range_succ, List.filter_append, List.map_append]
  simp [h]
theorem placesL_no {z : Str} {c n : Nat} (h : ¬ z.cps[n]? = some c) : placesL z c (n + 1) = placesL z c n := by
  unfold placesL
  rw [List.range_succ, List.filter_append, List.map_append]
  simp [h]
def spPlaces : Sp := fun vs H Q _ => ∃ (z : Str) (c : Nat), vs = [.str z, .str ⟨#[c]⟩] ∧ z.length ≤ 1000 ∧ ∀ t H', H t = none → Same H H' → H' t = some (.tup ((placesL z c z.length).map V.int)) → Q (.ref t) H'
theorem ok_places {f : Addr} {fd : FuncData} (F : Fun K "_places" "_places" s__places f fd) (T : Rb mg) : FnG P w K mg base (CXe P w) 1 f fd ["cells", "mark"] spPlaces := by
  refine F.okG sc__places (fun vs H Q E h => ?_) (fun cdv A outer s H vs Q E hgd hr h => ?_)
  · obtain ⟨z, c, rfl, _⟩ := h; rfl
  · obtain ⟨z, c, rfl, hz, k⟩ := h
    refine ⟨_, (pss_one (ps_ret (pe_callTy call_tuple_of (by rfl) T.n_tuple (by decide +kernel) (pa_cons (pe_lc (own := [("cell", 2)]) (g := gName 2) rfl sc__places.nd (pi_range1 (by rfl) T.n_range (pa_cons (pe_callB call_len_str (by rfl) T.n_len (by decide +kernel) (pa_cons (pv 0) pa_nil)) pa_nil)) (blkOk_by (own := [("cell", 2)]) (N := ["cells", "mark", "cell"]) (sc := defScope s__places) (by decide +kernel)) (fun _ _ _ _ _ => pg_name (i := 2) sc__places.nd rfl (Or.inl rfl)) (fun _ _ _ _ _ => pts_one (pt_cmpR op_eq (pe_ix ix_str (pv 0) (pv 2) (fun _ _ => rfl)) (pv 1) (nomark _))) (fun _ _ _ _ _ => (pv 2))) pa_nil)))), ?_⟩
    walk_at "rd"
    refine And.intro (Nat.le_trans hz (by decide)) ?_
    refine ⟨_, rfl, by omega, by omega, ?_⟩
    rw [Int.toNat_natCast]
    refine fun D hD => lc_it walk_range (fun i H' => H' D = some (.lst ((placesL z c i).map V.int)) ∧ Off (fun b => b = D) H H') ⟨upd_same, Off.new hD⟩ (fun _ _ _ _ => trivial) ?_ ?_
    · rintro i x H1 H2 hi ⟨hacc, off⟩ ⟨rfl, rfl⟩
      refine And.intro rfl ?_
      obtain ⟨ci, hci⟩ : ∃ ci, z.cps[i]? = some ci := ⟨z.cps[i]'hi, Array.getElem?_eq_getElem hi⟩
      refine ⟨_, rfl, _, rfl, z, 0 + (i : Int), ci, rfl, rfl, Nat.le_trans hz (by decide), ?_, _, rfl, (rfl : scal _ _ = true), ?_⟩
      · have := atI_nat (xs := z.cps.toList) (j := i) (v := ci) (by simpa using hci)
        rwa [show (0 : Int) + (i : Int) = (i : Int) by omega]
      refine ⟨_, rfl, ?_⟩
      refine ite2 (fun h1 => ?_) (fun h1 => ?_)
      · have hc : ci = c := by simpa using h1
        subst hc
        refine ⟨_, rfl, _, hacc, ?_, ?_, off.trans (Off.mut rfl)⟩
        · rw [List.length_map]
          exact small1000 (Nat.le_trans (placesL_le z _ i) (by have := hi; have : i < z.length := hi; omega))
        · rw [upd_same, placesL_yes hci, List.map_append]
          simp
      · have hc : ¬ ci = c := by simpa using h1
        exact ⟨by rw [placesL_no (by rw [hci]; simpa using hc)]; exact hacc, off⟩
    · rintro H1 ⟨hacc, off⟩
      have s1 : Same H H1 := fun b o e => off b o (fun y => by rw [y, hD] at e; cases e) e
      refine ⟨D, _, rfl, .inl ⟨SqL.of hacc, fun t ht => ?_⟩⟩
      exact k t _ (s1.free ht) (fun b o e => by rw [upd_ne (ne_of_none (s1 _ _ e) ht)]; exact s1 _ _ e) upd_same
/-- rows as a room has them: each of this width -/
structure RowsOk (rows : List Str) (wd : Nat) : Prop where
  h1 : 1 ≤ rows.length
  h5 : rows.length ≤ 5
  w1 : 1 ≤ wd
  w6 : wd ≤ 6
  al : ∀ r ∈ rows, r.length = wd
def codeAt (rows : List Str) (l p : Nat) : Option Nat := (rows[l]?).bind fun r => r.cps[p]?
/-- the cell beside the i-th, this much down and across, or -1 -/
def neigh (rows : List Str) (wd : Nat) (d a : Int) (i : Nat) : Int :=
  if (0 ≤ ((i / wd : Nat) : Int) + d ∧ ((i / wd : Nat) : Int) + d < rows.length) ∧ (0 ≤ ((i % wd : Nat) : Int) + a ∧ ((i % wd : Nat) : Int) + a < wd) ∧ codeAt rows (((i / wd : Nat) : Int) + d).toNat (((i % wd : Nat) : Int) + a).toNat ≠ some 35
  then (((i / wd : Nat) : Int) + d) * wd + (((i % wd : Nat) : Int) + a) else -1
def neighL (rows : List Str) (wd : Nat) (d a : Int) (n : Nat) : List Int := (List.range n).map (neigh rows wd d a)
def spNeigh (K : PySem.W.Frag) : Sp := fun vs H Q _ => ∃ (t : Addr) (rows : List Str) (wd : Nat) (d a : Int), vs = [.ref t, .int d, .int a] ∧ RowsOk rows wd ∧ H t = some (.tup (rows.map V.str)) ∧ -1 ≤ d ∧ d ≤ 1 ∧ -1 ≤ a ∧ a ≤ 1 ∧
  ∀ q H', H q = none → Same H H' → H' q = some (.tup ((neighL rows wd d a (rows.length * wd)).map V.int)) → Q (.ref q) H'
theorem ok_neigh {f : Addr} {fd : FuncData} (F : Fun K "_neighbours" "_neighbours" s__neighbours f fd) (T : Rb mg) : FnG P w K mg base (CXe P w) 1 f fd ["rows", "down", "across"] (spNeigh K) := by
  refine F.okG sc__neighbours (fun vs H Q E h => ?_) (fun cdv A outer s H vs Q E hgd hr h => ?_)
  · obtain ⟨t, rows, wd, d, a, rfl, _⟩ := h; rfl
  · obtain ⟨t, rows, wd, d, a, rfl, R, ht, d1, d2, a1, a2, k⟩ := h
    refine ⟨_, (pss_cons (ps_set (i := 3) sc__neighbours.nd rfl (Or.inl rfl) (pe_callB call_len_str (by rfl) T.n_len (by decide +kernel) (pa_cons (pe_ix ix_tup (pv 0) pe_int (fun _ _ => rfl)) pa_nil)))
      (pss_cons (ps_set (i := 4) sc__neighbours.nd rfl (Or.inl rfl) (pe_lstA pa_nil))
      (pss_cons (ps_for (passes_of rfl) rfl (pi_range1 (by rfl) T.n_range (pa_cons (pe_op op_mul (pe_callB call_len_seq (by rfl) T.n_len (by decide +kernel) (pa_cons (pv 0) pa_nil)) (pv 3)) pa_nil)) (pg_name (i := 5) sc__neighbours.nd rfl (Or.inl rfl))
      (pss_cons (ps_par (i := 6) (j := 7) (by rfl) sc__neighbours.nd rfl rfl (by decide) rfl rfl (pa_cons (pe_op op_add (pe_op op_fdivN (pv 5) (pv 3)) (pv 1)) (pa_cons (pe_op op_add (pe_op op_mod (pv 5) (pv 3)) (pv 2)) pa_nil)) (by rfl))
      (C8.pss_cut (ps_set (i := 8) sc__neighbours.nd rfl (Or.inl rfl) (pe_and (pe_chain op_le op_lt pe_int (pv 6) (pe_callB call_len_seq (by rfl) T.n_len (by decide +kernel) (pa_cons (pv 0) pa_nil))) (pe_and (pe_chain op_le op_lt pe_int (pv 7) (pv 3)) (pe_one (pe_cmpR op_ne (pe_ix ix_str (pe_ix ix_tup (pv 0) (pv 6) (fun _ _ => rfl)) (pv 7) (fun _ _ => rfl)) pe_str (nomark _))))))
      (pss_one (ps_expr (pe_bm PySem.F.plainAttrs_list PySem.F.slot_list_append PySem.F.type_list_append mt_append (pv 4) (pa_cons (pe_ifExp (pt_val (pv 8)) (pe_op op_add (pe_op op_mul (pv 6) (pv 3)) (pv 7)) (pe_un un_neg pe_int)) pa_nil)))))))
      (pss_one (ps_ret (pe_callTy call_tuple_of (by rfl) T.n_tuple (by decide +kernel) (pa_cons (pv 4) pa_nil))))))), ?_⟩
    obtain ⟨r0, rest, hrows⟩ : ∃ r0 rest, rows = r0 :: rest := by
      have := R.h1
      cases rows with
      | nil => cases this
      | cons x y => exact ⟨x, y, rfl⟩
    have l0 : r0.length = wd := R.al r0 (by rw [hrows]; simp)
    walk_at "rd"
    refine ⟨t, _, 0, .str r0, rfl, rfl, SqT.of ht, atI_nat (xs := rows.map V.str) (j := 0) (v := .str r0) (by rw [hrows]; rfl), ?_⟩
    walk_at "rd"
    refine And.intro (by rw [l0]; have := R.w6; exact Nat.le_of_lt (small1000 (by omega))) ?_
    rw [l0]
    refine And.intro (Nat.le_of_ble_eq_true rfl) (fun D H1 n1 => ?_)
    have ht1 := n1.same _ _ ht
    walk_at "rd"
    refine ⟨t, _, rfl, .inr (SqT.of ht1), ?_⟩
    rw [List.length_map]
    walk_at "rd"
    have b5 := R.h5
    have b6 := R.w6
    have bw := R.w1
    have bn : rows.length * wd ≤ 5 * 6 := Nat.mul_le_mul b5 b6
    refine And.intro (.inl ⟨by omega, by omega⟩) ?_
    have en : (rows.length : Int) * (wd : Int) = ((rows.length * wd : Nat) : Int) := by simp
    refine ⟨((rows.length * wd : Nat) : Int), by rw [← en], by omega, by omega, ?_⟩
    rw [Int.toNat_natCast]
    refine for_range (n := rows.length * wd) (fun i σ H' => ∃ (cv lv pv iv : Option V), σ = [some (.ref t), some (.int d), some (.int a), some (.int wd), some (.ref D), cv, lv, pv, iv] ∧ H' D = some (.lst ((neighL rows wd d a i).map V.int)) ∧ Off (fun b => b = D) H1 H') ⟨none, none, none, none, rfl, n1.at_, Off.refl _⟩ ?_ ?_
    · rintro i σ H2 hi ⟨cv, lv, pv, iv, rfl, hacc, off⟩
      have hD2 : ∀ b o, H b = some o → H2 b = some o := fun b o e => off b o (fun y => by rw [y, n1.free] at e; cases e) (n1.same _ _ e)
      have ht2 := hD2 _ _ ht
      have eL : (0 + (i : Int)).fdiv (wd : Int) = ((i / wd : Nat) : Int) := by
        rw [Int.fdiv_eq_ediv_of_nonneg _ (by omega), show (0 : Int) + (i : Int) = (i : Int) by omega]
        exact (Int.natCast_ediv i wd).symm
      have eP : (0 + (i : Int)) % (wd : Int) = ((i % wd : Nat) : Int) := by
        rw [show (0 : Int) + (i : Int) = (i : Int) by omega]
        exact (Int.natCast_emod i wd).symm
      walk_at "rd"
      refine And.intro (And.intro (by omega) (by omega)) ?_
      walk_at "rd"
      refine And.intro (by omega) ?_
      walk_at "rd"
      obtain ⟨L, hL⟩ : ∃ L : Int, L = ((i / wd : Nat) : Int) + d := ⟨_, rfl⟩
      obtain ⟨Pp, hP⟩ : ∃ Pp : Int, Pp = ((i % wd : Nat) : Int) + a := ⟨_, rfl⟩
      refine ⟨.int L, .int Pp, (by show [V.int ((0 + (i : Int)).fdiv wd + d), V.int ((0 + (i : Int)) % wd + a)] = _; rw [eL, eP, ← hL, ← hP]), ?_⟩
      obtain ⟨Cp, hC⟩ : ∃ C : Bool, C = decide ((0 ≤ L ∧ L < rows.length) ∧ (0 ≤ Pp ∧ Pp < wd) ∧ codeAt rows L.toNat Pp.toNat ≠ some 35) := ⟨_, rfl⟩
      have hNo : ¬ ((0 ≤ L ∧ L < rows.length) ∧ (0 ≤ Pp ∧ Pp < wd) ∧ codeAt rows L.toNat Pp.toNat ≠ some 35) → Cp = false := fun z => by rw [hC]; exact decide_eq_false z
      refine ⟨fun σ' H' => H' = H2 ∧ σ' = [some (.ref t), some (.int d), some (.int a), some (.int wd), some (.ref D), some (.int (0 + (i : Nat))), some (.int L), some (.int Pp), some (.bl Cp)], ?_, ?_⟩
      · walk_at "rd"
        refine ite2 (fun q1 => ?_) (fun q1 => ?_)
        · have q1' : 0 ≤ L := by simpa using q1
          refine ⟨_, rfl, t, _, rfl, .inr (SqT.of ht2), _, _, rfl, rfl, _, rfl, ?_⟩
          rw [List.length_map]
          refine ite2 (fun q2 => ?_) (fun q2 => ?_)
          · have q2' : L < rows.length := by simpa using q2
            walk_at "rd"
            refine ite2 (fun q3 => ?_) (fun q3 => ?_)
            · have q3' : 0 ≤ Pp := by simpa using q3
              refine ⟨_, rfl, _, _, rfl, rfl, _, rfl, ?_⟩
              refine ite2 (fun q4 => ?_) (fun q4 => ?_)
              · have q4' : Pp < wd := by simpa using q4
                obtain ⟨r, hr⟩ : ∃ r, rows[L.toNat]? = some r := ⟨_, List.getElem?_eq_getElem (by omega)⟩
                have lr : r.length = wd := R.al r (List.mem_of_getElem? hr)
                obtain ⟨ci, hci⟩ : ∃ ci, r.cps[Pp.toNat]? = some ci := ⟨_, Array.getElem?_eq_getElem (by show Pp.toNat < r.length; omega)⟩
                refine ⟨_, rfl, _, rfl, t, _, L, .str r, rfl, rfl, SqT.of ht2, ?_, _, rfl, r, Pp, ci, rfl, rfl, by rw [lr]; exact Nat.le_of_lt (small1000 (by omega)), ?_, ?_⟩
                · have := atI_nat (xs := rows.map V.str) (j := L.toNat) (v := .str r) (by rw [List.getElem?_map, hr]; rfl)
                  rwa [Int.toNat_of_nonneg q1'] at this
                · have := atI_nat (xs := r.cps.toList) (j := Pp.toNat) (v := ci) (by simpa using hci)
                  rwa [Int.toNat_of_nonneg q3'] at this
                refine ⟨(rfl : scal _ _ = true), ?_⟩
                have e : Cp = !decide (V.str ⟨#[ci]⟩ = V.str "#") := by
                  have ec : codeAt rows L.toNat Pp.toNat = some ci := by unfold codeAt; rw [hr]; exact hci
                  have e2 : (V.str ⟨#[ci]⟩ = V.str "#") ↔ ci = 35 := by
                    have : ("#" : Str) = ⟨#[35]⟩ := by decide +kernel
                    rw [this]; simp
                  rw [hC, ec]
                  by_cases h35 : ci = 35
                  · rw [decide_eq_true (e2.mpr h35)]
                    exact decide_eq_false (fun z => z.2.2 (by rw [h35]))
                  · rw [decide_eq_false (fun z => h35 (e2.mp z))]
                    exact decide_eq_true ⟨⟨q1', q2'⟩, ⟨q3', q4'⟩, fun z => h35 (Option.some.inj z)⟩
                exact ⟨rfl, by rw [e]; rfl⟩
              · have q4' : ¬ Pp < wd := by simpa using q4
                exact ⟨rfl, by rw [hNo fun z => q4' z.2.1.2]; rfl⟩
            · have q3' : ¬ 0 ≤ Pp := by simpa using q3
              exact ⟨_, rfl, iteF ⟨rfl, by rw [hNo fun z => q3' z.2.1.1]; rfl⟩⟩
          · have q2' : ¬ L < rows.length := by simpa using q2
            exact ⟨rfl, by rw [hNo fun z => q2' z.1.2]; rfl⟩
        · have q1' : ¬ 0 ≤ L := by simpa using q1
          exact ⟨_, rfl, iteF ⟨rfl, by rw [hNo fun z => q1' z.1.1]; rfl⟩⟩
      · rintro σ' H3 ⟨rfl, rfl⟩
        walk_at "rd"
        have nx : neighL rows wd d a (i + 1) = neighL rows wd d a i ++ [neigh rows wd d a i] := by
          unfold neighL
          rw [List.range_succ, List.map_append]; rfl
        have ll : (neighL rows wd d a i).length = i := by unfold neighL; simp
        have hi30 : i < 30 := by omega
        refine And.intro (.inl ⟨rfl, _, SqL.of hacc⟩) ?_
        refine ⟨_, rfl, Cp, rfl, ?_⟩
        cases hb : Cp with
        | true =>
          have hcond : (0 ≤ L ∧ L < rows.length) ∧ (0 ≤ Pp ∧ Pp < wd) ∧ codeAt rows L.toNat Pp.toNat ≠ some 35 := by
            rw [hb] at hC
            exact of_decide_eq_true hC.symm
          have en2 : neigh rows wd d a i = L * wd + Pp := by
            unfold neigh
            rw [← hL, ← hP, if_pos hcond]
          refine iteT ?_
          walk_at "rd"
          refine And.intro (.inr ⟨by omega, by omega⟩) ?_
          walk_at "rd"
          refine ⟨D, _, _, rfl, rfl, hacc, ?_, ?_⟩
          · rw [List.length_map]
            exact small1000 (by rw [ll]; omega)
          · refine ⟨_, _, _, _, rfl, ?_, off.trans (Off.mut rfl)⟩
            rw [upd_same, nx, List.map_append]
            rw [en2]; rfl
        | false =>
          have en2 : neigh rows wd d a i = -1 := by
            unfold neigh
            rw [← hL, ← hP, if_neg]
            rw [hb] at hC
            exact of_decide_eq_false hC.symm
          refine iteF ?_
          walk_at "rd"
          refine ⟨D, _, _, rfl, rfl, hacc, ?_, ?_⟩
          · rw [List.length_map]
            exact small1000 (by rw [ll]; omega)
          · refine ⟨_, _, _, _, rfl, ?_, off.trans (Off.mut rfl)⟩
            rw [upd_same, nx, List.map_append]
            rw [en2]; rfl
    · rintro σ H2 ⟨cv, lv, pv, iv, rfl, hacc, off⟩
      walk_at "rd"
      have s1 : Same H H2 := fun b o e => off b o (fun y => by rw [y, n1.free] at e; cases e) (n1.same _ _ e)
      refine ⟨D, _, rfl, .inl ⟨SqL.of hacc, fun t ht => ?_⟩⟩
      exact k t _ (s1.free ht) (fun b o e => by rw [upd_ne (ne_of_none (s1 _ _ e) ht)]; exact s1 _ _ e) upd_same
end
theorem kitAny_ty {K : PySem.W.Frag} {n : String} {b1 b2 : Bool} (h1 : kitB n "list" = some b1) (h2 : kitB n "tuple" = some b2) : PySem.W.kitAny K (.type n) [.type "list", .type "tuple"] = some (b1 || b2) := by
  have e1 : PySem.W.kitOne K (.type n) (.type "list") = some b1 := kit_ty h1
  have e2 : PySem.W.kitOne K (.type n) (.type "tuple") = some b2 := kit_ty h2
  unfold PySem.W.kitAny
  rw [e1]
  cases b1 with
  | true => rfl
  | false =>
    unfold PySem.W.kitAny
    rw [e2]
    cases b2 <;> rfl
/-- a row of a room, of any kind of thing -/
def lineOk : V → Bool
  | .str s => lineS s
  | _ => false
def vlen : V → Nat
  | .str s => s.length
  | _ => 0
def isStr : V → Bool
  | .str _ => true
  | _ => false
def badAt (xs : List V) (i : Nat) : Bool := match xs[i]?, xs[i - 1]? with
  | some y, some x => !lineOk y || decide (vlen y ≠ vlen x)
  | _, _ => true
/-- the first fault of the rows, told -/
def rowsFault (xs : List V) : Option Int := if 1 ≤ xs.length ∧ xs.length ≤ 5 then ((List.range xs.length).find? (badAt xs)).map Int.ofNat else some (-1)
structure Elem (M : Addr → Prop) (H : Hp) (y : V) : Prop where
  dr : ∃ L d, Dr L M H y d
  sz : ∀ s, y = .str s → s.length ≤ sizeLine
theorem Elem.keep {M : Addr → Prop} {H H' : Hp} {y : V} (e : Elem M H y) (o : Off M H H') : Elem M H' y := ⟨let ⟨L, d, h⟩ := e.dr; ⟨L, d, h.keep o⟩, e.sz⟩
theorem Elem.ty {K : PySem.W.Frag} {M : Addr → Prop} {H : Hp} {y : V} (e : Elem M H y) : ∃ t, TyX K H y t ∧ PySem.W.kitOne K t (.type "str") = some (isStr y) := by
  obtain ⟨L, d, h⟩ := e.dr
  cases h with
  | non => exact ⟨_, .base .non, kit_ty (by decide +kernel)⟩
  | bl b => exact ⟨_, .base (.bl b), kit_ty (show kitB "bool" "str" = some false by decide +kernel)⟩
  | int i => exact ⟨_, .base (.int i), kit_ty (show kitB "int" "str" = some false by decide +kernel)⟩
  | str x => exact ⟨_, .base (.str x), kit_ty (show kitB "str" "str" = some true by decide +kernel)⟩
  | lst q => exact ⟨_, .base (.lst q), kit_ty (show kitB "list" "str" = some false by decide +kernel)⟩
  | tup q => exact ⟨_, .base (.tup q), kit_ty (show kitB "tuple" "str" = some false by decide +kernel)⟩
  | dct q => exact ⟨_, .base (.dK q), kit_ty (show kitB "dict" "str" = some false by decide +kernel)⟩
section
variable {P : Program} {w : World} {K : PySem.W.Frag} {mg : Str → Option Value} {base : Heap} {CB fB : Addr}
def spNeed (K : PySem.W.Frag) (CB : Addr) : Sp := fun vs H Q E => ∃ (v : V) (M : Addr → Prop), vs = [v] ∧
  ((∃ t, (∀ H', Same H H' → TyX K H' v t) ∧ PySem.W.kitAny K t [.type "list", .type "tuple"] = some false ∧ ∀ H' d, Same H H' → H' d = none → E (.ref CB) (some d) (upd H' d (.xd [("value", .int (-1))]))) ∨
   (∃ a xs, v = .ref a ∧ (H a = some (.lst xs) ∨ H a = some (.tup xs)) ∧ (∀ y ∈ xs, Elem M H y) ∧ (∀ i, rowsFault xs = some i → ∀ H' d, Same H H' → H' d = none → E (.ref CB) (some d) (upd H' d (.xd [("value", .int i)]))) ∧
     (rowsFault xs = none → ∀ H', Same H H' → Q .non H')))
structure RoomT (P : Program) (K : PySem.W.Frag) (mg : Str → Option Value) (CB fB : Addr) : Prop extends Rb mg where
  x_BadRoom : RX.ErrT P K mg "BadRoom" "value" CB fB
theorem ok_need {f : Addr} {fd : FuncData} (F : Fun K "_need_lines" "_need_lines" s__need_lines f fd) (T : RoomT P K mg CB fB) (c_is_row : CalG P w K mg base 1 "is_row" (spIsRow K)) (c__is_line : CalG P w K mg base 1 "_is_line" (spIsLine K)) : FnG P w K mg base (CXe P w) 3 f fd ["rows"] (spNeed K CB) := by
  refine F.okG sc__need_lines (fun vs H Q E h => ?_) (fun cdv A outer s H vs Q E hgd hr h => ?_)
  · obtain ⟨v, M, rfl, _⟩ := h; rfl
  · obtain ⟨v, M, rfl, h⟩ := h
    refine ⟨_, (pss_cons (ps_if (PW.pt (pw_or (pt_not (pt_val (pg_c c_is_row hgd hr (by first | decide | omega) (pa_cons (pv 0) pa_nil)))) (pw_or1 (pt_not (pt_chain op_le op_le pe_int (pe_callB call_len_seq (by rfl) T.n_len (by decide +kernel) (pa_cons (pv 0) pa_nil)) (pe_glob (v := .int 5) rfl (Exists.choose_spec T.k_MOST_LINES) ⟨_, rfl⟩)))))) (pss_one (ps_raiseErr rfl T.x_BadRoom hr (takes_of rfl rfl rfl rfl) (pa_cons (pe_un un_neg pe_int) pa_nil))) pss_nil)
      (pss_one (ps_for (passes_of rfl) rfl (pi_enum2 (by rfl) T.n_enumerate (pa_cons (pv 0) pa_nil)) (pg_tup (by rfl) (pgs_cons (pg_name (i := 1) sc__need_lines.nd rfl (Or.inl rfl)) (pgs_cons (pg_name (i := 2) sc__need_lines.nd rfl (Or.inl rfl)) pgs_nil)))
      (pss_one (ps_if (PW.pt (pw_or (pt_not (pt_val (pg_c c__is_line hgd hr (by first | decide | omega) (pa_cons (pv 2) pa_nil)))) (pw_or1 (pt_cmpR op_ne (pe_callB call_len_str (by rfl) T.n_len (by decide +kernel) (pa_cons (pv 2) pa_nil)) (pe_callB call_len_str (by rfl) T.n_len (by decide +kernel) (pa_cons (pe_ix ix_seq (pv 0) (pe_callB (call_max2 rfl) (by rfl) T.n_max (by decide +kernel) (pa_cons (pe_op op_sub (pv 1) pe_int) (pa_cons pe_int pa_nil))) (fun _ _ => rfl)) pa_nil)) (nomark _))))) (pss_one (ps_raiseErr rfl T.x_BadRoom hr (takes_of rfl rfl rfl rfl) (pa_cons (pv 1) pa_nil))) pss_nil))))), ?_⟩
    walk_at "rd"
    rcases h with ⟨t, ty, e, kE⟩ | ⟨a, xs, rfl, hx, hel, kE, kQ⟩
    · refine ⟨v, t, false, rfl, ty _ (Same.refl _), ty, e, fun H1 s1 => ?_⟩
      refine ⟨_, rfl, ?_⟩
      exact iteT (iteT ⟨1, rfl, _, rfl, fun d hd => kE H1 d s1 hd⟩)
    · obtain ⟨t, tyx, ek⟩ : ∃ t, (∀ H', Same H H' → TyX K H' (.ref a) t) ∧ PySem.W.kitAny K t [.type "list", .type "tuple"] = some true := by
        rcases hx with q | q
        · exact ⟨_, fun H' s' => .base (.lst (s' _ _ q)), kitAny_ty (show kitB "list" "list" = some true by decide +kernel) (show kitB "list" "tuple" = some false by decide +kernel)⟩
        · exact ⟨_, fun H' s' => .base (.tup (s' _ _ q)), kitAny_ty (show kitB "tuple" "list" = some false by decide +kernel) (show kitB "tuple" "tuple" = some true by decide +kernel)⟩
      refine ⟨.ref a, t, true, rfl, tyx _ (Same.refl _), tyx, ek, fun H1 s1 => ?_⟩
      refine ⟨_, rfl, ?_⟩
      refine iteF ?_
      walk_at "rd"
      have sq : ∀ H', Same H H' → SqL K H' a xs ∨ SqT K H' a xs := fun H' s' => hx.imp (fun q => SqL.of (s' _ _ q)) (fun q => SqT.of (s' _ _ q))
      refine ⟨a, xs, rfl, sq _ s1, ?_⟩
      have out : ¬ (1 ≤ xs.length ∧ xs.length ≤ 5) → rowsFault xs = some (-1) := fun z => by unfold rowsFault; rw [if_neg z]
      refine ⟨_, _, rfl, rfl, _, rfl, ?_⟩
      refine ite2 (fun q1 => ?_) (fun q1 => ?_)
      · refine ⟨_, _, rfl, rfl, _, rfl, ?_⟩
        refine ite2 (fun q2 => ?_) (fun q2 => ?_)
        · have hf := out (fun z => by
            have : ¬ (xs.length : Int) ≤ 5 := by simpa using q2
            omega)
          exact ⟨1, rfl, _, rfl, fun d hd => kE _ hf H1 d s1 hd⟩
        · have l1 : 1 ≤ xs.length := by
            have : (1 : Int) ≤ (xs.length : Int) := by simpa using q1
            omega
          have l5 : xs.length ≤ 5 := by
            have : (xs.length : Int) ≤ 5 := by simpa using q2
            omega
          refine ⟨_, rfl, a, xs, rfl, sq _ s1, fun J G wk hG => for_it wk (fun i σ H' => ∃ (o1 o2 : Option V), σ = [some (.ref a), o1, o2] ∧ Same H1 H' ∧ ∀ j, j < i → badAt xs j = false) ⟨none, none, rfl, Same.refl _, fun j hj => absurd hj (Nat.not_lt_zero _)⟩ (fun i σ H' _ hp => hG H' (let ⟨_, _, _, s', _⟩ := hp; s')) ?_ ?_⟩
          · rintro i x σ H2 H3 hi ⟨o1, o2, rfl, s2, hb⟩ ⟨T, x1, y1, rfl, hT, rfl, e1, e2⟩
            cases e1
            have e2 : xs[i]? = some y1 := e2
            have s3 : Same H2 (upd H2 T (.tup [.int (i : Nat), y1])) := same_new hT
            have s03 := (s1.trans s2).trans s3
            have first : badAt xs i = true → rowsFault xs = some ((i : Nat) : Int) := fun hbi => by
              unfold rowsFault
              rw [if_pos ⟨l1, l5⟩, List.find?_range_eq_some.mpr ⟨hbi, List.mem_range.mpr hi, fun j hj => by rw [hb j hj]; rfl⟩]
              rfl
            have ey : Elem M (upd H2 T (.tup [.int (i : Nat), y1])) y1 := (hel y1 (List.mem_of_getElem? e2)).keep (Off.same s03)
            have rz : badAt xs i = true → ∀ d, (upd H2 T (.tup [.int (i : Nat), y1])) d = none → E (.ref CB) (some d) (upd (upd H2 T (.tup [.int (i : Nat), y1])) d (.xd [("value", .int (i : Nat))])) := fun hbi d hd => kE _ (first hbi) _ d s03 hd
            refine ⟨T, _, rfl, SqT.of upd_same, rfl, _, _, rfl, _, _, rfl, rfl, ?_⟩
            obtain ⟨t1, ty1, ek1⟩ := ey.ty (K := K)
            refine ⟨_, rfl, y1, t1, _, rfl, ty1, ek1, fun hn => ?_, fun hy => ?_⟩
            · have hb0 : badAt xs i = true := by
                have hl : lineOk y1 = false := by cases y1 <;> first | rfl | cases hn
                unfold badAt
                rw [e2]
                cases xs[i - 1]? with
                | none => rfl
                | some y => show (!lineOk y1 || _) = true; rw [hl]; rfl
              exact ⟨_, rfl, iteT (iteT ⟨_, rfl, _, rfl, fun d hd => rz hb0 d hd⟩)⟩
            · obtain ⟨z, rfl⟩ : ∃ z, y1 = .str z := by cases y1 <;> first | exact ⟨_, rfl⟩ | cases hy
              refine ⟨z, rfl, ey.sz z rfl, _, rfl, ?_⟩
              cases hl : lineS z with
              | false =>
                have hb0 : badAt xs i = true := by
                  unfold badAt
                  rw [e2]
                  cases xs[i - 1]? with
                  | none => rfl
                  | some y => show (!lineS z || _) = true; rw [hl]; rfl
                exact iteT (iteT ⟨_, rfl, _, rfl, fun d hd => rz hb0 d hd⟩)
              | true =>
                refine iteF ?_
                obtain ⟨z0, hz0, lz0⟩ : ∃ z0, xs[i - 1]? = some (.str z0) ∧ z0.length ≤ sizeLine := by
                  by_cases hi0 : i = 0
                  · subst hi0
                    exact ⟨z, e2, ey.sz z rfl⟩
                  · have hbp := hb (i - 1) (by omega)
                    obtain ⟨y0, hy0⟩ : ∃ y0, xs[i - 1]? = some y0 := ⟨_, List.getElem?_eq_getElem (by omega)⟩
                    unfold badAt at hbp
                    rw [hy0] at hbp
                    have hlo : lineOk y0 = true := by
                      cases hq : xs[i - 1 - 1]? with
                      | none => rw [hq] at hbp; cases hbp
                      | some y =>
                        rw [hq] at hbp
                        have : (!lineOk y0 || decide (vlen y0 ≠ vlen y)) = false := hbp
                        have := (Bool.or_eq_false_iff.mp this).1
                        simpa using this
                    obtain ⟨z0, rfl⟩ : ∃ z0, y0 = .str z0 := by cases y0 <;> first | exact ⟨_, rfl⟩ | cases hlo
                    exact ⟨z0, hy0, (hel _ (List.mem_of_getElem? hy0)).sz z0 rfl⟩
                have ei : (if (0 : Int) > (i : Int) - 1 then (0 : Int) else (i : Int) - 1) = ((i - 1 : Nat) : Int) := by
                  split <;> omega
                have hat : atI xs ((i - 1 : Nat) : Int) = some (.str z0) := atI_nat hz0
                have ixs : ∀ (kk : Int), kk = ((i - 1 : Nat) : Int) → ∀ R : VK, R (.str z0) (upd H2 T (.tup [.int (i : Nat), .str z])) → rIx K (.ref a) (.int kk) (upd H2 T (.tup [.int (i : Nat), .str z])) R := fun kk ek R hR => by
                  subst ek
                  rcases hx with q | q
                  · exact .inl ⟨a, xs, _, _, rfl, rfl, SqL.of (s03 _ _ q), hat, hR⟩
                  · exact .inr (.inl ⟨a, xs, _, _, rfl, rfl, SqT.of (s03 _ _ q), hat, hR⟩)
                refine ⟨_, rfl, z, rfl, ey.sz z rfl, ?_⟩
                refine ⟨_, rfl, _, rfl, _, _, rfl, rfl, _, _, rfl, ?_⟩
                refine ixs _ ei _ ?_
                refine ⟨z0, rfl, lz0, (rfl : scal _ _ = true), ?_⟩
                refine ⟨_, rfl, ?_⟩
                have bad : badAt xs i = decide (z.length ≠ z0.length) := by
                  unfold badAt
                  rw [e2, hz0]
                  show (!lineS z || decide (z.length ≠ z0.length)) = _
                  rw [hl]; rfl
                refine ite2 (fun q3 => ?_) (fun q3 => ?_)
                · have q3' : ¬ z.length = z0.length := fun w => by
                    rw [w] at q3
                    simp at q3
                  exact ⟨_, rfl, _, rfl, fun d hd => rz (by rw [bad]; exact decide_eq_true q3') d hd⟩
                · have q3' : z.length = z0.length := by
                    have : decide (V.int (z.length : Int) = V.int (z0.length : Int)) = true := by simpa using q3
                    have := of_decide_eq_true this
                    injection this with this
                    exact Int.ofNat.inj this
                  refine ⟨_, _, rfl, s2.trans s3, fun j hj => ?_⟩
                  by_cases hji : j = i
                  · rw [hji, bad]; exact decide_eq_false (fun w => w q3')
                  · exact hb j (by omega)
          · rintro σ H2 ⟨o1, o2, rfl, s2, hb⟩
            refine kQ ?_ H2 (s1.trans s2)
            unfold rowsFault
            rw [if_pos ⟨l1, l5⟩, List.find?_range_eq_none.mpr (fun j hj => by rw [hb j hj]; rfl)]
            rfl
      · have hf := out (fun z => by
          have : ¬ (1 : Int) ≤ (xs.length : Int) := by simpa using q1
          omega)
        exact ⟨_, rfl, iteT ⟨1, rfl, _, rfl, fun d hd => kE _ hf H1 d s1 hd⟩⟩
end
section
variable {P : Program} {w : World} {K : PySem.W.Frag} {mg : Str → Option Value} {base : Heap} {C CB fB : Addr}
def roomF (t ct pt nd : Addr) (z : Str) : List (Str × V) := [("rows", .ref t), ("cells", .str z), ("entry", .int (Txt.find z "@")), ("mouths", .int (manyZ z "12")), ("crates", .ref ct), ("plates", .ref pt), ("near", .ref nd)]
/-- the four ways of the cells of these rows -/
structure NearAt (H : Hp) (nd : Addr) (rows : List Str) (wd : Nat) : Prop where
  ex : ∃ u d l r, H nd = some (.dK [(.inr "u", .ref u), (.inr "d", .ref d), (.inr "l", .ref l), (.inr "r", .ref r)]) ∧ H u = some (.tup ((neighL rows wd (-1) 0 (rows.length * wd)).map V.int)) ∧ H d = some (.tup ((neighL rows wd 1 0 (rows.length * wd)).map V.int)) ∧
    H l = some (.tup ((neighL rows wd 0 (-1) (rows.length * wd)).map V.int)) ∧ H r = some (.tup ((neighL rows wd 0 1 (rows.length * wd)).map V.int))
/-- a room stands at x -/
structure RoomAt (C : Addr) (H : Hp) (x : Addr) (rows : List Str) (wd : Nat) : Prop where
  ok : RowsOk rows wd
  lines : ∀ r ∈ rows, lineS r = true
  whole : wholeZ (Txt.join "" rows) = true
  ex : ∃ dx t ct pt nd, H x = some (.ins C dx (roomF t ct pt nd (Txt.join "" rows))) ∧ H t = some (.tup (rows.map V.str)) ∧ H ct = some (.tup ((placesL (Txt.join "" rows) 111 (Txt.join "" rows).length).map V.int)) ∧
    H pt = some (.tup ((placesL (Txt.join "" rows) 112 (Txt.join "" rows).length).map V.int)) ∧ NearAt H nd rows wd
theorem putF_len (f : Str) (v : V) : ∀ fs : List (Str × V), (putF f v fs).length ≤ fs.length + 1
  | [] => Nat.le_refl _
  | (g, u) :: r => by
    show (if g = f then (g, v) :: r else (g, u) :: putF f v r).length ≤ _
    have := putF_len f v r
    split <;> simp only [List.length_cons] <;> omega
theorem fne : (¬ (("rows" : Str) = "cells") ∧ ¬ (("rows" : Str) = "entry") ∧ ¬ (("rows" : Str) = "mouths") ∧ ¬ (("rows" : Str) = "crates") ∧ ¬ (("rows" : Str) = "plates") ∧ ¬ (("rows" : Str) = "near")) ∧
    (¬ (("cells" : Str) = "entry") ∧ ¬ (("cells" : Str) = "mouths") ∧ ¬ (("cells" : Str) = "crates") ∧ ¬ (("cells" : Str) = "plates") ∧ ¬ (("cells" : Str) = "near")) ∧
    (¬ (("entry" : Str) = "mouths") ∧ ¬ (("entry" : Str) = "crates") ∧ ¬ (("entry" : Str) = "plates") ∧ ¬ (("entry" : Str) = "near")) ∧ (¬ (("mouths" : Str) = "crates") ∧ ¬ (("mouths" : Str) = "plates") ∧ ¬ (("mouths" : Str) = "near")) ∧
    (¬ (("crates" : Str) = "plates") ∧ ¬ (("crates" : Str) = "near")) ∧ ¬ (("plates" : Str) = "near") := by decide +kernel
theorem putF6 (a b c d e f : V) : putF "plates" f (putF "crates" e (putF "mouths" d (putF "entry" c (putF "cells" b (putF "rows" a []))))) = ([("rows", a), ("cells", b), ("entry", c), ("mouths", d), ("crates", e), ("plates", f)] : List (Str × V)) := by
  obtain ⟨⟨r1, r2, r3, r4, r5, r6⟩, ⟨c1, c2, c3, c4, c5⟩, ⟨e1, e2, e3, e4⟩, ⟨m1, m2, m3⟩, ⟨t1, t2⟩, p1⟩ := fne
  simp only [putF, r1, r2, r3, r4, r5, r6, c1, c2, c3, c4, c5, e1, e2, e3, e4, m1, m2, m3, t1, t2, p1, if_false]
theorem putF7 (a b c d e f g : V) : putF "near" g ([("rows", a), ("cells", b), ("entry", c), ("mouths", d), ("crates", e), ("plates", f)] : List (Str × V)) = ([("rows", a), ("cells", b), ("entry", c), ("mouths", d), ("crates", e), ("plates", f), ("near", g)] : List (Str × V)) := by
  obtain ⟨⟨r1, r2, r3, r4, r5, r6⟩, ⟨c1, c2, c3, c4, c5⟩, ⟨e1, e2, e3, e4⟩, ⟨m1, m2, m3⟩, ⟨t1, t2⟩, p1⟩ := fne
  simp only [putF, r1, r2, r3, r4, r5, r6, c1, c2, c3, c4, c5, e1, e2, e3, e4, m1, m2, m3, t1, t2, p1, if_false]
theorem merge4 (a b c d : V) : mergeK [] ([(.inr "u", a), (.inr "d", b), (.inr "l", c), (.inr "r", d)] : List (Key × V)) = [(.inr "u", a), (.inr "d", b), (.inr "l", c), (.inr "r", d)] := by
  have h : (¬ (("u" : Str) = "d") ∧ ¬ (("u" : Str) = "l") ∧ ¬ (("u" : Str) = "r")) ∧ (¬ (("d" : Str) = "l") ∧ ¬ (("d" : Str) = "r")) ∧ ¬ (("l" : Str) = "r") := by decide +kernel
  obtain ⟨⟨h1, h2, h3⟩, ⟨h4, h5⟩, h6⟩ := h
  simp [mergeK, putK, h1, h2, h3, h4, h5, h6]
theorem flat_joinL : ∀ ps : List (List Nat), TL.joinL [] ps = ps.flatten
  | [] => rfl
  | [p] => by simp [TL.joinL]
  | p :: q :: r => by
    show p ++ ([] ++ TL.joinL [] (q :: r)) = _
    rw [flat_joinL (q :: r)]
    simp
theorem join_cps (rows : List Str) : (Txt.join "" rows).cps.toList = (rows.map fun r => r.cps.toList).flatten := by
  rw [TL.join_eq]
  exact (TL.tl_join "" rows).trans (flat_joinL _)
theorem join_sum (rows : List Str) : (Txt.join "" rows).length = (rows.map (·.length)).sum := by
  have h := congrArg List.length (join_cps rows)
  rw [List.length_flatten, List.map_map] at h
  exact h
theorem sum_rows {rows : List Str} {wd : Nat} (h : ∀ r ∈ rows, r.length = wd) : (rows.map (·.length)).sum = rows.length * wd := by
  induction rows with
  | nil => simp
  | cons r rs ih =>
    rw [List.map_cons, List.sum_cons, ih fun x hx => h x (List.mem_cons_of_mem _ hx), h r (List.mem_cons_self ..), List.length_cons, Nat.succ_mul, Nat.add_comm]
theorem join_len {rows : List Str} {wd : Nat} (R : RowsOk rows wd) : (Txt.join "" rows).length = rows.length * wd := (join_sum rows).trans (sum_rows R.al)
def strOf : V → Str
  | .str s => s
  | _ => ""
theorem lineOk_str {y : V} (h : lineOk y = true) : y = .str (strOf y) ∧ lineS (strOf y) = true := by
  cases y <;> first | exact ⟨rfl, h⟩ | cases h
theorem rows_of {xs : List V} (h : rowsFault xs = none) : ∃ rows wd, xs = rows.map V.str ∧ RowsOk rows wd ∧ ∀ r ∈ rows, lineS r = true := by
  unfold rowsFault at h
  split at h
  case isFalse => cases h
  rename_i hn
  have hf : (List.range xs.length).find? (badAt xs) = none := by
    cases e : (List.range xs.length).find? (badAt xs) with
    | none => rfl
    | some i => rw [e] at h; cases h
  have good : ∀ i, i < xs.length → badAt xs i = false := fun i hi => by
    have := List.find?_range_eq_none.mp hf i hi
    simpa using this
  have at2 : ∀ i, (hi : i < xs.length) → lineOk xs[i] = true ∧ vlen xs[i] = vlen (xs[i - 1]'(by omega)) := fun i hi => by
    have b := good i hi
    unfold badAt at b
    rw [List.getElem?_eq_getElem hi, List.getElem?_eq_getElem (show i - 1 < xs.length by omega)] at b
    have b' : (!lineOk xs[i] || decide (vlen xs[i] ≠ vlen (xs[i - 1]'(by omega)))) = false := b
    obtain ⟨b1, b2⟩ := Bool.or_eq_false_iff.mp b'
    exact ⟨by simpa using b1, by simpa using b2⟩
  have all : ∀ i, (hi : i < xs.length) → vlen xs[i] = vlen (xs[0]'(by omega)) := by
    intro i
    induction i with
    | zero => intro hi; rfl
    | succ k ih => intro hi; exact (at2 (k + 1) hi).2.trans (ih (by omega))
  have line : ∀ y ∈ xs, lineOk y = true := fun y hy => by
    obtain ⟨i, hi, rfl⟩ := List.getElem_of_mem hy
    exact (at2 i hi).1
  have len : ∀ y ∈ xs, vlen y = vlen (xs[0]'(by omega)) := fun y hy => by
    obtain ⟨i, hi, rfl⟩ := List.getElem_of_mem hy
    exact all i hi
  have e1 : xs = (xs.map strOf).map V.str := by
    rw [List.map_map]
    have : ∀ y ∈ xs, (V.str ∘ strOf) y = id y := fun y hy => (lineOk_str (line y hy)).1.symm
    rw [List.map_congr_left this, List.map_id]
  have l0 : lineS (strOf (xs[0]'(by omega))) = true := (lineOk_str (line _ (List.getElem_mem _))).2
  have v0 : vlen (xs[0]'(by omega)) = (strOf (xs[0]'(by omega))).length := by
    have := (lineOk_str (line _ (List.getElem_mem (show 0 < xs.length by omega)))).1
    rw [this]; rfl
  have b0 : 1 ≤ (strOf (xs[0]'(by omega))).length ∧ (strOf (xs[0]'(by omega))).length ≤ 6 := by
    unfold lineS at l0
    simp only [Bool.and_eq_true, decide_eq_true_eq] at l0
    exact ⟨l0.1, l0.2.1⟩
  refine ⟨xs.map strOf, vlen (xs[0]'(by omega)), e1, ⟨by simpa using hn.1, by simpa using hn.2, by rw [v0]; exact b0.1, by rw [v0]; exact b0.2, ?_⟩, ?_⟩
  · intro r hr
    obtain ⟨y, hy, rfl⟩ := List.mem_map.mp hr
    rw [← len y hy]
    have := (lineOk_str (line y hy)).1
    rw [this]; rfl
  · intro r hr
    obtain ⟨y, hy, rfl⟩ := List.mem_map.mp hr
    exact (lineOk_str (line y hy)).2
def spRoomInit (K : PySem.W.Frag) (C CB : Addr) : Sp := fun vs H Q E => ∃ (x dx : Addr) (v : V) (M : Addr → Prop), vs = [.ref x, v] ∧ H x = some (.ins C dx []) ∧
  ((∃ t, (∀ H', Same H H' → TyX K H' v t) ∧ PySem.W.kitAny K t [.type "list", .type "tuple"] = some false ∧ ∀ H' d, Same H H' → H' d = none → E (.ref CB) (some d) (upd H' d (.xd [("value", .int (-1))]))) ∨
   (∃ a xs, v = .ref a ∧ (H a = some (.lst xs) ∨ H a = some (.tup xs)) ∧ (∀ y ∈ xs, Elem M H y) ∧ (∀ i, rowsFault xs = some i → ∀ H' d, Same H H' → H' d = none → E (.ref CB) (some d) (upd H' d (.xd [("value", .int i)]))) ∧
     (∀ rows wd, xs = rows.map V.str → RowsOk rows wd → (∀ r ∈ rows, lineS r = true) → (wholeZ (Txt.join "" rows) = false → ∀ H' d, Same H H' → H' d = none → E (.ref CB) (some d) (upd H' d (.xd [("value", .int (-1))]))) ∧
       ∀ H', RoomAt C H' x rows wd → (∀ b o, H b = some o → b ≠ x → H' b = some o) → Q .non H')))
theorem ok_room_init {f : Addr} {fd : FuncData} (F : Fun K "__init__" "Room.__init__" s_Room_init f fd) (T : RoomT P K mg CB fB) (cl : Cls K C) (n_rows : NoAttr K C "rows") (n_cells : NoAttr K C "cells") (n_entry : NoAttr K C "entry") (n_mouths : NoAttr K C "mouths") (n_crates : NoAttr K C "crates") (n_plates : NoAttr K C "plates") (n_near : NoAttr K C "near")
    (c__need_lines : CalG P w K mg base 3 "_need_lines" (spNeed K CB)) (c__is_whole_room : CalG P w K mg base 2 "_is_whole_room" spWR) (c__many : CalG P w K mg base 1 "_many" spMany) (c__places : CalG P w K mg base 1 "_places" spPlaces) (c__neighbours : CalG P w K mg base 1 "_neighbours" (spNeigh K)) :
    FnG P w K mg base (CXe P w) 4 f fd ["self", "rows"] (spRoomInit K C CB) := by
  refine F.okG sc_Room_init (fun vs H Q E h => ?_) (fun cdv A outer s H vs Q E hgd hr h => ?_)
  · obtain ⟨x, dx, v, M, rfl, _⟩ := h; rfl
  · obtain ⟨x, dx, v, M, rfl, hx, h⟩ := h
    refine ⟨_, (pss_cons (ps_expr (pg_cS c__need_lines hgd hr (by decide) (fun σ => passAt (takes_of rfl rfl rfl rfl) σ) (pa_cons (pv 1) pa_nil)))
      (pss_cons (ps_set (i := 2) sc_Room_init.nd rfl (Or.inl rfl) (pe_m1 PySem.F.slot_str_join PySem.F.type_str_join mt_join pe_str (pv 1)))
      (pss_cons (ps_if (pt_not (pt_val (pg_c c__is_whole_room hgd hr (by first | decide | omega) (pa_cons (pv 2) pa_nil)))) (pss_one (ps_raiseErr rfl T.x_BadRoom hr (takes_of rfl rfl rfl rfl) (pa_cons (pe_un un_neg pe_int) pa_nil))) pss_nil)
      (pss_cons (ps_fld (pv 0) (pe_callTy cr_tup2 (by rfl) T.n_tuple (by decide +kernel) (pa_cons (pv 1) pa_nil)) rfl)
      (pss_cons (ps_fld (pv 0) (pv 2) rfl)
      (pss_cons (ps_fld (pv 0) (pe_m1 PySem.F.slot_str_find PySem.F.type_str_find mt_find (pv 2) pe_str) rfl)
      (pss_cons (ps_fld (pv 0) (pg_c c__many hgd hr (by first | decide | omega) (pa_cons (pv 2) (pa_cons pe_str pa_nil))) rfl)
      (pss_cons (ps_fld (pv 0) (pg_c c__places hgd hr (by first | decide | omega) (pa_cons (pv 2) (pa_cons pe_str pa_nil))) rfl)
      (pss_cons (ps_fld (pv 0) (pg_c c__places hgd hr (by first | decide | omega) (pa_cons (pv 2) (pa_cons pe_str pa_nil))) rfl)
      (pss_one (ps_fld (pv 0) (pe_disp (pps_cons pe_str (pg_c c__neighbours hgd hr (by first | decide | omega) (pa_cons (pe_fld (pv 0) rfl) (pa_cons (pe_un un_neg pe_int) (pa_cons pe_int pa_nil)))) (pps_cons pe_str (pg_c c__neighbours hgd hr (by first | decide | omega) (pa_cons (pe_fld (pv 0) rfl) (pa_cons pe_int (pa_cons pe_int pa_nil)))) (pps_cons pe_str (pg_c c__neighbours hgd hr (by first | decide | omega) (pa_cons (pe_fld (pv 0) rfl) (pa_cons pe_int (pa_cons (pe_un un_neg pe_int) pa_nil)))) (pps_cons pe_str (pg_c c__neighbours hgd hr (by first | decide | omega) (pa_cons (pe_fld (pv 0) rfl) (pa_cons pe_int (pa_cons pe_int pa_nil)))) pps_nil)))) (by rfl) (by rfl) (fun z => by cases z) (by decide)) rfl))))))))))), ?_⟩
    walk_at "rd"
    rcases h with ⟨t, ty, e, kE⟩ | ⟨a, xs, rfl, hxs, hel, kE, kQ⟩
    · exact ⟨v, M, rfl, .inl ⟨t, ty, e, kE⟩⟩
    refine ⟨.ref a, M, rfl, .inr ⟨a, xs, rfl, hxs, hel, kE, fun hf H1 s1 => ?_⟩⟩
    obtain ⟨rows, wd, rfl, R, hl⟩ := rows_of hf
    obtain ⟨kW, kK⟩ := kQ rows wd rfl R hl
    walk_at "rd"
    have sq : SqL K H1 a (rows.map V.str) ∨ SqT K H1 a (rows.map V.str) := hxs.imp (fun q => SqL.of (s1 _ _ q)) (fun q => SqT.of (s1 _ _ q))
    have hz : (Txt.join "" rows).length = rows.length * wd := join_len R
    have hs := sum_rows R.al
    have b5 := R.h5
    have b6 := R.w6
    have bn : rows.length * wd ≤ 5 * 6 := Nat.mul_le_mul b5 b6
    refine ⟨⟨_, rfl⟩, _, rfl, "", a, rows, rfl, rfl, sq, ?_, ?_⟩
    · rw [hs]
      show _ + rows.length * 0 ≤ _
      omega
    obtain ⟨z, ez⟩ : ∃ z, z = Txt.join "" rows := ⟨_, rfl⟩
    rw [← ez] at hz kW
    rw [← ez]
    walk_at "rd"
    refine ⟨by rw [hz]; exact Nat.le_of_lt (small1000 (by omega)), fun H2 s2 => ?_⟩
    refine ⟨_, rfl, ?_⟩
    cases hw : wholeZ z with
    | false => exact iteT ⟨1, rfl, _, rfl, fun d hd => kW hw H2 d (s1.trans s2) hd⟩
    | true =>
      refine iteF ?_
      walk_at "rd"
      have s02 := s1.trans s2
      have hx2 := s02 _ _ hx
      have hxs2 : H2 a = some (.lst (rows.map V.str)) ∨ H2 a = some (.tup (rows.map V.str)) := hxs.imp (fun q => s02 _ _ q) (fun q => s02 _ _ q)
      refine ⟨a, _, rfl, hxs2, fun t H3 s3 ht3 ht => ?_⟩
      have hx3 := s3 _ _ hx2
      have htx : t ≠ x := fun z => by rw [z, hx3] at ht3; cases ht3
      refine ⟨_, rfl, x, C, dx, _, rfl, hx3, cl, n_rows, (by refine Nat.lt_of_le_of_lt (m := 0) ?_ (by decide); exact Nat.le_refl _), ?_⟩
      have pl1 : (putF "rows" (.ref t) []).length ≤ 1 := Nat.le_trans (putF_len _ _ _) (Nat.succ_le_succ (Nat.le_refl _))
      have o4 : Off (fun b => b = x) H3 (upd H3 x (.ins C dx (putF "rows" (.ref t) []))) := Off.mut rfl
      have hx4 : upd H3 x (.ins C dx (putF "rows" (.ref t) [])) x = some (.ins C dx (putF "rows" (.ref t) [])) := upd_same
      generalize upd H3 x (.ins C dx (putF "rows" (.ref t) [])) = H4 at o4 hx4 ⊢
      have ht4 := o4 _ _ htx ht3
      walk_at "rd"
      refine ⟨x, C, dx, _, rfl, hx4, cl, n_cells, (by refine Nat.lt_of_le_of_lt (m := 1) ?_ (by decide); exact pl1), ?_⟩
      have pl2 : (putF "cells" (.str z) (putF "rows" (.ref t) [])).length ≤ 2 := Nat.le_trans (putF_len _ _ _) (Nat.succ_le_succ pl1)
      have o5 : Off (fun b => b = x) H4 (upd H4 x (.ins C dx (putF "cells" (.str z) (putF "rows" (.ref t) [])))) := Off.mut rfl
      have hx5 : upd H4 x (.ins C dx (putF "cells" (.str z) (putF "rows" (.ref t) []))) x = some (.ins C dx (putF "cells" (.str z) (putF "rows" (.ref t) []))) := upd_same
      generalize upd H4 x (.ins C dx (putF "cells" (.str z) (putF "rows" (.ref t) []))) = H5 at o5 hx5 ⊢
      have ht5 := o5 _ _ htx ht4
      refine ⟨_, rfl, ⟨_, rfl⟩, z, "@", rfl, rfl, ?_⟩
      walk_at "rd"
      refine ⟨x, C, dx, _, rfl, hx5, cl, n_entry, (by refine Nat.lt_of_le_of_lt (m := 2) ?_ (by decide); exact pl2), ?_⟩
      have pl3 : (putF "entry" (.int (Txt.find z "@")) (putF "cells" (.str z) (putF "rows" (.ref t) []))).length ≤ 3 := Nat.le_trans (putF_len _ _ _) (Nat.succ_le_succ pl2)
      have o6 : Off (fun b => b = x) H5 (upd H5 x (.ins C dx (putF "entry" (.int (Txt.find z "@")) (putF "cells" (.str z) (putF "rows" (.ref t) []))))) := Off.mut rfl
      have hx6 : upd H5 x (.ins C dx (putF "entry" (.int (Txt.find z "@")) (putF "cells" (.str z) (putF "rows" (.ref t) [])))) x = some (.ins C dx (putF "entry" (.int (Txt.find z "@")) (putF "cells" (.str z) (putF "rows" (.ref t) [])))) := upd_same
      generalize upd H5 x (.ins C dx (putF "entry" (.int (Txt.find z "@")) (putF "cells" (.str z) (putF "rows" (.ref t) [])))) = H6 at o6 hx6 ⊢
      have ht6 := o6 _ _ htx ht5
      walk_at "rd"
      refine ⟨z, "12", rfl, by decide +kernel, fun H7 s7 => ?_⟩
      have hx7 := s7 _ _ hx6
      have ht7 := s7 _ _ ht6
      walk_at "rd"
      refine ⟨x, C, dx, _, rfl, hx7, cl, n_mouths, (by refine Nat.lt_of_le_of_lt (m := 3) ?_ (by decide); exact pl3), ?_⟩
      have pl4 : (putF "mouths" (.int (manyZ z "12")) (putF "entry" (.int (Txt.find z "@")) (putF "cells" (.str z) (putF "rows" (.ref t) [])))).length ≤ 4 := Nat.le_trans (putF_len _ _ _) (Nat.succ_le_succ pl3)
      have o8 : Off (fun b => b = x) H7 (upd H7 x (.ins C dx (putF "mouths" (.int (manyZ z "12")) (putF "entry" (.int (Txt.find z "@")) (putF "cells" (.str z) (putF "rows" (.ref t) [])))))) := Off.mut rfl
      have hx8 : upd H7 x (.ins C dx (putF "mouths" (.int (manyZ z "12")) (putF "entry" (.int (Txt.find z "@")) (putF "cells" (.str z) (putF "rows" (.ref t) []))))) x = some (.ins C dx (putF "mouths" (.int (manyZ z "12")) (putF "entry" (.int (Txt.find z "@")) (putF "cells" (.str z) (putF "rows" (.ref t) []))))) := upd_same
      generalize upd H7 x (.ins C dx (putF "mouths" (.int (manyZ z "12")) (putF "entry" (.int (Txt.find z "@")) (putF "cells" (.str z) (putF "rows" (.ref t) []))))) = H8 at o8 hx8 ⊢
      have ht8 := o8 _ _ htx ht7
      walk_at "rd"
      refine ⟨z, 111, rfl, by rw [hz]; omega, fun ct H9 nct s9 hct9 => ?_⟩
      have hx9 := s9 _ _ hx8
      have ht9 := s9 _ _ ht8
      have hctx : ct ≠ x := fun y => by rw [y, hx8] at nct; cases nct
      walk_at "rd"
      refine ⟨x, C, dx, _, rfl, hx9, cl, n_crates, (by refine Nat.lt_of_le_of_lt (m := 4) ?_ (by decide); exact pl4), ?_⟩
      have pl5 : (putF "crates" (.ref ct) (putF "mouths" (.int (manyZ z "12")) (putF "entry" (.int (Txt.find z "@")) (putF "cells" (.str z) (putF "rows" (.ref t) []))))).length ≤ 5 := Nat.le_trans (putF_len _ _ _) (Nat.succ_le_succ pl4)
      have o10 : Off (fun b => b = x) H9 (upd H9 x (.ins C dx (putF "crates" (.ref ct) (putF "mouths" (.int (manyZ z "12")) (putF "entry" (.int (Txt.find z "@")) (putF "cells" (.str z) (putF "rows" (.ref t) []))))))) := Off.mut rfl
      have hx10 : upd H9 x (.ins C dx (putF "crates" (.ref ct) (putF "mouths" (.int (manyZ z "12")) (putF "entry" (.int (Txt.find z "@")) (putF "cells" (.str z) (putF "rows" (.ref t) [])))))) x = some (.ins C dx (putF "crates" (.ref ct) (putF "mouths" (.int (manyZ z "12")) (putF "entry" (.int (Txt.find z "@")) (putF "cells" (.str z) (putF "rows" (.ref t) [])))))) := upd_same
      generalize upd H9 x (.ins C dx (putF "crates" (.ref ct) (putF "mouths" (.int (manyZ z "12")) (putF "entry" (.int (Txt.find z "@")) (putF "cells" (.str z) (putF "rows" (.ref t) [])))))) = H10 at o10 hx10 ⊢
      have ht10 := o10 _ _ htx ht9
      have hct10 := o10 _ _ hctx hct9
      walk_at "rd"
      refine ⟨z, 112, rfl, by rw [hz]; omega, fun pt H11 npt s11 hpt11 => ?_⟩
      have hx11 := s11 _ _ hx10
      have ht11 := s11 _ _ ht10
      have hct11 := s11 _ _ hct10
      have hptx : pt ≠ x := fun y => by rw [y, hx10] at npt; cases npt
      walk_at "rd"
      refine ⟨x, C, dx, _, rfl, hx11, cl, n_plates, (by refine Nat.lt_of_le_of_lt (m := 5) ?_ (by decide); exact pl5), ?_⟩
      have pl6 : (putF "plates" (.ref pt) (putF "crates" (.ref ct) (putF "mouths" (.int (manyZ z "12")) (putF "entry" (.int (Txt.find z "@")) (putF "cells" (.str z) (putF "rows" (.ref t) [])))))).length ≤ 6 := Nat.le_trans (putF_len _ _ _) (Nat.succ_le_succ pl5)
      have o12 : Off (fun b => b = x) H11 (upd H11 x (.ins C dx (putF "plates" (.ref pt) (putF "crates" (.ref ct) (putF "mouths" (.int (manyZ z "12")) (putF "entry" (.int (Txt.find z "@")) (putF "cells" (.str z) (putF "rows" (.ref t) [])))))))) := Off.mut rfl
      have hx12 : upd H11 x (.ins C dx (putF "plates" (.ref pt) (putF "crates" (.ref ct) (putF "mouths" (.int (manyZ z "12")) (putF "entry" (.int (Txt.find z "@")) (putF "cells" (.str z) (putF "rows" (.ref t) []))))))) x = some (.ins C dx (putF "plates" (.ref pt) (putF "crates" (.ref ct) (putF "mouths" (.int (manyZ z "12")) (putF "entry" (.int (Txt.find z "@")) (putF "cells" (.str z) (putF "rows" (.ref t) []))))))) := upd_same
      generalize upd H11 x (.ins C dx (putF "plates" (.ref pt) (putF "crates" (.ref ct) (putF "mouths" (.int (manyZ z "12")) (putF "entry" (.int (Txt.find z "@")) (putF "cells" (.str z) (putF "rows" (.ref t) []))))))) = H12 at o12 hx12 ⊢
      have ht12 := o12 _ _ htx ht11
      have hct12 := o12 _ _ hctx hct11
      have hpt12 := o12 _ _ hptx hpt11
      have ef : (putF "plates" (.ref pt) (putF "crates" (.ref ct) (putF "mouths" (.int (manyZ z "12")) (putF "entry" (.int (Txt.find z "@")) (putF "cells" (.str z) (putF "rows" (.ref t) [])))))) = ([("rows", .ref t), ("cells", .str z), ("entry", .int (Txt.find z "@")), ("mouths", .int (manyZ z "12")), ("crates", .ref ct), ("plates", .ref pt)] : List (Str × V)) := putF6 _ _ _ _ _ _
      rw [ef] at hx12
      refine fun dn hdn => ?_
      have sA : Same H12 (upd H12 dn (.dK [])) := same_new hdn
      have hdnA : upd H12 dn (.dK []) dn = some (.dK []) := upd_same
      generalize upd H12 dn (.dK []) = HA at sA hdnA ⊢
      have dnx : dn ≠ x := fun y => by rw [y, hx12] at hdn; cases hdn
      have hxA := sA _ _ hx12
      have htA := sA _ _ ht12
      walk_at "rd"
      refine ⟨x, C, dx, _, _, rfl, hxA, cl, n_rows, rfl, ?_⟩
      walk_at "rd"
      refine ⟨t, rows, wd, (-1), (0), rfl, R, htA, by decide, by decide, by decide, by decide, fun nu HB nnu sB hnu => ?_⟩
      have hxB := sB _ _ hxA
      have htB := sB _ _ htA
      walk_at "rd"
      refine ⟨x, C, dx, _, _, rfl, hxB, cl, n_rows, rfl, ?_⟩
      walk_at "rd"
      refine ⟨t, rows, wd, (1), (0), rfl, R, htB, by decide, by decide, by decide, by decide, fun nd HC nnd sC hnd => ?_⟩
      have hxC := sC _ _ hxB
      have htC := sC _ _ htB
      walk_at "rd"
      refine ⟨x, C, dx, _, _, rfl, hxC, cl, n_rows, rfl, ?_⟩
      walk_at "rd"
      refine ⟨t, rows, wd, (0), (-1), rfl, R, htC, by decide, by decide, by decide, by decide, fun nl HD nnl sD hnl => ?_⟩
      have hxD := sD _ _ hxC
      have htD := sD _ _ htC
      walk_at "rd"
      refine ⟨x, C, dx, _, _, rfl, hxD, cl, n_rows, rfl, ?_⟩
      walk_at "rd"
      refine ⟨t, rows, wd, (0), (1), rfl, R, htD, by decide, by decide, by decide, by decide, fun nr HF nnr sF hnr => ?_⟩
      have hxF := sF _ _ hxD
      have htF := sF _ _ htD
      have sAF : Same HA HF := ((sB.trans sC).trans sD).trans sF
      have hdnF := sAF _ _ hdnA
      refine ⟨hdnF, [(.inr "u", .ref nu), (.inr "d", .ref nd), (.inr "l", .ref nl), (.inr "r", .ref nr)], rfl, by simp, ?_⟩
      have em : mergeK [] ([(.inr "u", .ref nu), (.inr "d", .ref nd), (.inr "l", .ref nl), (.inr "r", .ref nr)] : List (Key × V)) = [(.inr "u", .ref nu), (.inr "d", .ref nd), (.inr "l", .ref nl), (.inr "r", .ref nr)] := merge4 _ _ _ _
      rw [em]
      have ne : ∀ {b : Addr} {o : HO}, HF b = some o → (∀ q, o ≠ .dK q) → b ≠ dn := fun e q z => by rw [z, hdnF] at e; cases e; exact q _ rfl
      have hxG : upd HF dn (.dK [(.inr "u", .ref nu), (.inr "d", .ref nd), (.inr "l", .ref nl), (.inr "r", .ref nr)]) x = some (.ins C dx ([("rows", .ref t), ("cells", .str z), ("entry", .int (Txt.find z "@")), ("mouths", .int (manyZ z "12")), ("crates", .ref ct), ("plates", .ref pt)] : List (Str × V))) := by
        rw [upd_ne (Ne.symm dnx)]; exact hxF
      walk_at "rd"
      refine ⟨x, C, dx, _, rfl, hxG, cl, n_near, by simp, ?_⟩
      rw [putF7]
      have off : Off (fun b => b = x) H H12 := ((((((((Off.same (s02.trans s3)).trans o4).trans o5).trans o6).trans (Off.same s7)).trans o8).trans (Off.same s9)).trans o10).trans ((Off.same s11).trans o12)
      have fin : ∀ b ys, HF b = some (.tup ys) → upd (upd HF dn (.dK [(.inr "u", .ref nu), (.inr "d", .ref nd), (.inr "l", .ref nl), (.inr "r", .ref nr)])) x (.ins C dx [("rows", .ref t), ("cells", .str z), ("entry", .int (Txt.find z "@")), ("mouths", .int (manyZ z "12")), ("crates", .ref ct), ("plates", .ref pt), ("near", .ref dn)]) b = some (.tup ys) := fun b ys e => by
        have h1 : b ≠ x := fun y => by rw [y, hxF] at e; cases e
        have h2 : b ≠ dn := fun y => by rw [y, hdnF] at e; cases e
        rw [upd_ne h1, upd_ne h2]
        exact e
      have s1F : Same H12 HF := sA.trans sAF
      subst ez
      refine kK _ ⟨R, hl, hw, dx, t, ct, pt, dn, upd_same, fin _ _ (s1F _ _ ht12), fin _ _ (s1F _ _ hct12), fin _ _ (s1F _ _ hpt12), ⟨nu, nd, nl, nr, by rw [upd_ne dnx, upd_same], fin _ _ (((sC.trans sD).trans sF) _ _ hnu), fin _ _ ((sD.trans sF) _ _ hnd), fin _ _ (sF _ _ hnl), fin _ _ hnr⟩⟩ fun b o e hb => ?_
      have e12 := off b o hb e
      rw [upd_ne hb, upd_ne (ne_of_none e12 hdn)]
      exact s1F _ _ e12
end
theorem sc__law_mark : FnScope ["pool", "marks", "crates", "keys", "mark", "other"] ["pool", "marks", "crates", "keys"] (defScope s__law_mark) := ⟨rfl, rfl, rfl, by decide +kernel, rfl, by decide +kernel, by decide +kernel⟩
theorem sc__law_room_of : FnScope ["pool", "high", "wide", "mouths", "marks", "k", "free", "sign", "at", "mark"] ["pool", "high", "wide", "mouths"] (defScope s__law_room_of) := ⟨rfl, rfl, rfl, by decide +kernel, rfl, by decide +kernel, by decide +kernel⟩
theorem sc__law_small : FnScope ["pool", "mouths", "shapes", "high", "wide"] ["pool", "mouths"] (defScope s__law_small) := ⟨rfl, rfl, rfl, by decide +kernel, rfl, by decide +kernel, by decide +kernel⟩
theorem sc__law_room_drawn : FnScope ["pool", "mouths", "shapes", "high", "wide"] ["pool", "mouths"] (defScope s__law_room_drawn) := ⟨rfl, rfl, rfl, by decide +kernel, rfl, by decide +kernel, by decide +kernel⟩
theorem sc__law_tree : FnScope ["pool", "most", "is_small", "mouths", "children", "left", "k", "share", "child"] ["pool", "most", "is_small"] (defScope s__law_tree) := ⟨rfl, rfl, rfl, by decide +kernel, rfl, by decide +kernel, by decide +kernel⟩
theorem sc__law_level_drawn : FnScope ["pool", "most"] ["pool", "most"] (defScope s__law_level_drawn) := ⟨rfl, rfl, rfl, by decide +kernel, rfl, by decide +kernel, by decide +kernel⟩
theorem sc__law_level : FnScope ["level", "child"] ["level"] (defScope s__law_level) := ⟨rfl, rfl, rfl, by decide +kernel, rfl, by decide +kernel, by decide +kernel⟩
section
variable {P : Program} {w : World} {K : PySem.W.Frag} {mg : Str → Option Value} {base : Heap} {C CB fB : Addr}
/-- cells with free places ms, each a '.' -/
structure Cells (n : Nat) (cs : List Nat) (ms : List Int) : Prop where
  len : cs.length = n
  free : ∀ m ∈ ms, ∃ j : Nat, m = (j : Int) ∧ cs[j]? = some 46
  nd : ms.Nodup
  inM : ∀ c ∈ cs, c ∈ marksS.cps.toList
theorem Cells.lt {n : Nat} {cs : List Nat} {ms : List Int} (h : Cells n cs ms) {j : Nat} (e : cs[j]? = some 46) : j < n := by
  have := (List.getElem?_eq_some_iff.mp e).1
  rw [h.len] at this
  exact this
theorem Cells.drop {n : Nat} {cs : List Nat} {ms ms' : List Int} {m : Int} (h : Cells n cs ms) (pm : ms.Perm (m :: ms')) : Cells n cs ms' where
  len := h.len
  nd := ((pm.nodup_iff).mp h.nd).tail
  free := fun x hx => h.free x (pm.mem_iff.mpr (List.mem_cons_of_mem _ hx))
  inM := h.inM
def cellV (c : Nat) : V := .str ⟨#[c]⟩
theorem join_cells (cs : List Nat) : (Txt.join "" (cs.map fun c => (⟨#[c]⟩ : Str))).cps.toList = cs := by
  rw [join_cps, List.map_map]
  induction cs with
  | nil => rfl
  | cons a r ih => rw [List.map_cons, List.flatten_cons, ih]; rfl
theorem same_str (x y : Str) : Spec.same (.str x) (.str y) = decide (x = y) := by
  unfold Spec.same
  rfl
theorem count_nat (x : Str) (c : Nat) : Txt.count x ⟨#[c]⟩ = ((x.cps.toList.count c : Nat) : Int) := by
  rw [PyProof.Rows.count_is]
  generalize x.cps.toList = l
  induction l with
  | nil => rfl
  | cons a r ih =>
    rw [List.map_cons, List.count_cons]
    unfold Spec.countIn
    rw [ih, same_str]
    by_cases h : a = c
    · subst h; simp; omega
    · have : ¬ ((⟨#[a]⟩ : Str) = ⟨#[c]⟩) := fun z => h (by injection z with z; simpa using z)
      simp [h, this]
theorem set_mapC (cs : List Nat) (j c : Nat) : (cs.map cellV).set j (cellV c) = (cs.set j c).map cellV := by
  rw [List.map_set]
def kindOf (c : Nat) : Int := if c = 111 then 0 else if c ∈ [97, 98, 65, 66] then 1 else 2
theorem flat_cells (cs : List Nat) : (cs.map cellV).all flatV = true := by
  rw [List.all_map, List.all_eq_true]
  intro c _
  rfl
theorem chunks (w : Nat) : ∀ (h : Nat) (cs : List Nat), cs.length = h * w → ((List.range h).map fun k => (cs.drop (w * k)).take w).flatten = cs
  | 0, cs, e => by
    have : cs = [] := List.eq_nil_of_length_eq_zero (by simpa using e)
    rw [this]; rfl
  | h + 1, cs, e => by
    have ih := chunks w h (cs.drop w) (by rw [List.length_drop, e, Nat.succ_mul]; omega)
    rw [List.range_succ_eq_map, List.map_cons, List.flatten_cons, List.map_map]
    have e2 : ((fun k => (cs.drop (w * k)).take w) ∘ Nat.succ) = fun k => ((cs.drop w).drop (w * k)).take w := by
      funext k
      simp [List.drop_drop, Nat.mul_succ, Nat.add_comm]
    rw [e2, ih, Nat.mul_zero, List.drop_zero, List.take_append_drop]
theorem manyZ_keys (z : Str) : manyZ z "abAB" = Txt.count z "a" + Txt.count z "b" + Txt.count z "A" + Txt.count z "B" := by
  have e : ("abAB" : Str).cps.toList = [97, 98, 65, 66] := by decide +kernel
  have ea : ("a" : Str) = ⟨#[97]⟩ := by decide +kernel
  have eb : ("b" : Str) = ⟨#[98]⟩ := by decide +kernel
  have eA : ("A" : Str) = ⟨#[65]⟩ := by decide +kernel
  have eB : ("B" : Str) = ⟨#[66]⟩ := by decide +kernel
  unfold manyZ
  rw [e, ea, eb, eA, eB]
  simp
  omega
theorem cnts (z : Str) : Txt.count z "@" = (z.cps.toList.count 64 : Nat) ∧ Txt.count z "*" = (z.cps.toList.count 42 : Nat) ∧ Txt.count z "1" = (z.cps.toList.count 49 : Nat) ∧ Txt.count z "2" = (z.cps.toList.count 50 : Nat) ∧ Txt.count z "o" = (z.cps.toList.count 111 : Nat) ∧
    Txt.count z "a" = (z.cps.toList.count 97 : Nat) ∧ Txt.count z "b" = (z.cps.toList.count 98 : Nat) ∧ Txt.count z "A" = (z.cps.toList.count 65 : Nat) ∧ Txt.count z "B" = (z.cps.toList.count 66 : Nat) := by
  refine ⟨?_, ?_, ?_, ?_, ?_, ?_, ?_, ?_, ?_⟩
  · rw [← count_nat]; congr 1
  · rw [← count_nat]; congr 1
  · rw [← count_nat]; congr 1
  · rw [← count_nat]; congr 1
  · rw [← count_nat]; congr 1
  · rw [← count_nat]; congr 1
  · rw [← count_nat]; congr 1
  · rw [← count_nat]; congr 1
  · rw [← count_nat]; congr 1
/-- the same, told by numbers -/
theorem wholeZ_iff (z : Str) : wholeZ z = true ↔ (z.length ≤ 24 ∧ z.cps.toList.count 64 = 1) ∧ (z.cps.toList.count 42 ≤ 1 ∧ z.cps.toList.count 49 ≤ 1 ∧ z.cps.toList.count 50 ≤ z.cps.toList.count 49) ∧ z.cps.toList.count 111 ≤ 3 ∧
    z.cps.toList.count 97 + z.cps.toList.count 98 + z.cps.toList.count 65 + z.cps.toList.count 66 ≤ 4 := by
  obtain ⟨a1, a2, a3, a4, a5, a6, a7, a8, a9⟩ := cnts z
  unfold wholeZ
  rw [manyZ_keys, a1, a2, a3, a4, a5, a6, a7, a8, a9]
  have m50 : 50 ∈ z.cps.toList ↔ 0 < z.cps.toList.count 50 := List.count_pos_iff.symm
  have m49 : 49 ∈ z.cps.toList ↔ 0 < z.cps.toList.count 49 := List.count_pos_iff.symm
  simp only [Bool.and_eq_true, Bool.not_eq_true', Bool.or_eq_false_iff, decide_eq_true_eq, decide_eq_false_iff_not, Bool.not_eq_false', Bool.and_eq_false_iff, m50, m49]
  omega
theorem lineS_of {r : Str} (h1 : 1 ≤ r.length) (h6 : r.length ≤ 6) (h : ∀ c ∈ r.cps.toList, c ∈ marksS.cps.toList) : lineS r = true := by
  have a1 : decide (1 ≤ r.length) = true := by simpa using h1
  have a2 : decide (r.length ≤ 6) = true := by simpa using h6
  have a3 : (r.cps.toList.all fun c => decide (c ∈ marksS.cps.toList)) = true := by
    rw [List.all_eq_true]
    exact fun c hc => by simpa using h c hc
  unfold lineS
  rw [a1, a2, a3]; rfl
end
end K16
end
section
set_option Elab.async false
set_option linter.all false
set_option maxRecDepth 100000
set_option maxHeartbeats 2000000
namespace K16
open PySem L2
local macro_rules | `(tactic| walk_at "hp") => `(tactic| first | assumption | exact upd_same | (refine (upd_ne (by first | assumption | (apply Ne.symm; assumption))).trans ?_; walk_at "hp"))
local macro_rules | `(tactic| walk_at "rd1") => `(tactic| first
  | (refine ⟨_, rfl, ?_⟩)
  | (refine ⟨_, _, rfl, rfl, ?_⟩)
  | (refine ⟨(rfl : scal _ _ = true), ?_⟩)
  | (refine And.intro (by show (0 : Int) < _; decide) ?_)
  | (refine And.intro (And.intro (by decide) (by decide)) ?_)
  | (refine And.intro (Or.inr (And.intro (by decide) (by decide))) ?_)
  | (refine And.intro (And.intro (by decide) (And.intro (by decide) (by decide))) ?_)
  | (refine And.intro (by assumption) ?_)
  | (refine And.intro (And.intro (by omega) (by omega)) ?_)
  | (refine And.intro (Or.inl (And.intro (by omega) (by omega))) ?_)
  | (refine' ⟨_, _, _, _, rfl, rfl, Or.inl (Or.inl ?h1), ?h2, ?h3⟩; (case h1 => walk_at "hp"); (case h2 => rfl))
  | (refine' ⟨_, _, _, _, rfl, rfl, ?h1, ?h2, ?h3⟩; (case h1 => walk_at "hp"); (case h2 => rfl))
  | (refine' ⟨_, _, rfl, Or.inl (Or.inl (Or.inl ?h1)), ?h3⟩; (case h1 => walk_at "hp"))
  | (refine Or.inl ⟨_, rfl, ?_⟩))
local macro_rules | `(tactic| walk_at "rd") => `(tactic| repeat walk_at "rd1")
def alph : List Nat := [46, 35, 42, 97, 65, 98, 66, 111, 120, 112, 103, 94, 118, 60, 62]
def keyC (cs : List Nat) : Nat := cs.count 97 + cs.count 98 + cs.count 65 + cs.count 66
theorem count_set' {c x : Nat} : ∀ {cs : List Nat} {j : Nat} (hj : j < cs.length), (cs.set j c).count x + (if cs[j] = x then 1 else 0) = cs.count x + (if c = x then 1 else 0)
  | y :: r, 0, _ => by
    simp only [List.set_cons_zero, List.count_cons, List.getElem_cons_zero, beq_iff_eq]
    omega
  | y :: r, j + 1, h => by
    have ih := count_set' (c := c) (x := x) (cs := r) (j := j) (by simpa using h)
    simp only [List.set_cons_succ, List.count_cons, List.getElem_cons_succ, beq_iff_eq]
    omega
theorem sgn {m c : Nat} {z : Str} (hz : z = ⟨#[c]⟩) : (decide (V.str ⟨#[m]⟩ = V.str z) = true) ↔ m = c := by
  subst hz
  constructor
  · intro h
    have h := of_decide_eq_true h
    simpa using h
  · rintro rfl
    simp
structure Mk (cr ke : Nat) (cs : List Nat) : Prop where
  al : ∀ c ∈ cs, c ∈ alph
  c42 : cs.count 42 ≤ 1
  c111 : cs.count 111 ≤ cr
  key : keyC cs ≤ ke
/-- a mark that may follow -/
def NextOk (cr ke : Nat) (cs : List Nat) (c : Nat) : Prop := c ∈ alph ∧ (c = 42 → 42 ∉ cs) ∧ (c = 111 → cs.count 111 < cr) ∧ (c ∈ [97, 98, 65, 66] → keyC cs < ke)
theorem Mk.snoc {cr ke : Nat} {cs : List Nat} {c : Nat} (h : Mk cr ke cs) (n : NextOk cr ke cs c) : Mk cr ke (cs ++ [c]) where
  al := fun x hx => by
    rcases List.mem_append.mp hx with z | z
    · exact h.al x z
    · rw [List.mem_singleton.mp z]; exact n.1
  c42 := by
    rw [List.count_append]
    have := h.c42
    by_cases e : c = 42
    · have := List.count_eq_zero.mpr (n.2.1 e)
      simp [e]; omega
    · simp [e]; omega
  c111 := by
    rw [List.count_append]
    have := h.c111
    by_cases e : c = 111
    · have := n.2.2.1 e
      simp [e]; omega
    · simp [e]; omega
  key := by
    have hk := h.key
    unfold keyC at hk ⊢
    have hn := n.2.2.2
    unfold keyC at hn
    simp only [List.count_append, List.count_singleton, beq_iff_eq]
    by_cases e : c ∈ [97, 98, 65, 66]
    · have := hn e
      simp only [List.mem_cons, List.not_mem_nil, or_false] at e
      rcases e with rfl | rfl | rfl | rfl <;> simp <;> omega
    · simp only [List.mem_cons, List.not_mem_nil, or_false, not_or] at e
      simp [e]; omega
theorem eqV_cell (c m : Nat) {z : Str} (hz : z = ⟨#[m]⟩) : eqV (cellV c) (.str z) = decide (c = m) := by
  subst hz
  show eqV (.str ⟨#[c]⟩) (.str ⟨#[m]⟩) = _
  have : eqV (.str (⟨#[c]⟩ : Str)) (.str ⟨#[m]⟩) = Spec.same (.str (⟨#[c]⟩ : Str)) (.str ⟨#[m]⟩) := rfl
  rw [this, same_str]
  exact decide_eq_decide.mpr ⟨fun h => by simpa using h, fun h => by rw [h]⟩
theorem countP_cells (cs : List Nat) (m : Nat) {z : Str} (hz : z = ⟨#[m]⟩) : ((cs.map cellV).countP fun v => eqV v (.str z)) = cs.count m := by
  induction cs with
  | nil => rfl
  | cons c r ih =>
    rw [List.map_cons, List.countP_cons, ih, List.count_cons, eqV_cell c m hz]
    simp
theorem inV_cells (cs : List Nat) (m : Nat) {z : Str} (hz : z = ⟨#[m]⟩) : inV (.str z) (cs.map cellV) = decide (m ∈ cs) := by
  unfold inV
  induction cs with
  | nil => rfl
  | cons c r ih =>
    rw [List.map_cons, List.any_cons, ih, eqV_cell c m hz]
    by_cases e : c = m
    · simp [e]
    · have : ¬ m = c := fun z => e z.symm
      simp [e, this]
def isK (c : Nat) : Bool := decide (c ∈ ("abAB" : Str).cps.toList)
theorem isK_eq (c : Nat) : isK c = decide (c ∈ [97, 98, 65, 66]) := by
  have : ("abAB" : Str).cps.toList = [97, 98, 65, 66] := by decide +kernel
  unfold isK
  rw [this]
theorem keys_len (cs : List Nat) : (cs.filter isK).length = keyC cs := by
  unfold keyC
  induction cs with
  | nil => rfl
  | cons c r ih =>
    simp only [List.filter_cons, List.count_cons, beq_iff_eq]
    rw [isK_eq]
    by_cases e : c ∈ [97, 98, 65, 66]
    · rw [if_pos (by simpa using e), List.length_cons, ih]
      simp only [List.mem_cons, List.not_mem_nil, or_false] at e
      rcases e with rfl | rfl | rfl | rfl <;> simp <;> omega
    · rw [if_neg (by simpa using e), ih]
      simp only [List.mem_cons, List.not_mem_nil, or_false, not_or] at e
      simp [e]
theorem take_flt {α : Type} (f : α → Bool) {ps : List α} {i : Nat} (hi : i < ps.length) : (ps.take (i + 1)).filter f = if f ps[i] = true then (ps.take i).filter f ++ [ps[i]] else (ps.take i).filter f := by
  rw [List.take_add_one, List.getElem?_eq_getElem hi, List.filter_append]
  by_cases h : f ps[i] = true <;> simp [h]
theorem sz {n : Nat} (h : n ≤ 1000) : n < sizeLine := by rw [sizeLine_eq]; omega
section
variable {P : Program} {w : World} {K : PySem.W.Frag} {mg : Str → Option Value} {base : Heap}
/-- a thing of a list or a sign of a text is picked -/
def spPk (K : PySem.W.Frag) : Sp := fun vs H Q _ => ∃ (p : Addr) (v : V), vs = [.ref p, v] ∧ PoolAt H p ∧
  ((∃ a xs, v = .ref a ∧ H a = some (.lst xs) ∧ a ≠ p ∧ 0 < xs.length ∧ xs.length < 1000000 ∧ ∀ x H', x ∈ xs → Off (fun b => b = p) H H' → PoolK H H' p → Q x H') ∨
   (∃ z : Str, v = .str z ∧ 0 < z.length ∧ z.length < 1000000 ∧ ∀ c H', c ∈ z.cps.toList → Off (fun b => b = p) H H' → PoolK H H' p → Q (.str ⟨#[c]⟩) H'))
theorem ok_pk {f : Addr} {fd : FuncData} (F : Fun K "_law_pick" "_law_pick" s__law_pick f fd) (T : Blt mg) (c__law_draw : CalG P w K mg base 1 "_law_draw" (spDraw K)) : FnG P w K mg base (CXe P w) 2 f fd ["pool", "items"] (spPk K) := by
  refine F.okG sc__law_pick (fun vs H Q E h => ?_) (fun cdv A outer s H vs Q E hgd hr h => ?_)
  · obtain ⟨p, v, rfl, _⟩ := h; rfl
  · obtain ⟨p, v, rfl, hp, h⟩ := h
    refine ⟨_, (pss_one (ps_ret (pe_ix ix_seq (pv 1) (pg_c c__law_draw hgd hr (by first | decide | omega) (pa_cons (pv 0) (pa_cons (pe_callB (call_or call_len_seq call_len_str) (by rfl) T.n_len (by decide +kernel) (pa_cons (pv 1) pa_nil)) pa_nil))) (fun _ _ => rfl)))), ?_⟩
    rcases h with ⟨a, xs, rfl, ha, hap, h0, h1, k⟩ | ⟨z, rfl, h0, h1, k⟩
    · refine ⟨_, rfl, _, rfl, _, rfl, .inl ⟨a, xs, rfl, .inl (SqL.of ha), p, xs.length, rfl, hp, by omega, by omega, fun r H' r0 r1 off hp' => ?_⟩⟩
      obtain ⟨j, rfl⟩ := Int.eq_ofNat_of_zero_le r0
      have hj : j < xs.length := by omega
      exact .inl ⟨a, xs, j, xs[j], rfl, rfl, SqL.of (off _ _ hap ha), atI_nat (List.getElem?_eq_getElem hj), k _ _ (List.getElem_mem hj) off hp'⟩
    · have hzl : z.length ≤ sizeLine := by rw [sizeLine_eq]; omega
      refine ⟨_, rfl, _, rfl, _, rfl, .inr ⟨z, rfl, hzl, p, z.length, rfl, hp, by omega, by omega, fun r H' r0 r1 off hp' => ?_⟩⟩
      obtain ⟨j, rfl⟩ := Int.eq_ofNat_of_zero_le r0
      have hj : j < z.cps.toList.length := by rw [Array.length_toList]; have : z.length = z.cps.size := rfl; omega
      exact .inr (.inr ⟨z, j, z.cps.toList[j], rfl, rfl, hzl, atI_nat (List.getElem?_eq_getElem hj), k _ _ (List.getElem_mem hj) off hp'⟩)
def spMark (K : PySem.W.Frag) : Sp := fun vs H Q _ => ∃ (p M : Addr) (cs : List Nat) (cr ke : Nat), vs = [.ref p, .ref M, .int cr, .int ke] ∧ PoolAt H p ∧ M ≠ p ∧ H M = some (.lst (cs.map cellV)) ∧ cs.length ≤ 24 ∧
  ∀ c H', NextOk cr ke cs c → Off (fun b => b = p) H H' → PoolK H H' p → Q (cellV c) H'
theorem ok_mark {f : Addr} {fd : FuncData} (F : Fun K "_law_mark" "_law_mark" s__law_mark f fd) (T : Rb mg) (c__law_pick : CalG P w K mg base 2 "_law_pick" (spPk K)) : FnG P w K mg base (CXe P w) 3 f fd ["pool", "marks", "crates", "keys"] (spMark K) := by
  refine F.okG sc__law_mark (fun vs H Q E h => ?_) (fun cdv A outer s H vs Q E hgd hr h => ?_)
  · obtain ⟨p, M, cs, cr, ke, rfl, _⟩ := h; rfl
  · obtain ⟨p, M, cs, cr, ke, rfl, hp, hMp, hM, hl, k⟩ := h
    refine ⟨_, (pss_cons (ps_set (i := 4) sc__law_mark.nd rfl (Or.inl rfl) (pg_c c__law_pick hgd hr (by first | decide | omega) (pa_cons (pv 0) (pa_cons pe_str pa_nil))))
      (C8.pss_cut (ps_if (PW.pt (pw_and (pt_cmpR op_eq (pv 4) pe_str (nomark _)) (pw_and1 (pt_cmpR op_in_seq pe_str (pv 1) (by rfl))))) (pss_one (ps_ret pe_str)) pss_nil)
      (C8.pss_cut (ps_if (PW.pt (pw_and (pt_cmpR op_eq (pv 4) pe_str (nomark _)) (pw_and1 (pt_cmpR op_ge (pe_bm PySem.F.plainAttrs_list PySem.F.slot_list_count PySem.F.type_list_count mt_lcountF (pv 1) (pa_cons pe_str pa_nil)) (pv 2) (nomark _))))) (pss_one (ps_ret pe_str)) pss_nil)
      (pss_cons (ps_if (PW.pt (pw_and (pt_cmpR op_in_sign (pv 4) pe_str (by rfl)) (pw_and1 (pt_cmpR op_ge (pe_callB call_len_seq (by rfl) T.n_len (by decide +kernel) (pa_cons (pe_lc (own := [("other", 5)]) (g := gName 5) rfl sc__law_mark.nd (pi_list (pv 1)) (blkOk_by (own := [("other", 5)]) (N := ["pool", "marks", "crates", "keys", "mark", "other"]) (sc := defScope s__law_mark) (by decide +kernel)) (fun _ _ _ _ _ => pg_name (i := 5) sc__law_mark.nd rfl (Or.inl rfl)) (fun _ _ _ _ _ => pts_one (pt_cmpR op_in_sign (pv 5) pe_str (by rfl))) (fun _ _ _ _ _ => (pv 5))) pa_nil)) (pv 3) (nomark _))))) (pss_one (ps_ret pe_str)) pss_nil)
      (pss_one (ps_ret (pv 4))))))), ?_⟩
    have ez : ("........##***aaAAbBooxxppgg^v<>" : Str).cps.toList = [46, 46, 46, 46, 46, 46, 46, 46, 35, 35, 42, 42, 42, 97, 97, 65, 65, 98, 66, 111, 111, 120, 120, 112, 112, 103, 103, 94, 118, 60, 62] := by decide +kernel
    refine ⟨_, rfl, p, .str "........##***aaAAbBooxxppgg^v<>", rfl, hp, .inr ⟨_, rfl, by decide +kernel, by decide +kernel, fun c H1 hc o1 hp1 => ?_⟩⟩
    have hca : c ∈ alph := by
      rw [ez] at hc
      revert hc
      unfold alph
      simp only [List.mem_cons, List.not_mem_nil, or_false]
      omega
    have hM1 := o1 _ _ hMp hM
    have dot : ∀ H', Off (fun b => b = p) H H' → PoolK H H' p → Q (.str ".") H' := fun H' o hp' => by
      have e : (V.str ".") = cellV 46 := by have : ("." : Str) = ⟨#[46]⟩ := by decide +kernel
                                            rw [this]; rfl
      rw [e]
      exact k 46 H' ⟨by decide, (fun z => by cases z), (fun z => by cases z), (fun z => absurd z (by decide))⟩ o hp'
    have fl : (cs.map cellV).all flatV = true := flat_cells cs
    have s42 : ("*" : Str) = ⟨#[42]⟩ := by decide +kernel
    have s111 : ("o" : Str) = ⟨#[111]⟩ := by decide +kernel
    refine ⟨fun σ' H' => σ' = [some (.ref p), some (.ref M), some (.int cr), some (.int ke), some (.str ⟨#[c]⟩), none] ∧ H' = H1 ∧ (c = 42 → 42 ∉ cs), ?_, ?_⟩
    · refine ⟨_, rfl, (rfl : scal _ _ = true), _, rfl, ?_⟩
      by_cases e : c = 42
      case neg => exact iteF' (fun z => e ((sgn s42).mp z)) (iteF ⟨rfl, rfl, fun z => absurd z e⟩)
      refine iteT' ((sgn s42).mpr e) ?_
      refine ⟨_, rfl, M, _, rfl, .inl (SqL.of hM1), rfl, fl, _, rfl, ?_⟩
      have ev := inV_cells cs 42 s42
      by_cases hm : 42 ∈ cs
      · exact iteT' (ev.trans (decide_eq_true hm)) (dot _ o1 hp1)
      · exact iteF' (fun z => by have := ev.symm.trans z; simp [hm] at this) ⟨rfl, rfl, fun _ => hm⟩
    rintro σ' H2 ⟨rfl, rfl, n42⟩
    refine ⟨fun σ' H' => σ' = [some (.ref p), some (.ref M), some (.int cr), some (.int ke), some (.str ⟨#[c]⟩), none] ∧ H' = H2 ∧ (c = 111 → cs.count 111 < cr), ?_, ?_⟩
    · refine ⟨_, rfl, (rfl : scal _ _ = true), _, rfl, ?_⟩
      by_cases e : c = 111
      case neg => exact iteF' (fun z => e ((sgn s111).mp z)) (iteF ⟨rfl, rfl, fun z => absurd z e⟩)
      refine iteT' ((sgn s111).mpr e) ?_
      refine ⟨_, rfl, .inl ⟨rfl, _, SqL.of hM1⟩, M, _, _, rfl, rfl, SqL.of hM1, rfl, fl, _, rfl, _, _, rfl, rfl, _, rfl, ?_⟩
      rw [countP_cells cs 111 s111]
      by_cases hm : cs.count 111 < cr
      · exact iteF' (by simp; omega) ⟨rfl, rfl, fun _ => hm⟩
      · exact iteT' (decide_eq_true (by omega)) (dot _ o1 hp1)
    rintro σ' H3 ⟨rfl, rfl, n111⟩
    have last : (c ∈ [97, 98, 65, 66] → keyC cs < ke) → ∀ H', Off (fun b => b = p) H H' → PoolK H H' p → Q (.str ⟨#[c]⟩) H' := fun q H' o hp' => k c H' ⟨hca, n42, n111, q⟩ o hp'
    refine ⟨_, rfl, c, "abAB", rfl, rfl, _, rfl, ?_⟩
    have ek := isK_eq c
    unfold isK at ek
    by_cases e : c ∈ [97, 98, 65, 66]
    case neg => exact iteF' (fun z => by have := ek.symm.trans z; simp only [decide_eq_true_eq] at this; exact e this) (iteF ⟨_, rfl, last (fun z => absurd z e) _ o1 hp1⟩)
    refine iteT' (ek.trans (decide_eq_true e)) ?_
    refine ⟨_, rfl, M, rfl, ⟨_, SqL.of hM1⟩, fun D hD => lc_it (walk_list (xs := cs.map cellV)) (fun i H' => H' D = some (.lst (((cs.take i).filter isK).map cellV)) ∧ Off (fun b => b = D) H3 H') ⟨upd_same, Off.new hD⟩ (fun i H' _ z => SqL.of (z.2 _ _ (ne_of_none hM1 hD) hM1)) ?_ ?_⟩
    · rintro i y Ha Hb hi ⟨hacc, off⟩ ⟨rfl, hy⟩
      rw [List.length_map] at hi
      rw [List.getElem?_map, List.getElem?_eq_getElem hi] at hy
      cases Option.some.inj hy
      rw [take_flt _ hi]
      refine And.intro rfl ?_
      refine ⟨_, rfl, cs[i], "abAB", rfl, rfl, _, rfl, ?_⟩
      by_cases hk : isK cs[i] = true
      · rw [if_pos hk]
        refine iteT' hk ⟨_, rfl, _, hacc, sz ?_, ?_, off.trans (Off.mut rfl)⟩
        · rw [List.length_map]
          exact Nat.le_trans (List.length_filter_le ..) (Nat.le_trans (List.length_take_le' ..) (by omega))
        · rw [upd_same, List.map_append]; rfl
      · rw [if_neg hk]
        exact iteF' hk ⟨hacc, off⟩
    rintro H4 ⟨hacc, off⟩
    rw [List.length_map, List.take_length] at hacc
    have s4 : Same H3 H4 := fun b o e => off b o (ne_of_none e hD) e
    refine ⟨D, _, rfl, .inl (SqL.of hacc), _, rfl, _, _, rfl, rfl, _, rfl, ?_⟩
    rw [List.length_map, keys_len]
    have o4 := o1.trans (Off.same s4)
    have hp4 : PoolK H H4 p := hp1.same s4
    by_cases hm : keyC cs < ke
    · exact iteF' (by simp; omega) ⟨_, rfl, last (fun _ => hm) _ o4 hp4⟩
    · exact iteT' (decide_eq_true (by omega)) (dot _ o4 hp4)
end
theorem eraseIdx_mapV (ns : List Int) (k : Nat) : (ns.map V.int).eraseIdx k = (ns.eraseIdx k).map V.int := by
  induction ns generalizing k with
  | nil => rfl
  | cons x r ih => cases k with
    | zero => rfl
    | succ k => simp [List.eraseIdx, ih]
theorem getElem_eraseIdx : ∀ {ns : List Int} {k : Nat} (h : k < ns.length), (ns[k] :: ns.eraseIdx k).Perm ns
  | x :: r, 0, _ => .refl _
  | x :: r, k + 1, h => by
    show (r[k]'(by simpa using h) :: x :: r.eraseIdx k).Perm (x :: r)
    exact (List.Perm.swap x _ _).trans (List.Perm.cons x (getElem_eraseIdx (by simpa using h)))
def marksL : List Nat := [35, 46, 94, 118, 60, 62, 97, 98, 65, 66, 111, 120, 112, 103, 42, 64, 49, 50]
theorem marksL_is : marksS.cps.toList = marksL := by decide +kernel
theorem alph_marks : ∀ c ∈ alph, c ∈ marksL := by decide
/-- cells under way: i signs are placed, fr are the places that are free -/
structure Laid (n i : Nat) (cs : List Nat) (fr : List Int) : Prop where
  len : cs.length = n
  al : ∀ c ∈ cs, c ∈ marksL
  free : ∀ x ∈ fr, ∃ j : Nat, x = (j : Int) ∧ ∃ h : j < cs.length, cs[j] ∈ alph
  nd : fr.Nodup
  fl : fr.length + i = n
  c64 : cs.count 64 = if 1 ≤ i then 1 else 0
  c49 : cs.count 49 = if 2 ≤ i then 1 else 0
  c50 : cs.count 50 = if 3 ≤ i then 1 else 0
  c42 : cs.count 42 ≤ 1
  c111 : cs.count 111 ≤ 2
  key : keyC cs ≤ 3
theorem mem_set' {cs : List Nat} {j c x : Nat} (h : x ∈ cs.set j c) : x ∈ cs ∨ x = c := List.mem_or_eq_of_mem_set h
theorem set_key {cs : List Nat} {j c : Nat} (hj : j < cs.length) (hc : c ∉ [97, 98, 65, 66]) : keyC (cs.set j c) ≤ keyC cs := by
  simp only [List.mem_cons, List.not_mem_nil, or_false, not_or] at hc
  obtain ⟨n1, n2, n3, n4⟩ := hc
  have e1 := count_set' (c := c) (x := 97) hj
  have e2 := count_set' (c := c) (x := 98) hj
  have e3 := count_set' (c := c) (x := 65) hj
  have e4 := count_set' (c := c) (x := 66) hj
  rw [if_neg n1] at e1
  rw [if_neg n2] at e2
  rw [if_neg n3] at e3
  rw [if_neg n4] at e4
  unfold keyC
  omega
theorem set_le {cs : List Nat} {j c x : Nat} (hj : j < cs.length) (hc : c ≠ x) : (cs.set j c).count x ≤ cs.count x := by
  have e := count_set' (c := c) (x := x) hj
  rw [if_neg hc] at e
  omega
theorem set_eq' {cs : List Nat} {j c x : Nat} (hj : j < cs.length) (ha : cs[j] ∈ alph) (hx : x ∉ alph) : (cs.set j c).count x = cs.count x + (if c = x then 1 else 0) := by
  have e := count_set' (c := c) (x := x) hj
  have hn : ¬ cs[j] = x := fun z => hx (by rw [← z]; exact ha)
  rw [if_neg hn] at e
  omega
def signI : Nat → Nat
  | 0 => 64
  | 1 => 49
  | _ => 50
theorem Laid.put {n i r : Nat} {cs : List Nat} {fr : List Int} {j : Nat} (h : Laid n i cs fr) (hi : i < 3) (hr : r < fr.length) (ej : fr[r] = (j : Int)) (hj : j < cs.length) (ha : cs[j] ∈ alph) : Laid n (i + 1) (cs.set j (signI i)) (fr.eraseIdx r) := by
  have hs : signI i = 64 ∨ signI i = 49 ∨ signI i = 50 := by
    match i, hi with
    | 0, _ => exact .inl rfl
    | 1, _ => exact .inr (.inl rfl)
    | 2, _ => exact .inr (.inr rfl)
  have n64 : (64 : Nat) ∉ alph := by decide
  have n49 : (49 : Nat) ∉ alph := by decide
  have n50 : (50 : Nat) ∉ alph := by decide
  have e64 := set_eq' (c := signI i) hj ha n64
  have e49 := set_eq' (c := signI i) hj ha n49
  have e50 := set_eq' (c := signI i) hj ha n50
  have c64 := h.c64
  have c49 := h.c49
  have c50 := h.c50
  refine ⟨by rw [List.length_set]; exact h.len, fun c hc => ?_, fun x hx => ?_, h.nd.sublist (List.eraseIdx_sublist ..), ?_, ?_, ?_, ?_, ?_, ?_, ?_⟩
  · rcases mem_set' hc with z | z
    · exact h.al c z
    · rw [z]; rcases hs with e | e | e <;> rw [e] <;> decide
  · obtain ⟨j', e1, h1, h2⟩ := h.free x (List.mem_of_mem_eraseIdx hx)
    have hne : j ≠ j' := fun z => by
      subst z
      have hm : fr[r] ∈ fr.eraseIdx r := by rw [ej, ← e1]; exact hx
      have pm : (fr[r] :: fr.eraseIdx r).Perm fr := getElem_eraseIdx hr
      exact (List.nodup_cons.mp (pm.nodup_iff.mpr h.nd)).1 hm
    refine ⟨j', e1, by rw [List.length_set]; exact h1, ?_⟩
    rw [List.getElem_set_ne hne]
    exact h2
  · have := h.fl
    rw [List.length_eraseIdx_of_lt hr]
    omega
  · match i, hi with
    | 0, _ => rw [e64, c64]; rfl
    | 1, _ => rw [e64, c64]; rfl
    | 2, _ => rw [e64, c64]; rfl
  · match i, hi with
    | 0, _ => rw [e49, c49]; rfl
    | 1, _ => rw [e49, c49]; rfl
    | 2, _ => rw [e49, c49]; rfl
  · match i, hi with
    | 0, _ => rw [e50, c50]; rfl
    | 1, _ => rw [e50, c50]; rfl
    | 2, _ => rw [e50, c50]; rfl
  · exact Nat.le_trans (set_le hj (by rcases hs with e | e | e <;> rw [e] <;> decide)) h.c42
  · exact Nat.le_trans (set_le hj (by rcases hs with e | e | e <;> rw [e] <;> decide)) h.c111
  · exact Nat.le_trans (set_key hj (by rcases hs with e | e | e <;> rw [e] <;> decide)) h.key
/-- the walls and the one-way floor made floor -/
def flatM (m : Nat) : Nat := if m ∈ [35, 94, 118, 60, 62] then 46 else m
theorem count_map_iff {f : Nat → Nat} {c d : Nat} (h : ∀ x, f x = c ↔ x = d) (L : List Nat) : (L.map f).count c = L.count d := by
  induction L with
  | nil => rfl
  | cons x r ih =>
    rw [List.map_cons, List.count_cons, List.count_cons, ih]
    congr 1
    by_cases e : x = d
    · rw [if_pos (by simpa using (h x).mpr e), if_pos (by simpa using e)]
    · rw [if_neg (by simpa using fun z => e ((h x).mp z)), if_neg (by simpa using e)]
theorem flatM_iff {k : Nat} (h : k ∉ [35, 94, 118, 60, 62, 46]) (x : Nat) : flatM x = k ↔ x = k := by
  simp only [List.mem_cons, List.not_mem_nil, or_false, not_or] at h
  unfold flatM
  simp only [List.mem_cons, List.not_mem_nil, or_false]
  split
  · constructor <;> intro z <;> omega
  · rfl
theorem flatM_in {m : Nat} {L : List Nat} (h46 : 46 ∈ L) (h : m ∈ L) : flatM m ∈ L := by
  unfold flatM
  split
  · exact h46
  · exact h
theorem Laid.flat {n i : Nat} {cs : List Nat} {fr : List Int} (h : Laid n i cs fr) : Laid n i (cs.map flatM) fr where
  len := by rw [List.length_map]; exact h.len
  al := fun c hc => by
    obtain ⟨d, hd, rfl⟩ := List.mem_map.mp hc
    exact flatM_in (by decide) (h.al d hd)
  free := fun x hx => by
    obtain ⟨j, e, h1, h2⟩ := h.free x hx
    exact ⟨j, e, by rw [List.length_map]; exact h1, by rw [List.getElem_map]; exact flatM_in (by decide) h2⟩
  nd := h.nd
  fl := h.fl
  c64 := by rw [count_map_iff (flatM_iff (by decide))]; exact h.c64
  c49 := by rw [count_map_iff (flatM_iff (by decide))]; exact h.c49
  c50 := by rw [count_map_iff (flatM_iff (by decide))]; exact h.c50
  c42 := by rw [count_map_iff (flatM_iff (by decide))]; exact h.c42
  c111 := by rw [count_map_iff (flatM_iff (by decide))]; exact h.c111
  key := by
    unfold keyC
    rw [count_map_iff (flatM_iff (by decide)), count_map_iff (flatM_iff (by decide)), count_map_iff (flatM_iff (by decide)), count_map_iff (flatM_iff (by decide))]
    exact h.key
/-- a free place, or one of floor, gets another mark that is no key and no star -/
theorem Laid.mark {n i j c : Nat} {cs : List Nat} {fr : List Int} (h : Laid n i cs fr) (hj : j < cs.length) (ha : cs[j] ∈ alph) (hc : c ∈ [111, 120, 112, 103]) (h1 : c = 111 → cs.count 111 = 0) : Laid n i (cs.set j c) fr := by
  have n64 : (64 : Nat) ∉ alph := by decide
  have n49 : (49 : Nat) ∉ alph := by decide
  have n50 : (50 : Nat) ∉ alph := by decide
  have hc' := hc
  simp only [List.mem_cons, List.not_mem_nil, or_false] at hc'
  have ca : c ∈ alph := by rcases hc' with rfl | rfl | rfl | rfl <;> decide
  refine ⟨by rw [List.length_set]; exact h.len, fun x hx => ?_, fun x hx => ?_, h.nd, h.fl, ?_, ?_, ?_, ?_, ?_, ?_⟩
  · rcases mem_set' hx with z | z
    · exact h.al x z
    · rw [z]; exact alph_marks c ca
  · obtain ⟨j', e, q1, q2⟩ := h.free x hx
    refine ⟨j', e, by rw [List.length_set]; exact q1, ?_⟩
    rw [List.getElem_set]
    split
    · exact ca
    · exact q2
  · rw [set_eq' hj ha n64, if_neg (by omega), Nat.add_zero]; exact h.c64
  · rw [set_eq' hj ha n49, if_neg (by omega), Nat.add_zero]; exact h.c49
  · rw [set_eq' hj ha n50, if_neg (by omega), Nat.add_zero]; exact h.c50
  · exact Nat.le_trans (set_le hj (by omega)) h.c42
  · by_cases e : c = 111
    · have := count_set' (c := c) (x := 111) hj
      rw [if_pos e] at this
      have := h1 e
      omega
    · exact Nat.le_trans (set_le hj e) h.c111
  · exact Nat.le_trans (set_key hj (by rcases hc' with rfl | rfl | rfl | rfl <;> decide)) h.key
theorem Laid.begin {n : Nat} {cs : List Nat} (h : Mk 2 3 cs) (hn : cs.length = n) {fr : List Int} (ef : fr = (List.range n).map Int.ofNat) : Laid n 0 cs fr where
  len := hn
  al := fun c hc => alph_marks c (h.al c hc)
  free := fun x hx => by
    rw [ef] at hx
    obtain ⟨j, hj, rfl⟩ := List.mem_map.mp hx
    have hj' : j < cs.length := by rw [hn]; exact List.mem_range.mp hj
    exact ⟨j, rfl, hj', h.al _ (List.getElem_mem hj')⟩
  nd := by
    rw [ef]
    exact List.Pairwise.map _ (fun a b q z => q (Int.ofNat.inj z)) List.nodup_range
  fl := by rw [ef, List.length_map, List.length_range]; rfl
  c64 := List.count_eq_zero.mpr fun z => absurd (h.al _ z) (by decide)
  c49 := List.count_eq_zero.mpr fun z => absurd (h.al _ z) (by decide)
  c50 := List.count_eq_zero.mpr fun z => absurd (h.al _ z) (by decide)
  c42 := h.c42
  c111 := h.c111
  key := h.key
/-- the rows of these cells -/
def rowK (cs : List Nat) (wd k : Nat) : Str := ⟨((cs.drop (wd * k)).take wd).toArray⟩
def rowsK (cs : List Nat) (h wd : Nat) : List Str := (List.range h).map (rowK cs wd)
theorem rowsK_join {cs : List Nat} {h wd : Nat} (e : cs.length = h * wd) : (Txt.join "" (rowsK cs h wd)).cps.toList = cs := by
  rw [join_cps]
  unfold rowsK
  rw [List.map_map]
  exact chunks wd h cs e
theorem rowK_len {cs : List Nat} {h wd k : Nat} (e : cs.length = h * wd) (hk : k < h) : (rowK cs wd k).length = wd := by
  show ((cs.drop (wd * k)).take wd).toArray.size = wd
  rw [List.size_toArray, List.length_take, List.length_drop, e]
  have : wd * k + wd ≤ h * wd := by
    have := Nat.mul_le_mul_right wd (show k + 1 ≤ h from hk)
    rw [Nat.mul_comm wd k]
    rw [Nat.succ_mul] at this
    exact this
  omega
theorem Laid.rows {h wd mo : Nat} {cs : List Nat} {fr : List Int} (L : Laid (h * wd) (1 + mo) cs fr) (h1 : 1 ≤ h) (h5 : h ≤ 5) (w1 : 1 ≤ wd) (w6 : wd ≤ 6) (hn : h * wd ≤ 24) (hm : mo ≤ 2) :
    RowsOk (rowsK cs h wd) wd ∧ (∀ r ∈ rowsK cs h wd, lineS r = true) ∧ wholeZ (Txt.join "" (rowsK cs h wd)) = true ∧ manyZ (Txt.join "" (rowsK cs h wd)) "12" = (mo : Int) := by
  have ej := rowsK_join L.len
  have len : ∀ r ∈ rowsK cs h wd, r.length = wd := fun r hr => by
    obtain ⟨k, hk, rfl⟩ := List.mem_map.mp hr
    exact rowK_len L.len (List.mem_range.mp hk)
  refine ⟨⟨by unfold rowsK; rw [List.length_map, List.length_range]; exact h1, by unfold rowsK; rw [List.length_map, List.length_range]; exact h5, w1, w6, len⟩, fun r hr => ?_, ?_, ?_⟩
  · refine lineS_of (by rw [len r hr]; exact w1) (by rw [len r hr]; exact w6) fun c hc => ?_
    obtain ⟨k, hk, rfl⟩ := List.mem_map.mp hr
    rw [marksL_is]
    exact L.al c (List.mem_of_mem_drop (List.mem_of_mem_take (show c ∈ ((cs.drop (wd * k)).take wd).toArray.toList from hc)))
  · rw [wholeZ_iff, ej]
    have hl : (Txt.join "" (rowsK cs h wd)).length = h * wd := by
      have := congrArg List.length ej
      rw [Array.length_toList] at this
      have l2 := L.len
      show (Txt.join "" (rowsK cs h wd)).cps.size = _
      omega
    have c64 := L.c64
    have c49 := L.c49
    have c50 := L.c50
    have ck := L.key
    unfold keyC at ck
    have c111 := L.c111
    rw [if_pos (by omega)] at c64
    refine ⟨⟨by omega, c64⟩, ⟨L.c42, ?_, ?_⟩, by omega, by omega⟩
    · rw [c49]; split <;> omega
    · rw [c49, c50]; split <;> split <;> omega
  · have : ("12" : Str).cps.toList = [49, 50] := by decide +kernel
    unfold manyZ
    rw [this]
    show Txt.count _ ⟨#[49]⟩ + (Txt.count _ ⟨#[50]⟩ + 0) = _
    rw [Int.add_zero, count_nat, count_nat, ej, L.c49, L.c50]
    have : mo = 0 ∨ mo = 1 ∨ mo = 2 := by omega
    rcases this with rfl | rfl | rfl <;> rfl
theorem off3 {p D : Addr} {H H' : Hp} (o : Off (fun b => b = p) H H') : Off (fun b => b = p ∨ b = D) H H' := fun b u n e => o b u (fun z => n (.inl z)) e
theorem NextOk.mono {cr ke cr' ke' : Nat} {cs : List Nat} {c : Nat} (h : NextOk cr ke cs c) (h1 : cr ≤ cr') (h2 : ke ≤ ke') : NextOk cr' ke' cs c :=
  ⟨h.1, h.2.1, fun z => Nat.lt_of_lt_of_le (h.2.2.1 z) h1, fun z => Nat.lt_of_lt_of_le (h.2.2.2 z) h2⟩
theorem cutV_row {cs : List Nat} {wd k h : Nat} (e : cs.length = h * wd) (hk : k < h) {lo hi : Int} (e1 : lo = ((wd * k : Nat) : Int)) (e2 : hi = ((wd * k + wd : Nat) : Int)) : cutV (cs.map cellV) (some lo) (some hi) = ((((cs.drop (wd * k)).take wd).map fun c => (⟨#[c]⟩ : Str))).map V.str := by
  have le : wd * k + wd ≤ h * wd := by
    have := Nat.mul_le_mul_right wd (show k + 1 ≤ h from hk)
    rw [Nat.mul_comm wd k]
    rw [Nat.succ_mul] at this
    exact this
  subst e1 e2
  unfold cutV
  rw [HT.sIx_nat, HT.sIx_nat, List.length_map, e, Nat.min_eq_left le, Nat.min_eq_left (by omega), Nat.add_sub_cancel_left, ← List.map_drop, ← List.map_take, List.map_map]
  rfl
theorem row_join {cs : List Nat} {wd k : Nat} : Txt.join "" ((((cs.drop (wd * k)).take wd).map fun c => (⟨#[c]⟩ : Str))) = rowK cs wd k := by
  have h := join_cells ((cs.drop (wd * k)).take wd)
  unfold rowK
  generalize Txt.join "" ((((cs.drop (wd * k)).take wd).map fun c => (⟨#[c]⟩ : Str))) = z at h ⊢
  rw [← h]
theorem cells_sum (L : List Nat) : ((L.map fun c => (⟨#[c]⟩ : Str)).map fun x => x.length).sum = L.length := by
  induction L with
  | nil => rfl
  | cons a r ih => rw [List.map_cons, List.map_cons, List.sum_cons, ih, List.length_cons]; show 1 + _ = _; omega
section
variable {P : Program} {w : World} {K : PySem.W.Frag} {mg : Str → Option Value} {base : Heap}
def spRoomOf (K : PySem.W.Frag) : Sp := fun vs H Q _ => ∃ (p : Addr) (h wd mo : Nat), vs = [.ref p, .int h, .int wd, .int mo] ∧ PoolAt H p ∧ 1 ≤ h ∧ h ≤ 5 ∧ 1 ≤ wd ∧ wd ≤ 6 ∧ h * wd ≤ 24 ∧ mo ≤ 2 ∧ mo + 1 ≤ h * wd ∧
  ∀ t rows H', Off (fun b => b = p) H H' → PoolK H H' p → H' t = some (.tup (rows.map V.str)) → RowsOk rows wd → (∀ r ∈ rows, lineS r = true) → wholeZ (Txt.join "" rows) = true → manyZ (Txt.join "" rows) "12" = (mo : Int) → rows.length = h → Q (.ref t) H'
theorem ok_room_of {f : Addr} {fd : FuncData} (F : Fun K "_law_room_of" "_law_room_of" s__law_room_of f fd) (T : Rb mg) (c__law_draw : CalG P w K mg base 1 "_law_draw" (spDraw K)) (c__law_pick : CalG P w K mg base 2 "_law_pick" (spPk K)) (c__law_mark : CalG P w K mg base 3 "_law_mark" (spMark K)) :
    FnG P w K mg base (CXe P w) 4 f fd ["pool", "high", "wide", "mouths"] (spRoomOf K) := by
  refine F.okG sc__law_room_of (fun vs H Q E h => ?_) (fun cdv A outer s H vs Q E hgd hr h => ?_)
  · obtain ⟨p, hh, wd, mo, rfl, _⟩ := h; rfl
  · obtain ⟨p, hh, wd, mo, rfl, hp, h1, h5, w1, w6, hn24, hm2, hmn, k⟩ := h
    refine ⟨_, (pss_cons (ps_set (i := 4) sc__law_room_of.nd rfl (Or.inr rfl) (pe_lstA pa_nil))
      (pss_cons (ps_for (passes_of rfl) rfl (pi_range1 (by rfl) T.n_range (pa_cons (pe_op op_mul (pv 1) (pv 2)) pa_nil)) (pg_name (i := 5) sc__law_room_of.nd rfl (Or.inl rfl))
      (pss_one (ps_if (pt_cmpR op_gt (pe_op op_mul (pv 1) (pv 2)) pe_int (nomark _)) (pss_one (ps_expr (pe_bm PySem.F.plainAttrs_list PySem.F.slot_list_append PySem.F.type_list_append mt_append (pv 4) (pa_cons (pg_c c__law_mark hgd hr (by first | decide | omega) (pa_cons (pv 0) (pa_cons (pv 4) (pa_cons pe_int (pa_cons pe_int pa_nil))))) pa_nil)))) (pss_one (ps_expr (pe_bm PySem.F.plainAttrs_list PySem.F.slot_list_append PySem.F.type_list_append mt_append (pv 4) (pa_cons (pg_c c__law_mark hgd hr (by first | decide | omega) (pa_cons (pv 0) (pa_cons (pv 4) (pa_cons pe_int (pa_cons pe_int pa_nil))))) pa_nil)))))))
      (pss_cons (ps_set (i := 6) sc__law_room_of.nd rfl (Or.inl rfl) (pe_listRg rfl (by rfl) T.n_list (prg_1 (by rfl) T.n_range (pe_op op_mul (pv 1) (pv 2)))))
      (pss_cons (ps_for (passes_of rfl) rfl (pi_str (pe_slice sl_str pe_str po_none (po_some (pe_op op_add pe_int (pv 3))))) (pg_name (i := 7) sc__law_room_of.nd rfl (Or.inl rfl))
      (pss_cons (ps_set (i := 8) sc__law_room_of.nd rfl (Or.inl rfl) (pe_bm PySem.F.plainAttrs_list PySem.F.slot_list_pop PySem.F.type_list_pop mt_popAt (pv 6) (pa_cons (pg_c c__law_draw hgd hr (by first | decide | omega) (pa_cons (pv 0) (pa_cons (pe_callB call_len_seq (by rfl) T.n_len (by decide +kernel) (pa_cons (pv 6) pa_nil)) pa_nil))) pa_nil)))
      (pss_one (ps_asg (pv 7) (pg_sub (pv 4) (pv 8) set_list)))))
      (C8.pss_cut (ps_if (pt_cmpR op_eq (pg_c c__law_draw hgd hr (by first | decide | omega) (pa_cons (pv 0) (pa_cons pe_int pa_nil))) pe_int (nomark _)) (pss_cons (ps_set (i := 4) sc__law_room_of.nd rfl (Or.inr rfl) (pe_lc (own := [("mark", 9)]) (g := gName 9) (tt := tYes) rfl sc__law_room_of.nd (pi_list (pv 4)) (blkOk_by (own := [("mark", 9)]) (N := ["pool", "high", "wide", "mouths", "marks", "k", "free", "sign", "at", "mark"]) (sc := defScope s__law_room_of) (by decide +kernel)) (fun _ _ _ _ _ => pg_name (i := 9) sc__law_room_of.nd rfl (Or.inl rfl)) (fun _ _ _ _ _ => pts_nil) (fun _ _ _ _ _ => (pe_ifExp (pt_cmpR op_in_sign (pv 9) pe_str (by rfl)) pe_str (pv 9)))))
      (C8.pss_cut (ps_if (PW.pt (pw_and (pt_cmpR op_notIn_seq pe_str (pv 4) (by rfl)) (pw_and1 (pt_cmpR op_gt (pe_callB call_len_seq (by rfl) T.n_len (by decide +kernel) (pa_cons (pv 6) pa_nil)) pe_int (nomark _))))) (pss_one (ps_asg pe_str (pg_sub (pv 4) (pg_c c__law_pick hgd hr (by first | decide | omega) (pa_cons (pv 0) (pa_cons (pv 6) pa_nil))) set_list))) pss_nil)
      (pss_cons (ps_set (i := 8) sc__law_room_of.nd rfl (Or.inl rfl) (pe_ix ix_list (pe_op op_cat (pv 6) (pe_lstA (pa_cons pe_int pa_nil))) (pg_c c__law_draw hgd hr (by first | decide | omega) (pa_cons (pv 0) (pa_cons (pe_op op_add (pe_callB call_len_seq (by rfl) T.n_len (by decide +kernel) (pa_cons (pv 6) pa_nil)) pe_int) pa_nil))) (fun _ _ => rfl)))
      (pss_one (ps_if (pt_cmpR op_eq (pe_ix ix_list (pv 4) (pv 8) (fun _ _ => rfl)) pe_str (nomark _)) (pss_one (ps_asg (pg_c c__law_pick hgd hr (by first | decide | omega) (pa_cons (pv 0) (pa_cons pe_str pa_nil))) (pg_sub (pv 4) (pv 8) set_list))) pss_nil))))) pss_nil)
      (pss_one (ps_ret (pe_callTy call_tuple_of (by rfl) T.n_tuple (by decide +kernel) (pa_cons (pe_lc (own := [("k", 5)]) (g := gName 5) (tt := tYes) rfl sc__law_room_of.nd (pi_range1 (by rfl) T.n_range (pa_cons (pv 1) pa_nil)) (blkOk_by (own := [("k", 5)]) (N := ["pool", "high", "wide", "mouths", "marks", "k", "free", "sign", "at", "mark"]) (sc := defScope s__law_room_of) (by decide +kernel)) (fun _ _ _ _ _ => pg_name (i := 5) sc__law_room_of.nd rfl (Or.inl rfl)) (fun _ _ _ _ _ => pts_nil) (fun _ _ _ _ _ => (pe_m1 PySem.F.slot_str_join PySem.F.type_str_join (show MtR _ "str.join" (fun x xs H Q => ∃ a p, ∃ ys : List Str, x = .str a ∧ xs = [.ref p] ∧ (SqL K H p (ys.map V.str) ∨ SqT K H p (ys.map V.str)) ∧ (ys.map (·.length)).sum + ys.length * a.length ≤ 16777216 ∧ Q (.str (Txt.join a ys)) H) from mt_join) pe_str (pe_slice (show SlR _ (rSlL K) from sl_list) (pv 4) (po_some (pe_op op_mul (pv 5) (pv 2))) (po_some (pe_op op_mul (pe_op op_add (pv 5) pe_int) (pv 2))))))) pa_nil))))))))), ?_⟩
    obtain ⟨n, hn⟩ : ∃ n, hh * wd = n := ⟨_, rfl⟩
    have hnI : (hh : Int) * (wd : Int) = (n : Int) := by rw [← hn]; push_cast; rfl
    have en : V.int ((hh : Int) * (wd : Int)) = V.int (n : Int) := congrArg V.int hnI
    have cmul : CMul (hh : Int) (wd : Int) := .inl ⟨by omega, by omega⟩
    rw [hn] at hn24 hmn
    refine And.intro (Nat.zero_le _) fun M H1 n1 => ?_
    have hMp : M ≠ p := hp.ne n1.free
    have hp1 := hp.k n1.same
    have ap1 : Apart H1 p M := (hp.apart n1.free).same hp n1.same
    refine ⟨_, rfl, _, rfl, _, _, rfl, rfl, cmul, (n : Int), congrArg (fun x => [x]) en, by omega, by omega, ?_⟩
    rw [Int.toNat_natCast]
    have mk0 : Mk 2 3 [] := ⟨fun c hc => by simp at hc, Nat.zero_le _, Nat.zero_le _, Nat.zero_le _⟩
    refine for_range (n := n) (fun i σ H' => ∃ (kv : Option V) (cs : List Nat), σ = [some (.ref p), some (.int hh), some (.int wd), some (.int mo), some (.ref M), kv, none, none, none, none] ∧ H' M = some (.lst (cs.map cellV)) ∧ cs.length = i ∧ Mk 2 3 cs ∧ PoolK H H' p ∧ Apart H' p M ∧ Off (fun b => b = p ∨ b = M) H1 H') ⟨none, [], rfl, n1.at_, rfl, mk0, hp1, ap1, Off.refl _⟩ ?_ ?_
    · rintro i σ H2 hi ⟨kv, cs, rfl, hM2, hlen, mk, hp2, ap2, o2⟩
      have add : ∀ c H', NextOk 2 3 cs c → Off (fun b => b = p) H2 H' → PoolK H2 H' p → H' M = some (.lst (cs.map cellV)) ∧ (cs.map cellV).length < sizeLine ∧ ∃ (kv : Option V) (cs' : List Nat), [some (.ref p), some (.int hh), some (.int wd), some (.int mo), some (.ref M), some (V.int (0 + (i : Int))), none, none, none, none] = [some (.ref p), some (.int hh), some (.int wd), some (.int mo), some (.ref M), kv, none, none, none, none] ∧ upd H' M (.lst (cs.map cellV ++ [cellV c])) M = some (.lst (cs'.map cellV)) ∧ cs'.length = i + 1 ∧ Mk 2 3 cs' ∧ PoolK H (upd H' M (.lst (cs.map cellV ++ [cellV c]))) p ∧ Apart (upd H' M (.lst (cs.map cellV ++ [cellV c]))) p M ∧ Off (fun b => b = p ∨ b = M) H1 (upd H' M (.lst (cs.map cellV ++ [cellV c]))) := fun c H' nx o hp' => by
        have ap := (hp'.2 M (by rw [hM2]; simp) ap2).2
        exact ⟨o _ _ hMp hM2, sz (by rw [List.length_map]; omega), _, cs ++ [c], rfl, by rw [upd_same, List.map_append]; rfl, by rw [List.length_append, hlen]; rfl, mk.snoc nx, (hp2.trans hp').mut ap, ap.upd hMp, (o2.trans (off3 o)).trans (Off.mut (.inr rfl))⟩
      refine ⟨_, rfl, _, rfl, _, _, rfl, rfl, cmul, (n : Int), 6, en, rfl, ?_⟩
      refine ⟨_, rfl, ?_⟩
      refine ite2 (fun _ => ?_) (fun _ => ?_)
      · refine ⟨_, rfl, .inl ⟨rfl, _, SqL.of hM2⟩, _, rfl, _, rfl, p, M, cs, 1, 2, rfl, hp2.1, hMp, hM2, by omega, fun c H' nx o hp' => ?_⟩
        exact ⟨_, _, _, rfl, rfl, add c H' (nx.mono (by decide) (by decide)) o hp'⟩
      · refine ⟨_, rfl, .inl ⟨rfl, _, SqL.of hM2⟩, _, rfl, _, rfl, p, M, cs, 2, 3, rfl, hp2.1, hMp, hM2, by omega, fun c H' nx o hp' => ?_⟩
        exact ⟨_, _, _, rfl, rfl, add c H' nx o hp'⟩
    rintro σ H2 ⟨kv, cs, rfl, hM2, hlen, mk, hp2, ap2, o2⟩
    refine ⟨_, rfl, _, rfl, _, _, rfl, rfl, cmul, (n : Int), en, RgOk.of_le (by omega) (by omega) (by omega) (by omega), fun q hq => ?_⟩
    have eR : rgV 0 ((n : Nat) : Int) = ((List.range n).map Int.ofNat).map V.int := by
      unfold rgV
      rw [List.map_map]
      simp
    rw [eR]
    have sR : Same H2 (upd H2 q (.lst (((List.range n).map Int.ofNat).map V.int))) := same_new hq
    have hF3 : upd H2 q (.lst (((List.range n).map Int.ofNat).map V.int)) q = some (.lst (((List.range n).map Int.ofNat).map V.int)) := upd_same
    have apq := (hp2.1.apart hq).same hp2.1 sR
    have hqp : q ≠ p := hp2.1.ne hq
    have hqM : q ≠ M := fun z => by rw [z, hM2] at hq; cases hq
    have hqH : H q = none := by
      cases e : H q with
      | none => rfl
      | some o =>
        have e1 := n1.same _ _ e
        have e2 := o2 q o (fun z => z.elim hqp hqM) e1
        rw [hq] at e2; cases e2
    generalize upd H2 q (.lst (((List.range n).map Int.ofNat).map V.int)) = H3 at sR hF3 apq ⊢
    have hp3 := hp2.same sR
    have hM3 := sR _ _ hM2
    have ap3 := ap2.same hp2.1 sR
    have L0 : Laid n 0 cs ((List.range n).map Int.ofNat) := Laid.begin mk hlen rfl
    have o3 : Off (fun b => b = p ∨ b = M ∨ b = q) H H3 := fun b u nb e => sR _ _ (o2 b u (fun z => nb (z.elim .inl fun y => .inr (.inl y))) (n1.same _ _ e))
    obtain ⟨u, hu⟩ : ∃ u, u = cutS "@12" none (some (1 + (mo : Int))) := ⟨_, rfl⟩
    have eu : u.cps.toList = [64, 49, 50].take (1 + mo) := by
      have : mo = 0 ∨ mo = 1 ∨ mo = 2 := by omega
      rcases this with rfl | rfl | rfl <;> (rw [hu]; decide +kernel)
    have zu : u.cps.size = 1 + mo := by
      have := congrArg List.length eu
      rw [List.length_take] at this
      have h2 : u.cps.toList.length = u.cps.size := Array.length_toList
      rw [← h2, this]
      show min (1 + mo) 3 = 1 + mo
      omega
    refine ⟨_, rfl, _, _, rfl, rfl, _, rfl, "@12", rfl, (by decide +kernel), ?_⟩
    refine ⟨u, by rw [hu], for_it walk_str (fun i σ H' => ∃ (o7 o8 : Option V) (cs : List Nat) (fr : List Int), σ = [some (.ref p), some (.int hh), some (.int wd), some (.int mo), some (.ref M), kv, some (.ref q), o7, o8, none] ∧ H' M = some (.lst (cs.map cellV)) ∧ H' q = some (.lst (fr.map V.int)) ∧ Laid n i cs fr ∧ PoolK H H' p ∧ Apart H' p M ∧ Apart H' p q ∧ Off (fun b => b = p ∨ b = M ∨ b = q) H H') ⟨none, none, cs, _, rfl, hM3, hF3, L0, hp3, ap3, apq, o3⟩ (fun _ _ _ _ _ => trivial) ?_ ?_⟩
    · rintro i x σ Ha Hb hi ⟨o7, o8, cs, fr, rfl, hMa, hFa, La, hpa, apM, apF, oa⟩ ⟨rfl, c, hc, rfl⟩
      rw [zu] at hi
      have hcu : signI i = c := by
        have h1 : u.cps.toList[i]? = some c := by simpa using hc
        rw [eu, List.getElem?_take_of_lt hi] at h1
        have : i = 0 ∨ i = 1 ∨ i = 2 := by omega
        rcases this with rfl | rfl | rfl <;> (cases h1; rfl)
      have lfr := La.fl
      refine ⟨_, rfl, .inl ⟨rfl, _, SqL.of hFa⟩, _, rfl, _, rfl, q, _, rfl, .inl (SqL.of hFa), ?_⟩
      rw [List.length_map]
      refine ⟨p, fr.length, rfl, hpa.1, by omega, by omega, fun r H4 ra rb o4 hp4 => ?_⟩
      have hM4 := o4 _ _ hMp hMa
      have hF4 := o4 _ _ hqp hFa
      obtain ⟨_, apM4⟩ := hp4.2 M (by rw [hMa]; simp) apM
      obtain ⟨_, apF4⟩ := hp4.2 q (by rw [hFa]; simp) apF
      have hrk : r.toNat < fr.length := by omega
      refine ⟨q, _, r, r.toNat, .int fr[r.toNat], rfl, rfl, hF4, by omega, by omega, ?_, by rw [List.getElem?_map, List.getElem?_eq_getElem hrk]; rfl, ?_⟩
      · rw [List.length_map]
        exact seqIndex_of ra (by omega)
      obtain ⟨j, ej, hj, hja⟩ := La.free _ (List.getElem_mem hrk)
      have hM5 : upd H4 q (.lst ((fr.map V.int).eraseIdx r.toNat)) M = some (.lst (cs.map cellV)) := by rw [upd_ne (Ne.symm hqM)]; exact hM4
      rw [ej]
      refine ⟨_, rfl, _, rfl, _, rfl, M, cs.map cellV, (j : Int), j, rfl, rfl, hM5, by unfold ixN; rw [List.length_map, if_pos (by omega), if_pos (by omega)]; rfl, ?_⟩
      have hMF : M ≠ q := Ne.symm hqM
      refine ⟨_, _, cs.set j c, fr.eraseIdx r.toNat, rfl, upd_same.trans (congrArg (fun l => some (HO.lst l)) (set_mapC cs j c)), (upd_ne hqM).trans (upd_same.trans (congrArg (fun l => some (HO.lst l)) (eraseIdx_mapV fr r.toNat))), by rw [← hcu]; exact La.put (by omega) hrk ej hj hja, ((hpa.trans hp4).mut apF4).mut (apM4.upd hqp), (apM4.upd hqp).upd hMp, (apF4.upd hqp).upd hMp, ?_⟩
      exact ((oa.trans (fun b u nb e => o4 b u (fun z => nb (.inl z)) e)).trans (Off.mut (.inr (.inr rfl)))).trans (Off.mut (.inr (.inl rfl)))
    rintro σ Hb ⟨o7, o8, cs, fr, rfl, hMb, hFb, Lb, hpb, apM, apF, ob⟩
    rw [zu] at Lb
    have off1 : Off (fun b => b = p) H Hb := fun b u nb e => ob b u (fun z => z.elim nb (fun y => y.elim (fun x => by rw [x, n1.free] at e; cases e) (fun x => by rw [x, hqH] at e; cases e))) e
    have dead : ∀ {H' : Hp} {a : Addr}, Off (fun b => b = p) H H' → PoolAt H' p → H' a = none → H a = none := fun {H' a} o hp' e => by
      cases e1 : H a with
      | none => rfl
      | some u =>
        have := o a u (hp'.ne e) e1
        rw [e] at this; cases this
    have stay : ∀ {H' : Hp} {a : Addr} {x : HO}, H a = none → Off (fun b => b = p) H H' → Off (fun b => b = p) H (upd H' a x) := fun {H' a x} e o b u nb e1 => by
      rw [upd_ne (fun z => by rw [z, e] at e1; cases e1)]
      exact o b u nb e1
    refine ⟨fun σ' H' => ∃ (N : Addr) (o8 o9 : Option V) (cs : List Nat) (fr : List Int), σ' = [some (.ref p), some (.int hh), some (.int wd), some (.int mo), some (.ref N), kv, some (.ref q), o7, o8, o9] ∧ H' N = some (.lst (cs.map cellV)) ∧ Laid n (1 + mo) cs fr ∧ PoolK H H' p ∧ Off (fun b => b = p) H H', ?_, ?_⟩
    · refine ⟨_, rfl, p, 2, rfl, hpb.1, by decide, by decide, fun r H4 ra rb o4 hp4 => ?_⟩
      refine ⟨(rfl : scal _ _ = true), _, rfl, ?_⟩
      have hM4 := o4 _ _ hMp hMb
      have hF4 := o4 _ _ hqp hFb
      refine ite2 (fun _ => ?_) (fun _ => ⟨M, _, _, cs, fr, rfl, hM4, Lb, hpb.trans hp4, off1.trans o4⟩)
      have apF4 := (hp4.2 q (by rw [hFb]; simp) apF).2
      have hp5 := hpb.trans hp4
      have off5 := off1.trans o4
      refine ⟨_, rfl, M, rfl, ⟨_, SqL.of hM4⟩, fun D hD => lc_it (walk_list (xs := cs.map cellV)) (fun i H' => H' D = some (.lst (((cs.take i).map flatM).map cellV)) ∧ Off (fun b => b = D) H4 H') ⟨upd_same, Off.new hD⟩ (fun i H' _ z => SqL.of (z.2 _ _ (ne_of_none hM4 hD) hM4)) ?_ ?_⟩
      · rintro i y Ha Hc hi ⟨hacc, off⟩ ⟨rfl, hy⟩
        rw [List.length_map] at hi
        rw [List.getElem?_map, List.getElem?_eq_getElem hi] at hy
        cases Option.some.inj hy
        refine And.intro rfl (yes_of (iteT ?_))
        refine ⟨_, rfl, cs[i], "#^v<>", rfl, rfl, _, rfl, ?_⟩
        have el : ("#^v<>" : Str).cps.toList = [35, 94, 118, 60, 62] := by decide +kernel
        have s46 : (V.str ".") = cellV 46 := by
          have e : ("." : Str) = ⟨#[46]⟩ := by decide +kernel
          rw [e]; rfl
        have fin : ∀ y, y = cellV (flatM cs[i]) → ∃ acc, Hc D = some (HO.lst acc) ∧ acc.length < sizeLine ∧ upd Hc D (.lst (acc ++ [y])) D = some (.lst (((cs.take (i + 1)).map flatM).map cellV)) ∧ Off (fun b => b = D) H4 (upd Hc D (.lst (acc ++ [y]))) := fun y ey =>
          ⟨_, hacc, sz (by rw [List.length_map, List.length_map]; exact Nat.le_trans (List.length_take_le' ..) (by have := Lb.len; omega)), by rw [upd_same, List.take_add_one, List.getElem?_eq_getElem hi, List.map_append, List.map_append, ey]; rfl, off.trans (Off.mut rfl)⟩
        by_cases hm : cs[i] ∈ [35, 94, 118, 60, 62]
        · exact iteT' (by rw [el]; simpa using hm) (fin _ (by rw [s46]; unfold flatM; rw [if_pos hm]))
        · exact iteF' (by rw [el]; simpa using hm) ⟨_, rfl, fin _ (by unfold flatM; rw [if_neg hm])⟩
      rintro H6 ⟨hacc, off⟩
      rw [List.length_map, List.take_length] at hacc
      have Lf := Lb.flat
      have s6 : Same H4 H6 := fun b o e => off b o (ne_of_none e hD) e
      have hp6 := hp5.same s6
      have off6 := off5.trans (Off.same s6)
      have hDH := dead off5 hp5.1 hD
      have hDp : D ≠ p := hp5.1.ne hD
      have hDq : q ≠ D := ne_of_none hF4 hD
      have apD6 := (hp5.1.apart hD).same hp5.1 s6
      have hF6 := s6 _ _ hF4
      have apF6 := apF4.same hp5.1 s6
      have flc : ∀ cs : List Nat, (cs.map cellV).all flatV = true := flat_cells
      have s111 : ("o" : Str) = ⟨#[111]⟩ := by decide +kernel
      generalize hcf : cs.map flatM = cf at hacc Lf
      refine ⟨fun σ' H' => ∃ (cs : List Nat), σ' = [some (.ref p), some (.int hh), some (.int wd), some (.int mo), some (.ref D), kv, some (.ref q), o7, o8, none] ∧ H' D = some (.lst (cs.map cellV)) ∧ H' q = some (.lst (fr.map V.int)) ∧ Apart H' p D ∧ Laid n (1 + mo) cs fr ∧ PoolK H H' p ∧ Off (fun b => b = p) H H', ?_, ?_⟩
      · refine ⟨_, rfl, D, _, rfl, .inl (SqL.of hacc), rfl, flc cf, _, rfl, ?_⟩
        have no : ∃ (cs : List Nat), [some (.ref p), some (.int hh), some (.int wd), some (.int mo), some (.ref D), kv, some (.ref q), o7, o8, none] = [some (.ref p), some (.int hh), some (.int wd), some (.int mo), some (.ref D), kv, some (.ref q), o7, o8, none] ∧ H6 D = some (.lst (cs.map cellV)) ∧ H6 q = some (.lst (fr.map V.int)) ∧ Apart H6 p D ∧ Laid n (1 + mo) cs fr ∧ PoolK H H6 p ∧ Off (fun b => b = p) H H6 := ⟨cf, rfl, hacc, hF6, apD6, Lf, hp6, off6⟩
        have ev := inV_cells cf 111 s111
        by_cases hm : 111 ∈ cf
        · refine iteF' (fun z => ?_) (iteF no)
          have z2 : inV (.str "o") (cf.map cellV) = true := ev.trans (decide_eq_true hm)
          have z3 : (!inV (.str "o") (cf.map cellV)) = true := z
          rw [z2] at z3; cases z3
        refine iteT' ?_ ?_
        · show (!inV (.str "o") (cf.map cellV)) = true
          rw [ev]; simp [hm]
        refine ⟨_, rfl, q, _, rfl, .inl (SqL.of hF6), _, _, rfl, rfl, _, rfl, ?_⟩
        rw [List.length_map]
        refine ite2 (fun hl => ?_) (fun _ => no)
        have hl' : 0 < fr.length := by simpa using hl
        refine ⟨_, rfl, _, rfl, _, rfl, p, .ref q, rfl, hp6.1, .inl ⟨q, _, rfl, hF6, hqp, by rw [List.length_map]; exact hl', by rw [List.length_map]; have := Lf.fl; omega, fun x H8 hx o8' hp8 => ?_⟩⟩
        obtain ⟨z, hz, rfl⟩ := List.mem_map.mp hx
        obtain ⟨j, rfl, hj, hja⟩ := Lf.free z hz
        have hD8 := o8' _ _ hDp hacc
        have hF8 := o8' _ _ hqp hF6
        have apD8 := (hp8.2 D (by rw [hacc]; simp) apD6).2
        refine ⟨D, cf.map cellV, (j : Int), j, rfl, rfl, hD8, by unfold ixN; rw [List.length_map, if_pos (by omega), if_pos (by omega)]; rfl, ?_⟩
        refine ⟨cf.set j 111, rfl, upd_same.trans (congrArg (fun l => some (HO.lst l)) (by rw [s111]; exact set_mapC cf j 111)), (upd_ne hDq).trans hF8, apD8.upd hDp, Lf.mark hj hja (by decide) (fun _ => List.count_eq_zero.mpr hm), (hp6.trans hp8).mut apD8, stay hDH (off6.trans o8')⟩
      rintro σ' H9 ⟨cg, rfl, hD9, hF9, apD9, Lg, hp9, off9⟩
      have hlg := Lg.len
      have flg := Lg.fl
      refine ⟨_, rfl, And.intro (Nat.le_of_ble_eq_true rfl) fun Z H10 n10 => ?_⟩
      have hD10 := n10.same _ _ hD9
      have hF10 := n10.same _ _ hF9
      have hp10 := hp9.same n10.same
      have apD10 := apD9.same hp9.1 n10.same
      refine ⟨q, Z, fr.map V.int, [V.int 0], rfl, rfl, hF10, n10.at_, Nat.le_of_lt (sz (by rw [List.length_map]; show _ + 1 ≤ 1000; omega)), fun C hC => ?_⟩
      have sC : Same H10 (upd H10 C (.lst (fr.map V.int ++ [V.int 0]))) := same_new hC
      have hC11 : upd H10 C (.lst (fr.map V.int ++ [V.int 0])) C = some (.lst (fr.map V.int ++ [V.int 0])) := upd_same
      have hCp : C ≠ p := hp10.1.ne hC
      generalize upd H10 C (.lst (fr.map V.int ++ [V.int 0])) = H11 at sC hC11 ⊢
      have hD11 := sC _ _ hD10
      have hF11 := sC _ _ hF10
      have hp11 := hp10.same sC
      have apD11 := apD10.same hp10.1 sC
      have off11 := (off9.trans n10.off).trans (Off.same sC)
      refine ⟨_, rfl, _, rfl, q, _, rfl, .inl (SqL.of hF11), _, _, rfl, rfl, p, (fr.length : Int) + 1, by rw [List.length_map], hp11.1, by omega, by omega, fun r H12 ra rb o12 hp12 => ?_⟩
      have hD12 := o12 _ _ hDp hD11
      have hC12 := o12 _ _ hCp hC11
      have apD12 := (hp12.2 D (by rw [hD11]; simp) apD11).2
      obtain ⟨j, hj, hat⟩ : ∃ j : Nat, j < cg.length ∧ atI (fr.map V.int ++ [V.int 0]) r = some (V.int (j : Int)) := by
        obtain ⟨rn, rfl⟩ := Int.eq_ofNat_of_zero_le ra
        by_cases hr2 : rn < fr.length
        · obtain ⟨j, ej, hj, _⟩ := Lg.free _ (List.getElem_mem hr2)
          refine ⟨j, hj, atI_nat ?_⟩
          rw [List.getElem?_append_left (by rw [List.length_map]; exact hr2), List.getElem?_map, List.getElem?_eq_getElem hr2, ← ej]
          rfl
        · have e : rn = fr.length := by omega
          refine ⟨0, by omega, atI_nat ?_⟩
          rw [List.getElem?_append_right (by rw [List.length_map]; omega), List.length_map, e, Nat.sub_self]
          rfl
      refine ⟨C, _, r, V.int (j : Int), rfl, rfl, SqL.of hC12, hat, ?_⟩
      have s46 : ("." : Str) = ⟨#[46]⟩ := by decide +kernel
      have hp13 := hp11.trans hp12
      have off13 := off11.trans o12
      refine ⟨_, rfl, _, rfl, D, _, (j : Int), cellV cg[j], rfl, rfl, SqL.of hD12, atI_nat (by rw [List.getElem?_map, List.getElem?_eq_getElem hj]; rfl), ?_⟩
      refine ⟨(rfl : scal _ _ = true), _, rfl, ?_⟩
      by_cases hdot : cg[j] = 46
      case neg => exact iteF' (fun z => hdot ((sgn s46).mp z)) ⟨D, _, _, cg, fr, rfl, hD12, Lg, hp13, off13⟩
      refine iteT' ((sgn s46).mpr hdot) ?_
      have ez : ("xxpg" : Str).cps.toList = [120, 120, 112, 103] := by decide +kernel
      refine ⟨_, rfl, p, .str "xxpg", rfl, hp13.1, .inr ⟨_, rfl, by decide +kernel, by decide +kernel, fun c H14 hc o14 hp14 => ?_⟩⟩
      rw [ez] at hc
      have hD14 := o14 _ _ hDp hD12
      have apD14 := (hp14.2 D (by rw [hD12]; simp) apD12).2
      refine ⟨_, rfl, _, rfl, D, cg.map cellV, (j : Int), j, rfl, rfl, hD14, by unfold ixN; rw [List.length_map, if_pos (by omega), if_pos (by omega)]; rfl, ?_⟩
      have hc2 : c ∈ [111, 120, 112, 103] := by revert hc; simp only [List.mem_cons, List.not_mem_nil, or_false]; omega
      refine ⟨D, _, _, cg.set j c, fr, rfl, upd_same.trans (congrArg (fun l => some (HO.lst l)) (set_mapC cg j c)), Lg.mark hj (by rw [hdot]; decide) hc2 (fun z => ?_), (hp13.trans hp14).mut apD14, stay hDH (off13.trans o14)⟩
      exfalso
      revert hc
      rw [z]
      decide
    rintro σ' H7 ⟨N, o8, o9, cs, fr, rfl, hN7, L7, hp7, off7⟩
    have hlen7 := L7.len
    have hlen7' : cs.length = hh * wd := by rw [hlen7, hn]
    refine ⟨_, rfl, _, rfl, by omega, by omega, ?_⟩
    rw [Int.toNat_natCast]
    refine fun D hD => lc_it walk_range (fun i H' => H' D = some (.lst (((List.range i).map (rowK cs wd)).map V.str)) ∧ Off (fun b => b = D) H7 H') ⟨upd_same, Off.new hD⟩ (fun _ _ _ _ => trivial) ?_ ?_
    · rintro i x H1' H2' hi ⟨hacc, off⟩ ⟨rfl, rfl⟩
      have hi2 : i < hh := hi
      refine And.intro rfl (yes_of (iteT ?_))
      have hND : N ≠ D := ne_of_none hN7 hD
      have cm1 : CMul (0 + (i : Int)) (wd : Int) := .inl ⟨by omega, by omega⟩
      have cm2 : CMul (0 + (i : Int) + 1) (wd : Int) := .inl ⟨by omega, by omega⟩
      have e1 : (0 + (i : Int)) * (wd : Int) = ((wd * i : Nat) : Int) := by rw [Int.zero_add, Nat.mul_comm]; push_cast; rfl
      have e2 : (0 + (i : Int) + 1) * (wd : Int) = ((wd * i + wd : Nat) : Int) := by rw [Int.zero_add, Int.add_mul, Int.one_mul, Int.mul_comm]; push_cast; rfl
      have hN2 := off _ _ hND hN7
      refine ⟨⟨_, rfl⟩, _, rfl, _, rfl, _, rfl, _, _, rfl, rfl, cm1, _, rfl, _, rfl, _, _, rfl, rfl, _, rfl, _, _, rfl, rfl, cm2, _, rfl, N, _, rfl, SqL.of hN2, fun g hg => ?_⟩
      rw [cutV_row hlen7' hi2 e1 e2]
      have hDg : D ≠ g := ne_of_none hacc hg
      refine ⟨"", g, ((cs.drop (wd * i)).take wd).map fun c => (⟨#[c]⟩ : Str), rfl, rfl, .inl (SqL.of upd_same), ?_, ?_⟩
      · rw [cells_sum]
        show _ + _ * 0 ≤ _
        rw [List.length_take]
        omega
      refine ⟨_, (upd_ne hDg).trans hacc, sz (by rw [List.length_map, List.length_map, List.length_range]; omega), ?_, ?_⟩
      · rw [upd_same, row_join, List.range_succ, List.map_append, List.map_append]; rfl
      · exact (off.trans (Off.same (same_new hg))).trans (Off.mut rfl)
    rintro H8 ⟨hacc, off⟩
    have s8 : Same H7 H8 := fun b o e => off b o (ne_of_none e hD) e
    rw [← hn] at L7
    have o8 := off7.trans (Off.same s8)
    have hp8 := hp7.same s8
    obtain ⟨R, lin, who, man⟩ := L7.rows h1 h5 w1 w6 (by omega) hm2
    exact ⟨D, _, rfl, .inl ⟨SqL.of hacc, fun l hl => k l (rowsK cs hh wd) _ (o8.trans (Off.same (same_new hl))) (hp8.same (same_new hl)) upd_same R lin who man (by unfold rowsK; rw [List.length_map, List.length_range])⟩⟩
end
/-- right rows with that many mouths, told by their place -/
def RowsAt (H : Hp) (t : Addr) (mo : Nat) (rows : List Str) (wd : Nat) : Prop := H t = some (.tup (rows.map V.str)) ∧ RowsOk rows wd ∧ (∀ r ∈ rows, lineS r = true) ∧ wholeZ (Txt.join "" rows) = true ∧ manyZ (Txt.join "" rows) "12" = (mo : Int)
def Sh (H : Hp) (v : V) : Prop := ∃ (a : Addr) (h w : Nat), v = .ref a ∧ H a = some (.tup [.int h, .int w]) ∧ 1 ≤ h ∧ h ≤ 4 ∧ 1 ≤ w ∧ w ≤ 6 ∧ 3 ≤ h * w ∧ h * w ≤ 9
theorem Sh.same {H H' : Hp} {v : V} (s : Same H H') (h : Sh H v) : Sh H' v := by
  obtain ⟨a, h1, w, e, ha, r⟩ := h
  exact ⟨a, h1, w, e, s _ _ ha, r⟩
abbrev Shg (h w : Nat) : Prop := 1 ≤ h ∧ h ≤ 4 ∧ 1 ≤ w ∧ w ≤ 6 ∧ 3 ≤ h * w ∧ h * w ≤ 9
def ShA (ta : TA) (n : Nat) : Prop := ∀ (σ : St) (H : Hp) (Q : List V → Hp → Prop), (∀ vs H', Same H H' → (∀ v ∈ vs, Sh H' v) → vs.length = n → Q vs H') → ta σ H Q
theorem seq_of {t u : TS} {D : Ends} {σ : St} {H : Hp} (h : t { D with nx := u D } σ H) : tSeq t u D σ H := h
theorem asg_of {te : TE} {g : TG} {D : Ends} {σ : St} {H : Hp} (h : te σ H fun x H1 => g x σ H1 D.nx) : tAsg te g D σ H := h
theorem sh_nil : ShA tNil 0 := fun σ H Q k => k [] H (Same.refl _) (fun v hv => by cases hv) rfl
theorem sh_cons (x y : Int) (h w : Nat) (ex : x = (h : Int)) (ey : y = (w : Int)) (g : Shg h w) {ta : TA} {n : Nat} (r : ShA ta n) : ShA (tCons (tTupA (tCons (tC (.int x)) (tCons (tC (.int y)) tNil))) ta) (n + 1) := fun σ H Q k => by
  subst ex ey
  refine And.intro (Nat.le_of_ble_eq_true rfl) fun t H1 n1 => ?_
  refine r σ H1 _ fun vs H' s hs hl => ?_
  refine k _ H' (n1.same.trans s) (fun v hv => ?_) (by rw [List.length_cons, hl])
  rcases List.mem_cons.mp hv with e | e
  · exact ⟨t, h, w, e, s _ _ n1.at_, g⟩
  · exact hs v e
theorem sh_lst {ta : TA} {n : Nat} (r : ShA ta n) (hn : n ≤ 100) {σ : St} {H : Hp} {Q : V → Hp → Prop} (k : ∀ xs S H1 H2, Same H H1 → (∀ v ∈ xs, Sh H1 v) → xs.length = n → New H1 H2 S (.lst xs) → Q (.ref S) H2) : tLstA ta σ H Q :=
  r σ H _ fun vs H1 s hs hl => ⟨Nat.le_of_lt (sz (by rw [hl]; omega)), fun S H2 n2 => k vs S H1 H2 s hs hl n2⟩
theorem shapes7 : ShA (tCons (tTupA (tCons (tC (.int 1)) (tCons (tC (.int 3)) tNil))) (tCons (tTupA (tCons (tC (.int 1)) (tCons (tC (.int 4)) tNil))) (tCons (tTupA (tCons (tC (.int 1)) (tCons (tC (.int 5)) tNil))) (tCons (tTupA (tCons (tC (.int 1)) (tCons (tC (.int 6)) tNil))) (tCons (tTupA (tCons (tC (.int 2)) (tCons (tC (.int 2)) tNil))) (tCons (tTupA (tCons (tC (.int 2)) (tCons (tC (.int 3)) tNil))) (tCons (tTupA (tCons (tC (.int 3)) (tCons (tC (.int 2)) tNil))) tNil))))))) 7 :=
  sh_cons _ _ 1 3 rfl rfl (by decide) (sh_cons _ _ 1 4 rfl rfl (by decide) (sh_cons _ _ 1 5 rfl rfl (by decide) (sh_cons _ _ 1 6 rfl rfl (by decide) (sh_cons _ _ 2 2 rfl rfl (by decide) (sh_cons _ _ 2 3 rfl rfl (by decide) (sh_cons _ _ 3 2 rfl rfl (by decide) sh_nil))))))
theorem shapes8 : ShA (tCons (tTupA (tCons (tC (.int 2)) (tCons (tC (.int 3)) tNil))) (tCons (tTupA (tCons (tC (.int 3)) (tCons (tC (.int 2)) tNil))) (tCons (tTupA (tCons (tC (.int 2)) (tCons (tC (.int 4)) tNil))) (tCons (tTupA (tCons (tC (.int 4)) (tCons (tC (.int 2)) tNil))) (tCons (tTupA (tCons (tC (.int 2)) (tCons (tC (.int 4)) tNil))) (tCons (tTupA (tCons (tC (.int 3)) (tCons (tC (.int 3)) tNil))) (tCons (tTupA (tCons (tC (.int 3)) (tCons (tC (.int 3)) tNil))) (tCons (tTupA (tCons (tC (.int 3)) (tCons (tC (.int 3)) tNil))) tNil)))))))) 8 :=
  sh_cons _ _ 2 3 rfl rfl (by decide) (sh_cons _ _ 3 2 rfl rfl (by decide) (sh_cons _ _ 2 4 rfl rfl (by decide) (sh_cons _ _ 4 2 rfl rfl (by decide) (sh_cons _ _ 2 4 rfl rfl (by decide) (sh_cons _ _ 3 3 rfl rfl (by decide) (sh_cons _ _ 3 3 rfl rfl (by decide) (sh_cons _ _ 3 3 rfl rfl (by decide) sh_nil)))))))
theorem shapes5 : ShA (tCons (tTupA (tCons (tC (.int 1)) (tCons (tC (.int 3)) tNil))) (tCons (tTupA (tCons (tC (.int 1)) (tCons (tC (.int 4)) tNil))) (tCons (tTupA (tCons (tC (.int 1)) (tCons (tC (.int 4)) tNil))) (tCons (tTupA (tCons (tC (.int 2)) (tCons (tC (.int 2)) tNil))) (tCons (tTupA (tCons (tC (.int 1)) (tCons (tC (.int 5)) tNil))) tNil))))) 5 :=
  sh_cons _ _ 1 3 rfl rfl (by decide) (sh_cons _ _ 1 4 rfl rfl (by decide) (sh_cons _ _ 1 4 rfl rfl (by decide) (sh_cons _ _ 2 2 rfl rfl (by decide) (sh_cons _ _ 1 5 rfl rfl (by decide) sh_nil))))
theorem cut_1 {xs : List V} (h : 1 ≤ xs.length) : cutV xs (some 1) none = xs.drop 1 := by
  unfold cutV
  rw [show HT.sIx xs.length 0 (some 1) = 1 from by rw [show (some (1 : Int)) = some ((1 : Nat) : Int) from rfl, HT.sIx_nat]; omega]
  rw [HT.sIx_none, List.take_of_length_le (by rw [List.length_drop]; omega)]
section
variable {P : Program} {w : World} {K : PySem.W.Frag} {mg : Str → Option Value} {base : Heap}
def spRD (K : PySem.W.Frag) : Sp := fun vs H Q _ => ∃ (p : Addr) (mo : Nat), vs = [.ref p, .int mo] ∧ PoolAt H p ∧ mo ≤ 2 ∧ ∀ t rows wd H', Off (fun b => b = p) H H' → PoolK H H' p → RowsAt H' t mo rows wd → (rows.length ≤ 4 ∧ rows.length * wd ≤ 9) → Q (.ref t) H'
theorem ok_rd {f : Addr} {fd : FuncData} (F : Fun K "_law_room_drawn" "_law_room_drawn" s__law_room_drawn f fd) (T : Rb mg) (c__law_pick : CalG P w K mg base 2 "_law_pick" (spPk K)) (c__law_room_of : CalG P w K mg base 4 "_law_room_of" (spRoomOf K)) :
    FnG P w K mg base (CXe P w) 5 f fd ["pool", "mouths"] (spRD K) := by
  refine F.okG sc__law_room_drawn (fun vs H Q E h => ?_) (fun cdv A outer s H vs Q E hgd hr h => ?_)
  · obtain ⟨p, mo, rfl, _⟩ := h; rfl
  · obtain ⟨p, mo, rfl, hp, hmo, k⟩ := h
    refine ⟨_, (pss_cons (ps_set (i := 2) sc__law_room_drawn.nd rfl (Or.inl rfl) (pe_lstA (pa_cons (pe_tupA (pa_cons pe_int (pa_cons pe_int pa_nil))) (pa_cons (pe_tupA (pa_cons pe_int (pa_cons pe_int pa_nil))) (pa_cons (pe_tupA (pa_cons pe_int (pa_cons pe_int pa_nil))) (pa_cons (pe_tupA (pa_cons pe_int (pa_cons pe_int pa_nil))) (pa_cons (pe_tupA (pa_cons pe_int (pa_cons pe_int pa_nil))) (pa_cons (pe_tupA (pa_cons pe_int (pa_cons pe_int pa_nil))) (pa_cons (pe_tupA (pa_cons pe_int (pa_cons pe_int pa_nil))) pa_nil)))))))))
      (C8.pss_cut (ps_if (pt_cmpR op_lt (pv 1) pe_int (nomark _)) (pss_one (ps_set (i := 2) sc__law_room_drawn.nd rfl (Or.inl rfl) (pe_op op_cat (pv 2) (pe_lstA (pa_cons (pe_tupA (pa_cons pe_int (pa_cons pe_int pa_nil))) (pa_cons (pe_tupA (pa_cons pe_int (pa_cons pe_int pa_nil))) (pa_cons (pe_tupA (pa_cons pe_int (pa_cons pe_int pa_nil))) (pa_cons (pe_tupA (pa_cons pe_int (pa_cons pe_int pa_nil))) (pa_cons (pe_tupA (pa_cons pe_int (pa_cons pe_int pa_nil))) (pa_cons (pe_tupA (pa_cons pe_int (pa_cons pe_int pa_nil))) (pa_cons (pe_tupA (pa_cons pe_int (pa_cons pe_int pa_nil))) (pa_cons (pe_tupA (pa_cons pe_int (pa_cons pe_int pa_nil))) pa_nil)))))))))))) pss_nil)
      (C8.pss_cut (ps_if (pt_cmpR op_eq (pv 1) pe_int (nomark _)) (pss_one (ps_set (i := 2) sc__law_room_drawn.nd rfl (Or.inl rfl) (pe_slice sl_list (pv 2) (po_some pe_int) po_none))) pss_nil)
      (pss_cons (ps_asg (pg_c c__law_pick hgd hr (by first | decide | omega) (pa_cons (pv 0) (pa_cons (pv 2) pa_nil))) (pg_tup (by rfl) (pgs_cons (pg_name (i := 3) sc__law_room_drawn.nd rfl (Or.inl rfl)) (pgs_cons (pg_name (i := 4) sc__law_room_drawn.nd rfl (Or.inl rfl)) pgs_nil))))
      (pss_one (ps_ret (pg_c c__law_room_of hgd hr (by first | decide | omega) (pa_cons (pv 0) (pa_cons (pv 3) (pa_cons (pv 4) (pa_cons (pv 1) pa_nil))))))))))), ?_⟩
    refine seq_of (asg_of (sh_lst shapes7 (by decide) fun xs S H1 H2 s1 hs1 hl1 n2 => ?_))
    have hp2 := hp.k (s1.trans n2.same)
    have o2 : Off (fun b => b = p) H H2 := Off.same (s1.trans n2.same)
    refine ⟨fun σ' H' => ∃ (S : Addr) (xs : List V), σ' = [some (.ref p), some (.int mo), some (.ref S), none, none] ∧ H' S = some (.lst xs) ∧ S ≠ p ∧ (∀ v ∈ xs, Sh H' v) ∧ 2 ≤ xs.length ∧ xs.length ≤ 15 ∧ PoolK H H' p ∧ Off (fun b => b = p) H H', ?_, ?_⟩
    · refine ⟨_, rfl, _, _, rfl, rfl, _, rfl, ?_⟩
      refine ite2 (fun _ => ?_) (fun _ => ⟨S, xs, rfl, n2.at_, (hp.same s1).ne n2.free, fun v hv => (hs1 v hv).same n2.same, by rw [hl1]; decide, by rw [hl1]; decide, hp2, o2⟩)
      refine ⟨_, rfl, ?_⟩
      refine sh_lst shapes8 (by decide) fun ys Z H3 H4 s3 hs3 hl3 n4 => ?_
      refine ⟨S, Z, xs, ys, rfl, rfl, n4.same _ _ (s3 _ _ n2.at_), n4.at_, Nat.le_of_lt (sz (by rw [hl1, hl3]; decide)), fun C hC => ?_⟩
      have s4 := (s3.trans n4.same).trans (same_new (o := .lst (xs ++ ys)) hC)
      refine ⟨C, xs ++ ys, rfl, upd_same, ((hp2.1.same s3).same n4.same).ne hC, fun v hv => ?_, by rw [List.length_append, hl1, hl3]; decide, by rw [List.length_append, hl1, hl3]; decide, hp2.same s4, o2.trans (Off.same s4)⟩
      rcases List.mem_append.mp hv with e | e
      · exact ((hs1 v e).same n2.same).same s4
      · exact ((hs3 v e).same n4.same).same (same_new hC)
    rintro σ' H5 ⟨S, xs, rfl, hS, hSp, hxs, hl, hu, hp5, o5⟩
    refine ⟨fun σ' H' => ∃ (S : Addr) (xs : List V), σ' = [some (.ref p), some (.int mo), some (.ref S), none, none] ∧ H' S = some (.lst xs) ∧ S ≠ p ∧ (∀ v ∈ xs, Sh H' v) ∧ 1 ≤ xs.length ∧ xs.length ≤ 15 ∧ PoolK H H' p ∧ Off (fun b => b = p) H H', ?_, ?_⟩
    · refine ⟨_, rfl, (rfl : scal _ _ = true), _, rfl, ?_⟩
      refine ite2 (fun _ => ?_) (fun _ => ⟨S, xs, rfl, hS, hSp, hxs, by omega, hu, hp5, o5⟩)
      refine ⟨_, rfl, _, rfl, S, xs, rfl, SqL.of hS, fun C hC => ?_⟩
      rw [cut_1 (by omega)]
      have s6 : Same H5 (upd H5 C (.lst (xs.drop 1))) := same_new hC
      exact ⟨C, xs.drop 1, rfl, upd_same, hp5.1.ne hC, fun v hv => (hxs v (List.mem_of_mem_drop hv)).same s6, by rw [List.length_drop]; omega, by rw [List.length_drop]; omega, hp5.same s6, o5.trans (Off.same s6)⟩
    rintro σ' H6 ⟨S, xs, rfl, hS, hSp, hxs, hl, hu, hp6, o6⟩
    refine ⟨_, rfl, _, rfl, p, .ref S, rfl, hp6.1, .inl ⟨S, xs, rfl, hS, hSp, by omega, by omega, fun x H7 hx o7 hp7 => ?_⟩⟩
    obtain ⟨a, h, wd, rfl, ha, h1, h5, w1, w6, hn3, hn24⟩ := hxs x hx
    have ha7 := o7 _ _ (hp6.1.notTup ha) ha
    refine ⟨a, [V.int h, V.int wd], rfl, SqT.of ha7, rfl, ?_⟩
    refine ⟨_, _, rfl, _, _, rfl, rfl, _, rfl, _, rfl, _, rfl, _, rfl, p, h, wd, mo, rfl, hp7.1, h1, by omega, w1, w6, by omega, hmo, by omega, fun t rows H8 o8 hp8 ht R lin who man hlen => ?_⟩
    exact k t rows wd H8 ((o6.trans o7).trans o8) ((hp6.trans hp7).trans hp8) ⟨ht, R, lin, who, man⟩ ⟨by omega, by rw [hlen]; omega⟩
theorem ok_small {f : Addr} {fd : FuncData} (F : Fun K "_law_small" "_law_small" s__law_small f fd) (T : Rb mg) (c__law_pick : CalG P w K mg base 2 "_law_pick" (spPk K)) (c__law_room_of : CalG P w K mg base 4 "_law_room_of" (spRoomOf K)) :
    FnG P w K mg base (CXe P w) 5 f fd ["pool", "mouths"] (spRD K) := by
  refine F.okG sc__law_small (fun vs H Q E h => ?_) (fun cdv A outer s H vs Q E hgd hr h => ?_)
  · obtain ⟨p, mo, rfl, _⟩ := h; rfl
  · obtain ⟨p, mo, rfl, hp, hmo, k⟩ := h
    refine ⟨_, (pss_cons (ps_set (i := 2) sc__law_small.nd rfl (Or.inl rfl) (pe_lstA (pa_cons (pe_tupA (pa_cons pe_int (pa_cons pe_int pa_nil))) (pa_cons (pe_tupA (pa_cons pe_int (pa_cons pe_int pa_nil))) (pa_cons (pe_tupA (pa_cons pe_int (pa_cons pe_int pa_nil))) (pa_cons (pe_tupA (pa_cons pe_int (pa_cons pe_int pa_nil))) (pa_cons (pe_tupA (pa_cons pe_int (pa_cons pe_int pa_nil))) pa_nil)))))))
      (C8.pss_cut (ps_if (pt_cmpR op_eq (pv 1) pe_int (nomark _)) (pss_one (ps_set (i := 2) sc__law_small.nd rfl (Or.inl rfl) (pe_slice sl_list (pv 2) (po_some pe_int) po_none))) pss_nil)
      (pss_cons (ps_asg (pg_c c__law_pick hgd hr (by first | decide | omega) (pa_cons (pv 0) (pa_cons (pv 2) pa_nil))) (pg_tup (by rfl) (pgs_cons (pg_name (i := 3) sc__law_small.nd rfl (Or.inl rfl)) (pgs_cons (pg_name (i := 4) sc__law_small.nd rfl (Or.inl rfl)) pgs_nil))))
      (pss_one (ps_ret (pg_c c__law_room_of hgd hr (by first | decide | omega) (pa_cons (pv 0) (pa_cons (pv 3) (pa_cons (pv 4) (pa_cons (pv 1) pa_nil)))))))))), ?_⟩
    refine seq_of (asg_of (sh_lst shapes5 (by decide) fun xs S H1 H2 s1 hs1 hl1 n2 => ?_))
    have hp2 := hp.k (s1.trans n2.same)
    have o2 : Off (fun b => b = p) H H2 := Off.same (s1.trans n2.same)
    refine ⟨fun σ' H' => ∃ (S : Addr) (xs : List V), σ' = [some (.ref p), some (.int mo), some (.ref S), none, none] ∧ H' S = some (.lst xs) ∧ S ≠ p ∧ (∀ v ∈ xs, Sh H' v) ∧ 1 ≤ xs.length ∧ xs.length ≤ 15 ∧ PoolK H H' p ∧ Off (fun b => b = p) H H', ?_, ?_⟩
    · refine ⟨_, rfl, (rfl : scal _ _ = true), _, rfl, ?_⟩
      refine ite2 (fun _ => ?_) (fun _ => ⟨S, xs, rfl, n2.at_, (hp.same s1).ne n2.free, fun v hv => (hs1 v hv).same n2.same, by rw [hl1]; decide, by rw [hl1]; decide, hp2, o2⟩)
      refine ⟨_, rfl, _, rfl, S, xs, rfl, SqL.of n2.at_, fun C hC => ?_⟩
      rw [cut_1 (by rw [hl1]; decide)]
      have s6 : Same H2 (upd H2 C (.lst (xs.drop 1))) := same_new hC
      exact ⟨C, xs.drop 1, rfl, upd_same, hp2.1.ne hC, fun v hv => ((hs1 v (List.mem_of_mem_drop hv)).same n2.same).same s6, by rw [List.length_drop, hl1]; decide, by rw [List.length_drop, hl1]; decide, hp2.same s6, o2.trans (Off.same s6)⟩
    rintro σ' H6 ⟨S, xs, rfl, hS, hSp, hxs, hl, hu, hp6, o6⟩
    refine ⟨_, rfl, _, rfl, p, .ref S, rfl, hp6.1, .inl ⟨S, xs, rfl, hS, hSp, by omega, by omega, fun x H7 hx o7 hp7 => ?_⟩⟩
    obtain ⟨a, h, wd, rfl, ha, h1, h5, w1, w6, hn3, hn24⟩ := hxs x hx
    have ha7 := o7 _ _ (hp6.1.notTup ha) ha
    refine ⟨a, [V.int h, V.int wd], rfl, SqT.of ha7, rfl, ?_⟩
    refine ⟨_, _, rfl, _, _, rfl, rfl, _, rfl, _, rfl, _, rfl, _, rfl, p, h, wd, mo, rfl, hp7.1, h1, by omega, w1, w6, by omega, hmo, by omega, fun t rows H8 o8 hp8 ht R lin who man hlen => ?_⟩
    exact k t rows wd H8 ((o6.trans o7).trans o8) ((hp6.trans hp7).trans hp8) ⟨ht, R, lin, who, man⟩ ⟨by omega, by rw [hlen]; omega⟩
end
inductive Tr where
  | nd (rows : List Str) (wd : Nat) (ch : List Tr)
theorem Tr.ind {R : Tr → Prop} (h : ∀ rows wd ch, (∀ c ∈ ch, R c) → R (.nd rows wd ch)) : ∀ t, R t
  | .nd rows wd ch => h rows wd ch fun c _ => Tr.ind h c
def Tr.cnt : Tr → Nat
  | .nd _ _ ch => 1 + (ch.map Tr.cnt).sum
theorem cnt_nd (rows : List Str) (wd : Nat) (ch : List Tr) : (Tr.nd rows wd ch).cnt = 1 + (ch.map Tr.cnt).sum := by rw [Tr.cnt]
inductive TreeAt (H : Hp) : V → Tr → Prop
  | mk {a r c : Addr} {rows : List Str} {wd : Nat} {vs : List V} {ch : List Tr} : H a = some (.tup [.ref r, .ref c]) → RowsAt H r ch.length rows wd → H c = some (.tup vs) → vs.length = ch.length → (∀ (i : Nat) (v : V) (t : Tr), vs[i]? = some v → ch[i]? = some t → TreeAt H v t) → TreeAt H (.ref a) (.nd rows wd ch)
theorem TreeAt.keep {H H' : Hp} (k : ∀ (a : Addr) (xs : List V), H a = some (.tup xs) → H' a = some (.tup xs)) {v : V} {t : Tr} (h : TreeAt H v t) : TreeAt H' v t := by
  induction h with
  | mk h1 h2 h3 h4 _ ih => exact .mk (k _ _ h1) ⟨k _ _ h2.1, h2.2⟩ (k _ _ h3) h4 ih
theorem TreeAt.same {H H' : Hp} (s : Same H H') {v : V} {t : Tr} (h : TreeAt H v t) : TreeAt H' v t := h.keep fun _ _ e => s _ _ e
theorem TreeAt.off {H H' : Hp} {p : Addr} (hp : PoolAt H p) (o : Off (fun b => b = p) H H') {v : V} {t : Tr} (h : TreeAt H v t) : TreeAt H' v t := h.keep fun _ _ e => o _ _ (hp.notTup e) e
/-- all rooms are of four lines at most -/
inductive Low : Tr → Prop
  | mk {rows : List Str} {wd : Nat} {ch : List Tr} : (rows.length ≤ 4 ∧ rows.length * wd ≤ 9) → (∀ c ∈ ch, Low c) → Low (.nd rows wd ch)
/-- more built-ins that stand -/
structure LvB (mg : Str → Option Value) : Prop where
  n_len : mg "len" = none
  n_range : mg "range" = none
  n_tuple : mg "tuple" = none
  n_list : mg "list" = none
  n_min : mg "min" = none
  n_sum : mg "sum" = none
  n_max : mg "max" = none
  n_isinstance : mg "isinstance" = none
  n_enumerate : mg "enumerate" = none
/-- what stands below n -/
def below (sp : Nat → Sp) (n : Nat) : Sp := fun vs H Q E => ∃ m, m < n ∧ sp m vs H Q E
def TsAt (H : Hp) (vs : List V) (ts : List Tr) : Prop := vs.length = ts.length ∧ ∀ (i : Nat) (v : V) (t : Tr), vs[i]? = some v → ts[i]? = some t → TreeAt H v t
theorem TsAt.keep {H H' : Hp} {vs : List V} {ts : List Tr} (h : TsAt H vs ts) (k : ∀ (a : Addr) (xs : List V), H a = some (.tup xs) → H' a = some (.tup xs)) : TsAt H' vs ts := ⟨h.1, fun i v t e1 e2 => (h.2 i v t e1 e2).keep k⟩
theorem TsAt.snoc {H : Hp} {vs : List V} {ts : List Tr} {v : V} {t : Tr} (h : TsAt H vs ts) (h2 : TreeAt H v t) : TsAt H (vs ++ [v]) (ts ++ [t]) := ⟨by rw [List.length_append, List.length_append, h.1]; rfl, fun i x y e1 e2 => by
  by_cases hi : i < vs.length
  · rw [List.getElem?_append_left hi] at e1
    rw [List.getElem?_append_left (by rw [← h.1]; exact hi)] at e2
    exact h.2 i x y e1 e2
  · rw [List.getElem?_append_right (by omega)] at e1
    rw [List.getElem?_append_right (by rw [← h.1]; omega), ← h.1] at e2
    cases hk : i - vs.length with
    | zero =>
      rw [hk] at e1 e2
      cases e1; cases e2; exact h2
    | succ k => rw [hk] at e1; cases e1⟩
section
variable {P : Program} {w : World} {K : PySem.W.Frag} {mg : Str → Option Value} {base : Heap}
def spTree (K : PySem.W.Frag) (n : Nat) : Sp := fun vs H Q _ => ∃ (p : Addr) (sm : Bool), vs = [.ref p, .int (n + 1 : Nat), .bl sm] ∧ PoolAt H p ∧ n < 1000 ∧ ∀ v t H', Off (fun b => b = p) H H' → PoolK H H' p → TreeAt H' v t → t.cnt ≤ n + 1 → Low t → Q v H'
theorem ok_tree {f : Addr} {fd : FuncData} {n : Nat} (F : Fun K "_law_tree" "_law_tree" s__law_tree f fd) (T : LvB mg) (c__law_draw : CalG P w K mg base 1 "_law_draw" (spDraw K)) (c__law_pick : CalG P w K mg base 2 "_law_pick" (spPk K)) (c__law_small : CalG P w K mg base 5 "_law_small" (spRD K)) (c__law_room_drawn : CalG P w K mg base 5 "_law_room_drawn" (spRD K))
    (c__law_tree : CalG P w K mg base (5 + n) "_law_tree" (below (spTree K) n)) : FnG P w K mg base (CXe P w) (5 + n + 1) f fd ["pool", "most", "is_small"] (spTree K n) := by
  refine F.okG sc__law_tree (fun vs H Q E h => ?_) (fun cdv A outer s H vs Q E hgd hr h => ?_)
  · obtain ⟨p, sm, rfl, _⟩ := h; rfl
  · obtain ⟨p, sm, rfl, hp, hn, k⟩ := h
    refine ⟨_, (pss_cons (ps_set (i := 3) sc__law_tree.nd rfl (Or.inl rfl) pe_int)
      (C8.pss_cut (ps_if (pt_cmpR op_gt (pv 1) pe_int (nomark _)) (pss_one (ps_set (i := 3) sc__law_tree.nd rfl (Or.inl rfl) (pg_c c__law_pick hgd hr (by omega) (pa_cons (pv 0) (pa_cons (pe_lstA (pa_cons pe_int (pa_cons pe_int (pa_cons pe_int (pa_cons pe_int (pa_cons pe_int pa_nil)))))) pa_nil))))) pss_nil)
      (pss_cons (ps_set (i := 3) sc__law_tree.nd rfl (Or.inl rfl) (pe_callB (call_min2 rfl) (by rfl) T.n_min (by decide +kernel) (pa_cons (pv 3) (pa_cons (pe_op op_sub (pv 1) pe_int) pa_nil))))
      (pss_cons (ps_set (i := 4) sc__law_tree.nd rfl (Or.inl rfl) (pe_lstA pa_nil))
      (pss_cons (ps_set (i := 5) sc__law_tree.nd rfl (Or.inl rfl) (pe_op op_sub (pv 1) pe_int))
      (pss_cons (ps_for (passes_of rfl) rfl (pi_range1 (by rfl) T.n_range (pa_cons (pv 3) pa_nil)) (pg_name (i := 6) sc__law_tree.nd rfl (Or.inl rfl))
      (pss_cons (ps_set (i := 7) sc__law_tree.nd rfl (Or.inl rfl) (pe_op op_sub (pv 5) (pe_op op_sub (pe_op op_sub (pv 3) pe_int) (pv 6))))
      (C8.pss_cut (ps_if (pt_cmpR op_lt (pe_op op_add (pv 6) pe_int) (pv 3) (nomark _)) (pss_one (ps_set (i := 7) sc__law_tree.nd rfl (Or.inl rfl) (pe_op op_add pe_int (pg_c c__law_draw hgd hr (by omega) (pa_cons (pv 0) (pa_cons (pv 7) pa_nil)))))) pss_nil)
      (pss_cons (ps_set (i := 8) sc__law_tree.nd rfl (Or.inl rfl) (pg_c c__law_tree hgd hr (by omega) (pa_cons (pv 0) (pa_cons (pv 7) (pa_cons (pv 2) pa_nil)))))
      (pss_cons (ps_expr (pe_bm PySem.F.plainAttrs_list PySem.F.slot_list_append PySem.F.type_list_append mt_append (pv 4) (pa_cons (pv 8) pa_nil)))
      (pss_one (ps_set (i := 5) sc__law_tree.nd rfl (Or.inl rfl) (pe_op op_sub (pv 5) (pv 7)))))))))
      (pss_cons (ps_if (pt_val (pv 2)) (pss_one (ps_ret (pe_tupA (pa_cons (pg_c c__law_small hgd hr (by omega) (pa_cons (pv 0) (pa_cons (pv 3) pa_nil))) (pa_cons (pe_callTy call_tuple_of (by rfl) T.n_tuple (by decide +kernel) (pa_cons (pv 4) pa_nil)) pa_nil))))) pss_nil)
      (pss_one (ps_ret (pe_tupA (pa_cons (pg_c c__law_room_drawn hgd hr (by omega) (pa_cons (pv 0) (pa_cons (pv 3) pa_nil))) (pa_cons (pe_callTy call_tuple_of (by rfl) T.n_tuple (by decide +kernel) (pa_cons (pv 4) pa_nil)) pa_nil)))))))))))), ?_⟩
    refine ⟨fun σ' H' => ∃ mo : Nat, σ' = [some (.ref p), some (.int (n + 1 : Nat)), some (.bl sm), some (.int mo), none, none, none, none, none] ∧ mo ≤ 2 ∧ PoolK H H' p ∧ Off (fun b => b = p) H H', ?_, ?_⟩
    · refine ⟨_, rfl, _, _, rfl, rfl, _, rfl, ?_⟩
      refine ite2 (fun _ => ?_) (fun _ => ⟨0, rfl, by decide, .refl hp, Off.refl _⟩)
      refine ⟨_, rfl, And.intro (Nat.le_of_ble_eq_true rfl) fun L H1 n1 => ?_⟩
      refine ⟨p, .ref L, rfl, hp.same n1.same, .inl ⟨L, _, rfl, n1.at_, hp.ne n1.free, by decide, by decide, fun x H2 hx o2 hp2 => ?_⟩⟩
      have : ∃ mo : Nat, x = .int mo ∧ mo ≤ 2 := by
        simp only [List.mem_cons, List.not_mem_nil, or_false] at hx
        rcases hx with rfl | rfl | rfl | rfl | rfl
        · exact ⟨0, rfl, by decide⟩
        · exact ⟨1, rfl, by decide⟩
        · exact ⟨1, rfl, by decide⟩
        · exact ⟨1, rfl, by decide⟩
        · exact ⟨2, rfl, by decide⟩
      obtain ⟨mo, rfl, hmo⟩ := this
      exact ⟨mo, rfl, hmo, (hp.k n1.same).trans hp2, n1.off.trans o2⟩
    rintro σ' H1 ⟨mo, rfl, hmo, hp1, o1⟩
    have e : V.int (if ((n + 1 : Nat) : Int) - 1 < (mo : Int) then ((n + 1 : Nat) : Int) - 1 else (mo : Int)) = V.int ((min mo n : Nat) : Int) := by
      congr 1
      split <;> omega
    obtain ⟨m2, hm2⟩ : ∃ m2, m2 = min mo n := ⟨_, rfl⟩
    refine ⟨_, rfl, _, rfl, _, _, rfl, rfl, _, _, rfl, ?_⟩
    rw [e, ← hm2]
    refine And.intro (Nat.zero_le _) fun C H3 n3 => ?_
    have hp3 := hp1.same n3.same
    have ap3 := (hp1.1.apart n3.free).same hp1.1 n3.same
    have hCp : C ≠ p := hp1.1.ne n3.free
    have o3 := o1.trans n3.off
    have hCH : H C = none := by
      cases e1 : H C with
      | none => rfl
      | some u =>
        have := o1 C u hCp e1
        rw [n3.free] at this; cases this
    refine ⟨_, rfl, _, _, rfl, rfl, ?_⟩
    refine ⟨_, rfl, _, rfl, by omega, by omega, ?_⟩
    rw [Int.toNat_natCast]
    have en : V.int (((n + 1 : Nat) : Int) - 1) = V.int (n : Int) := congrArg V.int (by omega)
    refine for_range (n := m2) (fun i σ H' => ∃ (left : Nat) (o6 o7 o8 : Option V) (vs : List V) (ts : List Tr), σ = [some (.ref p), some (.int (n + 1 : Nat)), some (.bl sm), some (.int m2), some (.ref C), some (.int left), o6, o7, o8] ∧ H' C = some (.lst vs) ∧ vs.length = i ∧ TsAt H' vs ts ∧ (∀ c ∈ ts, Low c) ∧ (ts.map Tr.cnt).sum + left ≤ n ∧ m2 ≤ left + i ∧ PoolK H H' p ∧ Apart H' p C ∧ Off (fun b => b = p) H H') ⟨n, none, none, none, [], [], by rw [← en]; rfl, n3.at_, rfl, ⟨rfl, fun i v t e1 _ => by simp at e1⟩, (fun c hc => by cases hc), Nat.le_of_eq (Nat.zero_add n), by omega, hp3, ap3, o3⟩ ?_ ?_
    · rintro i σ H4 hi ⟨left, o6, o7, o8, vs, ts, rfl, hC4, hvl, hts, hlow, hsum, hle, hp4, ap4, o4⟩
      refine ⟨_, rfl, _, rfl, _, _, rfl, rfl, _, rfl, _, _, rfl, rfl, _, _, rfl, rfl, ?_⟩
      obtain ⟨sh, hsh⟩ : ∃ sh : Nat, sh = left + i + 1 - m2 := ⟨_, rfl⟩
      have es : V.int ((left : Int) - ((m2 : Int) - 1 - (0 + (i : Int)))) = V.int (sh : Int) := congrArg V.int (by omega)
      refine ⟨fun σ' H' => ∃ sh : Nat, σ' = [some (.ref p), some (.int (n + 1 : Nat)), some (.bl sm), some (.int m2), some (.ref C), some (.int left), some (.int (0 + (i : Int))), some (.int sh), o8] ∧ 1 ≤ sh ∧ sh + m2 ≤ left + i + 1 ∧ PoolK H4 H' p ∧ Off (fun b => b = p) H4 H', ?_, ?_⟩
      · refine ⟨_, rfl, _, _, rfl, rfl, _, rfl, _, _, rfl, rfl, _, rfl, ?_⟩
        refine ite2 (fun _ => ?_) (fun _ => ⟨sh, by rw [← es]; rfl, by omega, by omega, .refl hp4.1, Off.refl _⟩)
        refine ⟨_, rfl, _, rfl, p, (sh : Int), congrArg (fun x => [V.ref p, x]) es, hp4.1, by omega, by omega, fun r H5 ra rb o5 hp5 => ?_⟩
        obtain ⟨rn, rfl⟩ := Int.eq_ofNat_of_zero_le ra
        exact ⟨_, _, rfl, rfl, 1 + rn, by push_cast; rfl, by omega, by omega, hp5, o5⟩
      rintro σ' H5 ⟨sh, rfl, hs1, hs2, hp5, o5⟩
      obtain ⟨m, rfl⟩ : ∃ m, sh = m + 1 := ⟨sh - 1, by omega⟩
      have hC5 := o5 _ _ hCp hC4
      refine ⟨_, rfl, _, rfl, _, rfl, m, by omega, p, sm, rfl, hp5.1, by omega, fun v t H6 o6' hp6 ht hc htl => ?_⟩
      have hC6 := o6' _ _ hCp hC5
      have ap5 := (hp5.2 C (by rw [hC4]; simp) ap4).2
      have ap6 := (hp6.2 C (by rw [hC5]; simp) ap5).2
      refine ⟨_, rfl, .inl ⟨rfl, _, SqL.of hC6⟩, _, rfl, _, _, _, rfl, rfl, hC6, sz (by omega), ?_⟩
      have o56 := o5.trans o6'
      have off7 : Off (fun b => b = p) H (upd H6 C (.lst (vs ++ [v]))) := fun b u nb e1 => by
        rw [upd_ne (fun z => by rw [z, hCH] at e1; cases e1)]
        exact (o4.trans o56) b u nb e1
      have kp : ∀ (a : Addr) (xs : List V), H6 a = some (.tup xs) → upd H6 C (.lst (vs ++ [v])) a = some (.tup xs) := fun a xs e1 => by
        rw [upd_ne (fun z => by rw [z, hC6] at e1; cases e1)]; exact e1
      have hts6 := (hts.keep (fun a xs e1 => o56 _ _ (hp4.1.notTup e1) e1)).snoc ht
      refine ⟨_, rfl, _, rfl, _, _, rfl, rfl, left - (m + 1), some (V.int (0 + (i : Int))), some (V.int ((m + 1 : Nat) : Int)), some v, vs ++ [v], ts ++ [t], ?_, upd_same, by rw [List.length_append, hvl]; rfl, hts6.keep kp, (fun c hc => by
          rcases List.mem_append.mp hc with hc | hc
          · exact hlow c hc
          · simp only [List.mem_cons, List.not_mem_nil, or_false] at hc; subst hc; exact htl), ?_, by omega, ((hp4.trans hp5).trans hp6).mut ap6, ap6.upd hCp, off7⟩
      · have : (left : Int) - ((m + 1 : Nat) : Int) = ((left - (m + 1) : Nat) : Int) := by omega
        show [_, _, _, _, _, some (V.int ((left : Int) - ((m + 1 : Nat) : Int))), _, _, _] = _
        rw [this]
      · rw [List.map_append, List.sum_append]
        show _ + (t.cnt + 0) + _ ≤ n
        omega
    rintro σ H4 ⟨left, o6, o7, o8, vs, ts, rfl, hC4, hvl, hts, hlow, hsum, hle, hp4, ap4, o4⟩
    have fin : ∀ r rows wd H5, Off (fun b => b = p) H4 H5 → PoolK H4 H5 p → RowsAt H5 r m2 rows wd → (rows.length ≤ 4 ∧ rows.length * wd ≤ 9) → ∀ l, H5 l = none → ∀ a H7, New (upd H5 l (HO.tup vs)) H7 a (.tup [.ref r, .ref l]) → Q (.ref a) H7 := fun r rows wd H5 o5 hp5 hR hrl l hl a H7 n7 => by
      have hC5 := o5 _ _ hCp hC4
      have s6 : Same H5 (upd H5 l (HO.tup vs)) := same_new hl
      have s7 := s6.trans n7.same
      refine k _ (.nd rows wd ts) H7 ((o4.trans o5).trans (Off.same s7)) ((hp4.trans hp5).same s7) ?_ ?_ (.mk hrl hlow)
      · refine .mk n7.at_ ⟨s7 _ _ hR.1, ?_⟩ (n7.same _ _ upd_same) hts.1 fun i v t e1 e2 => ?_
        · rw [show ts.length = m2 from by rw [← hts.1, hvl]]; exact hR.2
        · exact ((hts.2 i v t e1 e2).keep fun a xs e => o5 _ _ (hp4.1.notTup e) e).same s7
      · rw [cnt_nd]; omega
    have fin2 : ∀ r H5, Off (fun b => b = p) H4 H5 → PoolK H4 H5 p → (∃ rows wd, RowsAt H5 r m2 rows wd ∧ rows.length ≤ 4 ∧ rows.length * wd ≤ 9) → H5 C = some (.lst vs) ∧ ∀ l, H5 l = none → ∀ a H7, New (upd H5 l (HO.tup vs)) H7 a (.tup [.ref r, .ref l]) → Q (.ref a) H7 := fun r H5 o5 hp5 ⟨rows, wd, hR, hrl⟩ => ⟨o5 _ _ hCp hC4, fin r rows wd H5 o5 hp5 hR hrl⟩
    cases sm with
    | true =>
      refine ⟨_, rfl, _, rfl, iteT ?_⟩
      refine ⟨_, rfl, _, rfl, p, m2, rfl, hp4.1, by omega, fun r rows wd H5 o5 hp5 hR hrl => ?_⟩
      obtain ⟨hC5, f2⟩ := fin2 r H5 o5 hp5 ⟨rows, wd, hR, hrl⟩
      exact ⟨_, rfl, C, vs, rfl, .inl ⟨SqL.of hC5, fun l hl => And.intro (Nat.le_of_ble_eq_true rfl) (f2 l hl)⟩⟩
    | false =>
      refine ⟨_, rfl, _, rfl, iteF ?_⟩
      refine ⟨_, rfl, _, rfl, p, m2, rfl, hp4.1, by omega, fun r rows wd H5 o5 hp5 hR hrl => ?_⟩
      obtain ⟨hC5, f2⟩ := fin2 r H5 o5 hp5 ⟨rows, wd, hR, hrl⟩
      exact ⟨_, rfl, C, vs, rfl, .inl ⟨SqL.of hC5, fun l hl => And.intro (Nat.le_of_ble_eq_true rfl) (f2 l hl)⟩⟩
end
theorem mem_le_sum {x : Nat} : ∀ {L : List Nat}, x ∈ L → x ≤ L.sum
  | y :: r, h => by
    rw [List.sum_cons]
    rcases List.mem_cons.mp h with rfl | h
    · omega
    · have := mem_le_sum h
      omega
theorem cnt_pos : ∀ t : Tr, 1 ≤ t.cnt
  | .nd rows wd ch => by rw [cnt_nd]; omega
theorem cnt_child {rows : List Str} {wd n : Nat} {ch : List Tr} {t : Tr} (h : (Tr.nd rows wd ch).cnt ≤ n + 1) (m : t ∈ ch) : t.cnt ≤ n ∧ 1 ≤ n := by
  rw [cnt_nd] at h
  have h1 := mem_le_sum (List.mem_map_of_mem (f := Tr.cnt) m)
  have h2 := cnt_pos t
  omega
section
variable {P : Program} {w : World} {K : PySem.W.Frag} {mg : Str → Option Value} {base : Heap}
def atMost (N : Nat) (sp : Nat → Sp) : Sp := fun vs H Q E => ∃ n, n ≤ N ∧ sp n vs H Q E
def spLD (K : PySem.W.Frag) (N : Nat) : Sp := fun vs H Q _ => ∃ (p : Addr) (n : Nat), vs = [.ref p, .int (n + 1 : Nat)] ∧ PoolAt H p ∧ n ≤ N ∧ N < 1000 ∧ ∀ v t H', Off (fun b => b = p) H H' → PoolK H H' p → TreeAt H' v t → t.cnt ≤ n + 1 → Low t → Q v H'
theorem ok_ld {f : Addr} {fd : FuncData} {N : Nat} (F : Fun K "_law_level_drawn" "_law_level_drawn" s__law_level_drawn f fd) (c__law_tree : CalG P w K mg base (5 + N + 1) "_law_tree" (atMost N (spTree K))) : FnG P w K mg base (CXe P w) (5 + N + 2) f fd ["pool", "most"] (spLD K N) := by
  refine F.okG sc__law_level_drawn (fun vs H Q E h => ?_) (fun cdv A outer s H vs Q E hgd hr h => ?_)
  · obtain ⟨p, n, rfl, _⟩ := h; rfl
  · obtain ⟨p, n, rfl, hp, hn, hN, k⟩ := h
    refine ⟨_, (pss_one (ps_ret (pg_c c__law_tree hgd hr (by omega) (pa_cons (pv 0) (pa_cons (pv 1) (pa_cons pe_bl pa_nil)))))), ?_⟩
    exact ⟨_, rfl, _, rfl, n, hn, p, false, rfl, hp, by omega, k⟩
end
theorem sc_Level_init : FnScope ["self", "room", "children", "at", "child", "rooms"] ["self", "room", "children"] (defScope s_Level_init) := ⟨rfl, rfl, rfl, by decide +kernel, rfl, by decide +kernel, by decide +kernel⟩
theorem sc_need_room : FnScope ["room"] ["room"] (defScope s_need_room) := ⟨rfl, rfl, rfl, by decide +kernel, rfl, by decide +kernel, by decide +kernel⟩
theorem sc_need_level : FnScope ["level"] ["level"] (defScope s_need_level) := ⟨rfl, rfl, rfl, by decide +kernel, rfl, by decide +kernel, by decide +kernel⟩
theorem rowsFault_none {rows : List Str} {wd : Nat} (R : RowsOk rows wd) (hl : ∀ r ∈ rows, lineS r = true) : rowsFault (rows.map V.str) = none := by
  unfold rowsFault
  rw [if_pos ⟨by simpa using R.h1, by simpa using R.h5⟩, List.find?_range_eq_none.mpr fun i hi => ?_]
  · rfl
  · rw [List.length_map] at hi
    have h1 : (rows.map V.str)[i]? = some (.str rows[i]) := by rw [List.getElem?_map, List.getElem?_eq_getElem hi]; rfl
    have h2 : (rows.map V.str)[i - 1]? = some (.str (rows[i - 1]'(by omega))) := by rw [List.getElem?_map, List.getElem?_eq_getElem (show i - 1 < rows.length by omega)]; rfl
    unfold badAt
    rw [h1, h2]
    show (!(!lineS rows[i] || decide (rows[i].length ≠ (rows[i - 1]'(by omega)).length))) = true
    rw [hl _ (List.getElem_mem _), R.al _ (List.getElem_mem _), R.al _ (List.getElem_mem _)]
    simp
theorem strOf_map (rows : List Str) : (rows.map V.str).map strOf = rows := by
  rw [List.map_map]
  have : strOf ∘ V.str = id := rfl
  rw [this, List.map_id]
def levelF (R c n d : V) : List (Str × V) := [("room", R), ("children", c), ("rooms", n), ("depth", d)]
theorem putF4 (a b c d : V) : putF "depth" d (putF "rooms" c (putF "children" b (putF "room" a []))) = levelF a b c d := by
  have e1 : ¬ (("room" : Str) = "children") := by decide +kernel
  have e2 : ¬ (("room" : Str) = "rooms") := by decide +kernel
  have e3 : ¬ (("room" : Str) = "depth") := by decide +kernel
  have e4 : ¬ (("children" : Str) = "rooms") := by decide +kernel
  have e5 : ¬ (("children" : Str) = "depth") := by decide +kernel
  have e6 : ¬ (("rooms" : Str) = "depth") := by decide +kernel
  simp only [putF, e1, e2, e3, e4, e5, e6, if_false, levelF]
def Tr.dep : Tr → Nat
  | .nd _ _ ch => 1 + (ch.map Tr.dep).foldr max 0
theorem dep_nd (rows : List Str) (wd : Nat) (ch : List Tr) : (Tr.nd rows wd ch).dep = 1 + (ch.map Tr.dep).foldr max 0 := by rw [Tr.dep]
theorem max_fold : ∀ {L : List Nat} {m : Int}, (m ∈ L.map (fun n : Nat => (n : Int)) ∧ ∀ y, y ∈ L.map (fun n : Nat => (n : Int)) → y ≤ m) ∨ L.map (fun n : Nat => (n : Int)) = [] ∧ m = 0 → m = ((L.foldr max 0 : Nat) : Int) := by
  have up : ∀ (L : List Nat) (x : Nat), x ∈ L → x ≤ L.foldr max 0 := fun L x h => by
    induction L with
    | nil => cases h
    | cons a r ih =>
      rw [List.foldr_cons]
      rcases List.mem_cons.mp h with rfl | h
      · exact Nat.le_max_left ..
      · exact Nat.le_trans (ih h) (Nat.le_max_right ..)
  have lo : ∀ (L : List Nat) (k : Nat), (∀ x ∈ L, x ≤ k) → L.foldr max 0 ≤ k := fun L k h => by
    induction L with
    | nil => exact Nat.zero_le _
    | cons a r ih =>
      rw [List.foldr_cons]
      exact Nat.max_le.mpr ⟨h a (List.mem_cons_self ..), ih fun x hx => h x (List.mem_cons_of_mem _ hx)⟩
  intro L m h
  rcases h with ⟨h1, h2⟩ | ⟨h1, rfl⟩
  · obtain ⟨n, hn, rfl⟩ := List.mem_map.mp h1
    have a := up L n hn
    have b := lo L n fun x hx => by have := h2 _ (List.mem_map_of_mem hx); omega
    omega
  · have : L = [] := List.map_eq_nil_iff.mp h1
    rw [this]; rfl
theorem cast_sum (L : List Nat) : (L.map fun n : Nat => (n : Int)).sum = (L.sum : Nat) := by
  induction L with
  | nil => rfl
  | cons a r ih => rw [List.map_cons, List.sum_cons, List.sum_cons, ih]; push_cast; rfl
theorem RoomAt.keepI {C : Addr} {H H' : Hp} {CV dv : Addr} (k : ∀ (b : Addr) (o : HO), H b = some o → o ≠ HO.ins CV dv [] → H' b = some o) {x : Addr} {rows : List Str} {wd : Nat} (h : RoomAt C H x rows wd) : RoomAt C H' x rows wd := by
  obtain ⟨ok, ln, wh, dx, t, ct, pt, nd, h1, h2, h3, h4, u, d, l, r, g1, g2, g3, g4, g5⟩ := h
  have nt : ∀ ys, HO.tup ys ≠ HO.ins CV dv [] := fun ys z => by cases z
  exact ⟨ok, ln, wh, dx, t, ct, pt, nd, k _ _ h1 (fun z => by injection z with _ _ z; cases z), k _ _ h2 (nt _), k _ _ h3 (nt _), k _ _ h4 (nt _), u, d, l, r, k _ _ g1 (fun z => by cases z), k _ _ g2 (nt _), k _ _ g3 (nt _), k _ _ g4 (nt _), k _ _ g5 (nt _)⟩
/-- the program's own empty tuple -/
def EmptyC (K : PySem.W.Frag) (c : Addr) : Prop := ∃ od us n sl, K.lookup c = some ⟨.type "tuple", od, .seq us n, sl⟩ ∧ us.toList = []
/-- a tuple of children -/
def ChT (K : PySem.W.Frag) (H : Hp) (c : Addr) (vs : List V) : Prop := H c = some (.tup vs) ∨ (vs = [] ∧ EmptyC K c)
theorem EmptyC.sq {K : PySem.W.Frag} {H : Hp} {c : Addr} (h : EmptyC K c) : SqT K H c [] := by
  obtain ⟨od, us, n, sl, l, r⟩ := h
  refine .inr ⟨_, us, n, l, rfl, rfl, ?_, ?_⟩
  · rw [← Array.length_toList, r]
    exact Nat.zero_le _
  · rw [r]
    exact .nil
theorem ChT.sq {K : PySem.W.Frag} {H : Hp} {c : Addr} {vs : List V} (h : ChT K H c vs) : SqT K H c vs := by
  rcases h with h | ⟨rfl, h⟩
  · exact SqT.of h
  · exact h.sq
theorem ChT.keep {K : PySem.W.Frag} {H H' : Hp} {c : Addr} {vs : List V} (k : H c = some (.tup vs) → H' c = some (.tup vs)) (h : ChT K H c vs) : ChT K H' c vs := h.imp k id
theorem ChT.same {K : PySem.W.Frag} {H H' : Hp} {c : Addr} {vs : List V} (s : Same H H') (h : ChT K H c vs) : ChT K H' c vs := h.keep (s _ _)
/-- a level stands at v -/
inductive LevelAt (K : PySem.W.Frag) (CR CV : Addr) (H : Hp) : V → Tr → Prop
  | mk {x dx R c : Addr} {rows : List Str} {wd n d : Nat} {vs : List V} {ch : List Tr} : H x = some (.ins CV dx (levelF (.ref R) (.ref c) (.int n) (.int d))) → n = (Tr.nd rows wd ch).cnt → d = (Tr.nd rows wd ch).dep → RoomAt CR H R rows wd → manyZ (Txt.join "" rows) "12" = (ch.length : Int) → ChT K H c vs → vs.length = ch.length →
      (∀ (i : Nat) (v : V) (t : Tr), vs[i]? = some v → ch[i]? = some t → LevelAt K CR CV H v t) → LevelAt K CR CV H (.ref x) (.nd rows wd ch)
theorem LevelAt.keepI {CR CV dv : Addr} {H H' : Hp} (k : ∀ (b : Addr) (o : HO), H b = some o → o ≠ HO.ins CV dv [] → H' b = some o) {v : V} {t : Tr} (h : LevelAt K CR CV H v t) : LevelAt K CR CV H' v t := by
  induction h with
  | mk a1 a2 a3 a4 a5 a6 a7 _ ih => exact .mk (k _ _ a1 (fun z => by injection z with _ _ z; cases z)) a2 a3 (a4.keepI k) a5 (a6.keep fun e => k _ _ e (fun z => by cases z)) a7 ih
theorem LevelAt.same {CR CV : Addr} {H H' : Hp} (s : Same H H') {v : V} {t : Tr} (h : LevelAt K CR CV H v t) : LevelAt K CR CV H' v t := h.keepI (dv := 0) fun _ _ e _ => s _ _ e
section
variable {P : Program} {w : World} {K : PySem.W.Frag} {mg : Str → Option Value} {base : Heap} {C CR CV CB fB CE fE CT : Addr}
/-- a room is made of right rows -/
theorem make_room {H : Hp} {Q : VK} {E : XK} {x dx a : Addr} {rows : List Str} {wd : Nat} (nx : H x = none) (ndx : H dx = none) (ha : H a = some (.lst (rows.map V.str)) ∨ H a = some (.tup (rows.map V.str))) (R : RowsOk rows wd)
    (hl : ∀ r ∈ rows, lineS r = true) (hw : wholeZ (Txt.join "" rows) = true) (k : ∀ H1, Same H H1 → RoomAt C H1 x rows wd → Q .non H1) :
    spRoomInit K C CB [.ref x, .ref a] (upd (upd H dx (.own x)) x (.ins C dx [])) Q E := by
  have s1 : Same H (upd (upd H dx (.own x)) x (.ins C dx [])) := fun b o e => by
    rw [upd_ne (ne_of_none e nx), upd_ne (ne_of_none e ndx)]
    exact e
  refine ⟨x, dx, .ref a, fun _ => False, rfl, upd_same, .inr ⟨a, rows.map V.str, rfl, ha.imp (s1 _ _) (s1 _ _), fun y hy => ?_, fun i hi => ?_, fun rows' wd' e' R' hl' => ⟨fun hw' => ?_, fun H1 q keep => ?_⟩⟩⟩
  · obtain ⟨r, hr, rfl⟩ := List.mem_map.mp hy
    exact ⟨⟨true, _, .str r⟩, fun z ez => by
      cases ez
      rw [R.al r hr]
      exact Nat.le_trans R.w6 (by decide +kernel)⟩
  · rw [rowsFault_none R hl] at hi
    cases hi
  · have er : rows = rows' := by
      have := congrArg (List.map strOf) e'
      rwa [strOf_map, strOf_map] at this
    subst er
    rw [hw] at hw'
    cases hw'
  · have er : rows = rows' := by
      have := congrArg (List.map strOf) e'
      rwa [strOf_map, strOf_map] at this
    subst er
    have ew : wd' = wd := by
      have h1 := R.h1
      cases rows with
      | nil => simp at h1
      | cons r t => exact (R'.al r (List.mem_cons_self ..)).symm.trans (R.al r (List.mem_cons_self ..))
    subst ew
    exact k H1 (fun b o e => keep b o (s1 _ _ e) (ne_of_none e nx)) q
structure LevT (P : Program) (w : World) (K : PySem.W.Frag) (mg : Str → Option Value) (CR CV CB fB CE fE CT : Addr) : Prop extends RoomT P K mg CB fB where
  n_min : mg "min" = none
  icR : C8.InsC K CR
  icV : C8.InsC K CV
  clR : Cls K CR
  clV : Cls K CV
  g_Room : mg "Room" = some (.ref CR)
  g_Level : mg "Level" = some (.ref CV)
  x_BadLevel : RX.ErrT P K mg "BadLevel" "value" CE fE
  x_TooMany : ErrN K mg "TooMany" CT
  n_mouths : NoAttr K CR "mouths"
  n_room : NoAttr K CV "room"
  n_children : NoAttr K CV "children"
  n_rooms : NoAttr K CV "rooms"
  n_depth : NoAttr K CV "depth"
  k_MOST_ROOMS : ∃ t, mg "MOST_ROOMS" = some (.int 60 t)
def spNeedC (K : PySem.W.Frag) (C CB : Addr) : Sp := fun vs H Q E => ∃ (v : V) (t : Value) (b : Bool), vs = [v] ∧ TyX K H v t ∧ PySem.W.kitOne K t (.ref C) = some b ∧ (b = true → Q .non H) ∧ (b = false → ∀ d, H d = none → E (.ref CB) (some d) (upd H d (.xd [("value", v)])))
theorem insTy {C a dx : Addr} {H : Hp} {fs : List (Str × V)} (ic : C8.InsC K C) (h : H a = some (.ins C dx fs)) : TyOf K H (.ref a) (.ref C) := .ins h ic.cl ic.ha ic.hn ic.htk ic.hm
/-- the levels of a list, each with what it is -/
def LvsAt (K : PySem.W.Frag) (CR CV : Addr) (H : Hp) (vs : List V) (ch : List Tr) : Prop := vs.length = ch.length ∧ ∀ (i : Nat) (v : V) (t : Tr), vs[i]? = some v → ch[i]? = some t → LevelAt K CR CV H v t
def spLInit (K : PySem.W.Frag) (CR CV CT : Addr) : Sp := fun vs H Q E => ∃ (x dx R c : Addr) (rows : List Str) (wd : Nat) (ls : List V) (ch : List Tr), vs = [.ref x, .ref R, .ref c] ∧ H x = some (.ins CV dx []) ∧ RoomAt CR H R rows wd ∧ manyZ (Txt.join "" rows) "12" = (ch.length : Int) ∧ (H c = some (.lst ls) ∨ H c = some (.tup ls)) ∧ LvsAt K CR CV H ls ch ∧
  (60 < (Tr.nd rows wd ch).cnt → ∀ H', Same H H' → E (.ref CT) none H') ∧ ((Tr.nd rows wd ch).cnt ≤ 60 → ∀ H', LevelAt K CR CV H' (.ref x) (.nd rows wd ch) → (∀ b o, H b = some o → b ≠ x → H' b = some o) → Q .non H')
theorem op_of {r : R2} {ta tb : TE} {σ : St} {H : Hp} {Q : VK} (h : ta σ H fun x H1 => tb σ H1 fun y H2 => r x y H2 Q) : tOp r ta tb σ H Q := h
theorem tc_of {v : V} {σ : St} {H : Hp} {Q : VK} (h : Q v H) : tC v σ H Q := h
theorem cb_of {r : List V → Hp → VK → Prop} {t : TA} {σ : St} {H : Hp} {Q : VK} (h : t σ H fun vs H1 => r vs H1 Q) : tCB r t σ H Q := h
theorem ckw_of {r : List V → List V → Hp → VK → Prop} {t tk : TA} {σ : St} {H : Hp} {Q : VK} (h : t σ H fun vs H1 => tk σ H1 fun zs H2 => r vs zs H2 Q) : tCKw r t tk σ H Q := h
theorem cons_of {ta : TE} {tr : TA} {σ : St} {H : Hp} {Q : List V → Hp → Prop} (h : ta σ H fun x H1 => tr σ H1 fun xs H2 => Q (x :: xs) H2) : tCons ta tr σ H Q := h
theorem sfld_of {K : PySem.W.Frag} {ta tv : TE} {f : Str} {D : Ends} {σ : St} {H : Hp} (h : tv σ H fun y H1 => ta σ H1 fun x H2 => ∃ a C dx fs, x = .ref a ∧ H2 a = some (.ins C dx fs) ∧ Cls K C ∧ NoAttr K C f ∧ fs.length < 1000 ∧ D.nx σ (upd H2 a (.ins C dx (putF f y fs)))) : sFld K ta tv f D σ H := h
theorem many2 {z : Str} (h : wholeZ z = true) : manyZ z "12" ≤ 2 := by
  obtain ⟨_, ⟨_, h1, h2⟩, _⟩ := (wholeZ_iff _).mp h
  have : ("12" : Str).cps.toList = [49, 50] := by decide +kernel
  unfold manyZ
  rw [this]
  show Txt.count _ ⟨#[49]⟩ + (Txt.count _ ⟨#[50]⟩ + 0) ≤ _
  rw [Int.add_zero, count_nat, count_nat]
  omega
theorem lc_fld {cl : Cls K CV} {fld : Str} {na : NoAttr K CV fld} {g : Tr → Nat} {x R c : Addr} {o3 o4 o5 : Option V} {H : Hp} {Q : VK} {ls : List V} {ch : List Tr} (hc : H c = some (.lst ls) ∨ H c = some (.tup ls)) (hl : ls.length = ch.length) (hn : ch.length ≤ 100)
    (hch : ∀ (i : Nat) (v : V) (t : Tr), ls[i]? = some v → ch[i]? = some t → ∃ y ydx fs, v = .ref y ∧ H y = some (.ins CV ydx fs) ∧ fs.lookup fld = some (.int (g t : Nat)))
    (k : ∀ D H', Same H H' → H' D = some (.lst ((ch.map g).map fun n : Nat => V.int n)) → Q (.ref D) H') :
    tLc (iSeq K (tVar 2)) (gName 4) tYes (tFld K (tVar 4) fld) [4] [some (.ref x), some (.ref R), some (.ref c), o3, o4, o5] H Q := by
  rcases hc with h | h
  · refine ⟨_, rfl, c, rfl, .inl ⟨⟨_, SqL.of h⟩, fun D hD => lc_it (walk_list (xs := ls)) (fun i H' => H' D = some (.lst (((ch.take i).map g).map fun n : Nat => V.int n)) ∧ Off (fun b => b = D) H H') ⟨upd_same, Off.new hD⟩ (fun i H' _ z => SqL.of (z.2 _ _ (ne_of_none h hD) h)) ?_ ?_⟩⟩
    · rintro i y Ha Hb hi ⟨hacc, off⟩ ⟨rfl, hy⟩
      have hi2 : i < ch.length := by rw [← hl]; exact hi
      obtain ⟨b, ydx, fs, rfl, hb, hf⟩ := hch i y ch[i] hy (List.getElem?_eq_getElem hi2)
      have s : Same H Hb := fun b o e => off b o (ne_of_none e hD) e
      refine And.intro rfl (yes_of (iteT ?_))
      refine ⟨_, rfl, b, CV, ydx, fs, _, rfl, s _ _ hb, cl, na, hf, _, hacc, sz ?_, ?_, off.trans (Off.mut rfl)⟩
      · rw [List.length_map, List.length_map]
        exact Nat.le_trans (List.length_take_le' ..) (by omega)
      · rw [upd_same, List.take_add_one, List.getElem?_eq_getElem hi2, List.map_append, List.map_append]; rfl
    rintro H4 ⟨hacc, off⟩
    rw [hl, List.take_length] at hacc
    exact k D H4 (fun b o e => off b o (ne_of_none e hD) e) hacc
  · refine ⟨_, rfl, c, rfl, .inr ⟨⟨_, SqT.of h⟩, fun D hD => lc_it (walk_tup (xs := ls)) (fun i H' => H' D = some (.lst (((ch.take i).map g).map fun n : Nat => V.int n)) ∧ Off (fun b => b = D) H H') ⟨upd_same, Off.new hD⟩ (fun i H' _ z => SqT.of (z.2 _ _ (ne_of_none h hD) h)) ?_ ?_⟩⟩
    · rintro i y Ha Hb hi ⟨hacc, off⟩ ⟨rfl, hy⟩
      have hi2 : i < ch.length := by rw [← hl]; exact hi
      obtain ⟨b, ydx, fs, rfl, hb, hf⟩ := hch i y ch[i] hy (List.getElem?_eq_getElem hi2)
      have s : Same H Hb := fun b o e => off b o (ne_of_none e hD) e
      refine And.intro rfl (yes_of (iteT ?_))
      refine ⟨_, rfl, b, CV, ydx, fs, _, rfl, s _ _ hb, cl, na, hf, _, hacc, sz ?_, ?_, off.trans (Off.mut rfl)⟩
      · rw [List.length_map, List.length_map]
        exact Nat.le_trans (List.length_take_le' ..) (by omega)
      · rw [upd_same, List.take_add_one, List.getElem?_eq_getElem hi2, List.map_append, List.map_append]; rfl
    rintro H4 ⟨hacc, off⟩
    rw [hl, List.take_length] at hacc
    exact k D H4 (fun b o e => off b o (ne_of_none e hD) e) hacc
theorem ok_linit {f : Addr} {fd : FuncData} {dvs : List V} (F : FunD K "__init__" "Level.__init__" (defArgs s_Level_init) (defBody s_Level_init) (defScope s_Level_init) dvs [] f fd) (T : LevT P w K mg CR CV CB fB CE fE CT) (c_need_room : CalG P w K mg base 3 "need_room" (spNeedC K CR CB)) (c_is_row : CalG P w K mg base 1 "is_row" (spIsRow K)) :
    FnG P w K mg base (CXe P w) 4 f fd ["self", "room", "children"] (spLInit K CR CV CT) := by
  refine F.okG sc_Level_init (fun vs H Q E h => ?_) (fun cdv A outer s H vs Q E hgd hr h => ?_)
  · obtain ⟨x, dx, R, c, rows, wd, ls, ch, rfl, _⟩ := h; rfl
  · obtain ⟨x, dx, R, c, rows, wd, ls, ch, rfl, hx, hR, hmo, hc, hl, kE, kQ⟩ := h
    refine ⟨_, (pss_cons (ps_expr (pg_cS c_need_room hgd hr (by decide) (fun σ => passAt (takes_of rfl rfl rfl rfl) σ) (pa_cons (pv 1) pa_nil)))
      (pss_cons (ps_if (PW.pt (pw_or (pt_not (pt_val (pg_c c_is_row hgd hr (by decide) (pa_cons (pv 2) pa_nil)))) (pw_or1 (pt_cmpR op_ne (pe_callB call_len_seq (by rfl) T.n_len (by decide +kernel) (pa_cons (pv 2) pa_nil)) (pe_fld (pv 1) rfl) (nomark _))))) (pss_one (ps_raiseErr rfl T.x_BadLevel hr (takes_of rfl rfl rfl rfl) (pa_cons (pe_un un_neg pe_int) pa_nil))) pss_nil)
      (pss_cons (ps_for (passes_of rfl) rfl (pi_enum2 (by rfl) T.n_enumerate (pa_cons (pv 2) pa_nil)) (pg_tup (by rfl) (pgs_cons (pg_name (i := 3) sc_Level_init.nd rfl (Or.inl rfl)) (pgs_cons (pg_name (i := 4) sc_Level_init.nd rfl (Or.inl rfl)) pgs_nil)))
      (pss_one (ps_if (pt_not (pt_val (pe_callB call_isi (by rfl) T.n_isinstance (by decide +kernel) (pa_cons (pv 4) (pa_cons (pe_glob (v := .ref _) rfl T.g_Level rfl) pa_nil))))) (pss_one (ps_raiseErr rfl T.x_BadLevel hr (takes_of rfl rfl rfl rfl) (pa_cons (pv 3) pa_nil))) pss_nil)))
      (pss_cons (ps_set (i := 5) sc_Level_init.nd rfl (Or.inl rfl) (pe_op op_add pe_int (pe_callB (cr_sum rfl) (by rfl) T.n_sum (by decide +kernel) (pa_cons (pe_lc (own := [("child", 4)]) (g := gName 4) (tt := tYes) rfl sc_Level_init.nd (pi_seq (pv 2)) (blkOk_by (own := [("child", 4)]) (N := ["self", "room", "children", "at", "child", "rooms"]) (sc := defScope s_Level_init) (by decide +kernel)) (fun _ _ _ _ _ => pg_name (i := 4) sc_Level_init.nd rfl (Or.inl rfl)) (fun _ _ _ _ _ => pts_nil) (fun _ _ _ _ _ => (show PE _ _ (tFld K (tVar 4) "rooms") from pe_fld (pv 4) rfl))) pa_nil))))
      (pss_cons (ps_if (pt_cmpR op_gt (pv 5) (pe_glob (v := .int 60) rfl (Exists.choose_spec T.k_MOST_ROOMS) ⟨_, rfl⟩) (nomark _)) (pss_one (ps_raiseN rfl T.x_TooMany (takes_of rfl rfl rfl rfl))) pss_nil)
      (pss_cons (ps_fld (pv 0) (pv 1) rfl)
      (pss_cons (ps_fld (pv 0) (pe_callTy cr_tup2 (by rfl) T.n_tuple (by decide +kernel) (pa_cons (pv 2) pa_nil)) rfl)
      (pss_cons (ps_fld (pv 0) (pv 5) rfl)
      (pss_one (ps_fld (pv 0) (pe_op op_add pe_int (pe_callBK (cr_maxDf rfl) (by rfl) T.n_max (by decide +kernel) (pa_cons (pe_lc (own := [("child", 4)]) (g := gName 4) (tt := tYes) rfl sc_Level_init.nd (pi_seq (pv 2)) (blkOk_by (own := [("child", 4)]) (N := ["self", "room", "children", "at", "child", "rooms"]) (sc := defScope s_Level_init) (by decide +kernel)) (fun _ _ _ _ _ => pg_name (i := 4) sc_Level_init.nd rfl (Or.inl rfl)) (fun _ _ _ _ _ => pts_nil) (fun _ _ _ _ _ => (show PE _ _ (tFld K (tVar 4) "depth") from pe_fld (pv 4) rfl))) pa_nil) (pk_cons pe_int pk_nil))) rfl)))))))))), ?_⟩
    obtain ⟨Rdx, Rt, Rct, Rpt, Rnd, hRx, _⟩ := id hR.ex
    obtain ⟨hll, hlv⟩ := id hl
    have child : ∀ (i : Nat) (v : V) (t : Tr), ls[i]? = some v → ch[i]? = some t → ∃ y ydx r c', v = .ref y ∧ H y = some (.ins CV ydx (levelF r c' (.int (t.cnt : Nat)) (.int (t.dep : Nat)))) := fun i v t e1 e2 => by
      cases hlv i v t e1 e2 with
      | mk a1 a2 a3 _ _ _ _ _ => rw [a2, a3] at a1; exact ⟨_, _, _, _, rfl, a1⟩
    have hn2 : ch.length ≤ 100 := by have := many2 hR.whole; omega
    refine ⟨_, rfl, .ref R, .ref CR, true, rfl, .base (insTy T.icR hRx), T.icR.me, fun _ => ?_, fun z => nomatch z⟩
    obtain ⟨ty, tyx, ek⟩ : ∃ t, (∀ H', Same H H' → TyX K H' (.ref c) t) ∧ PySem.W.kitAny K t [.type "list", .type "tuple"] = some true := by
      rcases hc with q | q
      · exact ⟨_, fun H' s' => .base (.lst (s' _ _ q)), kitAny_ty (show kitB "list" "list" = some true by decide +kernel) (show kitB "list" "tuple" = some false by decide +kernel)⟩
      · exact ⟨_, fun H' s' => .base (.tup (s' _ _ q)), kitAny_ty (show kitB "tuple" "list" = some false by decide +kernel) (show kitB "tuple" "tuple" = some true by decide +kernel)⟩
    refine ⟨_, rfl, .ref c, ty, true, rfl, tyx _ (Same.refl _), tyx, ek, fun H1 s1 => ?_⟩
    have hc1 : H1 c = some (.lst ls) ∨ H1 c = some (.tup ls) := hc.imp (s1 _ _) (s1 _ _)
    have sq : ∀ {H'}, Same H H' → (SqL K H' c ls ∨ SqT K H' c ls) := fun s => hc.imp (fun q => SqL.of (s _ _ q)) (fun q => SqT.of (s _ _ q))
    refine ⟨_, rfl, iteF' (by simp) ?_⟩
    refine ⟨_, rfl, c, ls, rfl, sq s1, _, rfl, R, CR, Rdx, _, _, rfl, s1 _ _ hRx, T.clR, T.n_mouths, rfl, ?_⟩
    refine ⟨(rfl : scal _ _ = true), _, rfl, ?_⟩
    refine iteF' (fun z => ?_) ?_
    · have e : V.int (ls.length : Nat) = V.int (manyZ (Txt.join "" rows) "12") := by rw [hmo, hll]
      revert z
      simp [e]
    refine ⟨_, rfl, c, ls, rfl, sq s1, fun J G wk hG => for_it wk (fun i σ H' => (∃ o3 o4, σ = [some (.ref x), some (.ref R), some (.ref c), o3, o4, none]) ∧ Same H1 H') ⟨⟨none, none, rfl⟩, Same.refl _⟩ (fun i σ H' _ q => hG H' q.2) ?_ ?_⟩
    · rintro i y σ H2 H3 hi ⟨⟨o3, o4, rfl⟩, s2⟩ ⟨T', x1, y1, rfl, hT, rfl, e1, e2⟩
      cases e1
      have e2 : ls[i]? = some y1 := e2
      have s3 : Same H2 (upd H2 T' (.tup [.int (i : Nat), y1])) := same_new hT
      have hi2 : i < ch.length := by rw [← hll]; exact hi
      obtain ⟨b, ydx, r', c', rfl, hb⟩ := child i y1 ch[i] e2 (List.getElem?_eq_getElem hi2)
      refine ⟨T', _, rfl, SqT.of upd_same, rfl, _, _, rfl, _, _, rfl, rfl, ?_⟩
      refine ⟨_, rfl, _, _, _, _, _, rfl, .own CV, .base (insTy T.icV (s3 _ _ (s2 _ _ (s1 _ _ hb)))), T.icV.me, _, rfl, ?_⟩
      exact iteF' (by simp) ⟨⟨_, _, rfl⟩, s2.trans s3⟩
    rintro σ H2 ⟨⟨o3, o4, rfl⟩, s2⟩
    have hc2 : H2 c = some (.lst ls) ∨ H2 c = some (.tup ls) := hc1.imp (s2 _ _) (s2 _ _)
    have s02 := s1.trans s2
    refine seq_of (asg_of (op_of (tc_of (cb_of (cons_of (lc_fld (cl := T.clV) (na := T.n_rooms) (g := Tr.cnt) hc2 hll hn2 (fun i v t e1 e2 => ?_) fun D H3 s3 hD => ?_))))))
    · obtain ⟨y, ydx, r', c', rfl, hy⟩ := child i v t e1 e2
      exact ⟨y, ydx, _, rfl, s02 _ _ hy, rfl⟩
    have ec : V.int (1 + ((ch.map Tr.cnt).map fun n : Nat => (n : Int)).sum) = V.int ((Tr.nd rows wd ch).cnt : Nat) := by
      rw [cast_sum, cnt_nd]; push_cast; rfl
    refine ⟨D, (ch.map Tr.cnt).map fun n : Nat => (n : Int), rfl, SqL.of (by rw [List.map_map]; exact hD), 1, _, rfl, rfl, ?_⟩
    have ec' : (fun i j => V.int (i + j)) 1 ((ch.map Tr.cnt).map fun n : Nat => (n : Int)).sum = V.int ((Tr.nd rows wd ch).cnt : Nat) := ec
    rw [ec']
    have s03 := s02.trans s3
    refine ⟨_, rfl, _, _, rfl, rfl, _, rfl, ?_⟩
    refine ite2 (fun h60 => ?_) (fun h60 => ?_)
    · exact kE (by have := of_decide_eq_true h60; omega) H3 s03
    have h60' : (Tr.nd rows wd ch).cnt ≤ 60 := by
      have : ¬ ((60 : Int) < ((Tr.nd rows wd ch).cnt : Nat)) := fun z => h60 (decide_eq_true z)
      omega
    have o3 : Off (fun b => b = x) H H3 := Off.same s03
    have hx3 := s03 _ _ hx
    refine ⟨_, rfl, _, rfl, x, CV, dx, [], rfl, hx3, T.clV, T.n_room, by decide, ?_⟩
    have o4 : Off (fun b => b = x) H3 (upd H3 x (.ins CV dx (putF "room" (.ref R) []))) := Off.mut rfl
    have hx4 : upd H3 x (.ins CV dx (putF "room" (.ref R) [])) x = some (.ins CV dx (putF "room" (.ref R) [])) := upd_same
    generalize upd H3 x (.ins CV dx (putF "room" (.ref R) [])) = H4 at o4 hx4 ⊢
    have hcx : c ≠ x := fun z => by rw [z, hx] at hc; rcases hc with q | q <;> cases q
    have o04 := o3.trans o4
    have hc4 : H4 c = some (.lst ls) ∨ H4 c = some (.tup ls) := hc.imp (o04 _ _ hcx) (o04 _ _ hcx)
    refine ⟨_, rfl, c, ls, rfl, hc4, fun tp H5 s5 htp _ => ?_⟩
    have hx5 := s5 _ _ hx4
    have o05 := o04.trans (Off.same s5)
    refine ⟨_, rfl, x, CV, dx, _, rfl, hx5, T.clV, T.n_children, Nat.lt_of_le_of_lt (putF_len ..) (by decide), ?_⟩
    have pl1 : (putF "room" (.ref R) []).length ≤ 1 := putF_len ..
    have pl2 : (putF "children" (.ref tp) (putF "room" (.ref R) [])).length ≤ 2 := Nat.le_trans (putF_len ..) (by omega)
    have htx : tp ≠ x := fun z => by rw [z, hx5] at htp; cases htp
    have o6 : Off (fun b => b = x) H5 (upd H5 x (.ins CV dx (putF "children" (.ref tp) (putF "room" (.ref R) [])))) := Off.mut rfl
    have hx6 : upd H5 x (.ins CV dx (putF "children" (.ref tp) (putF "room" (.ref R) []))) x = some (.ins CV dx (putF "children" (.ref tp) (putF "room" (.ref R) []))) := upd_same
    generalize upd H5 x (.ins CV dx (putF "children" (.ref tp) (putF "room" (.ref R) []))) = H6 at o6 hx6 ⊢
    refine ⟨_, rfl, _, rfl, x, CV, dx, _, rfl, hx6, T.clV, T.n_rooms, Nat.lt_of_le_of_lt pl2 (by decide), ?_⟩
    have pl3 : (putF "rooms" (.int (Tr.nd rows wd ch).cnt) (putF "children" (.ref tp) (putF "room" (.ref R) []))).length ≤ 3 := Nat.le_trans (putF_len ..) (by omega)
    have o7 : Off (fun b => b = x) H6 (upd H6 x (.ins CV dx (putF "rooms" (.int (Tr.nd rows wd ch).cnt) (putF "children" (.ref tp) (putF "room" (.ref R) []))))) := Off.mut rfl
    have hx7 : upd H6 x (.ins CV dx (putF "rooms" (.int (Tr.nd rows wd ch).cnt) (putF "children" (.ref tp) (putF "room" (.ref R) [])))) x = some (.ins CV dx (putF "rooms" (.int (Tr.nd rows wd ch).cnt) (putF "children" (.ref tp) (putF "room" (.ref R) [])))) := upd_same
    generalize upd H6 x (.ins CV dx (putF "rooms" (.int (Tr.nd rows wd ch).cnt) (putF "children" (.ref tp) (putF "room" (.ref R) [])))) = H7 at o7 hx7 ⊢
    have o07 := (o05.trans o6).trans o7
    have hc7 : H7 c = some (.lst ls) ∨ H7 c = some (.tup ls) := hc.imp (o07 _ _ hcx) (o07 _ _ hcx)
    refine sfld_of (op_of (tc_of (ckw_of (cons_of (lc_fld (cl := T.clV) (na := T.n_depth) (g := Tr.dep) hc7 hll hn2 (fun i v t e1 e2 => ?_) fun D' H8 s8 hD8 => ?_)))))
    · obtain ⟨y, ydx, r', c', rfl, hy⟩ := child i v t e1 e2
      exact ⟨y, ydx, _, rfl, o07 _ _ (fun z => by rw [z, hx] at hy; injection hy with hy; injection hy with _ _ hy; cases hy) hy, rfl⟩
    refine ⟨D', (ch.map Tr.dep).map fun n : Nat => (n : Int), 0, rfl, rfl, SqL.of (by rw [List.map_map]; exact hD8), fun m hm => ?_⟩
    have hx8 := s8 _ _ hx7
    refine ⟨_, _, rfl, rfl, _, rfl, x, CV, dx, _, rfl, hx8, T.clV, T.n_depth, Nat.lt_of_le_of_lt pl3 (by decide), ?_⟩
    have em : V.int (1 + m) = V.int ((Tr.nd rows wd ch).dep : Nat) := by
      rw [max_fold hm, dep_nd]; push_cast; rfl
    have em' : (fun i j => V.int (i + j)) 1 m = V.int ((Tr.nd rows wd ch).dep : Nat) := em
    rw [em', putF4]
    have o08 := (o07.trans (Off.same s8)).trans (Off.mut (H := H8) (o := .ins CV dx (levelF (.ref R) (.ref tp) (.int (Tr.nd rows wd ch).cnt) (.int (Tr.nd rows wd ch).dep))) rfl)
    have kp : ∀ (b : Addr) (o : HO), H b = some o → o ≠ HO.ins CV dx [] → upd H8 x (.ins CV dx (levelF (.ref R) (.ref tp) (.int (Tr.nd rows wd ch).cnt) (.int (Tr.nd rows wd ch).dep))) b = some o := fun b o e ne => o08 b o (fun z => ne (by rw [z, hx] at e; exact (Option.some.inj e).symm)) e
    have ht8 := s8 _ _ (o7 _ _ htx (o6 _ _ htx htp))
    exact kQ h60' _ (.mk upd_same rfl rfl (hR.keepI kp) hmo (.inl ((upd_ne htx).trans ht8)) hll fun i v t e1 e2 => (hlv i v t e1 e2).keepI kp) fun b o e ne => o08 b o ne e
end
theorem RoomAt.same {C : Addr} {H H' : Hp} (s : Same H H') {x : Addr} {rows : List Str} {wd : Nat} (h : RoomAt C H x rows wd) : RoomAt C H' x rows wd := h.keepI (CV := 0) (dv := 0) fun _ _ e _ => s _ _ e
theorem RoomAt.keepL {C : Addr} {H H' : Hp} (k : ∀ (b : Addr) (o : HO), H b = some o → (∀ xs, o ≠ HO.lst xs) → H' b = some o) {x : Addr} {rows : List Str} {wd : Nat} (h : RoomAt C H x rows wd) : RoomAt C H' x rows wd := by
  obtain ⟨ok, ln, wh, dx, t, ct, pt, nd, h1, h2, h3, h4, u, d, l, r, g1, g2, g3, g4, g5⟩ := h
  have nt : ∀ ys xs, HO.tup ys ≠ HO.lst xs := fun ys xs z => by cases z
  exact ⟨ok, ln, wh, dx, t, ct, pt, nd, k _ _ h1 (fun _ z => by cases z), k _ _ h2 (nt _), k _ _ h3 (nt _), k _ _ h4 (nt _), u, d, l, r, k _ _ g1 (fun _ z => by cases z), k _ _ g2 (nt _), k _ _ g3 (nt _), k _ _ g4 (nt _), k _ _ g5 (nt _)⟩
theorem LevelAt.keepL {CR CV : Addr} {H H' : Hp} (k : ∀ (b : Addr) (o : HO), H b = some o → (∀ xs, o ≠ HO.lst xs) → H' b = some o) {v : V} {t : Tr} (h : LevelAt K CR CV H v t) : LevelAt K CR CV H' v t := by
  induction h with
  | mk a1 a2 a3 a4 a5 a6 a7 _ ih => exact .mk (k _ _ a1 (fun _ z => by cases z)) a2 a3 (a4.keepL k) a5 (a6.keep fun e => k _ _ e (fun _ z => by cases z)) a7 ih
theorem LvsAt.keepL {CR CV : Addr} {H H' : Hp} (k : ∀ (b : Addr) (o : HO), H b = some o → (∀ xs, o ≠ HO.lst xs) → H' b = some o) {vs : List V} {ts : List Tr} (h : LvsAt K CR CV H vs ts) : LvsAt K CR CV H' vs ts := ⟨h.1, fun i v t e1 e2 => (h.2 i v t e1 e2).keepL k⟩
theorem LvsAt.snoc {CR CV : Addr} {H : Hp} {vs : List V} {ts : List Tr} {v : V} {t : Tr} (h : LvsAt K CR CV H vs ts) (h2 : LevelAt K CR CV H v t) : LvsAt K CR CV H (vs ++ [v]) (ts ++ [t]) := ⟨by rw [List.length_append, List.length_append, h.1]; rfl, fun i x y e1 e2 => by
  by_cases hi : i < vs.length
  · rw [List.getElem?_append_left hi] at e1
    rw [List.getElem?_append_left (by rw [← h.1]; exact hi)] at e2
    exact h.2 i x y e1 e2
  · rw [List.getElem?_append_right (by omega)] at e1
    rw [List.getElem?_append_right (by rw [← h.1]; omega), ← h.1] at e2
    cases hk : i - vs.length with
    | zero =>
      rw [hk] at e1 e2
      cases e1; cases e2; exact h2
    | succ k => rw [hk] at e1; cases e1⟩
theorem same_two {H : Hp} {x dx : Addr} {o o' : HO} (nx : H x = none) (nd : H dx = none) : Same H (upd (upd H dx o) x o') := fun b u e => by
  rw [upd_ne (ne_of_none e nx), upd_ne (ne_of_none e nd)]
  exact e
theorem cnt_len : ∀ L : List Tr, L.length ≤ (L.map Tr.cnt).sum
  | [] => Nat.le_refl _
  | a :: r => by rw [List.map_cons, List.sum_cons, List.length_cons]; have := cnt_pos a; have := cnt_len r; omega
section
variable {P : Program} {w : World} {K : PySem.W.Frag} {mg : Str → Option Value} {base : Heap} {C CR CV CB fB CE fE CT : Addr}
def spLL (K : PySem.W.Frag) (CR CV : Addr) (n : Nat) : Sp := fun vs H Q _ => ∃ (v : V) (t : Tr), vs = [v] ∧ TreeAt H v t ∧ t.cnt ≤ n + 1 ∧ n < 60 ∧ ∀ v' H', Same H H' → LevelAt K CR CV H' v' t → Q v' H'
theorem ok_ll {f : Addr} {fd : FuncData} {n : Nat} (F : Fun K "_law_level" "_law_level" s__law_level f fd) (T : LevT P w K mg CR CV CB fB CE fE CT) (m_Room : MakG P w K mg base 4 "Room" CR (spRoomInit K CR CB) []) (m_Level : MakG P w K mg base 4 "Level" CV (spLInit K CR CV CT) []) (c__law_level : CalG P w K mg base (5 + n) "_law_level" (below (spLL K CR CV) n)) :
    FnG P w K mg base (CXe P w) (5 + n + 1) f fd ["level"] (spLL K CR CV n) := by
  refine F.okG sc__law_level (fun vs H Q E h => ?_) (fun cdv A outer s H vs Q E hgd hr h => ?_)
  · obtain ⟨v, t, rfl, _⟩ := h; rfl
  · obtain ⟨v, t, rfl, ht, hc, hn, k⟩ := h
    refine ⟨_, (pss_one (ps_ret (pg_mk m_Level hgd hr (by first | decide | omega) (pa_cons (pg_mk m_Room hgd hr (by first | decide | omega) (pa_cons (pe_ix ix_tup (pv 0) pe_int (fun _ _ => rfl)) pa_nil)) (pa_cons (pe_lc (own := [("child", 1)]) (g := gName 1) (tt := tYes) rfl sc__law_level.nd (pi_tup (pe_ix ix_tup (pv 0) pe_int (fun _ _ => rfl))) (blkOk_by (own := [("child", 1)]) (N := ["level", "child"]) (sc := defScope s__law_level) (by decide +kernel)) (fun _ _ _ _ _ => pg_name (i := 1) sc__law_level.nd rfl (Or.inl rfl)) (fun _ _ _ _ _ => pts_nil) (fun _ _ _ _ _ => (pg_c c__law_level hgd hr (by omega) (pa_cons (pv 1) pa_nil)))) pa_nil))))), ?_⟩
    cases ht with
    | @mk a r c rows wd vs ch h1 h2 h3 h4 h5 =>
      obtain ⟨hr', R, lin, who, man⟩ := h2
      refine ⟨_, rfl, a, [V.ref r, V.ref c], 0, V.ref r, rfl, rfl, SqT.of h1, rfl, fun y dy ny ndy ney => make_room ny ndy (.inr hr') R lin who fun H1 s1 hY => ⟨rfl, ?_⟩⟩
      have h31 := s1 _ _ h3
      have hlen : ch.length ≤ n := by
        have e := cnt_nd rows wd ch
        have := cnt_len ch
        omega
      refine ⟨_, rfl, a, [V.ref r, V.ref c], 1, V.ref c, rfl, rfl, SqT.of (s1 _ _ h1), rfl, c, rfl, ⟨_, SqT.of h31⟩, fun D hD => lc_it (walk_tup (xs := vs)) (fun i H' => ∃ ls, H' D = some (.lst ls) ∧ LvsAt K CR CV H' ls (ch.take i) ∧ Off (fun b => b = D) H1 H') ⟨[], upd_same, ⟨rfl, fun i v t e _ => by simp at e⟩, Off.new hD⟩ (fun i H' _ ⟨_, _, _, z⟩ => SqT.of (z _ _ (ne_of_none h31 hD) h31)) ?_ ?_⟩
      · rintro i x Ha Hb hi ⟨ls, hacc, hls, off⟩ ⟨rfl, hx⟩
        have hi2 : i < ch.length := by rw [← h4]; exact hi
        have e2 : ch[i]? = some ch[i] := List.getElem?_eq_getElem hi2
        have ht := h5 i x ch[i] hx e2
        obtain ⟨hcc, hn1⟩ := cnt_child hc (List.getElem_mem hi2)
        have sb : Same H1 Hb := fun b o e => off b o (ne_of_none e hD) e
        refine And.intro rfl (yes_of (iteT ?_))
        refine ⟨_, rfl, n - 1, by omega, x, ch[i], rfl, ht.same (s1.trans sb), by omega, by omega, fun v' H' s hv' => ?_⟩
        have hacc' := s _ _ hacc
        have kp : ∀ (b : Addr) (o : HO), H' b = some o → (∀ xs, o ≠ HO.lst xs) → upd H' D (.lst (ls ++ [v'])) b = some o := fun b o e q => by
          rw [upd_ne (fun z => by rw [z, hacc'] at e; exact q _ (Option.some.inj e).symm)]; exact e
        have hls' : LvsAt K CR CV H' ls (ch.take i) := ⟨hls.1, fun i v t e1 e2 => (hls.2 i v t e1 e2).same s⟩
        refine ⟨ls, hacc', sz (by rw [hls.1]; exact Nat.le_trans (List.length_take_le' ..) (by omega)), ls ++ [v'], upd_same, ?_, (off.trans (Off.same s)).trans (Off.mut rfl)⟩
        rw [List.take_add_one, e2]
        exact (hls'.snoc hv').keepL kp
      rintro H4 ⟨ls, hacc, hls, off⟩
      rw [h4, List.take_length] at hls
      have s4 : Same H1 H4 := fun b o e => off b o (ne_of_none e hD) e
      refine fun x dx nx ndx nex => ?_
      have s5 : Same H4 (upd (upd H4 dx (.own x)) x (.ins CV dx [])) := same_two nx ndx
      refine ⟨x, dx, y, D, rows, wd, ls, ch, rfl, upd_same, (hY.same s4).same s5, man, .inl (s5 _ _ hacc), ⟨hls.1, fun i v t e1 e2 => (hls.2 i v t e1 e2).same s5⟩, fun z => by omega, fun _ H' hL kp => ⟨rfl, k _ H' ?_ hL⟩⟩
      have s14 := s1.trans s4
      exact fun b o e => kp b o (s5 _ _ (s14 _ _ e)) (ne_of_none (s14 _ _ e) nx)
end
section
variable {P : Program} {w : World} {K : PySem.W.Frag} {mg : Str → Option Value} {base : Heap} {C CR CV CB fB CE fE CT : Addr}
theorem ok_needM {f : Addr} {fd : FuncData} (F : Fun K "need_room" "need_room" s_need_room f fd) (T : LevT P w K mg CR CV CB fB CE fE CT) : FnG P w K mg base (CXe P w) 3 f fd ["room"] (spNeedC K CR CB) := by
  refine F.okG sc_need_room (fun vs H Q E h => ?_) (fun cdv A outer s H vs Q E hgd hr h => ?_)
  · obtain ⟨v, t, b, rfl, _⟩ := h; rfl
  · obtain ⟨v, t, b, rfl, ty, e, k1, k2⟩ := h
    refine ⟨_, (pss_one (ps_if (pt_not (pt_val (pe_callB call_isi (by rfl) T.n_isinstance (by decide +kernel) (pa_cons (pv 0) (pa_cons (pe_glob (v := .ref _) rfl T.g_Room rfl) pa_nil))))) (pss_one (ps_raiseErr rfl T.x_BadRoom hr (takes_of rfl rfl rfl rfl) (pa_cons (pv 0) pa_nil))) pss_nil)), ?_⟩
    refine ⟨_, rfl, _, _, _, _, _, rfl, .own CR, ty, e, _, rfl, ?_⟩
    cases b with
    | true => exact iteF (k1 rfl)
    | false => exact iteT ⟨_, rfl, _, rfl, fun d hd => k2 rfl d hd⟩
theorem ok_needL {f : Addr} {fd : FuncData} (F : Fun K "need_level" "need_level" s_need_level f fd) (T : LevT P w K mg CR CV CB fB CE fE CT) : FnG P w K mg base (CXe P w) 3 f fd ["level"] (spNeedC K CV CE) := by
  refine F.okG sc_need_level (fun vs H Q E h => ?_) (fun cdv A outer s H vs Q E hgd hr h => ?_)
  · obtain ⟨v, t, b, rfl, _⟩ := h; rfl
  · obtain ⟨v, t, b, rfl, ty, e, k1, k2⟩ := h
    refine ⟨_, (pss_one (ps_if (pt_not (pt_val (pe_callB call_isi (by rfl) T.n_isinstance (by decide +kernel) (pa_cons (pv 0) (pa_cons (pe_glob (v := .ref _) rfl T.g_Level rfl) pa_nil))))) (pss_one (ps_raiseErr rfl T.x_BadLevel hr (takes_of rfl rfl rfl rfl) (pa_cons (pv 0) pa_nil))) pss_nil)), ?_⟩
    refine ⟨_, rfl, _, _, _, _, _, rfl, .own CV, ty, e, _, rfl, ?_⟩
    cases b with
    | true => exact iteF (k1 rfl)
    | false => exact iteT ⟨_, rfl, _, rfl, fun d hd => k2 rfl d hd⟩
end
def Tr.ch : Tr → List Tr
  | .nd _ _ ch => ch
/-- the part at a path of numbers from 1 -/
def Tr.go : Tr → List Nat → Option Tr
  | t, [] => some t
  | t, p :: r => if 1 ≤ p then (match t.ch[p - 1]? with | some c => c.go r | none => none) else none
theorem sc_Room_eq : FnScope ["self", "other"] ["self", "other"] (defScope s_Room_eq) := ⟨rfl, rfl, rfl, by decide +kernel, rfl, by decide +kernel, by decide +kernel⟩
theorem DpAll_strs {K : PySem.W.Frag} {H : Hp} (rows : List Str) : DpAll K H (rows.map V.str) (rows.map PyData.str) := by
  induction rows with
  | nil => exact .nil
  | cons a r ih => exact .cons (.str a) ih
theorem eqvAll_strs : ∀ (a b : List Str), PyData.eqvAll (a.map PyData.str) (b.map PyData.str) = decide (a = b)
  | [], [] => rfl
  | [], _ :: _ => rfl
  | _ :: _, [] => rfl
  | x :: a, y :: b => by
    show (PyData.eqv (.str x) (.str y) && PyData.eqvAll (a.map PyData.str) (b.map PyData.str)) = _
    rw [eqvAll_strs a b]
    have : PyData.eqv (.str x) (.str y) = decide (x = y) := rfl
    rw [this]
    by_cases h1 : x = y <;> by_cases h2 : a = b <;> simp [h1, h2]
theorem strOk_line {r : Str} (h : lineS r = true) : PyData.strOk r = true := by
  show (r.cps.all fun x => decide (x < 1114112)) = true
  rw [← Array.all_toList, List.all_eq_true]
  intro c hc
  unfold lineS at h
  have h2 : (r.cps.toList.all fun c => decide (c ∈ marksS.cps.toList)) = true := by
    cases hh : r.cps.toList.all fun c => decide (c ∈ marksS.cps.toList) with
    | true => rfl
    | false => rw [hh] at h; simp at h
  have hm : c ∈ marksS.cps.toList := by simpa using (List.all_eq_true.mp h2) c hc
  exact (show ∀ c ∈ marksS.cps.toList, decide (c < 1114112) = true by decide +kernel) c hm
theorem depth_strs (rows : List Str) : PyData.depthAll (rows.map PyData.str) ≤ 1 := by
  induction rows with
  | nil => decide
  | cons a r ih =>
    simp [PyData.depth, PyData.depthAll] at ih ⊢
    omega
theorem lays_strs (rows : List Str) (h : ∀ r ∈ rows, lineS r = true) : PyData.canLayAll0 (rows.map PyData.str) = true := by
  induction rows with
  | nil => decide
  | cons a r ih =>
    have h1 := ih (fun x hx => h x (List.mem_cons_of_mem _ hx))
    simp [PyData.canLay0, PyData.canLayAll0] at h1 ⊢
    exact ⟨strOk_line (h a (List.mem_cons_self ..)), h1⟩
theorem shapedT {rows : List Str} (h : ∀ r ∈ rows, lineS r = true) : SeqAt.shaped (.tuple (rows.map PyData.str)) = true := by
  unfold SeqAt.shaped
  have h1 := lays_strs rows h
  have h2 := depth_strs rows
  simp [PyData.canLay0, PyData.depth, h1]
  omega
section
variable {P : Program} {w : World} {K : PySem.W.Frag} {mg : Str → Option Value} {base : Heap} {C CR CV CB fB CE fE CT : Addr}
/-- a room, with anything -/
def RmB (K : PySem.W.Frag) (CR : Addr) : EqB := fun x y H b => ∃ a rows wd, x = .ref a ∧ RoomAt CR H a rows wd ∧ ((∃ a' rows' wd', y = .ref a' ∧ RoomAt CR H a' rows' wd' ∧ (b = true ↔ rows = rows')) ∨ (b = false ∧ NoIns K CR H y))
theorem ok_reqB {f : Addr} {fd : FuncData} (F : Fun K "__eq__" "Room.__eq__" s_Room_eq f fd) (T : LevT P w K mg CR CV CB fB CE fE CT) (a_rows : NoAttr K CR "rows") : FnG P w K mg base (CXe P w) 1 f fd ["self", "other"] (spEqB (RmB K CR)) := by
  refine F.okG sc_Room_eq (fun vs H Q E h => ?_) (fun cdv A outer s H vs Q E hgd hr h => ?_)
  · obtain ⟨x, y, b, rfl, _⟩ := h; rfl
  · obtain ⟨_, _, b, rfl, ⟨a, rows, wd, rfl, hA, h⟩, k⟩ := h
    refine ⟨_, (pss_one (ps_ret (pe_and (pe_callB call_isi (by rfl) T.n_isinstance (by decide +kernel) (pa_cons (pv 1) (pa_cons (pe_glob (v := .ref _) rfl T.g_Room rfl) pa_nil))) (pe_one (pe_cmpR (op_eqD hr.units) (pe_fld (pv 0) rfl) (pe_fld (pv 1) rfl) (nomark _)))))), ?_⟩
    obtain ⟨dx, tt, ct, pt, nd, hx, ht, _⟩ := hA.ex
    rcases h with ⟨a', rows', wd', rfl, hB, hb⟩ | ⟨rfl, ty, hty, hk, _⟩
    · obtain ⟨dx', tt', ct', pt', nd', hx', ht', _⟩ := hB.ex
      refine ⟨_, rfl, _, _, _, _, _, rfl, .own CR, .base (insTy T.icR hx'), T.icR.me, _, rfl, iteT ?_⟩
      refine ⟨_, rfl, a, CR, dx, _, _, rfl, hx, T.clR, a_rows, rfl, ?_⟩
      refine ⟨_, rfl, a', CR, dx', _, _, rfl, hx', T.clR, a_rows, rfl, ?_⟩
      refine ⟨_, _, .tup (SqT.of ht) (DpAll_strs rows), .tup (SqT.of ht') (DpAll_strs rows'), shapedT hA.lines, shapedT hB.lines, ?_⟩
      have e2 : PyData.eqv (.tuple (rows.map PyData.str)) (.tuple (rows'.map PyData.str)) = decide (rows = rows') := eqvAll_strs rows rows'
      rw [e2, show decide (rows = rows') = b from by cases b <;> simp_all]
      exact k H Ext.rfl'
    · refine ⟨_, rfl, _, _, _, _, _, rfl, .own CR, .base hty, hk, _, rfl, iteF ?_⟩
      exact k H Ext.rfl'
/-- what the top says of Room.__eq__, and what follows: == and != of rooms -/
theorem rcX_rm {X : Cx} (ic : C8.InsC X.K CR) {f : Addr} {fd : FuncData} {op : CmpOp} (hop : op = .Eq ∨ op = .NotEq) (T : EqC X.K CR f) (F : FnG X.prog X.w X.K X.mg X.base (CXe X.prog X.w) 1 f fd ["self", "other"] (spEqB (RmB X.K CR))) (hb : Binds X.K fd ["self", "other"] []) : RcX X op 2 (RmB X.K CR) :=
  (rcX_ins (E := E0) hop T F hb passL).imp fun x y H b d => by
    obtain ⟨a, rows, wd, rfl, hA, h⟩ := id d
    obtain ⟨dx, tt, ct, pt, nd, hx, ht, _⟩ := hA.ex
    refine ⟨⟨a, _, _, rfl, hx⟩, ?_, d⟩
    rcases h with ⟨a', rows', wd', rfl, hB, hb⟩ | ⟨rfl, ty, hty, hk, hn⟩
    · obtain ⟨dx', tt', ct', pt', nd', hx', ht', _⟩ := hB.ex
      exact ⟨.ref CR, insTy ic hx', by simp [PySem.W.notFirst]⟩
    · exact ⟨ty, hty, hn⟩
end
theorem sc_Level_eq : FnScope ["self", "other"] ["self", "other"] (defScope s_Level_eq) := ⟨rfl, rfl, rfl, by decide +kernel, rfl, by decide +kernel, by decide +kernel⟩
section
variable {P : Program} {w : World} {K : PySem.W.Frag} {mg : Str → Option Value} {base : Heap} {C CR CV CB fB CE fE CT : Addr}
theorem dep_child {rows : List Str} {wd m : Nat} {ch : List Tr} {t : Tr} (h : (Tr.nd rows wd ch).dep ≤ m + 1) (q : t ∈ ch) : t.dep ≤ m := by
  rw [dep_nd] at h
  have up : ∀ (L : List Nat) (x : Nat), x ∈ L → x ≤ L.foldr max 0 := fun L x h => by
    induction L with
    | nil => cases h
    | cons a r ih =>
      rw [List.foldr_cons]
      rcases List.mem_cons.mp h with rfl | h
      · exact Nat.le_max_left ..
      · exact Nat.le_trans (ih h) (Nat.le_max_right ..)
  have := up _ _ (List.mem_map_of_mem (f := Tr.dep) q)
  omega
/-- the rows of a room in the heap are one -/
theorem RoomAt.rows_inj {H : Hp} {R : Addr} {rows rows' : List Str} {wd wd' : Nat} (h : RoomAt CR H R rows wd) (h' : RoomAt CR H R rows' wd') : rows = rows' := by
  obtain ⟨dx, tt, ct, pt, nd, hx, ht, _⟩ := h.ex
  obtain ⟨dx', tt', ct', pt', nd', hx', ht', _⟩ := h'.ex
  rw [hx] at hx'
  injection hx' with hx'
  injection hx' with _ _ hx'
  have e : tt = tt' := by
    have := congrArg (fun fs => fs.lookup ("rows" : Str)) hx'
    injection this with this
    injection this
  rw [e, ht'] at ht
  injection ht with ht
  injection ht with ht
  have := congrArg (List.map strOf) ht
  rw [strOf_map, strOf_map] at this
  exact this.symm
theorem wd_inj {rows : List Str} {wd wd' : Nat} (R : RowsOk rows wd) (R' : RowsOk rows wd') : wd = wd' := by
  have h1 := R.h1
  cases rows with
  | nil => simp at h1
  | cons r t => exact (R.al r (List.mem_cons_self ..)).symm.trans (R'.al r (List.mem_cons_self ..))
theorem LevelAt.inj {H : Hp} {v : V} {t u : Tr} (h : LevelAt K CR CV H v t) (h' : LevelAt K CR CV H v u) : t = u := by
  induction h generalizing u with
  | @mk x dx R c rows wd n d vs ch a1 a2 a3 a4 a5 a6 a7 _ ih =>
    cases h' with
    | @mk _ dx' R' c' rows' wd' n' d' vs' ch' b1 b2 b3 b4 b5 b6 b7 b8 =>
      rw [a1] at b1
      injection b1 with b1
      injection b1 with _ _ b1
      injection b1 with b1 b2'
      injection b1 with _ b1
      injection b1 with b1
      injection b2' with b2' _
      injection b2' with _ b2'
      injection b2' with b2'
      subst b1; subst b2'
      have er := a4.rows_inj b4
      subst er
      have ew := wd_inj a4.ok b4.ok
      subst ew
      have ec : vs = vs' := by
        have hl : vs.length = vs'.length := by have := a5.symm.trans b5; omega
        rcases a6 with a6 | ⟨rfl, _⟩
        · rcases b6 with b6 | ⟨rfl, _⟩
          · rw [a6] at b6
            injection b6 with b6
            injection b6
          · exact List.eq_nil_of_length_eq_zero hl
        · exact (List.eq_nil_of_length_eq_zero hl.symm).symm
      subst ec
      congr 1
      refine List.ext_getElem? fun i => ?_
      by_cases hi : i < vs.length
      · have e1 := List.getElem?_eq_getElem hi
        have e2 := List.getElem?_eq_getElem (show i < ch.length by omega)
        have e3 := List.getElem?_eq_getElem (show i < ch'.length by omega)
        rw [e2, e3, ih i _ _ e1 e2 (b8 i _ _ e1 e3)]
      · rw [List.getElem?_eq_none (by omega), List.getElem?_eq_none (by omega)]
theorem level_ins {H : Hp} {v : V} {t : Tr} (h : LevelAt K CR CV H v t) : ∃ a dx fs, v = .ref a ∧ H a = some (.ins CV dx fs) := by
  cases h with
  | mk a1 _ _ _ _ _ _ _ => exact ⟨_, _, _, rfl, a1⟩
/-- a level no deeper than m, with anything -/
def LvQ (K : PySem.W.Frag) (CR CV : Addr) (m : Nat) : EqB := fun x y H b => ∃ t, LevelAt K CR CV H x t ∧ t.dep ≤ m ∧ ((∃ u, LevelAt K CR CV H y u ∧ (b = true ↔ t = u)) ∨ (b = false ∧ NoIns K CV H y))
theorem monB_lv {m : Nat} : MonB (LvQ K CR CV m) := fun x y H H' b e d => by
  obtain ⟨t, h1, h2, h⟩ := d
  exact ⟨t, h1.same e, h2, h.imp (fun ⟨u, a, b⟩ => ⟨u, a.same e, b⟩) fun h => ⟨h.1, h.2.ext e⟩⟩
theorem lv_same {m : Nat} (me : PySem.W.kitOne K (.ref CV) (.ref CV) = some true) (icV : C8.InsC K CV) (x y : V) (H : Hp) (b : Bool) (d : LvQ K CR CV m x y H b) : (∃ a, x = .ref a) ∧ (x = y → b = true) := by
  obtain ⟨t, h1, h2, h⟩ := d
  obtain ⟨a, dx, fs, rfl, ha⟩ := level_ins h1
  refine ⟨⟨a, rfl⟩, fun z => ?_⟩
  subst z
  rcases h with ⟨u, hu, hb⟩ | ⟨_, ty, hty, hk, _⟩
  · exact hb.mpr (h1.inj hu)
  · exfalso
    cases hty with
    | lst e => rw [ha] at e; cases e
    | frz e => rw [ha] at e; cases e
    | tup e => rw [ha] at e; cases e
    | dK e => rw [ha] at e; cases e
    | dT e => rw [ha] at e; cases e
    | ins e _ _ _ _ _ =>
      rw [ha] at e
      cases e
      rw [me] at hk
      cases hk
theorem prs_lv {m : Nat} {H : Hp} : ∀ {vs ws : List V} {ch ch' : List Tr}, LvsAt K CR CV H vs ch → LvsAt K CR CV H ws ch' → (∀ t ∈ ch, t.dep ≤ m) → ∃ b, (b = true ↔ ch = ch') ∧ PrsB (LvQ K CR CV m) H vs ws b
  | [], [], ch, ch', h, h', hd => by
    have e1 : ch = [] := List.length_eq_zero_iff.mp h.1.symm
    have e2 : ch' = [] := List.length_eq_zero_iff.mp h'.1.symm
    subst e1; subst e2
    exact ⟨true, by simp, .nil⟩
  | [], y :: ys, ch, ch', h, h', hd => by
    have e1 : ch = [] := List.length_eq_zero_iff.mp h.1.symm
    subst e1
    refine ⟨false, ?_, .more⟩
    have := h'.1
    cases ch' with
    | nil => simp at this
    | cons a r => simp
  | x :: xs, [], ch, ch', h, h', hd => by
    have e1 : ch' = [] := List.length_eq_zero_iff.mp h'.1.symm
    subst e1
    refine ⟨false, ?_, .less⟩
    have := h.1
    cases ch with
    | nil => simp at this
    | cons a r => simp
  | x :: xs, y :: ys, ch, ch', h, h', hd => by
    have l1 := h.1
    have l2 := h'.1
    cases ch with
    | nil => simp at l1
    | cons t r =>
      cases ch' with
      | nil => simp at l2
      | cons u r' =>
        have a1 := h.2 0 x t rfl rfl
        have a2 := h'.2 0 y u rfl rfl
        by_cases e : t = u
        · obtain ⟨b, hb, p⟩ := prs_lv (vs := xs) (ws := ys) (ch := r) (ch' := r') ⟨by simpa using l1, fun i v t e1 e2 => h.2 (i + 1) v t e1 e2⟩ ⟨by simpa using l2, fun i v t e1 e2 => h'.2 (i + 1) v t e1 e2⟩ (fun t ht => hd t (List.mem_cons_of_mem _ ht))
          exact ⟨b, by rw [hb]; simp [e], .same ⟨t, a1, hd t (List.mem_cons_self ..), .inl ⟨u, a2, by simp [e]⟩⟩ p⟩
        · exact ⟨false, by simp [e], .diff ⟨t, a1, hd t (List.mem_cons_self ..), .inl ⟨u, a2, by simp [e]⟩⟩⟩
theorem rcX_lv {X : Cx} {f : Addr} {fd : FuncData} {op : CmpOp} {n m : Nat} (ic : C8.InsC X.K CV) (hop : op = .Eq ∨ op = .NotEq) (T : EqC X.K CV f) (F : FnG X.prog X.w X.K X.mg X.base (CXe X.prog X.w) n f fd ["self", "other"] (spEqB (LvQ X.K CR CV m))) (hb : Binds X.K fd ["self", "other"] []) : RcX X op (n + 1) (LvQ X.K CR CV m) :=
  (rcX_ins (E := E0) hop T F hb passL).imp fun x y H b d => by
    obtain ⟨t, h1, h2, h⟩ := id d
    obtain ⟨a, dx, fs, rfl, ha⟩ := level_ins h1
    refine ⟨⟨a, _, _, rfl, ha⟩, ?_, d⟩
    rcases h with ⟨u, hu, hb⟩ | ⟨rfl, ty, hty, hk, hn⟩
    · obtain ⟨a', dx', fs', rfl, ha'⟩ := level_ins hu
      exact ⟨.ref CV, insTy ic ha', by simp [PySem.W.notFirst]⟩
    · exact ⟨ty, hty, hn⟩
theorem op_rm {X : Cx} {f : Addr} {fd : FuncData} {op : CmpOp} (ic : C8.InsC X.K CR) (hop : op = .Eq ∨ op = .NotEq) (T : EqC X.K CR f) (F : FnG X.prog X.w X.K X.mg X.base (CXe X.prog X.w) 1 f fd ["self", "other"] (spEqB (RmB X.K CR))) (hb : Binds X.K fd ["self", "other"] []) (hgd : X.A.guards = some []) (hr : Room 2 X.A) : OpR X (compareOp op) (rOpB op (RmB X.K CR)) := op_X hop (rcX_rm ic hop T F hb) hgd hr
theorem eqX_lv {X : Cx} {f : Addr} {fd : FuncData} {n m : Nat} (ic : C8.InsC X.K CV) (T : EqC X.K CV f) (F : FnG X.prog X.w X.K X.mg X.base (CXe X.prog X.w) n f fd ["self", "other"] (spEqB (LvQ X.K CR CV m))) (hb : Binds X.K fd ["self", "other"] []) : EqX X (n + 1) (LvQ X.K CR CV m) := (rcX_lv ic (.inl rfl) T F hb).eqX (lv_same ic.me ic)
theorem op_lvs {X : Cx} {f : Addr} {fd : FuncData} {n m : Nat} (ic : C8.InsC X.K CV) (T : EqC X.K CV f) (F : FnG X.prog X.w X.K X.mg X.base (CXe X.prog X.w) n f fd ["self", "other"] (spEqB (LvQ X.K CR CV m))) (hb : Binds X.K fd ["self", "other"] []) (hgd : X.A.guards = some []) (hr : Room (n + 2) X.A) : OpR X (compareOp .Eq) (rOpB .Eq (DTupB X.K (LvQ X.K CR CV m))) := op_X (.inl rfl) (rcX_tup (.inl rfl) monB_lv (eqX_lv ic T F hb)) hgd hr
/-- what the top says of the two own == -/
structure EqsT (P : Program) (w : World) (K : PySem.W.Frag) (mg : Str → Option Value) (base : Heap) (CR CV fr fv : Addr) (fdr fdv : FuncData) : Prop where
  eR : EqC K CR fr
  bR : Binds K fdr ["self", "other"] []
  qR : FnG P w K mg base (CXe P w) 1 fr fdr ["self", "other"] (spEqB (RmB K CR))
  eV : EqC K CV fv
  bV : Binds K fdv ["self", "other"] []
theorem okB_level {fr fv : Addr} {fdr fdv : FuncData} {m : Nat} (F : Fun K "__eq__" "Level.__eq__" s_Level_eq fv fdv) (T : LevT P w K mg CR CV CB fB CE fE CT) (S : EqsT P w K mg base CR CV fr fv fdr fdv)
    (IH : FnG P w K mg base (CXe P w) (3 * m + 2) fv fdv ["self", "other"] (spEqB (LvQ K CR CV m))) : FnG P w K mg base (CXe P w) (3 * m + 4 + 1) fv fdv ["self", "other"] (spEqB (LvQ K CR CV (m + 1))) := by
  refine F.okG sc_Level_eq (fun vs H Q E h => ?_) (fun cdv A outer s H vs Q E hgd hr h => ?_)
  · obtain ⟨x, y, b, rfl, _⟩ := h; rfl
  · obtain ⟨_, y, b, rfl, ⟨t, hA, hd, h⟩, k⟩ := h
    refine ⟨_, (pss_one (ps_ret (pe_and (pe_callB call_isi (by rfl) T.n_isinstance (by decide +kernel) (pa_cons (pv 1) (pa_cons (pe_glob (v := .ref _) rfl T.g_Level rfl) pa_nil))) (pe_and (pe_cmpR (op_rm (op := .Eq) (by exact T.icR) (.inl rfl) (by exact S.eR) (by exact S.qR) (by exact S.bR) (by exact hgd) (by exact hr.mono (by omega))) (pe_fld (pv 0) rfl) (pe_fld (pv 1) rfl) (nomark _)) (pe_one (pe_cmpR (op_lvs (n := 3 * m + 2) (by exact T.icV) (by exact S.eV) (by exact IH) (by exact S.bV) (by exact hgd) (by exact hr)) (pe_fld (pv 0) rfl) (pe_fld (pv 1) rfl) (nomark _))))))), ?_⟩
    cases hA with
    | @mk a dx R c rows wd n d vs ch a1 a2 a3 a4 a5 a6 a7 a8 =>
      rcases h with ⟨u, hB, hb⟩ | ⟨rfl, ty, hty, hk, _⟩
      · cases hB with
        | @mk a' dx' R' c' rows' wd' n' d' vs' ch' b1 b2 b3 b4 b5 b6 b7 b8 =>
          refine ⟨_, rfl, _, _, _, _, _, rfl, .own CV, .base (insTy T.icV b1), T.icV.me, _, rfl, iteT ?_⟩
          have hrm : ∀ rb, (rb = true ↔ rows = rows') → RmB K CR (.ref R) (.ref R') H rb := fun rb hrb => ⟨R, rows, wd, rfl, a4, .inl ⟨R', rows', wd', rfl, b4, hrb⟩⟩
          by_cases er : rows = rows'
          · refine ⟨_, rfl, a, CV, dx, _, _, rfl, a1, T.clV, T.n_room, rfl, _, rfl, a', CV, dx', _, _, rfl, b1, T.clV, T.n_room, rfl, true, hrm true (by simp [er]), fun H1 e1 => ⟨_, rfl, iteT ?_⟩⟩
            obtain ⟨bb, hbb, pp⟩ := prs_lv (K := K) (m := m) (H := H1) (vs := vs) (ws := vs') (ch := ch) (ch' := ch') ⟨a7, fun i v t q1 q2 => (a8 i v t q1 q2).same e1⟩ ⟨b7, fun i v t q1 q2 => (b8 i v t q1 q2).same e1⟩ (fun t ht => dep_child hd ht)
            refine ⟨_, rfl, a, CV, dx, _, _, rfl, e1 _ _ a1, T.clV, T.n_children, rfl, _, rfl, a', CV, dx', _, _, rfl, e1 _ _ b1, T.clV, T.n_children, rfl, bb, ⟨c, c', vs, vs', rfl, rfl, (a6.same e1).sq, (b6.same e1).sq, pp⟩, fun H2 e2 => ?_⟩
            have eb : bb = b := by
              have hw : wd = wd' := by subst er; exact wd_inj a4.ok b4.ok
              have : (b = true) ↔ (bb = true) := by
                rw [hb, hbb]
                subst er; subst hw
                exact ⟨fun z => by injection z, fun z => by rw [z]⟩
              cases b <;> cases bb <;> simp_all
            subst eb
            exact k H2 (e1.trans e2)
          · have eb : b = false := by
              cases b with
              | false => rfl
              | true => exact absurd (by have := hb.mp rfl; injection this) er
            subst eb
            refine ⟨_, rfl, a, CV, dx, _, _, rfl, a1, T.clV, T.n_room, rfl, _, rfl, a', CV, dx', _, _, rfl, b1, T.clV, T.n_room, rfl, false, hrm false (by simp [er]), fun H1 e1 => ⟨_, rfl, iteF ?_⟩⟩
            exact k H1 e1
      · refine ⟨_, rfl, _, _, _, _, _, rfl, .own CV, .base hty, hk, _, rfl, iteF ?_⟩
        exact k H Ext.rfl'
theorem okB_levels {fr fv : Addr} {fdr fdv : FuncData} (F : Fun K "__eq__" "Level.__eq__" s_Level_eq fv fdv) (T : LevT P w K mg CR CV CB fB CE fE CT) (S : EqsT P w K mg base CR CV fr fv fdr fdv) : ∀ m, FnG P w K mg base (CXe P w) (3 * m + 2) fv fdv ["self", "other"] (spEqB (LvQ K CR CV m))
  | 0 => by
    refine F.okG sc_Level_eq (fun vs H Q E h => ?_) (fun cdv A outer s H vs Q E hgd hr h => ?_)
    · obtain ⟨x, y, b, rfl, _⟩ := h; rfl
    · obtain ⟨_, y, b, rfl, ⟨t, hA, hd, h⟩, k⟩ := h
      cases hA with
      | mk => rw [dep_nd] at hd; omega
  | m + 1 => (okB_level F T S (okB_levels F T S m)).mono (by omega)
/-- a def that calls itself on less: the fold of its contract -/
theorem cal_below {x : Str} {sp : Nat → Sp} {r : Nat} {f : Addr} {fd : FuncData} {ps : List Str} (hm : mg x = some (.ref f)) (kp : PySem.W.keepIn K (.ref f) = true) (hb : Binds K fd ps [])
    (step : ∀ n, CalG P w K mg base (r + n) x (below sp n) → FnG P w K mg base (CXe P w) (r + n + 1) f fd ps (sp n)) : ∀ n, FnG P w K mg base (CXe P w) (r + n) f fd ps (below sp n)
  | 0 => ⟨fun _ _ _ _ h => by obtain ⟨m, h, _⟩ := h; omega, fun _ _ _ _ _ _ _ _ _ _ _ _ _ _ h => by obtain ⟨m, h, _⟩ := h; omega⟩
  | n + 1 => by
    have F := cal_below hm kp hb step n
    have G := step n ⟨f, fd, ps, F, hm, kp, hb⟩
    refine ⟨fun vs H Q E h => ?_, fun A o s H a us vs Q E hg hr he hbb hv h => ?_⟩
    · obtain ⟨m, hmn, h⟩ := h
      by_cases e : m = n
      · subst e; exact G.len _ _ _ _ h
      · exact F.len _ _ _ _ ⟨m, by omega, h⟩
    · obtain ⟨m, hmn, h⟩ := h
      by_cases e : m = n
      · subst e; exact G.run A o s H a us vs Q E hg hr he hbb hv h
      · exact F.run A o s H a us vs Q E hg (hr.mono (by omega)) he hbb hv ⟨m, by omega, h⟩
theorem cal_most {x : Str} {sp : Nat → Sp} {r N : Nat} {f : Addr} {fd : FuncData} {ps : List Str} (hm : mg x = some (.ref f)) (kp : PySem.W.keepIn K (.ref f) = true) (hb : Binds K fd ps [])
    (step : ∀ n, CalG P w K mg base (r + n) x (below sp n) → FnG P w K mg base (CXe P w) (r + n + 1) f fd ps (sp n)) : CalG P w K mg base (r + N + 1) x (atMost N sp) :=
  ⟨f, fd, ps, (cal_below hm kp hb step (N + 1)).imp fun vs H Q E h => by obtain ⟨n, a, b⟩ := h; exact ⟨n, by omega, b⟩, hm, kp, hb⟩
theorem dep_le_cnt : ∀ t : Tr, t.dep ≤ t.cnt := Tr.ind fun rows wd ch ih => by
  rw [dep_nd, cnt_nd]
  have : ∀ L : List Tr, (∀ c ∈ L, c.dep ≤ c.cnt) → (L.map Tr.dep).foldr max 0 ≤ (L.map Tr.cnt).sum := fun L h => by
    induction L with
    | nil => exact Nat.le_refl _
    | cons a r ih =>
      rw [List.map_cons, List.map_cons, List.foldr_cons, List.sum_cons]
      have h1 := h a (List.mem_cons_self ..)
      have h2 := ih fun c hc => h c (List.mem_cons_of_mem _ hc)
      exact Nat.max_le.mpr ⟨by omega, by omega⟩
  have := this ch ih
  omega
end
end K16
end
section
set_option Elab.async false
set_option linter.all false
set_option maxRecDepth 100000
set_option maxHeartbeats 2000000
namespace K16M
open PySem L2 K16
theorem sc_first_state : FnScope ["room", "bag"] ["room", "bag"] (defScope s_first_state) := ⟨rfl, rfl, rfl, by decide +kernel, rfl, by decide +kernel, by decide +kernel⟩
theorem sc_can_lie : FnScope ["room", "gone", "cell"] ["room", "gone", "cell"] (defScope s_can_lie) := ⟨rfl, rfl, rfl, by decide +kernel, rfl, by decide +kernel, by decide +kernel⟩
theorem sc_moved : FnScope ["room", "rules", "state", "letter", "at", "crates", "gone", "used", "bag", "way", "mark", "goal", "entered"] ["room", "rules", "state", "letter"] (defScope s_moved) := ⟨rfl, rfl, rfl, by decide +kernel, rfl, by decide +kernel, by decide +kernel⟩
theorem sc_mouth_here : FnScope ["room", "state", "mark"] ["room", "state"] (defScope s_mouth_here) := ⟨rfl, rfl, rfl, by decide +kernel, rfl, by decide +kernel, by decide +kernel⟩
theorem sc_come_back : FnScope ["state", "number", "bag", "at", "crates", "gone", "used"] ["state", "number", "bag"] (defScope s_come_back) := ⟨rfl, rfl, rfl, by decide +kernel, rfl, by decide +kernel, by decide +kernel⟩
theorem sc__with_one : FnScope ["numbers", "number"] ["numbers", "number"] (defScope s__with_one) := ⟨rfl, rfl, rfl, by decide +kernel, rfl, by decide +kernel, by decide +kernel⟩
theorem sc__entered : FnScope ["room", "rules", "state", "goal", "crates", "gone", "bag", "mark", "changed"] ["room", "rules", "state", "goal"] (defScope s__entered) := ⟨rfl, rfl, rfl, by decide +kernel, rfl, by decide +kernel, by decide +kernel⟩
theorem sc__is_gate_open : FnScope ["room", "crates", "plate"] ["room", "crates"] (defScope s__is_gate_open) := ⟨rfl, rfl, rfl, by decide +kernel, rfl, by decide +kernel, by decide +kernel⟩
theorem sc__changed_bag : FnScope ["rules", "bag", "mark", "change", "of_a", "of_b"] ["rules", "bag", "mark"] (defScope s__changed_bag) := ⟨rfl, rfl, rfl, by decide +kernel, rfl, by decide +kernel, by decide +kernel⟩
theorem sc__pushed : FnScope ["room", "rules", "state", "way", "at", "crates", "gone", "used", "bag", "ways", "goal", "beyond", "others", "crate"] ["room", "rules", "state", "way"] (defScope s__pushed) := ⟨rfl, rfl, rfl, by decide +kernel, rfl, by decide +kernel, by decide +kernel⟩
theorem sc__pulled : FnScope ["room", "rules", "state", "way", "at", "crates", "gone", "behind", "crate"] ["room", "rules", "state", "way"] (defScope s__pulled) := ⟨rfl, rfl, rfl, by decide +kernel, rfl, by decide +kernel, by decide +kernel⟩
theorem sc_Rules_init : FnScope ["self", "cap", "strong", "pull"] ["self", "cap", "strong", "pull"] (defScope s_Rules_init) := ⟨rfl, rfl, rfl, by decide +kernel, rfl, by decide +kernel, by decide +kernel⟩
theorem sc_need_rules : FnScope ["rules"] ["rules"] (defScope s_need_rules) := ⟨rfl, rfl, rfl, by decide +kernel, rfl, by decide +kernel, by decide +kernel⟩
theorem sc_Walker_init : FnScope ["self", "level", "rules", "bag"] ["self", "level", "rules", "bag"] (defScope s_Walker_init) := ⟨rfl, rfl, rfl, by decide +kernel, rfl, by decide +kernel, by decide +kernel⟩
theorem sc_Walker_place : FnScope ["self"] ["self"] (defScope s_Walker_place) := ⟨rfl, rfl, rfl, by decide +kernel, rfl, by decide +kernel, by decide +kernel⟩
theorem sc_Walker_walk_on : FnScope ["self", "play", "at", "letter"] ["self", "play"] (defScope s_Walker_walk_on) := ⟨rfl, rfl, rfl, by decide +kernel, rfl, by decide +kernel, by decide +kernel⟩
theorem sc_Walkerdo : FnScope ["self", "letter"] ["self", "letter"] (defScope s_Walkerdo) := ⟨rfl, rfl, rfl, by decide +kernel, rfl, by decide +kernel, by decide +kernel⟩
theorem sc_Walkerstep : FnScope ["self", "letter", "room", "after"] ["self", "letter"] (defScope s_Walkerstep) := ⟨rfl, rfl, rfl, by decide +kernel, rfl, by decide +kernel, by decide +kernel⟩
theorem sc_Walkergo_in : FnScope ["self", "level", "state", "number", "child"] ["self"] (defScope s_Walkergo_in) := ⟨rfl, rfl, rfl, by decide +kernel, rfl, by decide +kernel, by decide +kernel⟩
theorem sc_Walkergo_out : FnScope ["self", "at", "bag"] ["self"] (defScope s_Walkergo_out) := ⟨rfl, rfl, rfl, by decide +kernel, rfl, by decide +kernel, by decide +kernel⟩
inductive Way | u | d | l | r
  deriving DecidableEq
def Way.down : Way → Int
  | .u => -1
  | .d => 1
  | _ => 0
def Way.across : Way → Int
  | .l => -1
  | .r => 1
  | _ => 0
def Way.back : Way → Way
  | .u => .d
  | .d => .u
  | .l => .r
  | .r => .l
def Way.sign : Way → Str
  | .u => "u"
  | .d => "d"
  | .l => "l"
  | .r => "r"
def Way.great : Way → Str
  | .u => "U"
  | .d => "D"
  | .l => "L"
  | .r => "R"
/-- the letter of a step -/
def letterOf (w : Way) (big : Bool) : Str := if big then w.great else w.sign
def insZ (x : Int) : List Int → List Int
  | [] => [x]
  | y :: r => if x ≤ y then x :: y :: r else y :: insZ x r
def sortZ : List Int → List Int
  | [] => []
  | x :: r => insZ x (sortZ r)
theorem insZ_perm (x : Int) : ∀ l : List Int, (insZ x l).Perm (x :: l)
  | [] => .refl _
  | y :: r => by
    unfold insZ
    split
    · exact .refl _
    · exact ((insZ_perm x r).cons y).trans (.swap x y r)
theorem sortZ_perm : ∀ l : List Int, (sortZ l).Perm l
  | [] => .refl _
  | x :: r => (insZ_perm x _).trans ((sortZ_perm r).cons x)
theorem insZ_up (x : Int) : ∀ l : List Int, l.Pairwise (· ≤ ·) → (insZ x l).Pairwise (· ≤ ·)
  | [], _ => by simp [insZ]
  | y :: r, h => by
    rw [List.pairwise_cons] at h
    unfold insZ
    split
    · rename_i q
      rw [List.pairwise_cons, List.pairwise_cons]
      refine ⟨fun z hz => ?_, h.1, h.2⟩
      rcases List.mem_cons.mp hz with rfl | hz
      · exact q
      · exact Int.le_trans q (h.1 z hz)
    · rename_i q
      rw [List.pairwise_cons]
      refine ⟨fun z hz => ?_, insZ_up x r h.2⟩
      rcases List.mem_cons.mp ((insZ_perm x r).mem_iff.mp hz) with rfl | hz
      · omega
      · exact h.1 z hz
theorem sortZ_up : ∀ l : List Int, (sortZ l).Pairwise (· ≤ ·)
  | [] => .nil
  | x :: r => insZ_up x _ (sortZ_up r)
theorem up_unique : ∀ {a b : List Int}, a.Perm b → a.Pairwise (· ≤ ·) → b.Pairwise (· ≤ ·) → a = b
  | [], b, p, _, _ => (List.nil_perm.mp p).symm
  | x :: a, [], p, _, _ => absurd (List.perm_nil.mp p) (by simp)
  | x :: a, y :: b, p, ha, hb => by
    rw [List.pairwise_cons] at ha hb
    have hxy : x = y := by
      have h1 : x ∈ y :: b := p.mem_iff.mp (List.mem_cons_self ..)
      have h2 : y ∈ x :: a := p.mem_iff.mpr (List.mem_cons_self ..)
      have l1 : y ≤ x := by
        rcases List.mem_cons.mp h1 with e | h1
        · omega
        · exact hb.1 x h1
      have l2 : x ≤ y := by
        rcases List.mem_cons.mp h2 with e | h2
        · omega
        · exact ha.1 y h2
      omega
    subst hxy
    rw [up_unique (List.Perm.cons_inv p) ha.2 hb.2]
theorem sorted_is {a b : List Int} (p : a.Perm b) (h : a.Pairwise (· ≤ ·)) : a = sortZ b := up_unique (p.trans (sortZ_perm b).symm) h (sortZ_up b)
def withOne (xs : List Int) (x : Int) : List Int := sortZ (xs ++ [x])
theorem mem_withOne {xs : List Int} {x y : Int} : y ∈ withOne xs x ↔ y ∈ xs ∨ y = x := by
  unfold withOne
  rw [(sortZ_perm _).mem_iff]
  simp
theorem withOne_len (xs : List Int) (x : Int) : (withOne xs x).length = xs.length + 1 := by
  unfold withOne
  rw [(sortZ_perm _).length_eq]
  simp
theorem withOne_nodup {xs : List Int} {x : Int} (h : xs.Nodup) (hx : x ∉ xs) : (withOne xs x).Nodup := by
  unfold withOne
  rw [(sortZ_perm _).nodup_iff, List.nodup_append]
  refine ⟨h, by simp, fun a ha b hb => ?_⟩
  simp at hb
  subst hb
  exact fun z => hx (z ▸ ha)
def mark (z : Str) (i : Int) : Nat := z.cps.getD i.toNat 0
/-- the cell beside, walls too; -1 for none -/
def nx (h wd : Nat) (w : Way) (i : Int) : Int :=
  if (0 ≤ i / wd + w.down ∧ i / wd + w.down < h) ∧ (0 ≤ i % wd + w.across ∧ i % wd + w.across < wd) then (i / wd + w.down) * wd + (i % wd + w.across) else -1
def nb (rows : List Str) (wd : Nat) (w : Way) (i : Int) : Int := neigh rows wd w.down w.across i.toNat
theorem flat_get {α : Type} {wd : Nat} : ∀ {ls : List (List α)} {l p : Nat}, (∀ x ∈ ls, x.length = wd) → p < wd → l < ls.length → ls.flatten[l * wd + p]? = (ls[l]?).bind fun x => x[p]?
  | [], l, p, _, _, hl => absurd hl (by simp)
  | x :: ls, 0, p, h, hp, _ => by
    have hx : x.length = wd := h x (List.mem_cons_self ..)
    rw [List.flatten_cons, Nat.zero_mul, Nat.zero_add, List.getElem?_append_left (by omega)]
    rfl
  | x :: ls, l + 1, p, h, hp, hl => by
    have hx : x.length = wd := h x (List.mem_cons_self ..)
    rw [List.flatten_cons, List.getElem?_append_right (by rw [Nat.succ_mul]; omega), show (l + 1) * wd + p - x.length = l * wd + p by rw [Nat.succ_mul]; omega]
    rw [flat_get (fun y hy => h y (List.mem_cons_of_mem _ hy)) hp (by simpa using hl)]
    rfl
theorem mark_code {rows : List Str} {wd l p : Nat} (R : RowsOk rows wd) (hl : l < rows.length) (hp : p < wd) : K16.codeAt rows l p = some (mark (Txt.join "" rows) ((l * wd + p : Nat) : Int)) := by
  have e1 : (Txt.join "" rows).cps.toList[l * wd + p]? = K16.codeAt rows l p := by
    rw [join_cps, flat_get (wd := wd) (fun x hx => by
      obtain ⟨r, hr, rfl⟩ := List.mem_map.mp hx
      exact R.al r hr) hp (by simpa using hl)]
    unfold K16.codeAt
    rw [List.getElem?_map]
    cases rows[l]? with
    | none => rfl
    | some r =>
      show r.cps.toList[p]? = r.cps[p]?
      simp
  have hlt : l * wd + p < rows.length * wd := by
    have : (l + 1) * wd ≤ rows.length * wd := Nat.mul_le_mul_right wd hl
    rw [Nat.succ_mul] at this
    omega
  have hz : l * wd + p < (Txt.join "" rows).cps.size := by
    have := join_len R
    have e : (Txt.join "" rows).length = (Txt.join "" rows).cps.size := rfl
    omega
  rw [← e1]
  unfold mark
  rw [Int.toNat_natCast]
  simp [Array.getD, hz]
theorem nb_nx {rows : List Str} {wd : Nat} (R : RowsOk rows wd) (w : Way) {i : Int} (h0 : 0 ≤ i) :
    nb rows wd w i = if nx rows.length wd w i < 0 ∨ mark (Txt.join "" rows) (nx rows.length wd w i) = 35 then -1 else nx rows.length wd w i := by
  obtain ⟨k, rfl⟩ := Int.eq_ofNat_of_zero_le h0
  have e1 : ((k : Nat) : Int) / (wd : Int) = ((k / wd : Nat) : Int) := (Int.natCast_ediv k wd).symm
  have e2 : ((k : Nat) : Int) % (wd : Int) = ((k % wd : Nat) : Int) := (Int.natCast_emod k wd).symm
  unfold nb neigh nx
  rw [Int.toNat_natCast, e1, e2]
  by_cases hb : (0 ≤ ((k / wd : Nat) : Int) + w.down ∧ ((k / wd : Nat) : Int) + w.down < (rows.length : Int)) ∧ (0 ≤ ((k % wd : Nat) : Int) + w.across ∧ ((k % wd : Nat) : Int) + w.across < (wd : Int))
  · rw [if_pos hb]
    obtain ⟨⟨b1, b2⟩, b3, b4⟩ := hb
    obtain ⟨l, hl⟩ := Int.eq_ofNat_of_zero_le b1
    obtain ⟨p, hp⟩ := Int.eq_ofNat_of_zero_le b3
    rw [hl] at b2 ⊢
    rw [hp] at b4 ⊢
    have hmc := mark_code R (l := l) (p := p) (by omega) (by omega)
    rw [Int.toNat_natCast, Int.toNat_natCast, hmc]
    have ec : ((l : Nat) : Int) * (wd : Int) + ((p : Nat) : Int) = ((l * wd + p : Nat) : Int) := by simp
    rw [ec]
    by_cases hm : mark (Txt.join "" rows) ((l * wd + p : Nat) : Int) = 35
    · rw [if_neg (fun q => q.2.2 (by rw [hm])), if_pos (.inr hm)]
    · rw [if_pos ⟨⟨by omega, by omega⟩, ⟨by omega, by omega⟩, fun q => hm (Option.some.inj q)⟩, if_neg (fun q => q.elim (fun q => by omega) hm)]
  · rw [if_neg (fun q => hb ⟨q.1, q.2.1⟩), if_neg hb]
    simp
theorem nx_lt {h wd : Nat} {w : Way} {i : Int} (h0 : 0 ≤ nx h wd w i) : nx h wd w i < ((h * wd : Nat) : Int) := by
  unfold nx at h0 ⊢
  by_cases hb : (0 ≤ i / (wd : Int) + w.down ∧ i / (wd : Int) + w.down < (h : Int)) ∧ (0 ≤ i % (wd : Int) + w.across ∧ i % (wd : Int) + w.across < (wd : Int))
  · rw [if_pos hb] at h0 ⊢
    obtain ⟨⟨b1, b2⟩, b3, b4⟩ := hb
    obtain ⟨l, hl⟩ := Int.eq_ofNat_of_zero_le b1
    obtain ⟨p, hp⟩ := Int.eq_ofNat_of_zero_le b3
    rw [hl] at b2 ⊢
    rw [hp] at b4 ⊢
    have : (l + 1) * wd ≤ h * wd := Nat.mul_le_mul_right wd (by omega)
    rw [Nat.succ_mul] at this
    have ec : ((l : Nat) : Int) * (wd : Int) + ((p : Nat) : Int) = ((l * wd + p : Nat) : Int) := by simp
    rw [ec]
    omega
  · rw [if_neg hb] at h0
    omega
theorem nx_low {h wd : Nat} {w : Way} {i : Int} : -1 ≤ nx h wd w i := by
  unfold nx
  by_cases hb : (0 ≤ i / (wd : Int) + w.down ∧ i / (wd : Int) + w.down < (h : Int)) ∧ (0 ≤ i % (wd : Int) + w.across ∧ i % (wd : Int) + w.across < (wd : Int))
  · rw [if_pos hb]
    have : 0 ≤ (i / (wd : Int) + w.down) * (wd : Int) := Int.mul_nonneg hb.1.1 (by omega)
    omega
  · rw [if_neg hb]
    omega
theorem nb_cases {rows : List Str} {wd : Nat} (R : RowsOk rows wd) (w : Way) {i : Int} (h0 : 0 ≤ i) :
    nb rows wd w i = -1 ∨ (0 ≤ nb rows wd w i ∧ nb rows wd w i < ((rows.length * wd : Nat) : Int)) := by
  rw [nb_nx R w h0]
  split
  · exact .inl rfl
  · rename_i q
    have : 0 ≤ nx rows.length wd w i := by
      have := nx_low (h := rows.length) (wd := wd) (w := w) (i := i)
      by_cases z : nx rows.length wd w i < 0
      · exact absurd (.inl z) q
      · omega
    exact .inr ⟨this, nx_lt this⟩
structure Sta where
  at_ : Int
  cr : List Int
  go : List Int
  us : List Int
  ba : Int
  bb : Int
  deriving DecidableEq
/-- what rooms and rules say -/
structure Wld where
  rows : List Str
  wd : Nat
  cap : Int
  strong : Bool
  pull : Bool
def Wld.z (W : Wld) : Str := Txt.join "" W.rows
def Wld.n (W : Wld) : Nat := W.rows.length * W.wd
def isFree (m : Nat) : Bool := decide (m = 46 ∨ m = 112 ∨ m = 111)
def isKD (m : Nat) : Bool := decide (m = 97 ∨ m = 98 ∨ m = 65 ∨ m = 66)
def lies (z : Str) (go : List Int) (c : Int) : Bool := isFree (mark z c) || decide (c ∈ go)
def gateOpen (z : Str) (cr : List Int) : Bool := (placesL z 112 z.length).all fun k => decide (k ∈ cr)
def oneWay (m : Nat) : Option Way := if m = 94 then some .u else if m = 118 then some .d else if m = 60 then some .l else if m = 62 then some .r else none
def badWay (m : Nat) (w : Way) : Bool := match oneWay m with
  | some v => decide (v ≠ w)
  | none => false
def changedBag (cap ba bb : Int) (m : Nat) : Option (Int × Int) :=
  let ch : Int := if m = 97 ∨ m = 98 then 1 else -1
  let a := if m = 97 ∨ m = 65 then ba + ch else ba
  let b := if m = 97 ∨ m = 65 then bb else bb + ch
  if min a b < 0 ∨ max a b > cap then none else some (a, b)
def entered (W : Wld) (s : Sta) (goal : Int) : Option (List Int × Int × Int) :=
  if goal ∈ s.go then some (s.go, s.ba, s.bb)
  else if mark W.z goal = 120 ∨ (mark W.z goal = 103 ∧ gateOpen W.z s.cr = false) then none
  else if isKD (mark W.z goal) = false then some (s.go, s.ba, s.bb)
  else match changedBag W.cap s.ba s.bb (mark W.z goal) with
    | none => none
    | some (a, b) => some (withOne s.go goal, a, b)
def without (xs : List Int) (x : Int) : List Int := xs.filter fun c => decide (c ≠ x)
def pushed (W : Wld) (s : Sta) (w : Way) (goal : Int) : Option Sta :=
  let b0 := nb W.rows W.wd w goal
  let b := if W.strong = true ∧ b0 ∈ s.cr then nb W.rows W.wd w b0 else b0
  if b < 0 ∨ b ∈ s.cr then none
  else if lies W.z s.go b = true then some { s with at_ := goal, cr := withOne (without s.cr goal) b }
  else if mark W.z b = 120 then some { s with at_ := goal, cr := without s.cr goal, go := withOne s.go b }
  else none
def pulled (W : Wld) (s : Sta) (w : Way) : Option (List Int) :=
  let back := nb W.rows W.wd w.back s.at_
  if W.pull = false ∨ back ∉ s.cr ∨ lies W.z s.go s.at_ = false then none else some (withOne (without s.cr back) s.at_)
def moved (W : Wld) (s : Sta) (w : Way) (big : Bool) : Option Sta :=
  let goal := nb W.rows W.wd w s.at_
  if goal < 0 ∨ mark W.z s.at_ = 42 ∨ badWay (mark W.z s.at_) w = true then none
  else if goal ∈ s.cr then (if big then none else pushed W s w goal)
  else match entered W s goal with
    | none => none
    | some (g, a, b) => if big then (match pulled W s w with
        | none => none
        | some c => some { s with at_ := goal, cr := c, go := g, ba := a, bb := b })
      else some { s with at_ := goal, go := g, ba := a, bb := b }
/-- a state as it can be -/
structure Ok (W : Wld) (s : Sta) : Prop where
  at0 : 0 ≤ s.at_
  at1 : s.at_ < W.n
  cr0 : ∀ c ∈ s.cr, 0 ≤ c
  cr1 : ∀ c ∈ s.cr, c < W.n
  crl : ∀ c ∈ s.cr, lies W.z s.go c = true
  crn : s.cr.length ≤ 30
  go0 : ∀ c ∈ s.go, 0 ≤ c
  go1 : ∀ c ∈ s.go, c < W.n
  gom : ∀ c ∈ s.go, isKD (mark W.z c) = true ∨ mark W.z c = 120
  gon : s.go.Nodup
  us0 : ∀ c ∈ s.us, 1 ≤ c ∧ c ≤ 2
  usn : s.us.Nodup
  ba0 : 0 ≤ s.ba
  ba1 : s.ba ≤ W.cap
  bb0 : 0 ≤ s.bb
  bb1 : s.bb ≤ W.cap
structure WOk (W : Wld) : Prop where
  R : RowsOk W.rows W.wd
  c0 : 1 ≤ W.cap
  c1 : W.cap ≤ 2
section
variable {W : Wld} {s : Sta} {w : Way}
theorem WOk.n30 (O : WOk W) : W.n ≤ 30 := Nat.mul_le_mul O.R.h5 O.R.w6
theorem lies_mono {z : Str} {g g' : List Int} {c : Int} (h : ∀ x ∈ g, x ∈ g') (l : lies z g c = true) : lies z g' c = true := by
  unfold lies at l ⊢
  rcases Bool.or_eq_true_iff.mp l with l | l
  · rw [l]; rfl
  · have : c ∈ g' := h c (of_decide_eq_true l)
    simp [this]
theorem lies_code {s : Sta} (K : Ok W s) {c : Int} (l : lies W.z s.go c = true) : isFree (mark W.z c) = true ∨ isKD (mark W.z c) = true ∨ mark W.z c = 120 := by
  unfold lies at l
  rcases Bool.or_eq_true_iff.mp l with l | l
  · exact .inl l
  · exact .inr (K.gom c (of_decide_eq_true l))
theorem mem_without {xs : List Int} {x c : Int} : c ∈ without xs x ↔ c ∈ xs ∧ c ≠ x := by simp [without]
theorem without_len {xs : List Int} {x : Int} (h : x ∈ xs) : (without xs x).length + 1 ≤ xs.length := by
  induction xs with
  | nil => cases h
  | cons y r ih =>
    unfold without at ih ⊢
    rw [List.filter_cons]
    by_cases e : y = x
    · subst e
      have := List.length_filter_le (fun c => decide (c ≠ y)) r
      simp
      simpa using this
    · have hm : x ∈ r := by
        rcases List.mem_cons.mp h with q | q
        · exact absurd q.symm e
        · exact q
      have := ih hm
      simp [e] at this ⊢
      omega
theorem Ok.gate {s : Sta} (K : Ok W s) {c : Int} (h : mark W.z c = 103) : c ∉ s.go := fun q => by
  rcases K.gom c q with e | e
  · rw [h] at e; exact absurd e (by decide)
  · rw [h] at e; exact absurd e (by decide)
theorem Ok.onCr {s : Sta} (K : Ok W s) {c : Int} (h : c ∈ s.cr) : mark W.z c ≠ 103 ∧ mark W.z c ≠ 35 := by
  have := lies_code K (K.crl c h)
  constructor
  · intro e
    rw [e] at this
    exact absurd this (by decide)
  · intro e
    rw [e] at this
    exact absurd this (by decide)
theorem changedBag_ok {cap ba bb a b : Int} {m : Nat} (h : changedBag cap ba bb m = some (a, b)) : 0 ≤ a ∧ a ≤ cap ∧ 0 ≤ b ∧ b ≤ cap := by
  unfold changedBag at h
  simp only at h
  generalize (if m = 97 ∨ m = 65 then ba + (if m = 97 ∨ m = 98 then (1 : Int) else -1) else ba) = x at h
  generalize (if m = 97 ∨ m = 65 then bb else bb + (if m = 97 ∨ m = 98 then (1 : Int) else -1)) = y at h
  split at h
  · cases h
  · rename_i q
    cases h
    omega
theorem entered_ok (K : Ok W s) {goal a b : Int} {g : List Int} (g0 : 0 ≤ goal) (g1 : goal < W.n) (h : entered W s goal = some (g, a, b)) :
    (∀ x ∈ s.go, x ∈ g) ∧ (∀ c ∈ g, 0 ≤ c ∧ c < W.n ∧ (isKD (mark W.z c) = true ∨ mark W.z c = 120)) ∧ g.Nodup ∧ 0 ≤ a ∧ a ≤ W.cap ∧ 0 ≤ b ∧ b ≤ W.cap := by
  have same : (∀ x ∈ s.go, x ∈ s.go) ∧ (∀ c ∈ s.go, 0 ≤ c ∧ c < W.n ∧ (isKD (mark W.z c) = true ∨ mark W.z c = 120)) ∧ s.go.Nodup ∧ 0 ≤ s.ba ∧ s.ba ≤ W.cap ∧ 0 ≤ s.bb ∧ s.bb ≤ W.cap :=
    ⟨fun _ h => h, fun c hc => ⟨K.go0 c hc, K.go1 c hc, K.gom c hc⟩, K.gon, K.ba0, K.ba1, K.bb0, K.bb1⟩
  unfold entered at h
  split at h
  · cases h; exact same
  rename_i hg
  split at h
  · cases h
  split at h
  · cases h; exact same
  rename_i hk
  split at h
  · cases h
  · rename_i a' b' hb
    cases h
    obtain ⟨q1, q2, q3, q4⟩ := changedBag_ok hb
    refine ⟨fun x hx => mem_withOne.mpr (.inl hx), fun c hc => ?_, withOne_nodup K.gon hg, q1, q2, q3, q4⟩
    rcases mem_withOne.mp hc with hc | rfl
    · exact ⟨K.go0 c hc, K.go1 c hc, K.gom c hc⟩
    · exact ⟨g0, g1, .inl (by cases hq : isKD (mark W.z c) <;> simp_all)⟩
theorem pushed_ok (O : WOk W) (K : Ok W s) {goal : Int} {s' : Sta} (hc : goal ∈ s.cr) (h : pushed W s w goal = some s') : Ok W s' := by
  have g0 := K.cr0 _ hc
  have g1 := K.cr1 _ hc
  unfold pushed at h
  simp only at h
  generalize hb : (if W.strong = true ∧ nb W.rows W.wd w goal ∈ s.cr then nb W.rows W.wd w (nb W.rows W.wd w goal) else nb W.rows W.wd w goal) = b at h
  have hbr : b = -1 ∨ (0 ≤ b ∧ b < (W.n : Int)) := by
    rw [← hb]
    split
    · rename_i q
      exact nb_cases O.R w (K.cr0 _ q.2)
    · exact nb_cases O.R w g0
  split at h
  · cases h
  rename_i q
  have b0 : 0 ≤ b ∧ b < (W.n : Int) := by
    rcases hbr with e | e
    · exact absurd (.inl (by omega)) q
    · exact e
  have wl := without_len hc
  split at h
  · rename_i hl
    cases h
    refine ⟨g0, g1, fun c hc' => ?_, fun c hc' => ?_, fun c hc' => ?_, ?_, K.go0, K.go1, K.gom, K.gon, K.us0, K.usn, K.ba0, K.ba1, K.bb0, K.bb1⟩
    · rcases mem_withOne.mp hc' with e | rfl
      · exact K.cr0 _ (mem_without.mp e).1
      · exact b0.1
    · rcases mem_withOne.mp hc' with e | rfl
      · exact K.cr1 _ (mem_without.mp e).1
      · exact b0.2
    · rcases mem_withOne.mp hc' with e | rfl
      · exact K.crl _ (mem_without.mp e).1
      · exact hl
    · show (withOne (without s.cr goal) b).length ≤ 30
      rw [withOne_len]
      have := K.crn
      omega
  · split at h
    · rename_i hl hx
      cases h
      have hn : b ∉ s.go := fun e => hl (by simp [lies, e])
      refine ⟨g0, g1, fun c hc' => K.cr0 _ (mem_without.mp hc').1, fun c hc' => K.cr1 _ (mem_without.mp hc').1, fun c hc' => ?_, ?_, fun c hc' => ?_, fun c hc' => ?_, fun c hc' => ?_, withOne_nodup K.gon hn, K.us0, K.usn, K.ba0, K.ba1, K.bb0, K.bb1⟩
      · exact lies_mono (fun x hx => mem_withOne.mpr (.inl hx)) (K.crl _ (mem_without.mp hc').1)
      · show (without s.cr goal).length ≤ 30
        have := K.crn
        omega
      · rcases mem_withOne.mp hc' with e | rfl
        · exact K.go0 _ e
        · exact b0.1
      · rcases mem_withOne.mp hc' with e | rfl
        · exact K.go1 _ e
        · exact b0.2
      · rcases mem_withOne.mp hc' with e | rfl
        · exact K.gom _ e
        · exact .inr hx
    · cases h
theorem moved_ok (O : WOk W) (K : Ok W s) {big : Bool} {s' : Sta} (h : moved W s w big = some s') : Ok W s' := by
  unfold moved at h
  simp only at h
  split at h
  · cases h
  rename_i q
  have hg : 0 ≤ nb W.rows W.wd w s.at_ ∧ nb W.rows W.wd w s.at_ < (W.n : Int) := by
    rcases nb_cases O.R w K.at0 with e | e
    · exact absurd (.inl (by omega)) q
    · exact e
  split at h
  · rename_i hc
    cases big with
    | true => cases h
    | false => exact pushed_ok O K hc h
  rename_i hc
  split at h
  · cases h
  rename_i g a b he
  obtain ⟨e1, e2, e3, e4, e5, e6, e7⟩ := entered_ok K hg.1 hg.2 he
  cases big with
  | false =>
    cases h
    exact ⟨hg.1, hg.2, K.cr0, K.cr1, fun c hc => lies_mono e1 (K.crl c hc), K.crn, fun c hc => (e2 c hc).1, fun c hc => (e2 c hc).2.1, fun c hc => (e2 c hc).2.2, e3, K.us0, K.usn, e4, e5, e6, e7⟩
  | true =>
    simp only [if_true] at h
    split at h
    · cases h
    rename_i c hp
    cases h
    unfold pulled at hp
    simp only at hp
    split at hp
    · cases hp
    rename_i hq
    cases hp
    have hq1 : nb W.rows W.wd w.back s.at_ ∈ s.cr := by
      by_cases e : nb W.rows W.wd w.back s.at_ ∈ s.cr
      · exact e
      · exact absurd (.inr (.inl e)) hq
    have hq2 : lies W.z s.go s.at_ = true := by
      cases e : lies W.z s.go s.at_ with
      | true => rfl
      | false => exact absurd (.inr (.inr e)) hq
    have wl := without_len hq1
    refine ⟨hg.1, hg.2, fun c hc' => ?_, fun c hc' => ?_, fun c hc' => ?_, ?_, fun c hc => (e2 c hc).1, fun c hc => (e2 c hc).2.1, fun c hc => (e2 c hc).2.2, e3, K.us0, K.usn, e4, e5, e6, e7⟩
    · rcases mem_withOne.mp hc' with e | rfl
      · exact K.cr0 _ (mem_without.mp e).1
      · exact K.at0
    · rcases mem_withOne.mp hc' with e | rfl
      · exact K.cr1 _ (mem_without.mp e).1
      · exact K.at1
    · rcases mem_withOne.mp hc' with e | rfl
      · exact lies_mono e1 (K.crl _ (mem_without.mp e).1)
      · exact lies_mono e1 hq2
    · show (withOne _ s.at_).length ≤ 30
      rw [withOne_len]
      have := K.crn
      omega
def pushedL (W : Wld) (s : Sta) (w : Way) (goal : Int) : Option (List Int × List Int) :=
  let b0 := nx W.rows.length W.wd w goal
  let b := if W.strong = true ∧ b0 ∈ s.cr then nx W.rows.length W.wd w b0 else b0
  if b < 0 ∨ b ∈ s.cr then none
  else if lies W.z s.go b = true then some (withOne (without s.cr goal) b, s.go)
  else if mark W.z b = 120 then some (without s.cr goal, withOne s.go b)
  else none
def bagL (cap ba bb : Int) (m : Nat) : Option (Int × Int) :=
  if m = 97 then (if ba = cap then none else some (ba + 1, bb))
  else if m = 98 then (if bb = cap then none else some (ba, bb + 1))
  else if m = 65 then (if ba = 0 then none else some (ba - 1, bb))
  else if m = 66 then (if bb = 0 then none else some (ba, bb - 1))
  else some (ba, bb)
def gateL (z : Str) (cr : List Int) : Bool := (List.range z.length).all fun k => decide (mark z (k : Int) ≠ 112) || decide ((k : Int) ∈ cr)
def walkedL (W : Wld) (s : Sta) (w : Way) : Option Sta :=
  let goal := nx W.rows.length W.wd w s.at_
  if goal < 0 ∨ mark W.z goal = 35 then none
  else if badWay (mark W.z s.at_) w = true then none
  else if mark W.z goal = 103 ∧ gateL W.z s.cr = false then none
  else if goal ∈ s.cr then (match pushedL W s w goal with
    | none => none
    | some (c, g) => some { s with at_ := goal, cr := c, go := g })
  else if goal ∉ s.go ∧ (isKD (mark W.z goal) = true ∨ mark W.z goal = 120) then
    (if mark W.z goal = 120 then none else match bagL W.cap s.ba s.bb (mark W.z goal) with
      | none => none
      | some (a, b) => some { s with at_ := goal, go := withOne s.go goal, ba := a, bb := b })
  else some { s with at_ := goal }
def stepL (W : Wld) (s : Sta) (w : Way) (big : Bool) : Option Sta :=
  if mark W.z s.at_ = 42 ∨ (big = true ∧ W.pull = false) then none
  else if big = false then walkedL W s w
  else
    let back := nx W.rows.length W.wd w.back s.at_
    if back ∉ s.cr ∨ nx W.rows.length W.wd w s.at_ ∈ s.cr ∨ lies W.z s.go s.at_ = false then none
    else match walkedL W s w with
      | none => none
      | some s' => some { s' with cr := withOne (without s.cr back) s.at_ }
theorem bag_eq {cap ba bb : Int} {m : Nat} (a0 : 0 ≤ ba) (a1 : ba ≤ cap) (b0 : 0 ≤ bb) (b1 : bb ≤ cap) (h : isKD m = true) : changedBag cap ba bb m = bagL cap ba bb m := by
  unfold isKD at h
  have h := of_decide_eq_true h
  unfold changedBag bagL
  rcases h with rfl | rfl | rfl | rfl
  · show (if min (ba + 1) bb < 0 ∨ max (ba + 1) bb > cap then none else some (ba + 1, bb)) = (if ba = cap then none else some (ba + 1, bb))
    by_cases e : ba = cap
    · rw [if_pos (by omega), if_pos e]
    · rw [if_neg (by omega), if_neg e]
  · show (if min ba (bb + 1) < 0 ∨ max ba (bb + 1) > cap then none else some (ba, bb + 1)) = (if bb = cap then none else some (ba, bb + 1))
    by_cases e : bb = cap
    · rw [if_pos (by omega), if_pos e]
    · rw [if_neg (by omega), if_neg e]
  · show (if min (ba + -1) bb < 0 ∨ max (ba + -1) bb > cap then none else some (ba + -1, bb)) = (if ba = 0 then none else some (ba - 1, bb))
    by_cases e : ba = 0
    · rw [if_pos (by omega), if_pos e]
    · rw [if_neg (by omega), if_neg e]; rfl
  · show (if min ba (bb + -1) < 0 ∨ max ba (bb + -1) > cap then none else some (ba, bb + -1)) = (if bb = 0 then none else some (ba, bb - 1))
    by_cases e : bb = 0
    · rw [if_pos (by omega), if_pos e]
    · rw [if_neg (by omega), if_neg e]; rfl
theorem gate_eq (z : Str) (cr : List Int) : gateOpen z cr = gateL z cr := by
  unfold gateOpen gateL placesL
  rw [Bool.eq_iff_iff, List.all_eq_true, List.all_eq_true]
  constructor
  · intro h k hk
    by_cases e : mark z (k : Int) = 112
    · have := h (k : Int) (by
        refine List.mem_map.mpr ⟨k, List.mem_filter.mpr ⟨hk, ?_⟩, rfl⟩
        have hk2 : k < z.cps.size := by simpa [Str.length] using hk
        unfold mark at e
        rw [Int.toNat_natCast] at e
        simp [Array.getD, hk2] at e
        simp [hk2, e])
      simp [e, of_decide_eq_true this]
    · simp [e]
  · intro h k hk
    obtain ⟨i, hi, rfl⟩ := List.mem_map.mp hk
    obtain ⟨h1, h2⟩ := List.mem_filter.mp hi
    have := h i h1
    have h3 : z.cps[i]? = some 112 := of_decide_eq_true h2
    have e : mark z (i : Int) = 112 := by
      unfold mark
      rw [Int.toNat_natCast]
      have hlt : i < z.cps.size := by simpa [Str.length] using h1
      rw [Array.getElem?_eq_getElem hlt] at h3
      simp [Array.getD, hlt, Option.some.inj h3]
    simpa [e] using this
/-- beside a state's cell: the room's list of neighbours, or the law's own look -/
theorem nb_eq (O : WOk W) {i : Int} (h0 : 0 ≤ i) : nb W.rows W.wd w i = if nx W.rows.length W.wd w i < 0 ∨ mark W.z (nx W.rows.length W.wd w i) = 35 then -1 else nx W.rows.length W.wd w i := nb_nx O.R w h0
theorem nb_mem (O : WOk W) (K : Ok W s) {i : Int} (h0 : 0 ≤ i) : nb W.rows W.wd w i ∈ s.cr ↔ nx W.rows.length W.wd w i ∈ s.cr := by
  rw [nb_eq O h0]
  split
  · rename_i q
    constructor
    · intro h
      have := K.cr0 _ h
      omega
    · intro h
      rcases q with q | q
      · have := K.cr0 _ h
        omega
      · exact absurd q (K.onCr h).2
  · exact Iff.rfl
theorem nb_in (O : WOk W) (K : Ok W s) {i : Int} (h0 : 0 ≤ i) (h : nx W.rows.length W.wd w i ∈ s.cr) : nb W.rows W.wd w i = nx W.rows.length W.wd w i := by
  rw [nb_eq O h0, if_neg]
  rintro (q | q)
  · have := K.cr0 _ h
    omega
  · exact (K.onCr h).2 q
theorem pushed_eq (O : WOk W) (K : Ok W s) {goal : Int} (hc : goal ∈ s.cr) : pushed W s w goal = match pushedL W s w goal with
    | none => none
    | some (c, g) => some { s with at_ := goal, cr := c, go := g } := by
  have g0 := K.cr0 _ hc
  -- the place beyond, by the one look and by the other
  have main : ∀ b b' : Int, (b = if b' < 0 ∨ mark W.z b' = 35 then -1 else b') → (if b < 0 ∨ b ∈ s.cr then (none : Option Sta)
      else if lies W.z s.go b = true then some { s with at_ := goal, cr := withOne (without s.cr goal) b }
      else if mark W.z b = 120 then some { s with at_ := goal, cr := without s.cr goal, go := withOne s.go b }
      else none) = match (if b' < 0 ∨ b' ∈ s.cr then none else if lies W.z s.go b' = true then some (withOne (without s.cr goal) b', s.go) else if mark W.z b' = 120 then some (without s.cr goal, withOne s.go b') else none) with
    | none => none
    | some (c, g) => some { s with at_ := goal, cr := c, go := g } := by
    intro b b' e
    by_cases q : b' < 0 ∨ mark W.z b' = 35
    · rw [if_pos q] at e
      subst e
      rw [if_pos (.inl (by omega))]
      by_cases q1 : b' < 0
      · rw [if_pos (.inl q1)]
      · have q2 : mark W.z b' = 35 := q.resolve_left q1
        have hnc : b' ∉ s.cr := fun h => (K.onCr h).2 q2
        have hnl : lies W.z s.go b' ≠ true := fun h => by
          have := lies_code K h
          rw [q2] at this
          exact absurd this (by decide)
        rw [if_neg (fun h => h.elim q1 hnc), if_neg hnl, if_neg (by rw [q2]; decide)]
    · rw [if_neg q] at e
      subst e
      by_cases q1 : b < 0 ∨ b ∈ s.cr
      · rw [if_pos q1, if_pos q1]
      · rw [if_neg q1, if_neg q1]
        split
        · rfl
        · split <;> rfl
  unfold pushed pushedL
  simp only
  by_cases hs : W.strong = true ∧ nx W.rows.length W.wd w goal ∈ s.cr
  · have e := nb_in (w := w) O K g0 hs.2
    rw [e, if_pos hs, if_pos hs]
    exact main _ _ (nb_eq O (K.cr0 _ hs.2))
  · have hs' : ¬ (W.strong = true ∧ nb W.rows W.wd w goal ∈ s.cr) := fun h => hs ⟨h.1, (nb_mem O K g0).mp h.2⟩
    rw [if_neg hs, if_neg hs']
    exact main _ _ (nb_eq O g0)
theorem small_eq (O : WOk W) (K : Ok W s) (hstar : mark W.z s.at_ ≠ 42) : moved W s w false = walkedL W s w := by
  unfold moved walkedL
  simp only [Bool.false_eq_true, if_false]
  rw [nb_eq O K.at0]
  generalize hg : nx W.rows.length W.wd w s.at_ = goal
  by_cases q : goal < 0 ∨ mark W.z goal = 35
  · rw [if_pos q, if_pos (.inl (by omega)), if_pos q]
  rw [if_neg q, if_neg q]
  have g0 : ¬ goal < 0 := fun h => q (.inl h)
  by_cases hb : badWay (mark W.z s.at_) w = true
  · rw [if_pos (.inr (.inr hb)), if_pos hb]
  rw [if_neg (fun h => h.elim g0 fun h => h.elim hstar hb), if_neg hb, ← gate_eq]
  by_cases hc : goal ∈ s.cr
  · rw [if_pos hc, if_neg (fun h => (K.onCr hc).1 h.1), if_pos hc]
    exact pushed_eq O K hc
  rw [if_neg hc, if_neg hc]
  unfold entered
  by_cases hgo : goal ∈ s.go
  · have hng : mark W.z goal ≠ 103 := fun e => K.gate e hgo
    rw [if_pos hgo, if_neg (fun h => hng h.1), if_neg (fun h => h.1 hgo)]
  rw [if_neg hgo]
  by_cases hgate : mark W.z goal = 103 ∧ gateOpen W.z s.cr = false
  · rw [if_pos (.inr hgate), if_pos hgate]
  rw [if_neg hgate]
  by_cases hx : mark W.z goal = 120
  · rw [if_pos (.inl hx), if_pos ⟨hgo, .inr hx⟩, if_pos hx]
  rw [if_neg (fun h => h.elim hx hgate)]
  cases hk : isKD (mark W.z goal) with
  | false =>
    rw [if_pos rfl, if_neg (fun h => h.2.elim (fun e => by cases e) hx)]
  | true =>
    rw [if_neg (by decide), bag_eq K.ba0 K.ba1 K.bb0 K.bb1 hk, if_pos ⟨hgo, .inl rfl⟩, if_neg hx]
    cases bagL W.cap s.ba s.bb (mark W.z goal) with
    | none => rfl
    | some ab => rfl
theorem step_eq (O : WOk W) (K : Ok W s) (big : Bool) : moved W s w big = stepL W s w big := by
  unfold stepL
  by_cases hs : mark W.z s.at_ = 42
  · rw [if_pos (.inl hs)]
    unfold moved
    simp only
    rw [if_pos (.inr (.inl hs))]
  cases big with
  | false =>
    rw [if_neg (fun h => h.elim hs fun h => by cases h.1), if_pos rfl]
    exact small_eq O K hs
  | true =>
    by_cases hp : W.pull = false
    · rw [if_pos (.inr ⟨rfl, hp⟩)]
      unfold moved
      simp only
      split
      · rfl
      split
      · rfl
      have : pulled W s w = none := by
        unfold pulled
        simp only
        rw [if_pos (.inl hp)]
      rw [this]
      simp only [if_true]
      split <;> rfl
    rw [if_neg (fun h => h.elim hs fun h => hp h.2), if_neg (by decide), ← small_eq O K hs]
    simp only
    have hbk := nb_mem (w := w.back) O K K.at0
    have hgl := nb_mem (w := w) O K K.at0
    by_cases h1 : nx W.rows.length W.wd w s.at_ ∈ s.cr
    · rw [if_pos (.inr (.inl h1))]
      unfold moved
      simp only
      rw [if_pos (hgl.mpr h1)]
      split <;> rfl
    by_cases h2 : nx W.rows.length W.wd w.back s.at_ ∉ s.cr ∨ lies W.z s.go s.at_ = false
    · rw [if_pos (h2.elim .inl fun h => .inr (.inr h))]
      have : pulled W s w = none := by
        unfold pulled
        simp only
        rw [if_pos (.inr (h2.elim (fun h => .inl fun e => h (hbk.mp e)) .inr))]
      unfold moved
      simp only
      rw [this]
      split
      · rfl
      split
      · rfl
      simp only [if_true]
      split <;> rfl
    rw [if_neg (fun h => h.elim (fun h => h2 (.inl h)) fun h => h.elim h1 fun h => h2 (.inr h))]
    have h3 : nx W.rows.length W.wd w.back s.at_ ∈ s.cr := by
      by_cases e : nx W.rows.length W.wd w.back s.at_ ∈ s.cr
      · exact e
      · exact absurd (.inl e) h2
    have h4 : lies W.z s.go s.at_ = true := by
      cases e : lies W.z s.go s.at_ with
      | true => rfl
      | false => exact absurd (.inr e) h2
    have e := nb_in (w := w.back) O K K.at0 h3
    have : pulled W s w = some (withOne (without s.cr (nx W.rows.length W.wd w.back s.at_)) s.at_) := by
      unfold pulled
      simp only
      rw [e, if_neg]
      rintro (h | h | h)
      · exact hp h
      · exact h h3
      · rw [h4] at h; cases h
    unfold moved
    simp only
    have hng : nb W.rows W.wd w s.at_ ∉ s.cr := fun h => h1 (hgl.mp h)
    rw [if_neg hng, this, if_neg hng]
    split
    · rfl
    simp only [if_true, Bool.false_eq_true, if_false]
    split
    · rfl
    · rfl
end
end K16M
end
section
set_option Elab.async false
set_option linter.all false
set_option maxRecDepth 100000
set_option maxHeartbeats 2000000
namespace K16M
open PySem L2 K16
local macro_rules | `(tactic| walk_at "hp") => `(tactic| first | assumption | exact upd_same | (refine (upd_ne (by first | assumption | (apply Ne.symm; assumption))).trans ?_; walk_at "hp"))
local macro_rules | `(tactic| walk_at "rd1") => `(tactic| first
  | (refine ⟨_, rfl, ?_⟩)
  | (refine ⟨_, _, rfl, rfl, ?_⟩)
  | (refine ⟨(rfl : scal _ _ = true), ?_⟩)
  | (refine And.intro (by show (0 : Int) < _; decide) ?_)
  | (refine And.intro (And.intro (by decide) (by decide)) ?_)
  | (refine And.intro (Or.inr (And.intro (by decide) (by decide))) ?_)
  | (refine And.intro (And.intro (by decide) (And.intro (by decide) (by decide))) ?_)
  | (refine And.intro (by assumption) ?_)
  | (refine And.intro (And.intro (by omega) (by omega)) ?_)
  | (refine And.intro (Or.inl (And.intro (by omega) (by omega))) ?_)
  | (refine' ⟨_, _, _, _, rfl, rfl, Or.inl (Or.inl ?h1), ?h2, ?h3⟩; (case h1 => walk_at "hp"); (case h2 => rfl))
  | (refine' ⟨_, _, _, _, rfl, rfl, ?h1, ?h2, ?h3⟩; (case h1 => walk_at "hp"); (case h2 => rfl))
  | (refine' ⟨_, _, rfl, Or.inl (Or.inl (Or.inl ?h1)), ?h3⟩; (case h1 => walk_at "hp"))
  | (refine Or.inl ⟨_, rfl, ?_⟩))
local macro_rules | `(tactic| walk_at "rd") => `(tactic| repeat walk_at "rd1")
def isInt : V → Bool
  | .int _ => true
  | _ => false
def isBl : V → Bool
  | .bl _ => true
  | _ => false
/-- what kind of thing a value is, as far as whole numbers and flags go -/
def Knd (K : PySem.W.Frag) (H : Hp) (v : V) : Prop := ∃ t b1 b2, TyX K H v t ∧ PySem.W.kitOne K t (.type "int") = some b1 ∧ PySem.W.kitOne K t (.type "bool") = some b2 ∧ (b1 && !b2) = isInt v ∧ b2 = isBl v
theorem knd_of {K : PySem.W.Frag} {H : Hp} {v : V} {n : String} (h : tyN H v = some n) : Knd K H v := by
  have ty : TyX K H v (.type n) := .base (tyN_of h)
  have go : ∀ (b1 b2 : Bool), kitB n "int" = some b1 → kitB n "bool" = some b2 → (b1 && !b2) = isInt v → b2 = isBl v → Knd K H v := fun b1 b2 h1 h2 h3 h4 => ⟨_, b1, b2, ty, kit_ty h1, kit_ty h2, h3, h4⟩
  cases v with
  | non => cases h; exact go false false (by decide +kernel) (by decide +kernel) rfl rfl
  | bl b => cases h; exact go true true (by decide +kernel) (by decide +kernel) rfl rfl
  | int i => cases h; exact go true false (by decide +kernel) (by decide +kernel) rfl rfl
  | str x => cases h; exact go false false (by decide +kernel) (by decide +kernel) rfl rfl
  | byt b => cases h
  | flt b => cases h
  | ty t => cases h
  | ref a =>
    simp only [tyN] at h
    split at h <;> first | (cases h; exact go false false (by decide +kernel) (by decide +kernel) rfl rfl) | cases h
def capOk : V → Bool
  | .int i => decide (1 ≤ i ∧ i ≤ 2)
  | _ => false
def rulesF (c s p : V) : List (Str × V) := [("cap", c), ("strong", s), ("pull", p)]
structure RulT (P : Program) (K : PySem.W.Frag) (mg : Str → Option Value) (C CB fB : Addr) : Prop extends Blt mg where
  cl : Cls K C
  a_cap : NoAttr K C "cap"
  a_strong : NoAttr K C "strong"
  a_pull : NoAttr K C "pull"
  g_Rules : mg "Rules" = some (.ref C)
  x_BadRules : RX.ErrT P K mg "BadRules" "value" CB fB
def spRInit (K : PySem.W.Frag) (C CB : Addr) : Sp := fun vs H Q E => ∃ (x dx : Addr) (c s p : V), vs = [.ref x, c, s, p] ∧ H x = some (.ins C dx []) ∧ Knd K H c ∧ Knd K H s ∧ Knd K H p ∧
  (capOk c = false → ∀ d, H d = none → E (.ref CB) (some d) (upd H d (.xd [("value", c)]))) ∧
  (capOk c = true → isBl s = false → ∀ d, H d = none → E (.ref CB) (some d) (upd H d (.xd [("value", s)]))) ∧
  (capOk c = true → isBl s = true → isBl p = false → ∀ d, H d = none → E (.ref CB) (some d) (upd H d (.xd [("value", p)]))) ∧
  (capOk c = true → isBl s = true → isBl p = true → Q .non (upd H x (.ins C dx (rulesF c s p))))
section
variable {P : Program} {w : World} {K : PySem.W.Frag} {mg : Str → Option Value} {base : Heap} {C CB fB : Addr}
theorem putF3 (c s p : V) : putF "pull" p (putF "strong" s (putF "cap" c [])) = rulesF c s p := by
  have e1 : ¬ (("cap" : Str) = "strong") := by decide +kernel
  have e2 : ¬ (("cap" : Str) = "pull") := by decide +kernel
  have e3 : ¬ (("strong" : Str) = "pull") := by decide +kernel
  simp only [putF, e1, e2, e3, if_false, rulesF]
theorem ok_rinit {f : Addr} {fd : FuncData} {dvs : List V} (F : FunD K "__init__" "Rules.__init__" (defArgs s_Rules_init) (defBody s_Rules_init) (defScope s_Rules_init) dvs [] f fd) (T : RulT P K mg C CB fB) (c_is_whole : CalG P w K mg base 1 "is_whole" (spWhole K)) :
    FnG P w K mg base (CXe P w) 4 f fd ["self", "cap", "strong", "pull"] (spRInit K C CB) := by
  refine F.okG sc_Rules_init (fun vs H Q E h => ?_) (fun cdv A outer s H vs Q E hgd hr h => ?_)
  · obtain ⟨x, dx, c, s, p, rfl, _⟩ := h; rfl
  · obtain ⟨x, dx, c, sg, pl, rfl, hx, ⟨tc, c1, c2, kc, kc1, kc2, kc3, kc4⟩, ⟨ts, s1, s2, ks, ks1, ks2, ks3, ks4⟩, ⟨tp, p1, p2, kp, kp1, kp2, kp3, kp4⟩, k1, k2, k3, k4⟩ := h
    refine ⟨_, (pss_cons (ps_if (PW.pt (pw_or (pt_not (pt_val (pg_c c_is_whole hgd hr (by first | decide | omega) (pa_cons (pv 1) pa_nil)))) (pw_or1 (pt_not (pt_chain op_le op_le pe_int (pv 1) pe_int))))) (pss_one (ps_raiseErr rfl T.x_BadRules hr (takes_of rfl rfl rfl rfl) (pa_cons (pv 1) pa_nil))) pss_nil)
      (pss_cons (ps_if (pt_not (pt_val (pe_callB call_isi (by rfl) T.n_isinstance (by decide +kernel) (pa_cons (pv 2) (pa_cons (pe_bltn (v := .ty "bool") (u := .type "bool") rfl T.n_bool (by decide +kernel) rfl) pa_nil))))) (pss_one (ps_raiseErr rfl T.x_BadRules hr (takes_of rfl rfl rfl rfl) (pa_cons (pv 2) pa_nil))) pss_nil)
      (pss_cons (ps_if (pt_not (pt_val (pe_callB call_isi (by rfl) T.n_isinstance (by decide +kernel) (pa_cons (pv 3) (pa_cons (pe_bltn (v := .ty "bool") (u := .type "bool") rfl T.n_bool (by decide +kernel) rfl) pa_nil))))) (pss_one (ps_raiseErr rfl T.x_BadRules hr (takes_of rfl rfl rfl rfl) (pa_cons (pv 3) pa_nil))) pss_nil)
      (pss_cons (ps_fld (pv 0) (pv 1) rfl)
      (pss_cons (ps_fld (pv 0) (pv 2) rfl)
      (pss_one (ps_fld (pv 0) (pv 3) rfl))))))), ?_⟩
    have hSl : ∀ (o : HO), (upd H x o) x = some o := fun o => upd_same
    -- cap
    have first : ∀ (D : Ends) (t : TS), (capOk c = true → t D (L2.start ["self", "cap", "strong", "pull"] [.ref x, c, sg, pl]) H) → True := fun _ _ _ => trivial
    refine ⟨_, rfl, c, tc, c1, c2, rfl, kc, kc1, kc2, _, rfl, ?_⟩
    rw [kc3]
    cases hi : isInt c with
    | false =>
      have hn : capOk c = false := by cases c <;> first | rfl | cases hi
      exact iteT (iteT ⟨_, rfl, c, rfl, fun d hd => k1 hn d hd⟩)
    | true =>
      cases c <;> first | (cases hi; done) | skip
      rename_i i
      refine iteF ?_
      walk_at "rd"
      by_cases h1 : (1 : Int) ≤ i
      · refine ite2 (fun _ => ?_) (fun z => absurd (decide_eq_true h1) z)
        walk_at "rd"
        by_cases h2 : i ≤ 2
        · have hk : capOk (.int i) = true := by simp [capOk, h1, h2]
          refine ite2 (fun z => ?_) (fun _ => ?_)
          · simp [h2] at z
          -- strong
          refine ⟨_, rfl, _, _, _, _, _, rfl, .ty _, ks, ks2, _, rfl, ?_⟩
          rw [ks4]
          cases hsg : isBl sg with
          | false => exact iteT ⟨_, rfl, sg, rfl, fun d hd => k2 hk hsg d hd⟩
          | true =>
            refine iteF ?_
            refine ⟨_, rfl, _, _, _, _, _, rfl, .ty _, kp, kp2, _, rfl, ?_⟩
            rw [kp4]
            cases hpl : isBl pl with
            | false => exact iteT ⟨_, rfl, pl, rfl, fun d hd => k3 hk hsg hpl d hd⟩
            | true =>
              refine iteF ?_
              refine ⟨_, rfl, _, rfl, x, C, dx, [], rfl, hx, T.cl, T.a_cap, (by decide), ?_⟩
              refine ⟨_, rfl, _, rfl, x, C, dx, _, rfl, upd_same, T.cl, T.a_strong, Nat.lt_of_le_of_lt (putF_len _ _ _) (by decide), ?_⟩
              refine ⟨_, rfl, _, rfl, x, C, dx, _, rfl, upd_same, T.cl, T.a_pull, Nat.lt_of_le_of_lt (putF_len _ _ _) (Nat.lt_of_le_of_lt (Nat.succ_le_succ (putF_len _ _ _)) (by decide)), ?_⟩
              rw [upd_upd, upd_upd, putF3]
              exact k4 hk hsg hpl
        · have hn : capOk (.int i) = false := by simp [capOk, h2]
          refine ite2 (fun _ => ?_) (fun z => absurd (by simp [h2]) z)
          exact ⟨_, rfl, _, rfl, fun d hd => k1 hn d hd⟩
      · have hn : capOk (.int i) = false := by simp [capOk, h1]
        refine ite2 (fun z => absurd (of_decide_eq_true z) h1) (fun _ => ?_)
        refine ⟨_, rfl, ?_⟩
        exact iteT ⟨_, rfl, _, rfl, fun d hd => k1 hn d hd⟩
end
/-- what the steps look up -/
structure MovT (P : Program) (w : World) (K : PySem.W.Frag) (mg : Str → Option Value) (CR CL aB aO : Addr) : Prop extends Rb mg where
  clR : Cls K CR
  r_rows : NoAttr K CR "rows"
  r_cells : NoAttr K CR "cells"
  r_near : NoAttr K CR "near"
  r_plates : NoAttr K CR "plates"
  clL : Cls K CL
  l_cap : NoAttr K CL "cap"
  l_strong : NoAttr K CL "strong"
  l_pull : NoAttr K CL "pull"
  k_STEPS_WITH_PULLING : ∃ t, mg "STEPS_WITH_PULLING" = some (.str "udlrUDLR" t)
  g_BACK : mg "BACK" = some (.ref aB)
  g_ONE_WAY : mg "ONE_WAY" = some (.ref aO)
  bk : ∀ v : Way, ∃ u, KD K w aB v.sign (some u) ∧ RelV (.str v.back.sign) u
  ow : ∀ m : Nat, ∃ r, KD K w aO ⟨#[m]⟩ r ∧ (oneWay m = none → r = none) ∧ ∀ v, oneWay m = some v → ∃ u, r = some u ∧ RelV (.str v.sign) u
  n_sorted : mg "sorted" = none
  n_min : mg "min" = none
def RulesIs (CL : Addr) (H : Hp) (b : Addr) (W : Wld) : Prop := ∃ dx, H b = some (.ins CL dx (rulesF (.int W.cap) (.bl W.strong) (.bl W.pull)))
theorem RulesIs.same {CL : Addr} {H H' : Hp} {b : Addr} {W : Wld} (s : Same H H') (h : RulesIs CL H b W) : RulesIs CL H' b W := let ⟨dx, e⟩ := h; ⟨dx, s _ _ e⟩
/-- a state stands at v -/
def StaAt (H : Hp) (v : V) (s : Sta) : Prop := ∃ a c g u b, v = .ref a ∧ H a = some (.tup [.int s.at_, .ref c, .ref g, .ref u, .ref b]) ∧ H c = some (.tup (s.cr.map V.int)) ∧ H g = some (.tup (s.go.map V.int)) ∧ H u = some (.tup (s.us.map V.int)) ∧ H b = some (.tup [.int s.ba, .int s.bb])
theorem StaAt.same {H H' : Hp} {v : V} {s : Sta} (k : Same H H') (h : StaAt H v s) : StaAt H' v s := by
  obtain ⟨a, c, g, u, b, e, h1, h2, h3, h4, h5⟩ := h
  exact ⟨a, c, g, u, b, e, k _ _ h1, k _ _ h2, k _ _ h3, k _ _ h4, k _ _ h5⟩
theorem inV_ints (x : Int) (xs : List Int) : inV (.int x) (xs.map V.int) = decide (x ∈ xs) := by
  unfold inV
  induction xs with
  | nil => rfl
  | cons y r ih =>
    rw [List.map_cons, List.any_cons, ih]
    have : eqV (.int y) (.int x) = decide (x = y) := by
      show (y == x) = _
      by_cases e : x = y
      · simp [e]
      · have : ¬ y = x := fun h => e h.symm
        simp [e, this]
    rw [this]
    by_cases h1 : x = y <;> by_cases h2 : x ∈ r <;> simp [h1, h2]
theorem flat_ints (xs : List Int) : (xs.map V.int).all flatV = true := by
  rw [List.all_eq_true]
  intro v hv
  obtain ⟨i, _, rfl⟩ := List.mem_map.mp hv
  rfl
theorem mark_at {W : Wld} {c : Int} (h0 : 0 ≤ c) (h1 : c < W.n) (O : RowsOk W.rows W.wd) : atI W.z.cps.toList c = some (mark W.z c) := by
  obtain ⟨k, rfl⟩ := Int.eq_ofNat_of_zero_le h0
  have hl : W.z.length = W.n := join_len O
  have h2 : k < W.z.cps.size := by
    have : W.z.length = W.z.cps.size := rfl
    omega
  refine atI_nat ?_
  show W.z.cps.toList[k]? = some (W.z.cps.getD k 0)
  simp [Array.getD, h2]
section
variable {P : Program} {w : World} {K : PySem.W.Frag} {mg : Str → Option Value} {base : Heap} {CR CL aB aO : Addr}
theorem z_fit {W : Wld} (O : WOk W) : W.z.length ≤ sizeLine := by
  have : W.z.length = W.n := join_len O.R
  exact Nat.le_trans (Nat.le_of_eq this) (Nat.le_trans O.n30 (by decide +kernel))
def spLie (CR : Addr) : Sp := fun vs H Q _ => ∃ (W : Wld) (x g : Addr) (go : List Int) (c : Int), vs = [.ref x, .ref g, .int c] ∧ WOk W ∧ RoomAt CR H x W.rows W.wd ∧ H g = some (.tup (go.map V.int)) ∧ 0 ≤ c ∧ c < W.n ∧ Q (.bl (lies W.z go c)) H
theorem ok_lie {f : Addr} {fd : FuncData} (F : Fun K "can_lie" "can_lie" s_can_lie f fd) (T : MovT P w K mg CR CL aB aO) : FnG P w K mg base (CXe P w) 1 f fd ["room", "gone", "cell"] (spLie CR) := by
  refine F.okG sc_can_lie (fun vs H Q E h => ?_) (fun cdv A outer s H vs Q E hgd hr h => ?_)
  · obtain ⟨W, x, g, go, c, rfl, _⟩ := h; rfl
  · obtain ⟨W, x, g, go, c, rfl, O, hR, hg, c0, c1, k⟩ := h
    refine ⟨_, (pss_one (ps_ret (pe_or (pe_cmpR op_in_sign (pe_ix ix_str (pe_fld (pv 0) rfl) (pv 2) (fun _ _ => rfl)) pe_str (by rfl)) (pe_one (pe_cmpR op_in_seq (pv 2) (pv 1) (by rfl)))))), ?_⟩
    obtain ⟨dx, t, ct, pt, nd, hx, _⟩ := hR.ex
    refine ⟨_, rfl, x, CR, dx, _, _, rfl, hx, T.clR, T.r_cells, rfl, ?_⟩
    refine ⟨_, rfl, W.z, c, mark W.z c, rfl, rfl, z_fit O, mark_at c0 c1 O.R, ?_⟩
    refine ⟨mark W.z c, ".po", rfl, rfl, _, rfl, ?_⟩
    have e : decide (mark W.z c ∈ (".po" : Str).cps.toList) = isFree (mark W.z c) := by
      have : (".po" : Str).cps.toList = [46, 112, 111] := by decide +kernel
      rw [this]
      simp [isFree]
    rw [e]
    cases hf : isFree (mark W.z c) with
    | true =>
      refine iteT ?_
      have : lies W.z go c = true := by simp [lies, hf]
      rw [this] at k
      exact k
    | false =>
      refine iteF ⟨_, rfl, _, rfl, g, _, rfl, .inr (SqT.of hg), rfl, flat_ints _, ?_⟩
      have : lies W.z go c = inV (.int c) (go.map V.int) := by rw [inV_ints]; simp [lies, hf]
      rw [this] at k
      exact k
def spWith (K : PySem.W.Frag) : Sp := fun vs H Q _ => ∃ (a : Addr) (xs : List Int) (x : Int), vs = [.ref a, .int x] ∧ (H a = some (.tup (xs.map V.int)) ∨ H a = some (.lst (xs.map V.int))) ∧ xs.length ≤ 100 ∧
  ∀ t H', Same H H' → H' t = some (.tup ((withOne xs x).map V.int)) → H t = none → Q (.ref t) H'
theorem ok_with {f : Addr} {fd : FuncData} (F : Fun K "_with_one" "_with_one" s__with_one f fd) (T : MovT P w K mg CR CL aB aO) : FnG P w K mg base (CXe P w) 1 f fd ["numbers", "number"] (spWith K) := by
  refine F.okG sc__with_one (fun vs H Q E h => ?_) (fun cdv A outer s H vs Q E hgd hr h => ?_)
  · obtain ⟨a, xs, x, rfl, _⟩ := h; rfl
  · obtain ⟨a, xs, x, rfl, ha, hl, k⟩ := h
    refine ⟨_, (pss_one (ps_ret (pe_callTy call_tuple_of (by rfl) T.n_tuple (by decide +kernel) (pa_cons (pe_callB cr_sortedI (by rfl) T.n_sorted (by decide +kernel) (pa_cons (pe_lstA (StX.pa_star (pv 0) (pa_cons (pv 1) pa_nil))) pa_nil)) pa_nil)))), ?_⟩
    refine ⟨_, rfl, a, _, rfl, ha.elim (fun h => .inl (SqT.of h)) (fun h => .inr (SqL.of h)), ?_⟩
    walk_at "rd"
    refine And.intro (by rw [List.length_append, List.length_map]; exact Nat.le_trans (show xs.length + 1 ≤ 200 by omega) (by decide +kernel)) (fun p H1 n1 => ?_)
    have e1 : H1 p = some (.lst ((xs ++ [x]).map V.int)) := by rw [n1.at_, List.map_append]; rfl
    refine ⟨p, xs ++ [x], rfl, SqL.of e1, fun ns' q hp hu hq => ?_⟩
    have es : ns' = withOne xs x := sorted_is hp hu
    subst es
    have s1 : Same H (upd H1 q (.lst ((withOne xs x).map V.int))) := n1.same.trans (same_new hq)
    have e2 : upd H1 q (.lst ((withOne xs x).map V.int)) q = some (.lst ((withOne xs x).map V.int)) := upd_same
    generalize upd H1 q (.lst ((withOne xs x).map V.int)) = H2 at s1 e2 ⊢
    refine ⟨q, _, rfl, .inl ⟨SqL.of e2, fun t ht => ?_⟩⟩
    exact k t _ (s1.trans (same_new ht)) upd_same (s1.free ht)
def spGate (CR : Addr) : Sp := fun vs H Q _ => ∃ (W : Wld) (x c : Addr) (cr : List Int), vs = [.ref x, .ref c] ∧ RoomAt CR H x W.rows W.wd ∧ H c = some (.tup (cr.map V.int)) ∧ Q (.bl (gateOpen W.z cr)) H
theorem ok_gate {f : Addr} {fd : FuncData} (F : Fun K "_is_gate_open" "_is_gate_open" s__is_gate_open f fd) (T : MovT P w K mg CR CL aB aO) : FnG P w K mg base (CXe P w) 1 f fd ["room", "crates"] (spGate CR) := by
  refine F.okG sc__is_gate_open (fun vs H Q E h => ?_) (fun cdv A outer s H vs Q E hgd hr h => ?_)
  · obtain ⟨W, x, c, cr, rfl, _⟩ := h; rfl
  · obtain ⟨W, x, c, cr, rfl, hR, hc, k⟩ := h
    refine ⟨_, (pss_cons (ps_for (passes_of rfl) rfl (pi_tup (pe_fld (pv 0) rfl)) (pg_name (i := 2) sc__is_gate_open.nd rfl (Or.inl rfl))
      (pss_one (ps_if (pt_cmpR op_notIn_seq (pv 2) (pv 1) (by rfl)) (pss_one (ps_ret pe_bl)) pss_nil)))
      (pss_one (ps_ret pe_bl))), ?_⟩
    obtain ⟨dx, t, ct, pt, nd, hx, _, _, hpt, _⟩ := hR.ex
    refine ⟨_, rfl, x, CR, dx, _, _, rfl, hx, T.clR, T.r_plates, rfl, ?_⟩
    refine ⟨pt, rfl, ⟨_, SqT.of hpt⟩, for_it (walk_tup (xs := (placesL W.z 112 W.z.length).map V.int)) (fun i σ H' => (∃ m, σ = [some (.ref x), some (.ref c), m]) ∧ H' = H ∧ ∀ y ∈ (placesL W.z 112 W.z.length).take i, y ∈ cr) ⟨⟨none, rfl⟩, rfl, fun y hy => by simp at hy⟩ (fun i σ H' _ q => by rw [q.2.1]; exact SqT.of hpt) ?_ ?_⟩
    · rintro i y σ H1 H2 hi ⟨⟨m, rfl⟩, rfl, hj⟩ ⟨rfl, hy⟩
      rw [List.length_map] at hi
      have hy' : y = .int (placesL W.z 112 W.z.length)[i] := by
        rw [List.getElem?_map, List.getElem?_eq_getElem hi] at hy
        exact (Option.some.inj hy).symm
      subst hy'
      refine ⟨_, rfl, _, rfl, c, _, rfl, .inr (SqT.of hc), rfl, flat_ints _, _, rfl, ?_⟩
      simp only [if_true, inV_ints]
      by_cases hm : (placesL W.z 112 W.z.length)[i] ∈ cr
      · refine iteF' (by simp [hm]) ⟨⟨_, rfl⟩, rfl, fun z hz => ?_⟩
        rw [List.take_add_one, List.getElem?_eq_getElem hi] at hz
        rcases List.mem_append.mp hz with q | q
        · exact hj z q
        · have : z = (placesL W.z 112 W.z.length)[i] := by simpa using q
          rw [this]; exact hm
      · refine iteT' (by simp [hm]) ?_
        have e : gateOpen W.z cr = false := by
          unfold gateOpen
          rw [List.all_eq_false]
          exact ⟨_, List.getElem_mem hi, by simp [hm]⟩
        rw [e] at k
        exact k
    · rintro σ H1 ⟨⟨m, rfl⟩, rfl, hj⟩
      have e : gateOpen W.z cr = true := by
        unfold gateOpen
        rw [List.all_eq_true]
        intro y hy
        exact decide_eq_true (hj y (by rw [List.length_map, List.take_length]; exact hy))
      rw [e] at k
      exact k
def spChg (CL : Addr) : Sp := fun vs H Q _ => ∃ (W : Wld) (r b : Addr) (ba bb : Int) (m : Nat), vs = [.ref r, .ref b, .str ⟨#[m]⟩] ∧ RulesIs CL H r W ∧ H b = some (.tup [.int ba, .int bb]) ∧ isKD m = true ∧
  (changedBag W.cap ba bb m = none → Q .non H) ∧ (∀ a' b', changedBag W.cap ba bb m = some (a', b') → ∀ t H', Same H H' → H' t = some (.tup [.int a', .int b']) → Q (.ref t) H')
theorem ok_chg {f : Addr} {fd : FuncData} (F : Fun K "_changed_bag" "_changed_bag" s__changed_bag f fd) (T : MovT P w K mg CR CL aB aO) : FnG P w K mg base (CXe P w) 1 f fd ["rules", "bag", "mark"] (spChg CL) := by
  refine F.okG sc__changed_bag (fun vs H Q E h => ?_) (fun cdv A outer s H vs Q E hgd hr h => ?_)
  · obtain ⟨W, r, b, ba, bb, m, rfl, _⟩ := h; rfl
  · obtain ⟨W, r, b, ba, bb, m, rfl, ⟨dx, hr0⟩, hb, hk, k0, k1⟩ := h
    refine ⟨_, (C8.pss_cut (ps_set (i := 3) sc__changed_bag.nd rfl (Or.inl rfl) (pe_ifExp (pt_cmpR op_in_sign (pv 2) pe_str (by rfl)) pe_int (pe_un un_neg pe_int)))
      (pss_cons (ps_asg (pv 1) (pg_tup (by rfl) (pgs_cons (pg_name (i := 4) sc__changed_bag.nd rfl (Or.inl rfl)) (pgs_cons (pg_name (i := 5) sc__changed_bag.nd rfl (Or.inl rfl)) pgs_nil))))
      (C8.pss_cut (ps_if (pt_cmpR op_in_sign (pv 2) pe_str (by rfl)) (pss_one (ps_aug (i := 4) sc__changed_bag.nd rfl (Or.inl rfl) (pv 3) ip_add)) (pss_one (ps_aug (i := 5) sc__changed_bag.nd rfl (Or.inl rfl) (pv 3) ip_add)))
      (pss_cons (ps_if (PW.pt (pw_or (pt_cmpR op_lt (pe_callB (call_min2 rfl) (by rfl) T.n_min (by decide +kernel) (pa_cons (pv 4) (pa_cons (pv 5) pa_nil))) pe_int (nomark _)) (pw_or1 (pt_cmpR op_gt (pe_callB (call_max2 rfl) (by rfl) T.n_max (by decide +kernel) (pa_cons (pv 4) (pa_cons (pv 5) pa_nil))) (pe_fld (pv 0) rfl) (nomark _))))) (pss_one (ps_ret pe_non)) pss_nil)
      (pss_one (ps_ret (pe_tupA (pa_cons (pv 4) (pa_cons (pv 5) pa_nil))))))))), ?_⟩
    have hm : m = 97 ∨ m = 98 ∨ m = 65 ∨ m = 66 := of_decide_eq_true hk
    let ch : Int := if m = 97 ∨ m = 98 then 1 else -1
    let a1 : Int := if m = 97 ∨ m = 65 then ba + ch else ba
    let b1 : Int := if m = 97 ∨ m = 65 then bb else bb + ch
    have d1 : decide (m ∈ ("ab" : Str).cps.toList) = decide (m = 97 ∨ m = 98) := by
      have : ("ab" : Str).cps.toList = [97, 98] := by decide +kernel
      rw [this]; simp
    have d2 : decide (m ∈ ("aA" : Str).cps.toList) = decide (m = 97 ∨ m = 65) := by
      have : ("aA" : Str).cps.toList = [97, 65] := by decide +kernel
      rw [this]; simp
    refine ⟨fun σ' H' => σ' = [some (.ref r), some (.ref b), some (.str ⟨#[m]⟩), some (.int ch), none, none] ∧ H = H', ?_, ?_⟩
    · walk_at "rd"
      rw [d1]
      by_cases q : m = 97 ∨ m = 98
      · refine iteT' (decide_eq_true q) ⟨?_, rfl⟩
        show _ = [some (V.ref r), some (V.ref b), some (V.str ⟨#[m]⟩), some (V.int (if m = 97 ∨ m = 98 then 1 else -1)), none, none]
        rw [if_pos q]
        rfl
      · refine iteF' (by simpa using q) ?_
        walk_at "rd"
        refine ⟨?_, rfl⟩
        show _ = [some (V.ref r), some (V.ref b), some (V.str ⟨#[m]⟩), some (V.int (if m = 97 ∨ m = 98 then 1 else -1)), none, none]
        rw [if_neg q]
        rfl
    rintro σ' H' ⟨rfl, rfl⟩
    refine ⟨_, rfl, b, _, rfl, SqT.of hb, rfl, ?_⟩
    refine ⟨_, _, rfl, _, _, rfl, rfl, ?_⟩
    refine ⟨fun σ' H' => σ' = [some (.ref r), some (.ref b), some (.str ⟨#[m]⟩), some (.int ch), some (.int a1), some (.int b1)] ∧ H = H', ?_, ?_⟩
    · walk_at "rd"
      rw [d2]
      by_cases q : m = 97 ∨ m = 65
      · refine iteT' (decide_eq_true q) ?_
        walk_at "rd"
        refine ⟨?_, rfl⟩
        show _ = [some (V.ref r), some (V.ref b), some (V.str ⟨#[m]⟩), some (V.int ch), some (V.int (if m = 97 ∨ m = 65 then ba + ch else ba)), some (V.int (if m = 97 ∨ m = 65 then bb else bb + ch))]
        rw [if_pos q, if_pos q]
        rfl
      · refine iteF' (by simpa using q) ?_
        walk_at "rd"
        refine ⟨?_, rfl⟩
        show _ = [some (V.ref r), some (V.ref b), some (V.str ⟨#[m]⟩), some (V.int ch), some (V.int (if m = 97 ∨ m = 65 then ba + ch else ba)), some (V.int (if m = 97 ∨ m = 65 then bb else bb + ch))]
        rw [if_neg q, if_neg q]
        rfl
    rintro σ' H' ⟨rfl, rfl⟩
    walk_at "rd"
    refine ⟨a1, b1, rfl, _, _, rfl, rfl, _, rfl, ?_⟩
    have e1 : (if b1 < a1 then b1 else a1) = min a1 b1 := by split <;> omega
    have e2 : (if a1 < b1 then b1 else a1) = max a1 b1 := by split <;> omega
    have no : (min a1 b1 < 0 ∨ max a1 b1 > W.cap) → Q .non H := fun z => k0 (by show (if min a1 b1 < 0 ∨ max a1 b1 > W.cap then none else some (a1, b1)) = none; rw [if_pos z])
    refine ite2 (fun z => iteT (no (.inl (by have := of_decide_eq_true z; omega)))) (fun z => ?_)
    have z1 : ¬ min a1 b1 < 0 := fun y => z (decide_eq_true (by omega))
    walk_at "rd"
    refine ⟨a1, b1, rfl, _, rfl, r, CL, dx, _, .int W.cap, rfl, hr0, T.clL, T.l_cap, rfl, _, _, rfl, rfl, _, rfl, ?_⟩
    refine ite2 (fun y => no (.inr (by have := of_decide_eq_true y; omega))) (fun y => ?_)
    have z2 : ¬ max a1 b1 > W.cap := fun q => y (decide_eq_true (by omega))
    walk_at "rd"
    refine And.intro (Nat.le_of_ble_eq_true rfl) fun t1 H1 n1 => k1 a1 b1 ?_ t1 H1 n1.same n1.at_
    show (if min a1 b1 < 0 ∨ max a1 b1 > W.cap then none else some (a1, b1)) = some (a1, b1)
    rw [if_neg (fun q => q.elim z1 z2)]
end
theorem sg {m c : Nat} {z : Str} (hz : z = ⟨#[c]⟩) : (decide (V.str ⟨#[m]⟩ = V.str z) = true) ↔ m = c := by
  subst hz
  constructor
  · intro h
    have h := of_decide_eq_true h
    simpa using h
  · rintro rfl
    simp
theorem len_range : ∀ (n : Nat) {l : List Int}, l.Nodup → (∀ x ∈ l, 0 ≤ x ∧ x < n) → l.length ≤ n
  | 0, l, _, h => by
    cases l with
    | nil => simp
    | cons x r =>
      have := h x (List.mem_cons_self ..)
      omega
  | n + 1, l, hn, h => by
    by_cases q : (n : Int) ∈ l
    · have h1 := len_range n (hn.erase (n : Int)) fun x hx => by
        have hm := (hn.mem_erase_iff).mp hx
        have := h x hm.2
        have := hm.1
        omega
      have h2 := List.length_erase_of_mem q
      omega
    · have := len_range n hn fun x hx => by
        have h1 := h x hx
        have : x ≠ n := fun e => q (e ▸ hx)
        omega
      omega
theorem Ok.gol {W : Wld} {s : Sta} (O : WOk W) (Ks : Ok W s) : s.go.length ≤ 30 :=
  Nat.le_trans (len_range W.n Ks.gon fun c hc => ⟨Ks.go0 c hc, Ks.go1 c hc⟩) O.n30
theorem without_take {xs : List Int} {i : Nat} (hi : i < xs.length) (x : Int) : without (xs.take (i + 1)) x = if xs[i] = x then without (xs.take i) x else without (xs.take i) x ++ [xs[i]] := by
  unfold without
  rw [List.take_add_one, List.getElem?_eq_getElem hi, List.filter_append]
  by_cases e : xs[i] = x <;> simp [e]
theorem mapI_get {xs : List Int} {i : Nat} (hi : i < xs.length) {y : V} (h : (xs.map V.int)[i]? = some y) : y = .int xs[i] := by
  rw [List.getElem?_map, List.getElem?_eq_getElem hi] at h
  exact (Option.some.inj h).symm
theorem without_le (xs : List Int) (x : Int) : (without xs x).length ≤ xs.length := List.length_filter_le _ _
theorem sz {n : Nat} (h : n ≤ 1000) : n < sizeLine := Nat.lt_of_le_of_lt h (by decide +kernel)
theorem near_get {H : Hp} {nd : Addr} {rows : List Str} {wd : Nat} (h : NearAt H nd rows wd) (w : Way) : ∃ q, DGet H nd (.str w.sign) (some (.ref q)) ∧ H q = some (.tup ((neighL rows wd w.down w.across (rows.length * wd)).map V.int)) := by
  obtain ⟨u, d, l, r, e, hu, hd, hl, hr⟩ := h.ex
  cases w with
  | u => exact ⟨u, .inl ⟨_, .inr "u", .inl e, rfl, rfl⟩, hu⟩
  | d => exact ⟨d, .inl ⟨_, .inr "d", .inl e, rfl, rfl⟩, hd⟩
  | l => exact ⟨l, .inl ⟨_, .inr "l", .inl e, rfl, rfl⟩, hl⟩
  | r => exact ⟨r, .inl ⟨_, .inr "r", .inl e, rfl, rfl⟩, hr⟩
theorem nb_at {W : Wld} {w : Way} {i : Int} (h0 : 0 ≤ i) (h1 : i < W.n) : atI ((neighL W.rows W.wd w.down w.across (W.rows.length * W.wd)).map V.int) i = some (.int (nb W.rows W.wd w i)) := by
  obtain ⟨k, rfl⟩ := Int.eq_ofNat_of_zero_le h0
  have hk : k < W.rows.length * W.wd := by
    have : (k : Int) < ((W.rows.length * W.wd : Nat) : Int) := h1
    omega
  refine atI_nat ?_
  unfold neighL nb
  rw [List.getElem?_map, List.getElem?_map, List.getElem?_range hk]
  rfl
section
variable {P : Program} {w : World} {K : PySem.W.Frag} {mg : Str → Option Value} {base : Heap} {CR CL aB aO : Addr}
/-- a state, where it is to be read and not changed -/
def spEnt (CR CL : Addr) : Sp := fun vs H Q _ => ∃ (W : Wld) (s : Sta) (x r : Addr) (v : V) (goal : Int), vs = [.ref x, .ref r, v, .int goal] ∧ WOk W ∧ RoomAt CR H x W.rows W.wd ∧ RulesIs CL H r W ∧ StaAt H v s ∧ Ok W s ∧ 0 ≤ goal ∧ goal < W.n ∧
  (entered W s goal = none → ∀ H', Same H H' → Q .non H') ∧ (∀ g a b, entered W s goal = some (g, a, b) → ∀ t H' ga ba, Same H H' → H' t = some (.tup [.ref ga, .ref ba]) → H' ga = some (.tup (g.map V.int)) → H' ba = some (.tup [.int a, .int b]) → Q (.ref t) H')
theorem ok_ent {f : Addr} {fd : FuncData} (F : Fun K "_entered" "_entered" s__entered f fd) (T : MovT P w K mg CR CL aB aO) (c__is_gate_open : CalG P w K mg base 1 "_is_gate_open" (spGate CR)) (c__changed_bag : CalG P w K mg base 1 "_changed_bag" (spChg CL)) (c__with_one : CalG P w K mg base 1 "_with_one" (spWith K)) :
    FnG P w K mg base (CXe P w) 2 f fd ["room", "rules", "state", "goal"] (spEnt CR CL) := by
  refine F.okG sc__entered (fun vs H Q E h => ?_) (fun cdv A outer s H vs Q E hgd hr h => ?_)
  · obtain ⟨W, s, x, r, v, goal, rfl, _⟩ := h; rfl
  · obtain ⟨W, st, x, r, v, goal, rfl, O, hR, hru, hst, Ks, g0, g1, kn, ks⟩ := h
    refine ⟨_, (pss_cons (ps_par3 (i := 4) (j := 5) (l := 6) (by rfl) sc__entered.nd rfl rfl rfl (by decide) (by decide) (by decide) rfl rfl rfl (pa_cons (pe_ix ix_tup (pv 2) pe_int (fun _ _ => rfl)) (pa_cons (pe_ix ix_tup (pv 2) pe_int (fun _ _ => rfl)) (pa_cons (pe_ix ix_tup (pv 2) pe_int (fun _ _ => rfl)) pa_nil))) (by rfl))
      (pss_cons (ps_set (i := 7) sc__entered.nd rfl (Or.inl rfl) (pe_ix ix_str (pe_fld (pv 0) rfl) (pv 3) (fun _ _ => rfl)))
      (pss_cons (ps_if (pt_cmpR op_in_seq (pv 3) (pv 5) (by rfl)) (pss_one (ps_ret (pe_tupA (pa_cons (pv 5) (pa_cons (pv 6) pa_nil))))) pss_nil)
      (C8.pss_cut (ps_if (PW.pt (pw_or (pt_cmpR op_eq (pv 7) pe_str (nomark _)) (pw_or1 (PW.pt (pw_and (pt_cmpR op_eq (pv 7) pe_str (nomark _)) (pw_and1 (pt_not (pt_val (pg_c c__is_gate_open hgd hr (by first | decide | omega) (pa_cons (pv 0) (pa_cons (pv 4) pa_nil))))))))))) (pss_one (ps_ret pe_non)) pss_nil)
      (pss_cons (ps_if (pt_cmpR op_notIn_sign (pv 7) pe_str (by rfl)) (pss_one (ps_ret (pe_tupA (pa_cons (pv 5) (pa_cons (pv 6) pa_nil))))) pss_nil)
      (pss_cons (ps_set (i := 8) sc__entered.nd rfl (Or.inl rfl) (pg_c c__changed_bag hgd hr (by first | decide | omega) (pa_cons (pv 1) (pa_cons (pv 6) (pa_cons (pv 7) pa_nil)))))
      (pss_cons (ps_if (pt_cmpR op_isN (pv 8) pe_non (nomark _)) (pss_one (ps_ret pe_non)) pss_nil)
      (pss_one (ps_ret (pe_tupA (pa_cons (pg_c c__with_one hgd hr (by first | decide | omega) (pa_cons (pv 5) (pa_cons (pv 3) pa_nil))) (pa_cons (pv 8) pa_nil)))))))))))), ?_⟩
    obtain ⟨a, c, g, u, b, rfl, ha, hc, hg, hu, hb⟩ := hst
    obtain ⟨dx, t, ct, pt, nd, hx, _⟩ := hR.ex
    refine ⟨_, rfl, a, _, 1, .ref c, rfl, rfl, SqT.of ha, atI_nat (xs := [V.int st.at_, V.ref c, V.ref g, V.ref u, V.ref b]) (j := 1) rfl, ?_⟩
    refine ⟨_, rfl, a, _, 2, .ref g, rfl, rfl, SqT.of ha, atI_nat (xs := [V.int st.at_, V.ref c, V.ref g, V.ref u, V.ref b]) (j := 2) rfl, ?_⟩
    refine ⟨_, rfl, a, _, 4, .ref b, rfl, rfl, SqT.of ha, atI_nat (xs := [V.int st.at_, V.ref c, V.ref g, V.ref u, V.ref b]) (j := 4) rfl, _, _, _, rfl, ?_⟩
    refine ⟨_, rfl, x, CR, dx, _, _, rfl, hx, T.clR, T.r_cells, rfl, ?_⟩
    refine ⟨_, rfl, W.z, goal, mark W.z goal, rfl, rfl, z_fit O, mark_at g0 g1 O.R, ?_⟩
    refine ⟨_, rfl, _, rfl, g, _, rfl, .inr (SqT.of hg), rfl, flat_ints _, _, rfl, ?_⟩
    rw [inV_ints]
    by_cases hgo : goal ∈ st.go
    · refine iteT' (decide_eq_true hgo) ?_
      walk_at "rd"
      exact And.intro (Nat.le_of_ble_eq_true rfl) fun t1 H1 n1 => ks _ _ _ (by simp [entered, hgo]) t1 H1 g b n1.same n1.at_ (n1.same _ _ hg) (n1.same _ _ hb)
    refine iteF' (by simp [hgo]) ?_
    have bad : (mark W.z goal = 120 ∨ (mark W.z goal = 103 ∧ gateOpen W.z st.cr = false)) → Q .non H := fun z => kn (by simp only [entered]; rw [if_neg hgo, if_pos z]) _ (Same.refl _)
    refine ⟨fun σ' H' => σ' = [some (.ref x), some (.ref r), some (.ref a), some (.int goal), some (.ref c), some (.ref g), some (.ref b), some (.str ⟨#[mark W.z goal]⟩), none] ∧ H' = H ∧ ¬ (mark W.z goal = 120 ∨ (mark W.z goal = 103 ∧ gateOpen W.z st.cr = false)), ?_, ?_⟩
    · walk_at "rd"
      by_cases hx120 : mark W.z goal = 120
      · exact iteT' ((sg (by decide +kernel)).mpr hx120) (iteT (bad (.inl hx120)))
      refine iteF' (fun z => hx120 ((sg (by decide +kernel)).mp z)) ?_
      walk_at "rd"
      by_cases hg103 : mark W.z goal = 103
      · refine iteT' ((sg (by decide +kernel)).mpr hg103) ?_
        refine ⟨_, rfl, _, rfl, W, x, c, st.cr, rfl, hR, hc, ?_⟩
        cases hgo' : gateOpen W.z st.cr with
        | false => exact ⟨_, rfl, iteT (bad (.inr ⟨hg103, hgo'⟩))⟩
        | true => exact ⟨_, rfl, iteF ⟨rfl, rfl, fun z => z.elim hx120 fun z => by cases z.2⟩⟩
      · exact iteF' (fun z => hg103 ((sg (by decide +kernel)).mp z)) (iteF ⟨rfl, rfl, fun z => z.elim hx120 fun z => hg103 z.1⟩)
    rintro σ' H' ⟨rfl, rfl, nb⟩
    walk_at "rd"
    have d4 : (!decide (mark W.z goal ∈ ("abAB" : Str).cps.toList)) = !isKD (mark W.z goal) := by
      have : ("abAB" : Str).cps.toList = [97, 98, 65, 66] := by decide +kernel
      rw [this]
      simp [isKD]
    rw [d4]
    cases hk : isKD (mark W.z goal) with
    | false =>
      refine iteT ?_
      walk_at "rd"
      exact And.intro (Nat.le_of_ble_eq_true rfl) fun t1 H1 n1 => ks _ _ _ (by simp only [entered]; rw [if_neg hgo, if_neg nb, if_pos hk]) t1 H1 g b n1.same n1.at_ (n1.same _ _ hg) (n1.same _ _ hb)
    | true =>
      refine iteF ?_
      have ee : entered W st goal = match changedBag W.cap st.ba st.bb (mark W.z goal) with
        | none => none
        | some (a, b) => some (withOne st.go goal, a, b) := by
        simp only [entered]; rw [if_neg hgo, if_neg nb, if_neg (by rw [hk]; decide)]; try (cases changedBag W.cap st.ba st.bb (mark W.z goal) <;> rfl)
      refine ⟨_, rfl, _, rfl, _, rfl, W, r, b, st.ba, st.bb, _, rfl, hru, hb, hk, fun hn => ?_, fun a' b' he t1 H1 s1 ht1 => ?_⟩
      · exact ⟨_, rfl, rfl, _, rfl, iteT (kn (by rw [ee, hn]) _ (Same.refl _))⟩
      · refine ⟨_, rfl, rfl, _, rfl, iteF' (by simp) ?_⟩
        refine ⟨_, rfl, _, rfl, g, st.go, goal, rfl, .inl (s1 _ _ hg), Nat.le_trans (Ks.gol O) (by decide), fun t2 H2 s2 ht2 _ => ?_⟩
        refine ⟨_, rfl, And.intro (Nat.le_of_ble_eq_true rfl) fun t3 H3 n3 => ?_⟩
        exact ks _ a' b' (by rw [ee, he]) t3 H3 t2 t1 ((s1.trans s2).trans n3.same) n3.at_ (n3.same _ _ ht2) (n3.same _ _ (s2 _ _ ht1))
def spPsh (CR CL : Addr) : Sp := fun vs H Q _ => ∃ (W : Wld) (s : Sta) (x r : Addr) (v : V) (wy : Way), vs = [.ref x, .ref r, v, .str wy.sign] ∧ WOk W ∧ RoomAt CR H x W.rows W.wd ∧ RulesIs CL H r W ∧ StaAt H v s ∧ Ok W s ∧ nb W.rows W.wd wy s.at_ ∈ s.cr ∧
  (pushed W s wy (nb W.rows W.wd wy s.at_) = none → ∀ H', Same H H' → Q .non H') ∧ (∀ s', pushed W s wy (nb W.rows W.wd wy s.at_) = some s' → ∀ v' H', Same H H' → StaAt H' v' s' → Q v' H')
theorem ok_psh {f : Addr} {fd : FuncData} (F : Fun K "_pushed" "_pushed" s__pushed f fd) (T : MovT P w K mg CR CL aB aO) (c_can_lie : CalG P w K mg base 1 "can_lie" (spLie CR)) (c__with_one : CalG P w K mg base 1 "_with_one" (spWith K)) :
    FnG P w K mg base (CXe P w) 2 f fd ["room", "rules", "state", "way"] (spPsh CR CL) := by
  refine F.okG sc__pushed (fun vs H Q E h => ?_) (fun cdv A outer s H vs Q E hgd hr h => ?_)
  · obtain ⟨W, s, x, r, v, wy, rfl, _⟩ := h; rfl
  · obtain ⟨W, st, x, r, v, wy, rfl, O, hR, hru, hst, Ks, hin, kn, ks⟩ := h
    refine ⟨_, (pss_cons (ps_asg (pv 2) (pg_tup (by rfl) (pgs_cons (pg_name (i := 4) sc__pushed.nd rfl (Or.inl rfl)) (pgs_cons (pg_name (i := 5) sc__pushed.nd rfl (Or.inl rfl)) (pgs_cons (pg_name (i := 6) sc__pushed.nd rfl (Or.inl rfl)) (pgs_cons (pg_name (i := 7) sc__pushed.nd rfl (Or.inl rfl)) (pgs_cons (pg_name (i := 8) sc__pushed.nd rfl (Or.inl rfl)) pgs_nil)))))))
      (pss_cons (ps_set (i := 9) sc__pushed.nd rfl (Or.inl rfl) (pe_dget (hu_of hr) (pe_fld (pv 0) rfl) (pv 3) (fun _ _ => rfl)))
      (pss_cons (ps_set (i := 10) sc__pushed.nd rfl (Or.inr rfl) (pe_ix ix_tup (pv 9) (pv 4) (fun _ _ => rfl)))
      (pss_cons (ps_set (i := 11) sc__pushed.nd rfl (Or.inl rfl) (pe_ix ix_tup (pv 9) (pv 10) (fun _ _ => rfl)))
      (C8.pss_cut (ps_if (PW.pt (pw_and (pt_val (pe_fld (pv 1) rfl)) (pw_and1 (pt_cmpR op_in_seq (pv 11) (pv 5) (by rfl))))) (pss_one (ps_set (i := 11) sc__pushed.nd rfl (Or.inl rfl) (pe_ix ix_tup (pv 9) (pv 11) (fun _ _ => rfl)))) pss_nil)
      (pss_cons (ps_if (PW.pt (pw_or (pt_cmpR op_lt (pv 11) pe_int (nomark _)) (pw_or1 (pt_cmpR op_in_seq (pv 11) (pv 5) (by rfl))))) (pss_one (ps_ret pe_non)) pss_nil)
      (pss_cons (ps_setLc (i := 12) (own := [("crate", 13)]) (g := gName 13) rfl sc__pushed.nd rfl rfl (sw_true rfl rfl rfl (by decide +kernel)) (pi_tup (pv 5)) (blkOk_by (own := [("crate", 13)]) (N := ["room", "rules", "state", "way", "at", "crates", "gone", "used", "bag", "ways", "goal", "beyond", "others", "crate"]) (sc := defScope s__pushed) (by decide +kernel)) (fun _ _ _ _ _ => pg_name (i := 13) sc__pushed.nd rfl (Or.inl rfl)) (fun _ _ _ _ _ => pts_one (pt_cmpR op_ne (pv 13) (pv 10) (nomark _))) (fun _ _ _ _ _ => (pv 13)))
      (pss_cons (ps_if (pt_val (pg_c c_can_lie hgd hr (by first | decide | omega) (pa_cons (pv 0) (pa_cons (pv 6) (pa_cons (pv 11) pa_nil))))) (pss_one (ps_ret (pe_tupA (pa_cons (pv 10) (pa_cons (pg_c c__with_one hgd hr (by first | decide | omega) (pa_cons (pv 12) (pa_cons (pv 11) pa_nil))) (pa_cons (pv 6) (pa_cons (pv 7) (pa_cons (pv 8) pa_nil)))))))) pss_nil)
      (pss_cons (ps_if (pt_cmpR op_eq (pe_ix ix_str (pe_fld (pv 0) rfl) (pv 11) (fun _ _ => rfl)) pe_str (nomark _)) (pss_one (ps_ret (pe_tupA (pa_cons (pv 10) (pa_cons (pe_callTy call_tuple_of (by rfl) T.n_tuple (by decide +kernel) (pa_cons (pv 12) pa_nil)) (pa_cons (pg_c c__with_one hgd hr (by first | decide | omega) (pa_cons (pv 6) (pa_cons (pv 11) pa_nil))) (pa_cons (pv 7) (pa_cons (pv 8) pa_nil)))))))) pss_nil)
      (pss_one (ps_ret pe_non))))))))))), ?_⟩
    obtain ⟨a, c, g, u, b, rfl, ha, hc, hg, hu, hb⟩ := hst
    obtain ⟨dx, t, ct, pt, nd, hx, _, _, hpt, hnear⟩ := hR.ex
    obtain ⟨rdx, hru0⟩ := hru
    refine ⟨_, rfl, a, _, rfl, SqT.of ha, rfl, ?_⟩
    refine ⟨_, _, rfl, _, _, rfl, _, _, rfl, _, _, rfl, _, _, rfl, rfl, ?_⟩
    refine ⟨_, rfl, x, CR, dx, _, _, rfl, hx, T.clR, T.r_near, rfl, ?_⟩
    obtain ⟨q, hdg, hq⟩ := near_get hnear wy
    have g0 := Ks.cr0 _ hin
    have g1 := Ks.cr1 _ hin
    refine ⟨_, rfl, nd, .ref q, rfl, hdg, ?_⟩
    refine ⟨_, rfl, _, rfl, q, _, st.at_, _, rfl, rfl, SqT.of hq, nb_at Ks.at0 Ks.at1, ?_⟩
    refine ⟨_, rfl, _, rfl, q, _, _, _, rfl, rfl, SqT.of hq, nb_at g0 g1, ?_⟩
    unfold pushed at kn ks
    simp only at kn ks
    generalize hgoal : nb W.rows W.wd wy st.at_ = goal at *
    generalize hb0 : nb W.rows W.wd wy goal = b0 at *
    refine ⟨fun σ' H' => σ' = [some (.ref x), some (.ref r), some (.ref a), some (.str wy.sign), some (.int st.at_), some (.ref c), some (.ref g), some (.ref u), some (.ref b), some (.ref q), some (.int goal), some (.int (if W.strong = true ∧ b0 ∈ st.cr then nb W.rows W.wd wy b0 else b0)), none, none] ∧ H' = H, ?_, ?_⟩
    · refine ⟨_, rfl, r, CL, rdx, _, .bl W.strong, rfl, hru0, T.clL, T.l_strong, rfl, _, rfl, ?_⟩
      by_cases hs : W.strong = true
      · refine iteT' hs ?_
        refine ⟨_, rfl, _, rfl, c, _, rfl, .inr (SqT.of hc), rfl, flat_ints _, _, rfl, ?_⟩
        rw [inV_ints]
        by_cases hm : b0 ∈ st.cr
        · refine iteT' (decide_eq_true hm) ?_
          refine ⟨_, rfl, _, rfl, q, _, _, _, rfl, rfl, SqT.of hq, nb_at (Ks.cr0 _ hm) (Ks.cr1 _ hm), ?_⟩
          rw [if_pos ⟨hs, hm⟩]
          exact ⟨rfl, rfl⟩
        · refine iteF' (by simp [hm]) ?_
          rw [if_neg (fun z => hm z.2)]
          exact ⟨rfl, rfl⟩
      · refine iteF' hs ?_
        rw [if_neg (fun z => hs z.1)]
        exact ⟨rfl, rfl⟩
    rintro σ' H' ⟨rfl, rfl⟩
    have hbr : (if W.strong = true ∧ b0 ∈ st.cr then nb W.rows W.wd wy b0 else b0) = -1 ∨ (0 ≤ (if W.strong = true ∧ b0 ∈ st.cr then nb W.rows W.wd wy b0 else b0) ∧ (if W.strong = true ∧ b0 ∈ st.cr then nb W.rows W.wd wy b0 else b0) < (W.n : Int)) := by
      split
      · rename_i z
        exact nb_cases O.R wy (Ks.cr0 _ z.2)
      · rw [← hb0]
        exact nb_cases O.R wy g0
    generalize (if W.strong = true ∧ b0 ∈ st.cr then nb W.rows W.wd wy b0 else b0) = be at *
    walk_at "rd"
    have bad : (be < 0 ∨ be ∈ st.cr) → Q .non H' := fun z => kn (if_pos z) _ (Same.refl _)
    refine ite2 (fun z => iteT (bad (.inl (of_decide_eq_true z)))) (fun z => ?_)
    have z0 : ¬ be < 0 := fun y => z (decide_eq_true y)
    refine ⟨_, rfl, _, rfl, c, _, rfl, .inr (SqT.of hc), rfl, flat_ints _, _, rfl, ?_⟩
    rw [inV_ints]
    refine ite2 (fun y => bad (.inr (of_decide_eq_true y))) (fun y => ?_)
    have z1 : be ∉ st.cr := fun z => y (decide_eq_true z)
    have bn : 0 ≤ be ∧ be < (W.n : Int) := hbr.resolve_left (by omega)
    have zn : ¬ (be < 0 ∨ be ∈ st.cr) := fun z => z.elim z0 z1
    rw [if_neg zn] at kn ks
    refine ⟨_, rfl, c, rfl, ⟨_, SqT.of hc⟩, fun D hD => lc_it (walk_tup (xs := st.cr.map V.int)) (fun i H2 => H2 D = some (.lst ((without (st.cr.take i) goal).map V.int)) ∧ Off (fun b => b = D) H' H2) ⟨upd_same, Off.new hD⟩ (fun i H2 _ z => SqT.of (z.2 _ _ (ne_of_none hc hD) hc)) ?_ ?_⟩
    · rintro i y H1 H2 hi ⟨hacc, off⟩ ⟨rfl, hy⟩
      rw [List.length_map] at hi
      cases mapI_get hi hy
      refine And.intro rfl ?_
      walk_at "rd"
      rw [without_take hi]
      by_cases e : st.cr[i] = goal
      · refine iteF' (by simp [e]) ?_
        rw [if_pos e]
        exact ⟨hacc, off⟩
      · refine iteT' (by simp [e]) ?_
        rw [if_neg e]
        have hcr := Ks.crn
        refine ⟨_, rfl, _, hacc, sz ?_, ?_, off.trans (Off.mut rfl)⟩
        · rw [List.length_map]
          have := without_le (st.cr.take i) goal
          have : (st.cr.take i).length ≤ 30 := Nat.le_trans (List.length_take_le' ..) hcr
          omega
        · rw [upd_same, List.map_append]
          rfl
    rintro H1 ⟨hacc, off⟩
    rw [List.length_map, List.take_length] at hacc
    have s1 : Same H' H1 := fun b o e => off b o (ne_of_none e hD) e
    have ol : (without st.cr goal).length ≤ 100 := Nat.le_trans (without_le _ _) (Nat.le_trans Ks.crn (by decide))
    refine ⟨_, rfl, _, rfl, _, rfl, W, x, g, st.go, be, rfl, O, hR.same s1, s1 _ _ hg, bn.1, bn.2, _, rfl, ?_⟩
    by_cases hl : lies W.z st.go be = true
    · refine iteT' hl ?_
      rw [if_pos hl] at ks
      refine ⟨_, rfl, _, rfl, _, rfl, D, without st.cr goal, be, rfl, .inr hacc, ol, fun t2 H2 s2 ht2 _ => ?_⟩
      refine ⟨_, rfl, _, rfl, _, rfl, And.intro (Nat.le_of_ble_eq_true rfl) fun t3 H3 n3 => ?_⟩
      have s3 : Same H' H3 := (s1.trans s2).trans n3.same
      exact ks _ rfl _ H3 s3 ⟨t3, t2, g, u, b, rfl, n3.at_, n3.same _ _ ht2, s3 _ _ hg, s3 _ _ hu, s3 _ _ hb⟩
    refine iteF' hl ?_
    rw [if_neg hl] at kn ks
    refine ⟨_, rfl, x, CR, dx, _, _, rfl, s1 _ _ hx, T.clR, T.r_cells, rfl, _, rfl, W.z, be, mark W.z be, rfl, rfl, z_fit O, mark_at bn.1 bn.2 O.R, ?_⟩
    walk_at "rd"
    by_cases h120 : mark W.z be = 120
    · refine iteT' ((sg (by decide +kernel)).mpr h120) ?_
      rw [if_pos h120] at ks
      refine ⟨_, rfl, _, rfl, D, _, rfl, .inl ⟨SqL.of hacc, fun t2 ht2 => ?_⟩⟩
      have s2 : Same H1 (upd H1 t2 (.tup ((without st.cr goal).map V.int))) := same_new ht2
      have e2 : upd H1 t2 (.tup ((without st.cr goal).map V.int)) t2 = some (.tup ((without st.cr goal).map V.int)) := upd_same
      generalize upd H1 t2 (.tup ((without st.cr goal).map V.int)) = H2 at s2 e2 ⊢
      refine ⟨_, rfl, _, rfl, g, st.go, be, rfl, .inl (s2 _ _ (s1 _ _ hg)), Nat.le_trans (Ks.gol O) (by decide), fun t3 H3 s3 ht3 _ => ?_⟩
      refine ⟨_, rfl, _, rfl, And.intro (Nat.le_of_ble_eq_true rfl) fun t4 H4 n4 => ?_⟩
      have s4 : Same H' H4 := ((s1.trans s2).trans s3).trans n4.same
      exact ks _ rfl _ H4 s4 ⟨t4, t2, t3, u, b, rfl, n4.at_, n4.same _ _ (s3 _ _ e2), n4.same _ _ ht3, s4 _ _ hu, s4 _ _ hb⟩
    · rw [if_neg h120] at kn
      exact iteF' (fun z => h120 ((sg (by decide +kernel)).mp z)) (kn rfl _ s1)
end
theorem sign_inj {v w : Way} (h : v.sign = w.sign) : v = w := by
  have : ∀ v w : Way, v.sign = w.sign → v = w := by
    intro v w
    cases v <;> cases w <;> first | (intro _; rfl) | (intro h; exact absurd h (by decide +kernel))
  exact this v w h
theorem letter_len (w : Way) (b : Bool) : (letterOf w b).length ≤ 5592405 := by cases w <;> cases b <;> decide +kernel
theorem letter_low (w : Way) (b : Bool) : Txt.lower (letterOf w b) = w.sign := by cases w <;> cases b <;> decide +kernel
theorem letter_big (w : Way) (b : Bool) : (decide (V.str (letterOf w b) = V.str w.sign)) = !b := by
  cases b with
  | false => simp [letterOf]
  | true => cases w <;> decide +kernel
section
variable {P : Program} {w : World} {K : PySem.W.Frag} {mg : Str → Option Value} {base : Heap} {CR CL aB aO : Addr}
def spPul (CR CL : Addr) : Sp := fun vs H Q _ => ∃ (W : Wld) (s : Sta) (x r : Addr) (v : V) (wy : Way), vs = [.ref x, .ref r, v, .str wy.sign] ∧ WOk W ∧ RoomAt CR H x W.rows W.wd ∧ RulesIs CL H r W ∧ StaAt H v s ∧ Ok W s ∧
  (pulled W s wy = none → ∀ H', Same H H' → Q .non H') ∧ (∀ c', pulled W s wy = some c' → ∀ t H', Same H H' → H' t = some (.tup (c'.map V.int)) → Q (.ref t) H')
theorem ok_pul {f : Addr} {fd : FuncData} (F : Fun K "_pulled" "_pulled" s__pulled f fd) (T : MovT P w K mg CR CL aB aO) (c_can_lie : CalG P w K mg base 1 "can_lie" (spLie CR)) (c__with_one : CalG P w K mg base 1 "_with_one" (spWith K)) :
    FnG P w K mg base (CXe P w) 2 f fd ["room", "rules", "state", "way"] (spPul CR CL) := by
  refine F.okG sc__pulled (fun vs H Q E h => ?_) (fun cdv A outer s H vs Q E hgd hr h => ?_)
  · obtain ⟨W, s, x, r, v, wy, rfl, _⟩ := h; rfl
  · obtain ⟨W, st, x, r, v, wy, rfl, O, hR, hru, hst, Ks, kn, ks⟩ := h
    refine ⟨_, (pss_cons (ps_asg (pe_slice sl_tupU (pv 2) po_none (po_some pe_int)) (pg_tup (by rfl) (pgs_cons (pg_name (i := 4) sc__pulled.nd rfl (Or.inl rfl)) (pgs_cons (pg_name (i := 5) sc__pulled.nd rfl (Or.inl rfl)) (pgs_cons (pg_name (i := 6) sc__pulled.nd rfl (Or.inl rfl)) pgs_nil)))))
      (pss_cons (ps_set (i := 7) sc__pulled.nd rfl (Or.inr rfl) (pe_ix ix_tup (pe_dget (hu_of hr) (pe_fld (pv 0) rfl) (pe_ix ix_kdict (pe_glob (v := .ref aB) rfl T.g_BACK rfl) (pv 3) (fun _ _ => rfl)) (fun _ _ => rfl)) (pv 4) (fun _ _ => rfl)))
      (pss_cons (ps_if (PW.pt (pw_or (pt_not (pt_val (pe_fld (pv 1) rfl))) (pw_or (pt_cmpR op_notIn_seq (pv 7) (pv 5) (by rfl)) (pw_or1 (pt_not (pt_val (pg_c c_can_lie hgd hr (by first | decide | omega) (pa_cons (pv 0) (pa_cons (pv 6) (pa_cons (pv 4) pa_nil)))))))))) (pss_one (ps_ret pe_non)) pss_nil)
      (pss_one (ps_ret (pg_c c__with_one hgd hr (by first | decide | omega) (pa_cons (pe_lc (own := [("crate", 8)]) (g := gName 8) rfl sc__pulled.nd (pi_tup (pv 5)) (blkOk_by (own := [("crate", 8)]) (N := ["room", "rules", "state", "way", "at", "crates", "gone", "behind", "crate"]) (sc := defScope s__pulled) (by decide +kernel)) (fun _ _ _ _ _ => pg_name (i := 8) sc__pulled.nd rfl (Or.inl rfl)) (fun _ _ _ _ _ => pts_one (pt_cmpR op_ne (pv 8) (pv 7) (nomark _))) (fun _ _ _ _ _ => (pv 8))) (pa_cons (pv 4) pa_nil)))))))), ?_⟩
    obtain ⟨a, c, g, u, b, rfl, ha, hc, hg, hu, hb⟩ := hst
    obtain ⟨rdx, hru0⟩ := hru
    walk_at "rd"
    refine ⟨a, _, rfl, ha, fun t1 H1 s1 ht1 _ => ?_⟩
    have hcut : cutV [V.int st.at_, V.ref c, V.ref g, V.ref u, V.ref b] none (some 3) = [V.int st.at_, V.ref c, V.ref g] := rfl
    rw [hcut] at ht1
    refine ⟨t1, _, rfl, SqT.of ht1, rfl, ?_⟩
    refine ⟨_, _, rfl, _, _, rfl, _, _, rfl, rfl, ?_⟩
    replace hR := hR.same s1
    obtain ⟨dx, t, ct, pt, nd, hx, _, _, hpt, hnear⟩ := hR.ex
    obtain ⟨q, hdg, hq⟩ := near_get hnear wy.back
    obtain ⟨ub, hkb, hrb⟩ := T.bk wy
    refine ⟨_, rfl, x, CR, dx, _, _, rfl, hx, T.clR, T.r_near, rfl, _, rfl, aB, wy.sign, .str wy.back.sign, rfl, rfl, hkb.get hrb, nd, .ref q, rfl, hdg, _, rfl, q, _, st.at_, _, rfl, rfl, SqT.of hq, nb_at Ks.at0 Ks.at1, ?_⟩
    unfold pulled at kn ks
    simp only at kn ks
    generalize hbe : nb W.rows W.wd wy.back st.at_ = be at *
    have bad : (W.pull = false ∨ be ∉ st.cr ∨ lies W.z st.go st.at_ = false) → Q .non H1 := fun z => kn (if_pos z) _ s1
    refine ⟨_, rfl, r, CL, rdx, _, .bl W.pull, rfl, s1 _ _ hru0, T.clL, T.l_pull, rfl, _, rfl, ?_⟩
    cases hpl : W.pull with
    | false => exact iteT (iteT (bad (.inl hpl)))
    | true =>
    refine iteF ?_
    refine ⟨_, rfl, _, rfl, c, _, rfl, .inr (SqT.of (s1 _ _ hc)), rfl, flat_ints _, _, rfl, ?_⟩
    rw [inV_ints]
    by_cases hin : be ∈ st.cr
    case neg => exact iteT' (by simp [hin]) (iteT (bad (.inr (.inl hin))))
    refine iteF' (by simp [hin]) ?_
    refine ⟨_, rfl, _, rfl, _, rfl, W, x, g, st.go, st.at_, rfl, O, hR, s1 _ _ hg, Ks.at0, Ks.at1, _, rfl, ?_⟩
    cases hl : lies W.z st.go st.at_ with
    | false => exact iteT (bad (.inr (.inr hl)))
    | true =>
    refine iteF ?_
    have hcc := s1 _ _ hc
    refine ⟨_, rfl, c, rfl, ⟨_, SqT.of hcc⟩, fun D hD => lc_it (walk_tup (xs := st.cr.map V.int)) (fun i H2 => H2 D = some (.lst ((without (st.cr.take i) be).map V.int)) ∧ Off (fun b => b = D) H1 H2) ⟨upd_same, Off.new hD⟩ (fun i H2 _ z => SqT.of (z.2 _ _ (ne_of_none hcc hD) hcc)) ?_ ?_⟩
    · rintro i y H2 H3 hi ⟨hacc, off⟩ ⟨rfl, hy⟩
      rw [List.length_map] at hi
      cases mapI_get hi hy
      refine And.intro rfl ?_
      walk_at "rd"
      rw [without_take hi]
      by_cases e : st.cr[i] = be
      · refine iteF' (by simp [e]) ?_
        rw [if_pos e]
        exact ⟨hacc, off⟩
      · refine iteT' (by simp [e]) ?_
        rw [if_neg e]
        have hcr := Ks.crn
        refine ⟨_, rfl, _, hacc, sz ?_, ?_, off.trans (Off.mut rfl)⟩
        · rw [List.length_map]
          have := without_le (st.cr.take i) be
          have : (st.cr.take i).length ≤ 30 := Nat.le_trans (List.length_take_le' ..) hcr
          omega
        · rw [upd_same, List.map_append]
          rfl
    rintro H2 ⟨hacc, off⟩
    rw [List.length_map, List.take_length] at hacc
    have s2 : Same H1 H2 := fun b o e => off b o (ne_of_none e hD) e
    have ol : (without st.cr be).length ≤ 100 := Nat.le_trans (without_le _ _) (Nat.le_trans Ks.crn (by decide))
    refine ⟨_, rfl, D, without st.cr be, st.at_, rfl, .inr hacc, ol, fun t2 H3 s3 ht2 _ => ?_⟩
    exact ks _ (if_neg (fun z => by rcases z with z | z | z <;> simp_all)) t2 H3 ((s1.trans s2).trans s3) ht2
def spMov (CR CL : Addr) : Sp := fun vs H Q _ => ∃ (W : Wld) (s : Sta) (x r : Addr) (v : V) (wy : Way) (big : Bool), vs = [.ref x, .ref r, v, .str (letterOf wy big)] ∧ WOk W ∧ RoomAt CR H x W.rows W.wd ∧ RulesIs CL H r W ∧ StaAt H v s ∧ Ok W s ∧
  (moved W s wy big = none → ∀ H', Same H H' → Q .non H') ∧ (∀ s', moved W s wy big = some s' → ∀ v' H', Same H H' → StaAt H' v' s' → Q v' H')
theorem ok_mov {f : Addr} {fd : FuncData} (F : Fun K "moved" "moved" s_moved f fd) (T : MovT P w K mg CR CL aB aO) (c__entered : CalG P w K mg base 2 "_entered" (spEnt CR CL)) (c__pushed : CalG P w K mg base 2 "_pushed" (spPsh CR CL)) (c__pulled : CalG P w K mg base 2 "_pulled" (spPul CR CL)) :
    FnG P w K mg base (CXe P w) 3 f fd ["room", "rules", "state", "letter"] (spMov CR CL) := by
  refine F.okG sc_moved (fun vs H Q E h => ?_) (fun cdv A outer s H vs Q E hgd hr h => ?_)
  · obtain ⟨W, s, x, r, v, wy, big, rfl, _⟩ := h; rfl
  · obtain ⟨W, st, x, r, v, wy, big, rfl, O, hR, hru, hst, Ks, kn, ks⟩ := h
    refine ⟨_, (pss_cons (ps_asg (pv 2) (pg_tup (by rfl) (pgs_cons (pg_name (i := 4) sc_moved.nd rfl (Or.inl rfl)) (pgs_cons (pg_name (i := 5) sc_moved.nd rfl (Or.inl rfl)) (pgs_cons (pg_name (i := 6) sc_moved.nd rfl (Or.inl rfl)) (pgs_cons (pg_name (i := 7) sc_moved.nd rfl (Or.inl rfl)) (pgs_cons (pg_name (i := 8) sc_moved.nd rfl (Or.inl rfl)) pgs_nil)))))))
      (pss_cons (ps_set (i := 9) sc_moved.nd rfl (Or.inl rfl) (pe_bm0 PySem.F.plainAttrs_str PySem.F.slot_str_lower PySem.F.type_str_lower mt_lower (pv 3)))
      (pss_cons (ps_set (i := 10) sc_moved.nd rfl (Or.inl rfl) (pe_ix ix_str (pe_fld (pv 0) rfl) (pv 4) (fun _ _ => rfl)))
      (pss_cons (ps_set (i := 11) sc_moved.nd rfl (Or.inl rfl) (pe_ix ix_tup (pe_dget (hu_of hr) (pe_fld (pv 0) rfl) (pv 9) (fun _ _ => rfl)) (pv 4) (fun _ _ => rfl)))
      (C8.pss_cut (ps_if (PW.pt (pw_or (pt_cmpR op_lt (pv 11) pe_int (nomark _)) (pw_or (pt_cmpR op_eq (pv 10) pe_str (nomark _)) (pw_or1 (pt_cmpR op_ne (pe_kget2 (pe_glob (v := .ref aO) rfl T.g_ONE_WAY rfl) (pv 10) (pv 9) ⟨by rfl, by rfl, by rfl, by rfl⟩) (pv 9) (nomark _)))))) (pss_one (ps_ret pe_non)) pss_nil)
      (pss_cons (ps_if (pt_cmpR op_in_seq (pv 11) (pv 5) (by rfl)) (pss_one (ps_ret (pe_ifExp (pt_cmpR op_eq (pv 3) (pv 9) (nomark _)) (pg_c c__pushed hgd hr (by first | decide | omega) (pa_cons (pv 0) (pa_cons (pv 1) (pa_cons (pv 2) (pa_cons (pv 9) pa_nil))))) pe_non))) pss_nil)
      (pss_cons (ps_set (i := 12) sc_moved.nd rfl (Or.inl rfl) (pg_c c__entered hgd hr (by first | decide | omega) (pa_cons (pv 0) (pa_cons (pv 1) (pa_cons (pv 2) (pa_cons (pv 11) pa_nil))))))
      (pss_cons (ps_if (pt_cmpR op_isN (pv 12) pe_non (nomark _)) (pss_one (ps_ret pe_non)) pss_nil)
      (pss_cons (ps_if (pt_cmpR op_ne (pv 3) (pv 9) (nomark _)) (pss_cons (ps_set (i := 5) sc_moved.nd rfl (Or.inl rfl) (pg_c c__pulled hgd hr (by first | decide | omega) (pa_cons (pv 0) (pa_cons (pv 1) (pa_cons (pv 2) (pa_cons (pv 9) pa_nil))))))
      (pss_one (ps_if (pt_cmpR op_isN (pv 5) pe_non (nomark _)) (pss_one (ps_ret pe_non)) pss_nil))) pss_nil)
      (pss_cons (ps_asg (pv 12) (pg_tup (by rfl) (pgs_cons (pg_name (i := 6) sc_moved.nd rfl (Or.inl rfl)) (pgs_cons (pg_name (i := 8) sc_moved.nd rfl (Or.inl rfl)) pgs_nil))))
      (pss_one (ps_ret (pe_tupA (pa_cons (pv 11) (pa_cons (pv 5) (pa_cons (pv 6) (pa_cons (pv 7) (pa_cons (pv 8) pa_nil)))))))))))))))))), ?_⟩
    obtain ⟨a, c, g, u, b, rfl, ha, hc, hg, hu, hb⟩ := id hst
    obtain ⟨dx, t, ct, pt, nd, hx, _, _, hpt, hnear⟩ := hR.ex
    refine ⟨_, rfl, a, _, rfl, SqT.of ha, rfl, ?_⟩
    refine ⟨_, _, rfl, _, _, rfl, _, _, rfl, _, _, rfl, _, _, rfl, rfl, ?_⟩
    refine ⟨_, rfl, rfl, letterOf wy big, rfl, rfl, letter_len wy big, ?_⟩
    rw [letter_low]
    refine ⟨_, rfl, x, CR, dx, _, _, rfl, hx, T.clR, T.r_cells, rfl, _, rfl, W.z, st.at_, mark W.z st.at_, rfl, rfl, z_fit O, mark_at Ks.at0 Ks.at1 O.R, ?_⟩
    obtain ⟨q, hdg, hq⟩ := near_get hnear wy
    refine ⟨_, rfl, x, CR, dx, _, _, rfl, hx, T.clR, T.r_near, rfl, _, rfl, nd, .ref q, rfl, hdg, _, rfl, q, _, st.at_, _, rfl, rfl, SqT.of hq, nb_at Ks.at0 Ks.at1, ?_⟩
    unfold moved at kn ks
    simp only at kn ks
    have gr := nb_cases O.R wy Ks.at0
    generalize hgoal : nb W.rows W.wd wy st.at_ = goal at *
    have bad : (goal < 0 ∨ mark W.z st.at_ = 42 ∨ badWay (mark W.z st.at_) wy = true) → Q .non H := fun z => kn (if_pos z) _ (Same.refl _)
    refine ⟨fun σ' H' => σ' = [some (.ref x), some (.ref r), some (.ref a), some (.str (letterOf wy big)), some (.int st.at_), some (.ref c), some (.ref g), some (.ref u), some (.ref b), some (.str wy.sign), some (.str ⟨#[mark W.z st.at_]⟩), some (.int goal), none] ∧ H' = H ∧ ¬ (goal < 0 ∨ mark W.z st.at_ = 42 ∨ badWay (mark W.z st.at_) wy = true), ?_, ?_⟩
    · walk_at "rd"
      refine ite2 (fun z => iteT (bad (.inl (of_decide_eq_true z)))) (fun z => ?_)
      have z0 : ¬ goal < 0 := fun y => z (decide_eq_true y)
      walk_at "rd"
      by_cases h42 : mark W.z st.at_ = 42
      · exact iteT' ((sg (by decide +kernel)).mpr h42) (iteT (bad (.inr (.inl h42))))
      refine iteF' (fun z => h42 ((sg (by decide +kernel)).mp z)) ?_
      obtain ⟨ro, hkd, ho0, ho1⟩ := T.ow (mark W.z st.at_)
      cases how : oneWay (mark W.z st.at_) with
      | none =>
        have hb : badWay (mark W.z st.at_) wy = false := by simp [badWay, how]
        refine ⟨aO, rfl, hkd.is, _, rfl, _, rfl, ⟨#[mark W.z st.at_]⟩, ro, .str wy.sign, rfl, hkd, fun _ => rfl, fun u hu => (by rw [ho0 how] at hu; cases hu), ?_⟩
        walk_at "rd"
        refine iteF' (by simp) ⟨rfl, rfl, fun z => ?_⟩
        rcases z with z | z | z
        · exact z0 z
        · exact h42 z
        · rw [hb] at z; cases z
      | some vw =>
        obtain ⟨uu, hu, hr1⟩ := ho1 vw how
        refine ⟨aO, rfl, hkd.is, _, rfl, _, rfl, ⟨#[mark W.z st.at_]⟩, ro, .str vw.sign, rfl, hkd, fun z => (by rw [hu] at z; cases z), fun u' hu' => (by rw [hu] at hu'; cases hu'; exact hr1), ?_⟩
        walk_at "rd"
        by_cases e : vw = wy
        · subst e
          refine iteF' (by simp) ⟨rfl, rfl, fun z => ?_⟩
          rcases z with z | z | z
          · exact z0 z
          · exact h42 z
          · simp [badWay, how] at z
        · have hb : badWay (mark W.z st.at_) wy = true := by simp [badWay, how, e]
          have hne : vw.sign ≠ wy.sign := fun z => e (sign_inj z)
          exact iteT' (by simp [hne]) (bad (.inr (.inr hb)))
    rintro σ' H' ⟨rfl, rfl, nbd⟩
    rw [if_neg nbd] at kn ks
    have hg0 : 0 ≤ goal ∧ goal < (W.n : Int) := gr.resolve_left (fun z => nbd (.inl (by omega)))
    refine ⟨_, rfl, _, rfl, c, _, rfl, .inr (SqT.of hc), rfl, flat_ints _, _, rfl, ?_⟩
    rw [inV_ints]
    by_cases hin : goal ∈ st.cr
    · refine iteT' (decide_eq_true hin) ?_
      rw [if_pos hin] at kn ks
      walk_at "rd"
      rw [letter_big]
      cases big with
      | true => exact iteF (kn rfl _ (Same.refl _))
      | false =>
        refine iteT ?_
        rw [if_neg (by decide)] at kn ks
        exact ⟨_, rfl, _, rfl, _, rfl, _, rfl, W, st, x, r, .ref a, wy, rfl, O, hR, hru, hst, Ks, by rw [hgoal]; exact hin, by rw [hgoal]; exact kn, by rw [hgoal]; exact ks⟩
    refine iteF' (by simp [hin]) ?_
    rw [if_neg hin] at kn ks
    refine ⟨_, rfl, _, rfl, _, rfl, _, rfl, W, st, x, r, .ref a, goal, rfl, O, hR, hru, hst, Ks, hg0.1, hg0.2, fun hn H1 s1 => ?_, fun g' a' b' he t1 H1 ga ba s1 ht1 hga hba => ?_⟩
    · exact ⟨_, rfl, rfl, _, rfl, iteT (kn (by rw [hn]) H1 s1)⟩
    rw [he] at kn ks
    refine ⟨_, rfl, rfl, _, rfl, iteF' (by simp) ?_⟩
    walk_at "rd"
    rw [letter_big]
    cases big with
    | false =>
      refine iteF ?_
      refine ⟨_, rfl, t1, _, rfl, SqT.of ht1, rfl, _, _, rfl, _, _, rfl, rfl, ?_⟩
      walk_at "rd"
      refine And.intro (Nat.le_of_ble_eq_true rfl) fun t2 H2 n2 => ?_
      have s2 := s1.trans n2.same
      exact ks _ rfl _ H2 s2 ⟨t2, c, ga, u, ba, rfl, n2.at_, s2 _ _ hc, n2.same _ _ hga, s2 _ _ hu, n2.same _ _ hba⟩
    | true =>
      refine iteT ?_
      refine ⟨_, rfl, _, rfl, _, rfl, _, rfl, W, st, x, r, .ref a, wy, rfl, O, hR.same s1, hru.same s1, hst.same s1, Ks, fun hn H2 s2 => ?_, fun c' hc' t2 H2 s2 ht2 => ?_⟩
      · exact ⟨_, rfl, rfl, _, rfl, iteT (kn (by simp only [hn]; rfl) H2 (s1.trans s2))⟩
      · refine ⟨_, rfl, rfl, _, rfl, iteF' (by simp) ?_⟩
        refine ⟨_, rfl, t1, _, rfl, SqT.of (s2 _ _ ht1), rfl, _, _, rfl, _, _, rfl, rfl, ?_⟩
        walk_at "rd"
        refine And.intro (Nat.le_of_ble_eq_true rfl) fun t3 H3 n3 => ?_
        have s3 := s2.trans n3.same
        exact ks { st with at_ := goal, cr := c', go := g', ba := a', bb := b' } (by simp only [hc']; rfl) _ H3 (s1.trans s3) ⟨t3, t2, ga, u, ba, rfl, n3.at_, n3.same _ _ ht2, s3 _ _ hga, s3 _ _ (s1 _ _ hu), s3 _ _ hba⟩
end
theorem find_there {z : Str} {c : Nat} (h : c ∈ z.cps.toList) : ∃ n : Nat, Txt.find z ⟨#[c]⟩ = (n : Int) ∧ n < z.length := by
  have f := PySem.StrLaws.found_one z c
  rw [decide_eq_true h] at f
  cases ho : Builtin.Str.occurrences z ⟨#[c]⟩ 0 z.length 1 with
  | nil => rw [ho] at f; cases f
  | cons i rest =>
    have sp := PySem.StrLaws.occ_spec z ⟨#[c]⟩ 0 z.length 1 i (by rw [ho]; exact List.mem_cons_self ..)
    refine ⟨i, ?_, ?_⟩
    · unfold Txt.find
      rw [ho]
    · have : (⟨#[c]⟩ : Str).length = 1 := rfl
      omega
theorem there_at {z : Str} (h : wholeZ z = true) : 64 ∈ z.cps.toList := by
  obtain ⟨⟨_, h1⟩, _⟩ := (wholeZ_iff z).mp h
  exact List.count_pos_iff.mp (by omega)
theorem at_sign : ("@" : Str) = ⟨#[64]⟩ := by decide +kernel
/-- the beginning -/
def begS (W : Wld) (ba bb : Int) : Sta := { at_ := Txt.find W.z "@", cr := placesL W.z 111 W.z.length, go := [], us := [], ba := ba, bb := bb }
theorem places_mem {z : Str} {c n : Nat} {x : Int} (h : x ∈ placesL z c n) : 0 ≤ x ∧ x < n ∧ mark z x = c := by
  obtain ⟨i, hi, rfl⟩ := List.mem_map.mp h
  obtain ⟨h1, h2⟩ := List.mem_filter.mp hi
  have h3 : z.cps[i]? = some c := of_decide_eq_true h2
  have hlt : i < n := List.mem_range.mp h1
  refine ⟨Int.natCast_nonneg i, by show (i : Int) < n; omega, ?_⟩
  show mark z (i : Int) = c
  unfold mark
  rw [Int.toNat_natCast]
  have hl2 : i < z.cps.size := (Array.getElem?_eq_some_iff.mp h3).1
  rw [Array.getElem?_eq_getElem hl2] at h3
  simp [Array.getD, hl2, Option.some.inj h3]
theorem begS_ok {W : Wld} (O : WOk W) (hw : wholeZ W.z = true) {ba bb : Int} (a0 : 0 ≤ ba) (a1 : ba ≤ W.cap) (b0 : 0 ≤ bb) (b1 : bb ≤ W.cap) : Ok W (begS W ba bb) := by
  have hz : W.z.length = W.n := join_len O.R
  obtain ⟨n, e1, e2⟩ := find_there (there_at hw)
  have cr : ∀ c ∈ (begS W ba bb).cr, 0 ≤ c ∧ c < W.n ∧ mark W.z c = 111 := fun c hc => by
    have := places_mem (show c ∈ placesL W.z 111 W.z.length from hc)
    rw [hz] at this
    exact this
  have cl : (begS W ba bb).cr.length ≤ 30 := by
    have h1 := placesL_le W.z 111 W.z.length
    have h2 := O.n30
    show (placesL W.z 111 W.z.length).length ≤ 30
    omega
  refine ⟨?_, ?_, fun c hc => (cr c hc).1, fun c hc => (cr c hc).2.1, fun c hc => ?_, cl, fun c hc => (by cases hc), fun c hc => (by cases hc), fun c hc => (by cases hc), .nil, fun c hc => (by cases hc), .nil, a0, a1, b0, b1⟩
  · show 0 ≤ Txt.find W.z "@"
    rw [at_sign, e1]
    omega
  · show Txt.find W.z "@" < _
    rw [at_sign, e1]
    omega
  · have := (cr c hc).2.2
    simp [lies, isFree, this]
/-- a book of rules -/
structure Bk where
  cap : Int
  strong : Bool
  pull : Bool
def trW (b : Bk) : Tr → Wld
  | .nd rows wd _ => ⟨rows, wd, b.cap, b.strong, b.pull⟩
/-- the marks of a level's own room -/
def trZ : Tr → Str
  | .nd rows _ _ => Txt.join "" rows
theorem trW_z (b : Bk) (t : Tr) : (trW b t).z = trZ t := by cases t; rfl
/-- a room that was gone into, and its state -/
structure Fr where
  t : Tr
  s : Sta
/-- a position, or how a play has ended -/
inductive Ps where
  | at_ (o : List Fr) (t : Tr) (s : Sta)
  | won
  | out (a b : Int)
def digit (m : Nat) : Nat := if m = 49 then 1 else if m = 50 then 2 else 0
def wayOf (c : Nat) : Option (Way × Bool) :=
  if c = 117 then some (.u, false) else if c = 100 then some (.d, false) else if c = 108 then some (.l, false) else if c = 114 then some (.r, false)
  else if c = 85 then some (.u, true) else if c = 68 then some (.d, true) else if c = 76 then some (.l, true) else if c = 82 then some (.r, true) else none
/-- the mouth where somebody stands, 0 for none -/
def mouthN (z : Str) (s : Sta) : Nat := if ((digit (mark z s.at_) : Nat) : Int) ∈ s.us then 0 else digit (mark z s.at_)
def inM (b : Bk) (o : List Fr) (t : Tr) (s : Sta) : Option Ps :=
  if mouthN (trZ t) s = 0 then none
  else match t.ch[mouthN (trZ t) s - 1]? with
    | some u => some (.at_ (o ++ [⟨t, { s with us := withOne s.us (mouthN (trZ t) s : Nat) }⟩]) u (begS (trW b u) s.ba s.bb))
    | none => none
def outM (o : List Fr) (t : Tr) (s : Sta) : Option Ps :=
  if s.at_ ≠ Txt.find (trZ t) "@" then none
  else match o.getLast? with
    | none => some (.out s.ba s.bb)
    | some f => some (.at_ o.dropLast f.t { f.s with ba := s.ba, bb := s.bb })
def stepM (b : Bk) (o : List Fr) (t : Tr) (s : Sta) (w : Way) (big : Bool) : Option Ps :=
  match moved (trW b t) s w big with
  | none => none
  | some s' => if mark (trZ t) s'.at_ = 42 then some .won else some (.at_ o t s')
def goM (b : Bk) (o : List Fr) (t : Tr) (s : Sta) (c : Nat) : Option Ps :=
  if c = 105 then inM b o t s
  else if c = 111 then outM o t s
  else match wayOf c with
    | none => none
    | some (w, big) => stepM b o t s w big
/-- a level as it can be -/
inductive TOk : Tr → Prop
  | mk {rows : List Str} {wd : Nat} {ch : List Tr} : RowsOk rows wd → (∀ r ∈ rows, lineS r = true) → wholeZ (Txt.join "" rows) = true → manyZ (Txt.join "" rows) "12" = (ch.length : Int) → (∀ c ∈ ch, TOk c) → TOk (.nd rows wd ch)
structure BOk (b : Bk) : Prop where
  c0 : 1 ≤ b.cap
  c1 : b.cap ≤ 2
theorem TOk.wok {b : Bk} {t : Tr} (h : TOk t) (hb : BOk b) : WOk (trW b t) := by
  cases h with
  | mk h1 h2 h3 h4 h5 => exact ⟨h1, hb.c0, hb.c1⟩
theorem TOk.whole {t : Tr} (h : TOk t) : wholeZ (trZ t) = true := by
  cases h with
  | mk h1 h2 h3 h4 h5 => exact h3
theorem many_12 (z : Str) : manyZ z "12" = (z.cps.toList.count 49 : Nat) + (z.cps.toList.count 50 : Nat) := by
  have : ("12" : Str).cps.toList = [49, 50] := by decide +kernel
  unfold manyZ
  rw [this]
  show Txt.count _ ⟨#[49]⟩ + (Txt.count _ ⟨#[50]⟩ + 0) = _
  rw [Int.add_zero, count_nat, count_nat]
theorem mark_mem {z : Str} {i : Int} (h0 : 0 ≤ i) (h1 : i < z.length) : mark z i ∈ z.cps.toList := by
  obtain ⟨n, rfl⟩ := Int.eq_ofNat_of_zero_le h0
  have hn : n < z.cps.size := by
    have : z.cps.size = z.length := rfl
    omega
  unfold mark
  rw [Int.toNat_natCast]
  have : z.cps.getD n 0 = z.cps[n] := by simp [Array.getD, hn]
  rw [this]
  exact Array.mem_toList_iff.mpr (Array.getElem_mem hn)
theorem TOk.len {b : Bk} {t : Tr} (h : TOk t) : ((trZ t).length : Int) = (trW b t).n := by
  cases h with
  | mk h1 h2 h3 h4 h5 => exact congrArg (fun n : Nat => (n : Int)) (join_len h1)
theorem digit_le {b : Bk} {t : Tr} {s : Sta} (h : TOk t) (hs : Ok (trW b t) s) : digit (mark (trZ t) s.at_) ≤ t.ch.length := by
  have hm := mark_mem hs.at0 (show s.at_ < ((trZ t).length : Nat) by rw [h.len (b := b)]; exact hs.at1)
  cases h with
  | @mk rows wd ch h1 h2 h3 h4 h5 =>
    have hm : mark (Txt.join "" rows) s.at_ ∈ (Txt.join "" rows).cps.toList := hm
    show digit (mark (Txt.join "" rows) s.at_) ≤ ch.length
    obtain ⟨_, ⟨_, c1, c2⟩, _⟩ := (wholeZ_iff _).mp h3
    rw [many_12] at h4
    unfold digit
    split
    · rename_i e
      rw [e] at hm
      have := List.count_pos_iff.mpr hm
      omega
    · split
      · rename_i e
        rw [e] at hm
        have := List.count_pos_iff.mpr hm
        omega
      · omega
theorem digit_2 (m : Nat) : digit m ≤ 2 := by
  unfold digit
  split
  · omega
  · split <;> omega
/-- the rooms that were gone into, one behind a mouth of the other -/
inductive Ch : Tr → List Fr → Tr → Prop
  | nil {t : Tr} : Ch t [] t
  | cons {t v u : Tr} {s : Sta} {o : List Fr} : digit (mark (trZ t) s.at_) ≠ 0 → t.ch[digit (mark (trZ t) s.at_) - 1]? = some v → Ch v o u → Ch t (⟨t, s⟩ :: o) u
theorem Ch.snoc {r t u : Tr} {s : Sta} {o : List Fr} (h : Ch r o t) (h1 : digit (mark (trZ t) s.at_) ≠ 0) (h2 : t.ch[digit (mark (trZ t) s.at_) - 1]? = some u) : Ch r (o ++ [⟨t, s⟩]) u := by
  induction h with
  | nil => exact .cons h1 h2 .nil
  | cons a b _ ih => exact .cons a b (ih h1 h2)
theorem Ch.last {r u : Tr} {f : Fr} : ∀ {o : List Fr}, Ch r (o ++ [f]) u → Ch r o f.t ∧ digit (mark (trZ f.t) f.s.at_) ≠ 0 ∧ f.t.ch[digit (mark (trZ f.t) f.s.at_) - 1]? = some u
  | [], h => by
    cases h with
    | cons a b c =>
      cases c
      exact ⟨.nil, a, b⟩
  | g :: o, h => by
    cases h with
    | cons a b c =>
      obtain ⟨x, y⟩ := c.last
      exact ⟨.cons a b x, y⟩
theorem TOk.child {t u : Tr} {i : Nat} (h : TOk t) (e : t.ch[i]? = some u) : TOk u := by
  cases h with
  | mk h1 h2 h3 h4 h5 => exact h5 u (List.mem_of_getElem? e)
theorem Ch.ok {r t : Tr} {o : List Fr} (h : Ch r o t) (hr : TOk r) : TOk t ∧ ∀ f ∈ o, TOk f.t := by
  induction h with
  | nil => exact ⟨hr, fun f hf => by cases hf⟩
  | cons a b _ ih =>
    obtain ⟨x, y⟩ := ih (hr.child b)
    refine ⟨x, fun f hf => ?_⟩
    rcases List.mem_cons.mp hf with rfl | hf
    · exact hr
    · exact y f hf
theorem mem_sum : ∀ {l : List Nat} {x : Nat}, x ∈ l → x ≤ l.sum
  | y :: l, x, h => by
    rw [List.sum_cons]
    rcases List.mem_cons.mp h with rfl | h
    · omega
    · have := mem_sum h; omega
theorem cnt_child' {t u : Tr} {i : Nat} (e : t.ch[i]? = some u) : u.cnt + 1 ≤ t.cnt := by
  cases t with
  | nd rows wd ch =>
    have hm : u ∈ ch := List.mem_of_getElem? e
    rw [cnt_nd]
    have : u.cnt ≤ (ch.map Tr.cnt).sum := mem_sum (List.mem_map_of_mem hm)
    omega
theorem Ch.short {r t : Tr} {o : List Fr} (h : Ch r o t) : o.length + t.cnt ≤ r.cnt := by
  induction h with
  | nil => simp
  | cons a b _ ih =>
    have := cnt_child' b
    rw [List.length_cons]; omega
/-- a position as it can be -/
def PsOk (b : Bk) (r : Tr) : Ps → Prop
  | .at_ o t s => Ch r o t ∧ (∀ f ∈ o, Ok (trW b f.t) f.s) ∧ Ok (trW b t) s
  | .won => True
  | .out x y => 0 ≤ x ∧ x ≤ b.cap ∧ 0 ≤ y ∧ y ≤ b.cap
theorem trW_cap (b : Bk) (t : Tr) : (trW b t).cap = b.cap := by cases t; rfl
theorem Ok.bags {W : Wld} {s : Sta} (h : Ok W s) {x y : Int} (x0 : 0 ≤ x) (x1 : x ≤ W.cap) (y0 : 0 ≤ y) (y1 : y ≤ W.cap) : Ok W { s with ba := x, bb := y } := ⟨h.at0, h.at1, h.cr0, h.cr1, h.crl, h.crn, h.go0, h.go1, h.gom, h.gon, h.us0, h.usn, x0, x1, y0, y1⟩
theorem Ok.used {W : Wld} {s : Sta} (h : Ok W s) {m : Int} (m1 : 1 ≤ m) (m2 : m ≤ 2) (hm : m ∉ s.us) : Ok W { s with us := withOne s.us m } := ⟨h.at0, h.at1, h.cr0, h.cr1, h.crl, h.crn, h.go0, h.go1, h.gom, h.gon, fun c hc => by
  rcases mem_withOne.mp hc with hc | rfl
  · exact h.us0 c hc
  · exact ⟨m1, m2⟩, withOne_nodup h.usn hm, h.ba0, h.ba1, h.bb0, h.bb1⟩
theorem mouthN_le {b : Bk} {t : Tr} {s : Sta} (h : TOk t) (hs : Ok (trW b t) s) : mouthN (trZ t) s ≤ t.ch.length := by
  unfold mouthN
  split
  · omega
  · exact digit_le h hs
theorem mouthN_of {z : Str} {s : Sta} (h : mouthN z s ≠ 0) : mouthN z s = digit (mark z s.at_) ∧ (mouthN z s : Int) ∉ s.us := by
  unfold mouthN at *
  split at h
  · exact absurd rfl h
  · rename_i e
    rw [if_neg e]
    exact ⟨rfl, e⟩
theorem go_ok {b : Bk} (hb : BOk b) {r : Tr} (hr : TOk r) {o : List Fr} {t : Tr} {s : Sta} (h : PsOk b r (.at_ o t s)) {c : Nat} {q : Ps} (e : goM b o t s c = some q) : PsOk b r q := by
  obtain ⟨hc, ho, hs⟩ := h
  obtain ⟨ht, hf⟩ := hc.ok hr
  unfold goM at e
  split at e
  · unfold inM at e
    split at e
    · cases e
    · rename_i hm
      obtain ⟨em, hu⟩ := mouthN_of hm
      split at e
      · rename_i u hu2
        cases e
        have m2 := digit_2 (mark (trZ t) s.at_)
        have hs2 : Ok (trW b t) { s with us := withOne s.us (mouthN (trZ t) s : Nat) } := hs.used (by omega) (by omega) hu
        refine ⟨hc.snoc (s := { s with us := withOne s.us (mouthN (trZ t) s : Nat) }) (by show digit (mark (trZ t) s.at_) ≠ 0; omega) (by show t.ch[digit (mark (trZ t) s.at_) - 1]? = some u; rw [← em]; exact hu2), fun f hf => ?_, ?_⟩
        · rcases List.mem_append.mp hf with hf | hf
          · exact ho f hf
          · rw [List.mem_singleton.mp hf]; exact hs2
        · have hu3 := ht.child hu2
          have e1 := trW_cap b t
          have e2 := trW_cap b u
          exact begS_ok (hu3.wok hb) (by rw [trW_z]; exact hu3.whole) hs.ba0 (by rw [e2, ← e1]; exact hs.ba1) hs.bb0 (by rw [e2, ← e1]; exact hs.bb1)
      · cases e
  · split at e
    · unfold outM at e
      split at e
      · cases e
      · have e1 := trW_cap b t
        split at e
        · cases e
          exact ⟨hs.ba0, by rw [← e1]; exact hs.ba1, hs.bb0, by rw [← e1]; exact hs.bb1⟩
        · rename_i f hf2
          cases e
          have eo : o = o.dropLast ++ [f] := by
            obtain ⟨ys, rfl⟩ := List.getLast?_eq_some_iff.mp hf2
            rw [List.dropLast_concat]
          rw [eo] at hc
          obtain ⟨x, y⟩ := hc.last
          have e2 := trW_cap b f.t
          have hfo : f ∈ o := by rw [eo]; simp
          refine ⟨x, fun g hg => ho g (List.dropLast_subset _ hg), (ho f hfo).bags hs.ba0 (by rw [e2, ← e1]; exact hs.ba1) hs.bb0 (by rw [e2, ← e1]; exact hs.bb1)⟩
    · split at e
      · cases e
      · rename_i w big hw
        unfold stepM at e
        split at e
        · cases e
        · rename_i s' hs'
          split at e
          · cases e; trivial
          · cases e
            exact ⟨hc, ho, moved_ok (ht.wok hb) hs hs'⟩
theorem find_mark {z : Str} {c : Nat} (h : c ∈ z.cps.toList) {n : Nat} (e : Txt.find z ⟨#[c]⟩ = (n : Int)) : mark z (n : Int) = c := by
  have f := PySem.StrLaws.found_one z c
  rw [decide_eq_true h] at f
  cases ho : Builtin.Str.occurrences z ⟨#[c]⟩ 0 z.length 1 with
  | nil => rw [ho] at f; cases f
  | cons i rest =>
    have sp := PySem.StrLaws.occ_spec z ⟨#[c]⟩ 0 z.length 1 i (by rw [ho]; exact List.mem_cons_self ..)
    have ei : Txt.find z ⟨#[c]⟩ = (i : Int) := by
      unfold Txt.find
      rw [ho]
    rw [ei] at e
    have : i = n := by omega
    subst this
    have q := sp.2
    rw [PySem.StrLaws.subAt_eq] at q
    have q := eq_of_beq q
    have l1 : (⟨#[c]⟩ : Str).length = 1 := rfl
    have hl : i < z.cps.size := by
      have h1 := sp.1
      rw [l1] at h1
      exact h1
    have q2 : (List.take 1 (List.drop i z.cps.toList))[0]? = some c := by
      rw [show (1 : Nat) = (⟨#[c]⟩ : Str).length from rfl, q]
      rfl
    rw [List.getElem?_take_of_lt (by omega), List.getElem?_drop, Nat.add_zero, Array.getElem?_toList] at q2
    unfold mark
    rw [Int.toNat_natCast]
    rw [Array.getElem?_eq_getElem hl] at q2
    simp [Array.getD, hl, Option.some.inj q2]
theorem count_one_ix {a : Nat} : ∀ {l : List Nat} {i j : Nat}, l.count a = 1 → l[i]? = some a → l[j]? = some a → i = j
  | [], i, j, h, _, _ => by simp at h
  | x :: l, 0, 0, h, _, _ => rfl
  | x :: l, 0, j + 1, h, e1, e2 => by
    cases e1
    rw [List.count_cons_self] at h
    have : 0 < l.count a := List.count_pos_iff.mpr (List.mem_of_getElem? e2)
    omega
  | x :: l, i + 1, 0, h, e1, e2 => by
    cases e2
    rw [List.count_cons_self] at h
    have : 0 < l.count a := List.count_pos_iff.mpr (List.mem_of_getElem? e1)
    omega
  | x :: l, i + 1, j + 1, h, e1, e2 => by
    by_cases e : x = a
    · subst e
      rw [List.count_cons_self] at h
      have : 0 < l.count x := List.count_pos_iff.mpr (List.mem_of_getElem? e1)
      omega
    · rw [List.count_cons_of_ne e] at h
      rw [count_one_ix h e1 e2]
theorem mark_ix {z : Str} {n : Nat} (h : n < z.length) : z.cps.toList[n]? = some (mark z (n : Int)) := by
  have hn : n < z.cps.size := h
  unfold mark
  rw [Int.toNat_natCast]
  have : z.cps.getD n 0 = z.cps[n] := by simp [Array.getD, hn]
  rw [this]
  simp [hn]
/-- the sign of the entry stands once -/
theorem at_entry {b : Bk} {t : Tr} {s : Sta} (h : TOk t) (hs : Ok (trW b t) s) : mark (trZ t) s.at_ = 64 ↔ s.at_ = Txt.find (trZ t) "@" := by
  have hw := h.whole
  have hm := there_at hw
  obtain ⟨n, e1, e2⟩ := find_there hm
  have e3 := find_mark hm e1
  obtain ⟨⟨_, c1⟩, _⟩ := (wholeZ_iff _).mp hw
  rw [at_sign, e1]
  constructor
  · intro e
    obtain ⟨m, hm2⟩ := Int.eq_ofNat_of_zero_le hs.at0
    have hl : m < (trZ t).length := by
      have := hs.at1
      rw [← h.len (b := b)] at this
      omega
    rw [hm2] at e ⊢
    have a1 := mark_ix hl
    have a2 := mark_ix e2
    rw [e] at a1
    rw [e3] at a2
    rw [count_one_ix c1 a1 a2]
  · intro e
    rw [e]; exact e3
/-- as many letters as are possible, and what is then -/
def walkM (b : Bk) : Ps → List Nat → Nat × Ps
  | p, [] => (0, p)
  | .at_ o t s, c :: cs => match goM b o t s c with
    | none => (0, .at_ o t s)
    | some q => ((walkM b q cs).1 + 1, (walkM b q cs).2)
  | .won, _ :: _ => (0, .won)
  | .out x y, _ :: _ => (0, .out x y)
theorem walkM_ok {b : Bk} (hb : BOk b) {r : Tr} (hr : TOk r) : ∀ (cs : List Nat) {p : Ps}, PsOk b r p → PsOk b r (walkM b p cs).2
  | [], p, h => by cases p <;> exact h
  | c :: cs, .at_ o t s, h => by
    unfold walkM
    cases e : goM b o t s c with
    | none => exact h
    | some q => exact walkM_ok hb hr cs (go_ok hb hr h e)
  | c :: cs, .won, h => h
  | c :: cs, .out x y, h => h
theorem walkM_le (b : Bk) : ∀ (cs : List Nat) (p : Ps), (walkM b p cs).1 ≤ cs.length
  | [], p => by cases p <;> exact Nat.le_refl _
  | c :: cs, .at_ o t s => by
    unfold walkM
    cases e : goM b o t s c with
    | none => exact Nat.zero_le _
    | some q => exact Nat.succ_le_succ (walkM_le b cs q)
  | c :: cs, .won => Nat.zero_le _
  | c :: cs, .out x y => Nat.zero_le _
section
variable {P : Program} {w : World} {K : PySem.W.Frag} {mg : Str → Option Value} {base : Heap} {CR CL CV CW aB aO aW : Addr}
/-- the tuple of the one text "won" that stands in the written part -/
def WonK (K : PySem.W.Frag) (a : Addr) : Prop := ∀ H : Hp, SqT K H a [V.str "won"]
structure WkT (P : Program) (w : World) (K : PySem.W.Frag) (mg : Str → Option Value) (CR CL CV CW aB aO aW : Addr) : Prop extends MovT P w K mg CR CL aB aO where
  r_entry : NoAttr K CR "entry"
  r_crates : NoAttr K CR "crates"
  clV : Cls K CV
  v_room : NoAttr K CV "room"
  v_children : NoAttr K CV "children"
  clW : Cls K CW
  w_rules : NoAttr K CW "rules"
  w_levels : NoAttr K CW "levels"
  w_states : NoAttr K CW "states"
  w_end : NoAttr K CW "end"
  g_WON : mg "WON" = some (.ref aW)
  won : WonK K aW
def spFirst (CR : Addr) : Sp := fun vs H Q _ => ∃ (W : Wld) (x b : Addr) (ba bb : Int), vs = [.ref x, .ref b] ∧ RoomAt CR H x W.rows W.wd ∧ H b = some (.tup [.int ba, .int bb]) ∧ ∀ v H', Same H H' → StaAt H' v (begS W ba bb) → Q v H'
theorem ok_first {f : Addr} {fd : FuncData} (F : Fun K "first_state" "first_state" s_first_state f fd) (T : WkT P w K mg CR CL CV CW aB aO aW) : FnG P w K mg base (CXe P w) 1 f fd ["room", "bag"] (spFirst CR) := by
  refine F.okG sc_first_state (fun vs H Q E h => ?_) (fun cdv A outer s H vs Q E hgd hr h => ?_)
  · obtain ⟨W, x, b, ba, bb, rfl, _⟩ := h; rfl
  · obtain ⟨W, x, b, ba, bb, rfl, hR, hb, k⟩ := h
    refine ⟨_, (pss_one (ps_ret (pe_tupA (pa_cons (pe_fld (pv 0) rfl) (pa_cons (pe_fld (pv 0) rfl) (pa_cons (pe_tupA pa_nil) (pa_cons (pe_tupA pa_nil) (pa_cons (pv 1) pa_nil)))))))), ?_⟩
    obtain ⟨dx, t, ct, pt, nd, hx, _, hct, hpt, hnear⟩ := hR.ex
    refine ⟨_, rfl, x, CR, dx, _, _, rfl, hx, T.clR, T.r_entry, rfl, ?_⟩
    refine ⟨_, rfl, x, CR, dx, _, _, rfl, hx, T.clR, T.r_crates, rfl, ?_⟩
    refine And.intro (Nat.zero_le _) fun t3 H3 n3 => And.intro (Nat.zero_le _) fun t4 H4 n4 => ⟨_, rfl, And.intro (Nat.le_of_ble_eq_true rfl) fun t5 H5 n5 => ?_⟩
    have s5 : Same H H5 := (n3.same.trans n4.same).trans n5.same
    exact k _ H5 s5 ⟨t5, ct, t3, t4, b, rfl, n5.at_, s5 _ _ hct, n5.same _ _ (n4.same _ _ n3.at_), n5.same _ _ n4.at_, s5 _ _ hb⟩
/-- a state of a room that was left for one behind a mouth: no bag -/
def StaN (H : Hp) (v : V) (s : Sta) : Prop := ∃ a c g u, v = .ref a ∧ H a = some (.tup [.int s.at_, .ref c, .ref g, .ref u, .non]) ∧ H c = some (.tup (s.cr.map V.int)) ∧ H g = some (.tup (s.go.map V.int)) ∧ H u = some (.tup (s.us.map V.int))
theorem StaN.same {H H' : Hp} {v : V} {s : Sta} (k : Same H H') (h : StaN H v s) : StaN H' v s := by
  obtain ⟨a, c, g, u, e, h1, h2, h3, h4⟩ := h
  exact ⟨a, c, g, u, e, k _ _ h1, k _ _ h2, k _ _ h3, k _ _ h4⟩
theorem StaN.keep {H H' : Hp} {v : V} {s : Sta} (k : ∀ (a : Addr) (xs : List V), H a = some (.tup xs) → H' a = some (.tup xs)) (h : StaN H v s) : StaN H' v s := by
  obtain ⟨a, c, g, u, e, h1, h2, h3, h4⟩ := h
  exact ⟨a, c, g, u, e, k _ _ h1, k _ _ h2, k _ _ h3, k _ _ h4⟩
theorem StaAt.keep {H H' : Hp} {v : V} {s : Sta} (k : ∀ (a : Addr) (xs : List V), H a = some (.tup xs) → H' a = some (.tup xs)) (h : StaAt H v s) : StaAt H' v s := by
  obtain ⟨a, c, g, u, b, e, h1, h2, h3, h4, h5⟩ := h
  exact ⟨a, c, g, u, b, e, k _ _ h1, k _ _ h2, k _ _ h3, k _ _ h4, k _ _ h5⟩
def spMouth (CR : Addr) : Sp := fun vs H Q _ => ∃ (W : Wld) (x : Addr) (v : V) (s : Sta), vs = [.ref x, v] ∧ WOk W ∧ RoomAt CR H x W.rows W.wd ∧ StaAt H v s ∧ Ok W s ∧ ∀ H', Same H H' → Q (.int (mouthN W.z s : Nat)) H'
theorem ok_mouth {f : Addr} {fd : FuncData} (F : Fun K "mouth_here" "mouth_here" s_mouth_here f fd) (T : WkT P w K mg CR CL CV CW aB aO aW) : FnG P w K mg base (CXe P w) 1 f fd ["room", "state"] (spMouth CR) := by
  refine F.okG sc_mouth_here (fun vs H Q E h => ?_) (fun cdv A outer s H vs Q E hgd hr h => ?_)
  · obtain ⟨W, x, v, s, rfl, _⟩ := h; rfl
  · obtain ⟨W, x, v, s, rfl, WO, hR, hv, hs, k⟩ := h
    refine ⟨_, (pss_cons (ps_set (i := 2) sc_mouth_here.nd rfl (Or.inl rfl) (pe_ix ix_str (pe_fld (pv 0) rfl) (pe_ix ix_tup (pv 1) pe_int (fun _ _ => rfl)) (fun _ _ => rfl)))
      (pss_cons (ps_if (PW.pt (pw_and (pt_cmpR op_in_sign (pv 2) pe_str (by rfl)) (pw_and1 (pt_cmpR op_notIn_seq (pe_callTy call_int_str (by rfl) T.n_int (by decide +kernel) (pa_cons (pv 2) pa_nil)) (pe_ix ix_tup (pv 1) pe_int (fun _ _ => rfl)) (by rfl))))) (pss_one (ps_ret (pe_callTy call_int_str (by rfl) T.n_int (by decide +kernel) (pa_cons (pv 2) pa_nil)))) pss_nil)
      (pss_one (ps_ret pe_int)))), ?_⟩
    obtain ⟨a, c, g, u, b, rfl, ha, hc, hg, hu, hb⟩ := hv
    obtain ⟨dx, t, ct, pt, nd, hx, _⟩ := hR.ex
    have O := hR.ok
    refine ⟨_, rfl, x, CR, dx, _, _, rfl, hx, T.clR, T.r_cells, rfl, ?_⟩
    refine ⟨_, rfl, a, _, 0, _, rfl, rfl, SqT.of ha, rfl, ?_⟩
    refine ⟨W.z, s.at_, mark W.z s.at_, rfl, rfl, z_fit WO, mark_at hs.at0 hs.at1 O, ?_⟩
    refine ⟨_, rfl, mark W.z s.at_, "12", rfl, rfl, _, rfl, ?_⟩
    have e12 : ("12" : Str).cps.toList = [49, 50] := by decide +kernel
    rw [e12]
    have i1 : intText? (⟨#[49]⟩ : Str) = some 1 := by decide +kernel
    have i2 : intText? (⟨#[50]⟩ : Str) = some 2 := by decide +kernel
    have l1 : (⟨#[mark W.z s.at_]⟩ : Str).length ≤ 640 := Nat.le_of_ble_eq_true rfl
    have fin : ∀ n, mouthN W.z s = n → Q (.int (n : Nat)) H := fun n e => by rw [← e]; exact k H (Same.refl _)
    by_cases hm : mark W.z s.at_ ∈ [49, 50]
    · refine iteT' (decide_eq_true hm) ?_
      obtain ⟨n, hn, hi⟩ : ∃ n : Nat, digit (mark W.z s.at_) = n ∧ intText? (⟨#[mark W.z s.at_]⟩ : Str) = some (n : Int) := by
        simp only [List.mem_cons, List.not_mem_nil, or_false] at hm
        rcases hm with h | h
        · exact ⟨1, by rw [h]; rfl, by rw [h]; exact i1⟩
        · exact ⟨2, by rw [h]; rfl, by rw [h]; exact i2⟩
      refine ⟨_, rfl, _, (n : Int), rfl, hi, l1, _, rfl, a, _, 3, _, rfl, rfl, SqT.of ha, rfl, ?_⟩
      refine ⟨u, s.us.map V.int, rfl, .inr (SqT.of hu), rfl, flat_ints _, _, rfl, ?_⟩
      simp only [if_true, inV_ints]
      by_cases hin : (n : Int) ∈ s.us
      · refine iteF' (by simp [hin]) ?_
        exact fin 0 (by unfold mouthN; rw [hn, if_pos hin])
      · refine iteT' (by simp [hin]) ?_
        exact ⟨_, rfl, _, (n : Int), rfl, hi, l1, fin n (by unfold mouthN; rw [hn, if_neg hin])⟩
    · refine iteF' (by simpa using hm) ?_
      refine fin 0 ?_
      have : digit (mark W.z s.at_) = 0 := by
        simp only [List.mem_cons, List.not_mem_nil, or_false, not_or] at hm
        unfold digit
        rw [if_neg hm.1, if_neg hm.2]
      unfold mouthN
      rw [this]
      split <;> rfl
def spCome (K : PySem.W.Frag) : Sp := fun vs H Q _ => ∃ (v : V) (s : Sta) (m : Int), vs = [v, .int m, .non] ∧ StaAt H v s ∧ s.us.length ≤ 2 ∧ ∀ v' H', Same H H' → StaN H' v' { s with us := withOne s.us m } → Q v' H'
theorem ok_come {f : Addr} {fd : FuncData} (F : Fun K "come_back" "come_back" s_come_back f fd) (T : WkT P w K mg CR CL CV CW aB aO aW) (c__with_one : CalG P w K mg base 1 "_with_one" (spWith K)) : FnG P w K mg base (CXe P w) 2 f fd ["state", "number", "bag"] (spCome K) := by
  refine F.okG sc_come_back (fun vs H Q E h => ?_) (fun cdv A outer s H vs Q E hgd hr h => ?_)
  · obtain ⟨v, s, m, rfl, _⟩ := h; rfl
  · obtain ⟨v, s, m, rfl, hv, hu, k⟩ := h
    refine ⟨_, (pss_cons (ps_asg (pe_slice sl_tupU (pv 0) po_none (po_some pe_int)) (pg_tup (by rfl) (pgs_cons (pg_name (i := 3) sc_come_back.nd rfl (Or.inl rfl)) (pgs_cons (pg_name (i := 4) sc_come_back.nd rfl (Or.inl rfl)) (pgs_cons (pg_name (i := 5) sc_come_back.nd rfl (Or.inl rfl)) (pgs_cons (pg_name (i := 6) sc_come_back.nd rfl (Or.inl rfl)) pgs_nil))))))
      (pss_one (ps_ret (pe_tupA (pa_cons (pv 3) (pa_cons (pv 4) (pa_cons (pv 5) (pa_cons (pg_c c__with_one hgd hr (by first | decide | omega) (pa_cons (pv 6) (pa_cons (pv 1) pa_nil))) (pa_cons (pv 2) pa_nil))))))))), ?_⟩
    obtain ⟨a, c, g, u, b, rfl, ha, hc, hg, hu', hb⟩ := hv
    walk_at "rd"
    refine ⟨a, _, rfl, ha, fun t1 H1 s1 ht1 _ => ?_⟩
    have hcut : cutV [V.int s.at_, V.ref c, V.ref g, V.ref u, V.ref b] none (some 4) = [V.int s.at_, V.ref c, V.ref g, V.ref u] := rfl
    rw [hcut] at ht1
    refine ⟨t1, _, rfl, SqT.of ht1, rfl, ?_⟩
    refine ⟨_, _, rfl, _, _, rfl, _, _, rfl, _, _, rfl, rfl, ?_⟩
    refine ⟨_, rfl, _, rfl, _, rfl, _, rfl, _, rfl, u, s.us, m, rfl, .inl (s1 _ _ hu'), by omega, fun t2 H2 s2 ht2 _ => ⟨_, rfl, And.intro (Nat.le_of_ble_eq_true rfl) fun t3 H3 n3 => ?_⟩⟩
    have s13 := (s1.trans s2).trans n3.same
    exact k _ H3 s13 ⟨t3, c, g, t2, rfl, n3.at_, s13 _ _ hc, s13 _ _ hg, n3.same _ _ ht2⟩
end
section
variable {P : Program} {w : World} {K : PySem.W.Frag} {mg : Str → Option Value} {base : Heap} {CR CL CV CW aB aO aW : Addr}
def KeepX (CW : Addr) (H H' : Hp) : Prop := ∀ (b : Addr) (o : HO), H b = some o → (∀ xs, o ≠ HO.lst xs) → (∀ dx fs, o ≠ HO.ins CW dx fs) → H' b = some o
theorem KeepX.same {H H' : Hp} (s : Same H H') : KeepX CW H H' := fun b o e _ _ => s b o e
theorem KeepX.trans {H H1 H2 : Hp} (a : KeepX CW H H1) (b : KeepX CW H1 H2) : KeepX CW H H2 := fun c o e n1 n2 => b c o (a c o e n1 n2) n1 n2
theorem KeepX.tup {H H' : Hp} (k : KeepX CW H H') (a : Addr) (xs : List V) (e : H a = some (.tup xs)) : H' a = some (.tup xs) := k a _ e (fun _ z => by cases z) (fun _ _ z => by cases z)
theorem RoomAt.keepX {H H' : Hp} (ne : CR ≠ CW) (k : KeepX CW H H') {x : Addr} {rows : List Str} {wd : Nat} (h : RoomAt CR H x rows wd) : RoomAt CR H' x rows wd := by
  obtain ⟨ok, ln, wh, dx, t, ct, pt, nd, h1, h2, h3, h4, u, d, l, r, g1, g2, g3, g4, g5⟩ := h
  exact ⟨ok, ln, wh, dx, t, ct, pt, nd, k _ _ h1 (fun _ z => by cases z) (fun _ _ z => by injection z with z; exact ne z), k.tup _ _ h2, k.tup _ _ h3, k.tup _ _ h4, u, d, l, r, k _ _ g1 (fun _ z => by cases z) (fun _ _ z => by cases z), k.tup _ _ g2, k.tup _ _ g3, k.tup _ _ g4, k.tup _ _ g5⟩
theorem LevelAt.keepX {H H' : Hp} (ne : CR ≠ CW) (nv : CV ≠ CW) (k : KeepX CW H H') {v : V} {t : Tr} (h : LevelAt K CR CV H v t) : LevelAt K CR CV H' v t := by
  induction h with
  | mk a1 a2 a3 a4 a5 a6 a7 _ ih => exact .mk (k _ _ a1 (fun _ z => by cases z) (fun _ _ z => by injection z with z; exact nv z)) a2 a3 (RoomAt.keepX ne k a4) a5 (a6.keep fun e => k.tup _ _ e) a7 ih
theorem RulesIs.keepX {H H' : Hp} (nl : CL ≠ CW) (k : KeepX CW H H') {r : Addr} {W : Wld} (h : RulesIs CL H r W) : RulesIs CL H' r W := h.imp fun dx e => k _ _ e (fun _ z => by cases z) (fun _ _ z => by injection z with z; exact nl z)
abbrev walkF (r L S e : V) : List (Str × V) := [("rules", r), ("levels", L), ("states", S), ("end", e)]
/-- lists of levels and states -/
def LvlsAt (K : PySem.W.Frag) (CR CV : Addr) (H : Hp) (lvs : List V) (o : List Fr) (t : Tr) : Prop := ∃ ls l, lvs = ls ++ [l] ∧ ls.length = o.length ∧ (∀ (i : Nat) (v : V) (f : Fr), ls[i]? = some v → o[i]? = some f → LevelAt K CR CV H v f.t) ∧ LevelAt K CR CV H l t
def StsAt (H : Hp) (sts : List V) (o : List Fr) (s : Sta) : Prop := ∃ vs v, sts = vs ++ [v] ∧ vs.length = o.length ∧ (∀ (i : Nat) (u : V) (f : Fr), vs[i]? = some u → o[i]? = some f → StaN H u f.s) ∧ StaAt H v s
def EndAt (K : PySem.W.Frag) (CR CV aW : Addr) (H : Hp) (lvs sts : List V) (e : V) : Ps → Prop
  | .at_ o t s => e = .non ∧ LvlsAt K CR CV H lvs o t ∧ StsAt H sts o s
  | .won => e = .ref aW
  | .out x y => ∃ q g, e = .ref q ∧ H q = some (.tup [.str "out", .ref g]) ∧ H g = some (.tup [.int x, .int y])
/-- a walker who has come to p -/
def WalkAt (K : PySem.W.Frag) (CR CV CW aW : Addr) (H : Hp) (a L S r : Addr) (p : Ps) : Prop := ∃ dx e lvs sts, H a = some (.ins CW dx (walkF (.ref r) (.ref L) (.ref S) e)) ∧ H L = some (.lst lvs) ∧ H S = some (.lst sts) ∧ L ≠ S ∧ EndAt K CR CV aW H lvs sts e p
theorem LvlsAt.keepX {H H' : Hp} (ne : CR ≠ CW) (nv : CV ≠ CW) (k : KeepX CW H H') {lvs : List V} {o : List Fr} {t : Tr} (h : LvlsAt K CR CV H lvs o t) : LvlsAt K CR CV H' lvs o t := by
  obtain ⟨ls, l, e, h1, h2, h3⟩ := h
  exact ⟨ls, l, e, h1, fun i v f e1 e2 => LevelAt.keepX ne nv k (h2 i v f e1 e2), LevelAt.keepX ne nv k h3⟩
theorem StsAt.keepX {H H' : Hp} (k : KeepX CW H H') {sts : List V} {o : List Fr} {s : Sta} (h : StsAt H sts o s) : StsAt H' sts o s := by
  obtain ⟨vs, v, e, h1, h2, h3⟩ := h
  exact ⟨vs, v, e, h1, fun i u f e1 e2 => (h2 i u f e1 e2).keep k.tup, StaAt.keep k.tup h3⟩
theorem EndAt.keepX {H H' : Hp} (ne : CR ≠ CW) (nv : CV ≠ CW) (k : KeepX CW H H') {lvs sts : List V} {e : V} {p : Ps} (h : EndAt K CR CV aW H lvs sts e p) : EndAt K CR CV aW H' lvs sts e p := by
  cases p with
  | at_ o t s => exact ⟨h.1, h.2.1.keepX ne nv k, h.2.2.keepX k⟩
  | won => exact h
  | out x y =>
    obtain ⟨q, g, h1, h2, h3⟩ := h
    exact ⟨q, g, h1, k.tup _ _ h2, k.tup _ _ h3⟩
theorem WalkAt.same {H H' : Hp} (ne : CR ≠ CW) (nv : CV ≠ CW) (s : Same H H') {a L S r : Addr} {p : Ps} (h : WalkAt K CR CV CW aW H a L S r p) : WalkAt K CR CV CW aW H' a L S r p := by
  obtain ⟨dx, e, lvs, sts, h1, h2, h3, h4, h5⟩ := h
  exact ⟨dx, e, lvs, sts, s _ _ h1, s _ _ h2, s _ _ h3, h4, h5.keepX ne nv (KeepX.same s)⟩
/-- where a walker changes things -/
def Own (a L S : Addr) : Addr → Prop := fun b => b = a ∨ b = L ∨ b = S
theorem keep_own {H H' : Hp} {a L S dx : Addr} {fs : List (Str × V)} {xs ys : List V} (h1 : H a = some (.ins CW dx fs)) (h2 : H L = some (.lst xs)) (h3 : H S = some (.lst ys)) (o : Off (Own a L S) H H') : KeepX CW H H' := fun b u e n1 n2 => o b u (fun z => by
  rcases z with rfl | rfl | rfl
  · rw [h1] at e; exact n2 _ _ (Option.some.inj e).symm
  · rw [h2] at e; exact n1 _ (Option.some.inj e).symm
  · rw [h3] at e; exact n1 _ (Option.some.inj e).symm) e
structure NeT (CR CL CV CW : Addr) : Prop where
  r : CR ≠ CW
  l : CL ≠ CW
  v : CV ≠ CW
theorem level_room {H : Hp} {x : Addr} {t : Tr} (h : LevelAt K CR CV H (.ref x) t) : ∃ dx R c n d vs, H x = some (.ins CV dx (levelF (.ref R) (.ref c) (.int n) (.int d))) ∧ RoomAt CR H R (trW ⟨1, true, true⟩ t).rows (trW ⟨1, true, true⟩ t).wd ∧ ChT K H c vs ∧ vs.length = t.ch.length ∧ (∀ (i : Nat) (v : V) (u : Tr), vs[i]? = some v → t.ch[i]? = some u → LevelAt K CR CV H v u) := by
  cases h with
  | mk a1 a2 a3 a4 a5 a6 a7 a8 => exact ⟨_, _, _, _, _, _, a1, a4, a6, a7, a8⟩
theorem trW_rows (b : Bk) (t : Tr) : (trW b t).rows = (trW ⟨1, true, true⟩ t).rows := by cases t; rfl
theorem trW_wd (b : Bk) (t : Tr) : (trW b t).wd = (trW ⟨1, true, true⟩ t).wd := by cases t; rfl
theorem rules_any {b : Bk} {t u : Tr} {H : Hp} {r : Addr} (h : RulesIs CL H r (trW b t)) : RulesIs CL H r (trW b u) := by cases t; cases u; exact h
theorem ixN_last {α : Type} (xs : List α) (v : α) : ixN (xs ++ [v]).length (-1) = some xs.length := by
  unfold ixN
  rw [List.length_append, List.length_singleton]
  simp
  omega
theorem set_last {α : Type} (xs : List α) (v u : α) : (xs ++ [v]).set xs.length u = xs ++ [u] := by
  rw [List.set_append_right _ _ (Nat.le_refl _), Nat.sub_self]; rfl
def spWStep (K : PySem.W.Frag) (CR CL CV CW aW : Addr) : Sp := fun vs H Q _ => ∃ (a L S r : Addr) (b : Bk) (o : List Fr) (t : Tr) (s : Sta) (wy : Way) (big : Bool), vs = [.ref a, .str (letterOf wy big)] ∧ BOk b ∧ TOk t ∧ RulesIs CL H r (trW b t) ∧ Ok (trW b t) s ∧ WalkAt K CR CV CW aW H a L S r (.at_ o t s) ∧
  (stepM b o t s wy big = none → ∀ H', Off (Own a L S) H H' → WalkAt K CR CV CW aW H' a L S r (.at_ o t s) → Q (.bl false) H') ∧ (∀ q, stepM b o t s wy big = some q → ∀ H', Off (Own a L S) H H' → WalkAt K CR CV CW aW H' a L S r q → Q (.bl true) H')
theorem ok_wstep {f : Addr} {fd : FuncData} (F : Fun K "_step" "Walker._step" s_Walkerstep f fd) (T : WkT P w K mg CR CL CV CW aB aO aW) (N : NeT CR CL CV CW) (c_moved : CalG P w K mg base 3 "moved" (spMov CR CL)) : FnG P w K mg base (CXe P w) 4 f fd ["self", "letter"] (spWStep K CR CL CV CW aW) := by
  refine F.okG sc_Walkerstep (fun vs H Q E h => ?_) (fun cdv A outer s H vs Q E hgd hr h => ?_)
  · obtain ⟨a, L, S, r, b, o, t, s, wy, big, rfl, _⟩ := h; rfl
  · obtain ⟨a, L, S, r, b, o, t, s, wy, big, rfl, hb, ht, hru, hs, hw, k0, k1⟩ := h
    refine ⟨_, (pss_cons (ps_set (i := 2) sc_Walkerstep.nd rfl (Or.inl rfl) (pe_fld (pe_ix ix_list (pe_fld (pv 0) rfl) (pe_un un_neg pe_int) (fun _ _ => rfl)) rfl))
      (pss_cons (ps_set (i := 3) sc_Walkerstep.nd rfl (Or.inl rfl) (pg_c c_moved hgd hr (by first | decide | omega) (pa_cons (pv 2) (pa_cons (pe_fld (pv 0) rfl) (pa_cons (pe_ix ix_list (pe_fld (pv 0) rfl) (pe_un un_neg pe_int) (fun _ _ => rfl)) (pa_cons (pv 1) pa_nil))))))
      (pss_cons (ps_if (pt_cmpR op_isN (pv 3) pe_non (nomark _)) (pss_one (ps_ret pe_bl)) pss_nil)
      (pss_cons (ps_asg (pv 3) (pg_sub (pe_fld (pv 0) rfl) (pe_un un_neg pe_int) set_list))
      (pss_cons (ps_if (pt_cmpR op_eq (pe_ix ix_str (pe_fld (pv 2) rfl) (pe_ix ix_tup (pv 3) pe_int (fun _ _ => rfl)) (fun _ _ => rfl)) pe_str (nomark _)) (pss_one (ps_fld (pv 0) (pe_glob (v := .ref aW) rfl T.g_WON rfl) rfl)) pss_nil)
      (pss_one (ps_ret pe_bl))))))), ?_⟩
    obtain ⟨dx, e, lvs, sts, h1, h2, h3, h4, rfl, ⟨ls, l, rfl, l1, l2, l3⟩, ⟨us, u, rfl, u1, u2, u3⟩⟩ := hw
    have hW : WOk (trW b t) := ht.wok hb
    obtain ⟨la, ldx, lfs, rfl, hla⟩ := level_ins l3
    obtain ⟨vdx, R, c, n, d, cvs, v1, v2, v3, v4, v5⟩ := level_room l3
    rw [← trW_rows b, ← trW_wd b] at v2
    have v2' : RoomAt CR H R (trW b t).rows (trW b t).wd := v2
    refine ⟨_, rfl, a, CW, dx, _, _, rfl, h1, T.clW, T.w_levels, rfl, _, rfl, L, _, -1, _, rfl, rfl, SqL.of h2, atI_last _ _, la, CV, vdx, _, _, rfl, v1, T.clV, T.v_room, rfl, ?_⟩
    refine ⟨_, rfl, _, rfl, a, CW, dx, _, _, rfl, h1, T.clW, T.w_rules, rfl, _, rfl, a, CW, dx, _, _, rfl, h1, T.clW, T.w_states, rfl, _, rfl, S, _, -1, _, rfl, rfl, SqL.of h3, atI_last _ _, ?_⟩
    refine ⟨_, rfl, trW b t, s, R, r, u, wy, big, rfl, hW, v2, hru, u3, hs, fun hn H1 s1 => ?_, fun s' hs' v' H1 s1 hv' => ?_⟩
    · refine ⟨_, rfl, rfl, _, rfl, iteT' (decide_eq_true rfl) ?_⟩
      refine k0 (by unfold stepM; rw [hn]) H1 (Off.same s1) ?_
      exact WalkAt.same N.r N.v s1 ⟨dx, .non, _, _, h1, h2, h3, h4, rfl, ⟨ls, _, rfl, l1, l2, l3⟩, ⟨us, u, rfl, u1, u2, u3⟩⟩
    have hk' := moved_ok hW hs hs'
    obtain ⟨a', c', g', uu', b', rfl, ha', hc', hg', hu', hb'⟩ := id hv'
    refine ⟨_, rfl, rfl, _, rfl, iteF' (by simp) ?_⟩
    refine ⟨_, rfl, _, rfl, a, CW, dx, _, _, rfl, s1 _ _ h1, T.clW, T.w_states, rfl, _, rfl, S, _, -1, us.length, rfl, rfl, s1 _ _ h3, ixN_last _ _, ?_⟩
    rw [set_last]
    have o2 : Off (Own a L S) H1 (upd H1 S (.lst (us ++ [.ref a']))) := Off.mut (.inr (.inr rfl))
    have hS2 : (upd H1 S (.lst (us ++ [.ref a']))) S = some (.lst (us ++ [.ref a'])) := upd_same
    have haS : a ≠ S := fun z => by rw [z, h3] at h1; cases h1
    have hL2 : (upd H1 S (.lst (us ++ [.ref a']))) L = some (.lst (ls ++ [.ref la])) := (upd_ne h4).trans (s1 _ _ h2)
    have ha2 : (upd H1 S (.lst (us ++ [.ref a']))) a = some (.ins CW dx (walkF (.ref r) (.ref L) (.ref S) .non)) := (upd_ne haS).trans (s1 _ _ h1)
    have kx : KeepX CW H (upd H1 S (.lst (us ++ [.ref a']))) := (KeepX.same s1).trans (keep_own (s1 _ _ h1) (s1 _ _ h2) (s1 _ _ h3) o2)
    have kx1 : KeepX CW H1 (upd H1 S (.lst (us ++ [.ref a']))) := keep_own (s1 _ _ h1) (s1 _ _ h2) (s1 _ _ h3) o2
    generalize upd H1 S (.lst (us ++ [.ref a'])) = H2 at o2 hS2 hL2 ha2 kx kx1 ⊢
    have ofs : Off (Own a L S) H H2 := (Off.same s1).trans o2
    obtain ⟨rdx, rt, rct, rpt, rnd, hrx, _⟩ := (RoomAt.keepX N.r kx v2').ex
    refine ⟨_, rfl, R, CR, rdx, _, _, rfl, hrx, T.clR, T.r_cells, rfl, _, rfl, a', _, 0, _, rfl, rfl, SqT.of (kx1.tup _ _ ha'), rfl, ?_⟩
    refine ⟨(trW b t).z, s'.at_, mark (trW b t).z s'.at_, rfl, rfl, z_fit hW, mark_at hk'.at0 hk'.at1 hW.R, (rfl : scal _ _ = true), _, rfl, ?_⟩
    have est : ("*" : Str) = ⟨#[42]⟩ := by decide +kernel
    have hsts : StsAt H2 (us ++ [.ref a']) o s' := ⟨us, _, rfl, u1, fun i v f e1 e2 => (u2 i v f e1 e2).keep kx.tup, StaAt.keep kx1.tup hv'⟩
    have hlvs : LvlsAt K CR CV H2 (ls ++ [.ref la]) o t := LvlsAt.keepX N.r N.v kx ⟨ls, _, rfl, l1, l2, l3⟩
    rw [est]
    by_cases h42 : mark (trW b t).z s'.at_ = 42
    · refine iteT' (decide_eq_true (by rw [h42])) ?_
      refine ⟨_, rfl, a, CW, dx, _, rfl, ha2, T.clW, T.w_end, (show 4 < 1000 by decide), ?_⟩
      have ef : putF "end" (.ref aW) (walkF (.ref r) (.ref L) (.ref S) .non) = walkF (.ref r) (.ref L) (.ref S) (.ref aW) := rfl
      rw [ef]
      have haL : a ≠ L := fun z => by rw [z, h2] at h1; cases h1
      refine k1 .won (by unfold stepM; rw [hs']; show (if mark (trZ t) s'.at_ = 42 then some Ps.won else _) = _; rw [← trW_z b, if_pos h42]) _ (ofs.trans (Off.mut (.inl rfl))) ?_
      exact ⟨dx, _, _, _, upd_same, (upd_ne haL.symm).trans hL2, (upd_ne haS.symm).trans hS2, h4, rfl⟩
    · refine iteF' (fun z => h42 (by have z := of_decide_eq_true z; injection z with z; injection z with z; simpa using z)) ?_
      refine k1 (.at_ o t s') (by unfold stepM; rw [hs']; show (if mark (trZ t) s'.at_ = 42 then some Ps.won else _) = _; rw [← trW_z b, if_neg h42]) H2 ofs ?_
      exact ⟨dx, _, _, _, ha2, hL2, hS2, h4, rfl, hlvs, hsts⟩
end
section
variable {P : Program} {w : World} {K : PySem.W.Frag} {mg : Str → Option Value} {base : Heap} {CR CL CV CW aB aO aW : Addr}
theorem us_len {W : Wld} {s : Sta} (h : Ok W s) : s.us.length ≤ 2 := by
  have key : ∀ {l D : List Int}, l.Nodup → (∀ x ∈ l, x ∈ D) → l.length ≤ D.length := fun {l} => by
    induction l with
    | nil => intro D _ _; exact Nat.zero_le _
    | cons x r ih =>
      intro D hn hs
      obtain ⟨h1, h2⟩ := List.nodup_cons.mp hn
      have hx : x ∈ D := hs x (List.mem_cons_self ..)
      have := ih (D := D.erase x) h2 fun y hy => (List.mem_erase_of_ne (fun e => h1 (by rw [← e]; exact hy))).mpr (hs y (List.mem_cons_of_mem _ hy))
      rw [List.length_erase_of_mem hx] at this
      have := List.length_pos_of_mem hx
      rw [List.length_cons]; omega
  exact key (D := [1, 2]) h.usn fun x hx => by
    have := h.us0 x hx
    have : x = 1 ∨ x = 2 := by omega
    simpa using this
def spWIn (K : PySem.W.Frag) (CR CL CV CW aW : Addr) : Sp := fun vs H Q _ => ∃ (a L S r : Addr) (b : Bk) (o : List Fr) (t : Tr) (s : Sta), vs = [.ref a] ∧ BOk b ∧ TOk t ∧ Ok (trW b t) s ∧ o.length ≤ 100 ∧ WalkAt K CR CV CW aW H a L S r (.at_ o t s) ∧
  (inM b o t s = none → ∀ H', Off (Own a L S) H H' → WalkAt K CR CV CW aW H' a L S r (.at_ o t s) → Q (.bl false) H') ∧ (∀ q, inM b o t s = some q → ∀ H', Off (Own a L S) H H' → WalkAt K CR CV CW aW H' a L S r q → Q (.bl true) H')
theorem ok_win {f : Addr} {fd : FuncData} (F : Fun K "_go_in" "Walker._go_in" s_Walkergo_in f fd) (T : WkT P w K mg CR CL CV CW aB aO aW) (N : NeT CR CL CV CW) (c_mouth_here : CalG P w K mg base 1 "mouth_here" (spMouth CR)) (c_come_back : CalG P w K mg base 2 "come_back" (spCome K)) (c_first_state : CalG P w K mg base 1 "first_state" (spFirst CR)) : FnG P w K mg base (CXe P w) 3 f fd ["self"] (spWIn K CR CL CV CW aW) := by
  refine F.okG sc_Walkergo_in (fun vs H Q E h => ?_) (fun cdv A outer s H vs Q E hgd hr h => ?_)
  · obtain ⟨a, L, S, r, b, o, t, s, rfl, _⟩ := h; rfl
  · obtain ⟨a, L, S, r, b, o, t, s, rfl, hb, ht, hs, ho, hw, k0, k1⟩ := h
    refine ⟨_, (pss_cons (ps_par (i := 1) (j := 2) (by rfl) sc_Walkergo_in.nd rfl rfl (by decide) rfl rfl (pa_cons (pe_ix ix_list (pe_fld (pv 0) rfl) (pe_un un_neg pe_int) (fun _ _ => rfl)) (pa_cons (pe_ix ix_list (pe_fld (pv 0) rfl) (pe_un un_neg pe_int) (fun _ _ => rfl)) pa_nil)) (by rfl))
      (pss_cons (ps_set (i := 3) sc_Walkergo_in.nd rfl (Or.inl rfl) (pg_c c_mouth_here hgd hr (by first | decide | omega) (pa_cons (pe_fld (pv 1) rfl) (pa_cons (pv 2) pa_nil))))
      (pss_cons (ps_if (pt_cmpR op_eq (pv 3) pe_int (nomark _)) (pss_one (ps_ret pe_bl)) pss_nil)
      (pss_cons (ps_set (i := 4) sc_Walkergo_in.nd rfl (Or.inl rfl) (pe_ix ix_tup (pe_fld (pv 1) rfl) (pe_op op_sub (pv 3) pe_int) (fun _ _ => rfl)))
      (pss_cons (ps_asg (pg_c c_come_back hgd hr (by first | decide | omega) (pa_cons (pv 2) (pa_cons (pv 3) (pa_cons pe_non pa_nil)))) (pg_sub (pe_fld (pv 0) rfl) (pe_un un_neg pe_int) set_list))
      (pss_cons (ps_expr (pe_bm PySem.F.plainAttrs_list PySem.F.slot_list_append PySem.F.type_list_append mt_append (pe_fld (pv 0) rfl) (pa_cons (pv 4) pa_nil)))
      (pss_cons (ps_expr (pe_bm PySem.F.plainAttrs_list PySem.F.slot_list_append PySem.F.type_list_append mt_append (pe_fld (pv 0) rfl) (pa_cons (pg_c c_first_state hgd hr (by first | decide | omega) (pa_cons (pe_fld (pv 4) rfl) (pa_cons (pe_ix ix_tup (pv 2) pe_int (fun _ _ => rfl)) pa_nil))) pa_nil)))
      (pss_one (ps_ret pe_bl))))))))), ?_⟩
    obtain ⟨dx, e, lvs, sts, h1, h2, h3, h4, rfl, ⟨ls, l, rfl, l1, l2, l3⟩, ⟨us, u, rfl, u1, u2, u3⟩⟩ := hw
    have hW : WOk (trW b t) := ht.wok hb
    obtain ⟨la, ldx, lfs, rfl, hla⟩ := level_ins l3
    obtain ⟨vdx, R, c, n, d, cvs, v1, v2, v3, v4, v5⟩ := level_room l3
    rw [← trW_rows b, ← trW_wd b] at v2
    have v2' : RoomAt CR H R (trW b t).rows (trW b t).wd := v2
    have haS : a ≠ S := fun z => by rw [z, h3] at h1; cases h1
    have haL : a ≠ L := fun z => by rw [z, h2] at h1; cases h1
    obtain ⟨ua, uc, ug, uu, ub, rfl, ha', hc', hg', hu', hb'⟩ := id u3
    refine ⟨_, rfl, a, CW, dx, _, _, rfl, h1, T.clW, T.w_levels, rfl, _, rfl, L, _, -1, _, rfl, rfl, SqL.of h2, atI_last _ _, ?_⟩
    refine ⟨_, rfl, a, CW, dx, _, _, rfl, h1, T.clW, T.w_states, rfl, _, rfl, S, _, -1, _, rfl, rfl, SqL.of h3, atI_last _ _, ?_⟩
    refine ⟨_, _, rfl, ?_⟩
    refine ⟨_, rfl, la, CV, vdx, _, _, rfl, v1, T.clV, T.v_room, rfl, _, rfl, trW b t, R, .ref ua, s, rfl, hW, v2, u3, hs, fun H1 s1 => ?_⟩
    rw [trW_z]
    refine ⟨_, rfl, (rfl : scal _ _ = true), _, rfl, ?_⟩
    have hb0 : LvlsAt K CR CV H (ls ++ [.ref la]) o t := ⟨ls, _, rfl, l1, l2, l3⟩
    have hs0 : StsAt H (us ++ [.ref ua]) o s := ⟨us, _, rfl, u1, u2, u3⟩
    by_cases hm : mouthN (trZ t) s = 0
    · refine iteT' (decide_eq_true (by rw [hm]; rfl)) ?_
      refine k0 (by unfold inM; rw [if_pos hm]) H1 (Off.same s1) (WalkAt.same N.r N.v s1 ⟨dx, .non, _, _, h1, h2, h3, h4, rfl, hb0, hs0⟩)
    refine iteF' (fun z => hm (by have z := of_decide_eq_true z; injection z with z; omega)) ?_
    have hml := mouthN_le ht hs
    have hcl : mouthN (trZ t) s - 1 < cvs.length := by omega
    have ec := List.getElem?_eq_getElem hcl
    have et := List.getElem?_eq_getElem (show mouthN (trZ t) s - 1 < t.ch.length by omega)
    have hch := v5 _ _ _ ec et
    have hin : inM b o t s = some (.at_ (o ++ [⟨t, { s with us := withOne s.us (mouthN (trZ t) s : Nat) }⟩]) t.ch[mouthN (trZ t) s - 1] (begS (trW b t.ch[mouthN (trZ t) s - 1]) s.ba s.bb)) := by
      unfold inM
      rw [if_neg hm, et]
    generalize t.ch[mouthN (trZ t) s - 1] = u at hch hin
    generalize cvs[mouthN (trZ t) s - 1] = cv at hch ec
    refine ⟨_, rfl, la, CV, vdx, _, _, rfl, s1 _ _ v1, T.clV, T.v_children, rfl, _, rfl, _, _, rfl, rfl, c, cvs, (mouthN (trZ t) s : Int) - 1, cv, rfl, rfl, (v3.same s1).sq, by rw [show (mouthN (trZ t) s : Int) - 1 = ((mouthN (trZ t) s - 1 : Nat) : Int) by omega]; exact atI_nat ec, ?_⟩
    refine ⟨_, rfl, _, rfl, .ref ua, s, (mouthN (trZ t) s : Nat), rfl, u3.same s1, us_len hs, fun v' H2 s2 hN => ?_⟩
    have s12 := s1.trans s2
    refine ⟨_, rfl, a, CW, dx, _, _, rfl, s12 _ _ h1, T.clW, T.w_states, rfl, _, rfl, S, _, -1, us.length, rfl, rfl, s12 _ _ h3, ixN_last _ _, ?_⟩
    rw [set_last]
    have o3 : Off (Own a L S) H2 (upd H2 S (.lst (us ++ [v']))) := Off.mut (.inr (.inr rfl))
    have hS3 : (upd H2 S (.lst (us ++ [v']))) S = some (.lst (us ++ [v'])) := upd_same
    have hL3 : (upd H2 S (.lst (us ++ [v']))) L = some (.lst (ls ++ [.ref la])) := (upd_ne h4).trans (s12 _ _ h2)
    have ha3 : (upd H2 S (.lst (us ++ [v']))) a = some (.ins CW dx (walkF (.ref r) (.ref L) (.ref S) .non)) := (upd_ne haS).trans (s12 _ _ h1)
    have kx3 : KeepX CW H2 (upd H2 S (.lst (us ++ [v']))) := keep_own (s12 _ _ h1) (s12 _ _ h2) (s12 _ _ h3) o3
    generalize upd H2 S (.lst (us ++ [v'])) = H3 at o3 hS3 hL3 ha3 kx3 ⊢
    have hll : ls.length ≤ 100 := by omega
    refine ⟨_, rfl, a, CW, dx, _, _, rfl, ha3, T.clW, T.w_levels, rfl, .inl ⟨rfl, _, SqL.of hL3⟩, _, rfl, L, _, cv, rfl, rfl, hL3, sz (by rw [List.length_append]; show _ + 1 ≤ 1000; omega), ?_⟩
    have o4 : Off (Own a L S) H3 (upd H3 L (.lst (ls ++ [.ref la] ++ [cv]))) := Off.mut (.inr (.inl rfl))
    have hL4 : (upd H3 L (.lst (ls ++ [.ref la] ++ [cv]))) L = some (.lst (ls ++ [.ref la] ++ [cv])) := upd_same
    have hS4 : (upd H3 L (.lst (ls ++ [.ref la] ++ [cv]))) S = some (.lst (us ++ [v'])) := (upd_ne h4.symm).trans hS3
    have ha4 : (upd H3 L (.lst (ls ++ [.ref la] ++ [cv]))) a = some (.ins CW dx (walkF (.ref r) (.ref L) (.ref S) .non)) := (upd_ne haL).trans ha3
    have kx4 : KeepX CW H3 (upd H3 L (.lst (ls ++ [.ref la] ++ [cv]))) := keep_own ha3 hL3 hS3 o4
    generalize upd H3 L (.lst (ls ++ [.ref la] ++ [cv])) = H4 at o4 hL4 hS4 ha4 kx4 ⊢
    have kx24 := kx3.trans kx4
    have kx04 : KeepX CW H H4 := (KeepX.same s12).trans kx24
    have hch4 := LevelAt.keepX N.r N.v kx04 hch
    obtain ⟨ca, cdx, cfs, rfl, hca⟩ := level_ins hch4
    obtain ⟨cvdx, cR, cc, cn, cd, ccvs, w1, w2, w3, w4, w5⟩ := level_room hch4
    rw [← trW_rows b, ← trW_wd b] at w2
    refine ⟨_, rfl, a, CW, dx, _, _, rfl, ha4, T.clW, T.w_states, rfl, .inl ⟨rfl, _, SqL.of hS4⟩, _, rfl, ca, CV, cvdx, _, _, rfl, w1, T.clV, T.v_room, rfl, _, rfl, ua, _, 4, _, rfl, rfl, SqT.of (kx04.tup _ _ ha'), rfl, trW b u, cR, ub, s.ba, s.bb, rfl, w2, kx04.tup _ _ hb', fun v2' H5 s5 hv2 => ?_⟩
    refine ⟨S, _, v2', rfl, rfl, s5 _ _ hS4, sz (by rw [List.length_append]; show _ + 1 ≤ 1000; omega), ?_⟩
    have o6 : Off (Own a L S) H5 (upd H5 S (.lst (us ++ [v'] ++ [v2']))) := Off.mut (.inr (.inr rfl))
    have hS6 : (upd H5 S (.lst (us ++ [v'] ++ [v2']))) S = some (.lst (us ++ [v'] ++ [v2'])) := upd_same
    have hL6 : (upd H5 S (.lst (us ++ [v'] ++ [v2']))) L = some (.lst (ls ++ [.ref la] ++ [.ref ca])) := (upd_ne h4).trans (s5 _ _ hL4)
    have ha6 : (upd H5 S (.lst (us ++ [v'] ++ [v2']))) a = some (.ins CW dx (walkF (.ref r) (.ref L) (.ref S) .non)) := (upd_ne haS).trans (s5 _ _ ha4)
    have kx6 : KeepX CW H5 (upd H5 S (.lst (us ++ [v'] ++ [v2']))) := keep_own (s5 _ _ ha4) (s5 _ _ hL4) (s5 _ _ hS4) o6
    generalize upd H5 S (.lst (us ++ [v'] ++ [v2'])) = H6 at o6 hS6 hL6 ha6 kx6 ⊢
    have kx46 : KeepX CW H4 H6 := (KeepX.same s5).trans kx6
    have kx26 := kx24.trans kx46
    have kx06 := kx04.trans kx46
    refine k1 _ hin H6 ((((Off.same s12).trans o3).trans o4).trans ((Off.same s5).trans o6)) ⟨dx, .non, _, _, ha6, hL6, hS6, h4, rfl, ?_, ?_⟩
    · refine ⟨ls ++ [.ref la], .ref ca, rfl, by rw [List.length_append, List.length_append, l1]; rfl, fun i v f e1 e2 => ?_, LevelAt.keepX N.r N.v kx46 hch4⟩
      by_cases hi : i < ls.length
      · rw [List.getElem?_append_left hi] at e1
        rw [List.getElem?_append_left (by rw [← l1]; exact hi)] at e2
        exact LevelAt.keepX N.r N.v kx06 (l2 i v f e1 e2)
      · rw [List.getElem?_append_right (by omega)] at e1
        rw [List.getElem?_append_right (by rw [← l1]; omega), ← l1] at e2
        cases hk : i - ls.length with
        | zero => rw [hk] at e1 e2; cases e1; cases e2; exact LevelAt.keepX N.r N.v kx06 l3
        | succ k => rw [hk] at e1; cases e1
    · refine ⟨us ++ [v'], v2', rfl, by rw [List.length_append, List.length_append, u1]; rfl, fun i v f e1 e2 => ?_, StaAt.keep kx6.tup hv2⟩
      by_cases hi : i < us.length
      · rw [List.getElem?_append_left hi] at e1
        rw [List.getElem?_append_left (by rw [← u1]; exact hi)] at e2
        exact (u2 i v f e1 e2).keep kx06.tup
      · rw [List.getElem?_append_right (by omega)] at e1
        rw [List.getElem?_append_right (by rw [← u1]; omega), ← u1] at e2
        cases hk : i - us.length with
        | zero => rw [hk] at e1 e2; cases e1; cases e2; exact hN.keep kx26.tup
        | succ k => rw [hk] at e1; cases e1
def spWOut (K : PySem.W.Frag) (CR CL CV CW aW : Addr) : Sp := fun vs H Q _ => ∃ (a L S r : Addr) (b : Bk) (o : List Fr) (t : Tr) (s : Sta), vs = [.ref a] ∧ TOk t ∧ Ok (trW b t) s ∧ o.length ≤ 100 ∧ WalkAt K CR CV CW aW H a L S r (.at_ o t s) ∧
  (outM o t s = none → ∀ H', Off (Own a L S) H H' → WalkAt K CR CV CW aW H' a L S r (.at_ o t s) → Q (.bl false) H') ∧ (∀ q, outM o t s = some q → ∀ H', Off (Own a L S) H H' → WalkAt K CR CV CW aW H' a L S r q → Q (.bl true) H')
theorem ok_wout {f : Addr} {fd : FuncData} (F : Fun K "_go_out" "Walker._go_out" s_Walkergo_out f fd) (T : WkT P w K mg CR CL CV CW aB aO aW) (N : NeT CR CL CV CW) : FnG P w K mg base (CXe P w) 1 f fd ["self"] (spWOut K CR CL CV CW aW) := by
  refine F.okG sc_Walkergo_out (fun vs H Q E h => ?_) (fun cdv A outer s H vs Q E hgd hr h => ?_)
  · obtain ⟨a, L, S, r, b, o, t, s, rfl, _⟩ := h; rfl
  · obtain ⟨a, L, S, r, b, o, t, s, rfl, ht, hs, ho, hw, k0, k1⟩ := h
    refine ⟨_, (pss_cons (ps_par (i := 1) (j := 2) (by rfl) sc_Walkergo_out.nd rfl rfl (by decide) rfl rfl (pa_cons (pe_ix ix_tup (pe_ix ix_list (pe_fld (pv 0) rfl) (pe_un un_neg pe_int) (fun _ _ => rfl)) pe_int (fun _ _ => rfl)) (pa_cons (pe_ix ix_tup (pe_ix ix_list (pe_fld (pv 0) rfl) (pe_un un_neg pe_int) (fun _ _ => rfl)) pe_int (fun _ _ => rfl)) pa_nil)) (by rfl))
      (pss_cons (ps_if (pt_cmpR op_ne (pv 1) (pe_fld (pe_fld (pe_ix ix_list (pe_fld (pv 0) rfl) (pe_un un_neg pe_int) (fun _ _ => rfl)) rfl) rfl) (nomark _)) (pss_one (ps_ret pe_bl)) pss_nil)
      (pss_cons (ps_if (pt_cmpR op_eq (pe_callB call_len_seq (by rfl) T.n_len (by decide +kernel) (pa_cons (pe_fld (pv 0) rfl) pa_nil)) pe_int (nomark _)) (pss_cons (ps_fld (pv 0) (pe_tupA (pa_cons pe_str (pa_cons (pv 2) pa_nil))) rfl)
      (pss_one (ps_ret pe_bl))) pss_nil)
      (pss_cons (ps_expr (pe_bm0 PySem.F.plainAttrs_list PySem.F.slot_list_pop PySem.F.type_list_pop mt_pop (pe_fld (pv 0) rfl)))
      (pss_cons (ps_expr (pe_bm0 PySem.F.plainAttrs_list PySem.F.slot_list_pop PySem.F.type_list_pop mt_pop (pe_fld (pv 0) rfl)))
      (pss_cons (ps_asg (pe_op op_catA (pe_slice sl_tupA (pe_ix ix_list (pe_fld (pv 0) rfl) (pe_un un_neg pe_int) (fun _ _ => rfl)) po_none (po_some pe_int)) (pe_tupA (pa_cons (pv 2) pa_nil))) (pg_sub (pe_fld (pv 0) rfl) (pe_un un_neg pe_int) set_list))
      (pss_one (ps_ret pe_bl)))))))), ?_⟩
    obtain ⟨dx, e, lvs, sts, h1, h2, h3, h4, rfl, ⟨ls, l, rfl, l1, l2, l3⟩, ⟨us, u, rfl, u1, u2, u3⟩⟩ := hw
    have haS : a ≠ S := fun z => by rw [z, h3] at h1; cases h1
    have haL : a ≠ L := fun z => by rw [z, h2] at h1; cases h1
    obtain ⟨ua, uc, ug, uu, ub, rfl, ha', hc', hg', hu', hb'⟩ := id u3
    obtain ⟨la, ldx, lfs, rfl, hla⟩ := level_ins l3
    obtain ⟨vdx, R, c, n, d, cvs, v1, v2, v3, v4, v5⟩ := level_room l3
    obtain ⟨rdx, rt, rct, rpt, rnd, hrx, _⟩ := id v2.ex
    have ez : Txt.join "" (trW ⟨1, true, true⟩ t).rows = trZ t := by cases t; rfl
    rw [ez] at hrx
    refine ⟨_, rfl, a, CW, dx, _, _, rfl, h1, T.clW, T.w_states, rfl, _, rfl, S, _, -1, _, rfl, rfl, SqL.of h3, atI_last _ _, ua, _, 0, _, rfl, rfl, SqT.of ha', rfl, ?_⟩
    refine ⟨_, rfl, a, CW, dx, _, _, rfl, h1, T.clW, T.w_states, rfl, _, rfl, S, _, -1, _, rfl, rfl, SqL.of h3, atI_last _ _, ua, _, 4, _, rfl, rfl, SqT.of ha', rfl, ?_⟩
    refine ⟨_, _, rfl, ?_⟩
    refine ⟨_, rfl, _, rfl, a, CW, dx, _, _, rfl, h1, T.clW, T.w_levels, rfl, _, rfl, L, _, -1, _, rfl, rfl, SqL.of h2, atI_last _ _, la, CV, vdx, _, _, rfl, v1, T.clV, T.v_room, rfl, R, CR, rdx, _, _, rfl, hrx, T.clR, T.r_entry, rfl, (rfl : scal _ _ = true), _, rfl, ?_⟩
    have hb0 : LvlsAt K CR CV H (ls ++ [.ref la]) o t := ⟨ls, _, rfl, l1, l2, l3⟩
    have hs0 : StsAt H (us ++ [.ref ua]) o s := ⟨us, _, rfl, u1, u2, u3⟩
    by_cases hat : s.at_ = Txt.find (trZ t) "@"
    rotate_left
    · refine iteT' (by
        have : ¬ V.int s.at_ = V.int (Txt.find (trZ t) "@") := fun z => hat (by injection z)
        simpa using this) ?_
      exact k0 (by unfold outM; rw [if_pos hat]) H (Off.refl _) ⟨dx, .non, _, _, h1, h2, h3, h4, rfl, hb0, hs0⟩
    refine iteF' (by rw [hat]; simp) ?_
    refine ⟨_, rfl, a, CW, dx, _, _, rfl, h1, T.clW, T.w_states, rfl, S, _, rfl, .inl (SqL.of h3), (rfl : scal _ _ = true), _, rfl, ?_⟩
    rcases List.eq_nil_or_concat o with rfl | ⟨o', fr, rfl⟩
    · have eus : us = [] := List.eq_nil_of_length_eq_zero u1
      subst eus
      refine iteT' (decide_eq_true rfl) ?_
      refine ⟨_, rfl, And.intro (Nat.le_of_ble_eq_true rfl) fun q H1 n1 => ⟨_, rfl, a, CW, dx, _, rfl, n1.same _ _ h1, T.clW, T.w_end, (show 4 < 1000 by decide), ?_⟩⟩
      have ef : putF "end" (.ref q) (walkF (.ref r) (.ref L) (.ref S) .non) = walkF (.ref r) (.ref L) (.ref S) (.ref q) := rfl
      rw [ef]
      have qa : q ≠ a := fun z => by have := n1.free; rw [z, h1] at this; cases this
      have hba : ub ≠ a := fun z => by rw [z, h1] at hb'; cases hb'
      refine k1 (.out s.ba s.bb) (by unfold outM; rw [if_neg (fun z => z hat)]; rfl) _ ((Off.same n1.same).trans (Off.mut (.inl rfl))) ?_
      exact ⟨dx, _, _, _, upd_same, (upd_ne haL.symm).trans (n1.same _ _ h2), (upd_ne haS.symm).trans (n1.same _ _ h3), h4, q, ub, rfl, (upd_ne qa).trans n1.at_, (upd_ne hba).trans (n1.same _ _ hb')⟩
    rw [List.concat_eq_append] at *
    obtain ⟨us', uf, rfl⟩ : ∃ x y, us = x ++ [y] := by
      rcases List.eq_nil_or_concat us with rfl | ⟨x, y, e⟩
      · simp at u1
      · exact ⟨x, y, by rw [e, List.concat_eq_append]⟩
    obtain ⟨ls', lf, rfl⟩ : ∃ x y, ls = x ++ [y] := by
      rcases List.eq_nil_or_concat ls with rfl | ⟨x, y, e⟩
      · simp at l1
      · exact ⟨x, y, by rw [e, List.concat_eq_append]⟩
    have e1 : us'.length = o'.length := by simpa using u1
    have e2 : ls'.length = o'.length := by simpa using l1
    have huf : StaN H uf fr.s := u2 us'.length uf fr (by simp) (by rw [e1]; simp)
    have hlf : LevelAt K CR CV H lf fr.t := l2 ls'.length lf fr (by simp) (by rw [e2]; simp)
    refine iteF' (fun z => by
      have z := of_decide_eq_true z
      injection z with z
      simp only [List.length_append, List.length_singleton] at z
      omega) ?_
    refine ⟨_, rfl, a, CW, dx, _, _, rfl, h1, T.clW, T.w_levels, rfl, .inl ⟨rfl, _, SqL.of h2⟩, L, _, .ref la, rfl, rfl, h2, by simp, ?_⟩
    rw [List.dropLast_concat]
    have o3 : Off (Own a L S) H (upd H L (.lst (ls' ++ [lf]))) := Off.mut (.inr (.inl rfl))
    have hL3 : (upd H L (.lst (ls' ++ [lf]))) L = some (.lst (ls' ++ [lf])) := upd_same
    have hS3 : (upd H L (.lst (ls' ++ [lf]))) S = some (.lst (us' ++ [uf] ++ [.ref ua])) := (upd_ne h4.symm).trans h3
    have ha3 : (upd H L (.lst (ls' ++ [lf]))) a = some (.ins CW dx (walkF (.ref r) (.ref L) (.ref S) .non)) := (upd_ne haL).trans h1
    have kx3 : KeepX CW H (upd H L (.lst (ls' ++ [lf]))) := keep_own h1 h2 h3 o3
    generalize upd H L (.lst (ls' ++ [lf])) = H3 at o3 hL3 hS3 ha3 kx3 ⊢
    refine ⟨_, rfl, a, CW, dx, _, _, rfl, ha3, T.clW, T.w_states, rfl, .inl ⟨rfl, _, SqL.of hS3⟩, S, _, .ref ua, rfl, rfl, hS3, by simp, ?_⟩
    rw [List.dropLast_concat]
    have o4 : Off (Own a L S) H3 (upd H3 S (.lst (us' ++ [uf]))) := Off.mut (.inr (.inr rfl))
    have hS4 : (upd H3 S (.lst (us' ++ [uf]))) S = some (.lst (us' ++ [uf])) := upd_same
    have hL4 : (upd H3 S (.lst (us' ++ [uf]))) L = some (.lst (ls' ++ [lf])) := (upd_ne h4).trans hL3
    have ha4 : (upd H3 S (.lst (us' ++ [uf]))) a = some (.ins CW dx (walkF (.ref r) (.ref L) (.ref S) .non)) := (upd_ne haS).trans ha3
    have kx4 : KeepX CW H3 (upd H3 S (.lst (us' ++ [uf]))) := keep_own ha3 hL3 hS3 o4
    generalize upd H3 S (.lst (us' ++ [uf])) = H4 at o4 hL4 hS4 ha4 kx4 ⊢
    have kx04 := kx3.trans kx4
    obtain ⟨fa, fc, fg, fu, rfl, f1, f2, f3, f4⟩ := huf.keep kx04.tup
    refine ⟨_, rfl, a, CW, dx, _, _, rfl, ha4, T.clW, T.w_states, rfl, _, rfl, S, _, -1, _, rfl, rfl, SqL.of hS4, atI_last _ _, nopart_of ⟨_, rfl, slU f1 fun q H5 s5 hq => ?_⟩⟩
    have hcut : cutV [V.int fr.s.at_, V.ref fc, V.ref fg, V.ref fu, V.non] none (some 4) = [V.int fr.s.at_, V.ref fc, V.ref fg, V.ref fu] := rfl
    rw [hcut] at hq
    refine ⟨_, rfl, And.intro (Nat.le_of_ble_eq_true rfl) fun q6 H6 n6 => catU (n6.same _ _ hq) n6.at_ (Nat.le_of_lt (sz (show 4 + 1 ≤ 1000 by decide))) fun q7 H7 s7 hq7 => ?_⟩
    have s47 : Same H4 H7 := (Same.trans s5 n6.same).trans s7
    refine ⟨_, rfl, a, CW, dx, _, _, rfl, s47 _ _ ha4, T.clW, T.w_states, rfl, _, rfl, S, _, -1, us'.length, rfl, rfl, s47 _ _ hS4, ixN_last _ _, ?_⟩
    rw [set_last]
    have o8 : Off (Own a L S) H7 (upd H7 S (.lst (us' ++ [.ref q7]))) := Off.mut (.inr (.inr rfl))
    have hS8 : (upd H7 S (.lst (us' ++ [.ref q7]))) S = some (.lst (us' ++ [.ref q7])) := upd_same
    have hL8 : (upd H7 S (.lst (us' ++ [.ref q7]))) L = some (.lst (ls' ++ [lf])) := (upd_ne h4).trans (s47 _ _ hL4)
    have ha8 : (upd H7 S (.lst (us' ++ [.ref q7]))) a = some (.ins CW dx (walkF (.ref r) (.ref L) (.ref S) .non)) := (upd_ne haS).trans (s47 _ _ ha4)
    have kx8 : KeepX CW H7 (upd H7 S (.lst (us' ++ [.ref q7]))) := keep_own (s47 _ _ ha4) (s47 _ _ hL4) (s47 _ _ hS4) o8
    generalize upd H7 S (.lst (us' ++ [.ref q7])) = H8 at o8 hS8 hL8 ha8 kx8 ⊢
    have kx48 : KeepX CW H4 H8 := (KeepX.same s47).trans kx8
    have kx08 := kx04.trans kx48
    refine k1 (.at_ o' fr.t { fr.s with ba := s.ba, bb := s.bb }) (by
      unfold outM
      rw [if_neg (fun z => z hat), List.getLast?_concat, List.dropLast_concat]) H8 ((o3.trans o4).trans ((Off.same s47).trans o8)) ⟨dx, .non, _, _, ha8, hL8, hS8, h4, rfl, ?_, ?_⟩
    · refine ⟨ls', lf, rfl, e2, fun i v f z1 z2 => ?_, LevelAt.keepX N.r N.v kx08 hlf⟩
      have hi : i < ls'.length := (List.getElem?_eq_some_iff.mp z1).1
      exact LevelAt.keepX N.r N.v kx08 (l2 i v f (by rw [List.getElem?_append_left hi]; exact z1) (by rw [List.getElem?_append_left (by rw [← e2]; exact hi)]; exact z2))
    · refine ⟨us', .ref q7, rfl, e1, fun i v f z1 z2 => ?_, ?_⟩
      · have hi : i < us'.length := (List.getElem?_eq_some_iff.mp z1).1
        exact (u2 i v f (by rw [List.getElem?_append_left hi]; exact z1) (by rw [List.getElem?_append_left (by rw [← e1]; exact hi)]; exact z2)).keep kx08.tup
      · exact ⟨q7, fc, fg, fu, ub, rfl, kx8.tup _ _ hq7, kx48.tup _ _ f2, kx48.tup _ _ f3, kx48.tup _ _ f4, kx08.tup _ _ hb'⟩
end
section
variable {P : Program} {w : World} {K : PySem.W.Frag} {mg : Str → Option Value} {base : Heap} {CR CL CV CW aB aO aW : Addr}
theorem wayOf_letter {c : Nat} {wy : Way} {big : Bool} (h : wayOf c = some (wy, big)) : (⟨#[c]⟩ : Str) = letterOf wy big := by
  unfold wayOf at h
  repeat' split at h
  all_goals (first | (cases h; done) | skip)
  all_goals (cases h; rename_i e; subst e; decide +kernel)
theorem wayOf_mem (c : Nat) : c ∈ ("udlrUDLR" : Str).cps.toList ↔ (wayOf c).isSome = true := by
  have e : ("udlrUDLR" : Str).cps.toList = [117, 100, 108, 114, 85, 68, 76, 82] := by decide +kernel
  rw [e]
  unfold wayOf
  simp only [List.mem_cons, List.not_mem_nil, or_false]
  repeat' split
  all_goals simp_all
def goP (b : Bk) : Ps → Nat → Option Ps
  | .at_ o t s, c => goM b o t s c
  | _, _ => none
def spWDo (K : PySem.W.Frag) (CR CL CV CW aW : Addr) : Sp := fun vs H Q _ => ∃ (a L S r : Addr) (b : Bk) (rt : Tr) (p : Ps) (c : Nat), vs = [.ref a, .str ⟨#[c]⟩] ∧ BOk b ∧ TOk rt ∧ rt.cnt ≤ 100 ∧ RulesIs CL H r (trW b rt) ∧ PsOk b rt p ∧ WalkAt K CR CV CW aW H a L S r p ∧
  (goP b p c = none → ∀ H', Off (Own a L S) H H' → WalkAt K CR CV CW aW H' a L S r p → Q (.bl false) H') ∧ (∀ q, goP b p c = some q → ∀ H', Off (Own a L S) H H' → WalkAt K CR CV CW aW H' a L S r q → Q (.bl true) H')
theorem ok_wdo {f : Addr} {fd : FuncData} (F : Fun K "_do" "Walker._do" s_Walkerdo f fd) (T : WkT P w K mg CR CL CV CW aB aO aW) (N : NeT CR CL CV CW)
    (t_Walker__step : MetG P w K mg base 4 CW "_step" (spWStep K CR CL CV CW aW)) (t_Walker__go_in : MetG P w K mg base 3 CW "_go_in" (spWIn K CR CL CV CW aW)) (t_Walker__go_out : MetG P w K mg base 1 CW "_go_out" (spWOut K CR CL CV CW aW)) : FnG P w K mg base (CXe P w) 5 f fd ["self", "letter"] (spWDo K CR CL CV CW aW) := by
  refine F.okG sc_Walkerdo (fun vs H Q E h => ?_) (fun cdv A outer s H vs Q E hgd hr h => ?_)
  · obtain ⟨a, L, S, r, b, rt, p, c, rfl, _⟩ := h; rfl
  · obtain ⟨a, L, S, r, b, rt, p, c, rfl, hb, ht, hc, hru, hp, hw, k0, k1⟩ := h
    refine ⟨_, (pss_cons (ps_if (pt_cmpR op_notN (pe_fld (pv 0) rfl) pe_non (nomark _)) (pss_one (ps_ret pe_bl)) pss_nil)
      (pss_cons (ps_if (pt_cmpR op_eq (pv 1) pe_str (nomark _)) (pss_one (ps_ret (pg_mt0 t_Walker__go_in hgd hr (by first | decide | omega) (pv 0)))) pss_nil)
      (pss_cons (ps_if (pt_cmpR op_eq (pv 1) pe_str (nomark _)) (pss_one (ps_ret (pg_mt0 t_Walker__go_out hgd hr (by first | decide | omega) (pv 0)))) pss_nil)
      (pss_one (ps_ret (pe_and (pe_cmpR op_in_sign (pv 1) (pe_glob (v := .str "udlrUDLR") rfl (Exists.choose_spec T.k_STEPS_WITH_PULLING) ⟨_, rfl⟩) (by rfl)) (pe_one (pg_mt t_Walker__step hgd hr (by first | decide | omega) (pv 0) (pa_cons (pv 1) pa_nil))))))))), ?_⟩
    have hcs : ∀ k : Nat, (V.str ⟨#[c]⟩ = V.str ⟨#[k]⟩) ↔ c = k := fun k => ⟨fun z => by injection z with z; injection z with z; simpa using z, fun z => by rw [z]⟩
    have e105 : ("i" : Str) = ⟨#[105]⟩ := by decide +kernel
    have e111 : ("o" : Str) = ⟨#[111]⟩ := by decide +kernel
    obtain ⟨dx, e, lvs, sts, h1, h2, h3, h4, h5⟩ := id hw
    refine ⟨_, rfl, a, CW, dx, _, _, rfl, h1, T.clW, T.w_end, rfl, ?_⟩
    refine ⟨rfl, _, rfl, ?_⟩
    have none_ : ∀ p', p = p' → (∀ o t s, p' ≠ .at_ o t s) → Q (.bl false) H := fun p' e n => k0 (by rw [e]; cases p' with
      | at_ o t s => exact absurd rfl (n o t s)
      | won => rfl
      | out x y => rfl) H (Off.refl _) hw
    cases p with
    | won =>
      obtain rfl : e = .ref aW := h5
      exact iteT' (by simp) (none_ _ rfl (fun _ _ _ z => by cases z))
    | out x y =>
      obtain ⟨q, g, rfl, _⟩ := h5
      exact iteT' (by simp) (none_ _ rfl (fun _ _ _ z => by cases z))
    | at_ o t s =>
    obtain ⟨rfl, h6, h7⟩ := h5
    refine iteF' (by simp) ?_
    obtain ⟨hch, hfo, hs⟩ := hp
    obtain ⟨htt, hff⟩ := hch.ok ht
    have hol : o.length ≤ 100 := by have := hch.short; omega
    refine ⟨_, rfl, (rfl : scal _ _ = true), _, rfl, ?_⟩
    rw [e105]
    by_cases hi : c = 105
    · refine iteT' (decide_eq_true ((hcs _).mpr hi)) ?_
      refine ⟨_, rfl, a, dx, _, rfl, h1, rfl, a, L, S, r, b, o, t, s, rfl, hb, htt, hs, hol, hw, fun hn H' ofs hw' => k0 (by show goM b o t s c = none; unfold goM; rw [if_pos hi]; exact hn) H' ofs hw', fun q hq H' ofs hw' => k1 q (by show goM b o t s c = some q; unfold goM; rw [if_pos hi]; exact hq) H' ofs hw'⟩
    refine iteF' (fun z => hi ((hcs _).mp (of_decide_eq_true z))) ?_
    refine ⟨_, rfl, (rfl : scal _ _ = true), _, rfl, ?_⟩
    rw [e111]
    by_cases ho : c = 111
    · refine iteT' (decide_eq_true ((hcs _).mpr ho)) ?_
      refine ⟨_, rfl, a, dx, _, rfl, h1, rfl, a, L, S, r, b, o, t, s, rfl, htt, hs, hol, hw, fun hn H' ofs hw' => k0 (by show goM b o t s c = none; unfold goM; rw [if_neg hi, if_pos ho]; exact hn) H' ofs hw', fun q hq H' ofs hw' => k1 q (by show goM b o t s c = some q; unfold goM; rw [if_neg hi, if_pos ho]; exact hq) H' ofs hw'⟩
    refine iteF' (fun z => ho ((hcs _).mp (of_decide_eq_true z))) ?_
    refine ⟨_, rfl, c, "udlrUDLR", rfl, rfl, ?_⟩
    have hgo : goM b o t s c = (match wayOf c with | none => none | some (w, big) => stepM b o t s w big) := by unfold goM; rw [if_neg hi, if_neg ho]; try (cases wayOf c <;> rfl)
    by_cases hin : c ∈ ("udlrUDLR" : Str).cps.toList
    rotate_left
    · refine ⟨_, rfl, ?_⟩
      rw [if_neg (by simp [hin])]
      have hn : wayOf c = none := by
        cases e : wayOf c with
        | none => rfl
        | some v => exact absurd ((wayOf_mem c).mpr (by rw [e]; rfl)) hin
      exact k0 (by show goM b o t s c = none; rw [hgo, hn]) H (Off.refl _) hw
    · refine ⟨_, rfl, ?_⟩
      rw [if_pos (by simp [hin])]
      obtain ⟨⟨wy, big⟩, ew⟩ := Option.isSome_iff_exists.mp ((wayOf_mem c).mp hin)
      have hru' : RulesIs CL H r (trW b t) := rules_any hru
      refine ⟨_, rfl, a, dx, _, rfl, h1, rfl, _, rfl, a, L, S, r, b, o, t, s, wy, big, by rw [← wayOf_letter ew], hb, htt, hru', hs, hw, fun hn H' ofs hw' => ?_, fun q hq H' ofs hw' => ?_⟩
      · exact k0 (by show goM b o t s c = none; rw [hgo, ew]; exact hn) H' ofs hw'
      · exact k1 q (by show goM b o t s c = some q; rw [hgo, ew]; exact hq) H' ofs hw'
end
section
variable {P : Program} {w : World} {K : PySem.W.Frag} {mg : Str → Option Value} {base : Heap} {CR CL CV CW aB aO aW : Addr}
def spWOn (K : PySem.W.Frag) (CR CL CV CW aW : Addr) : Sp := fun vs H Q _ => ∃ (a L S r : Addr) (b : Bk) (rt : Tr) (p : Ps) (z : Str), vs = [.ref a, .str z] ∧ z.length ≤ sizeLine ∧ BOk b ∧ TOk rt ∧ rt.cnt ≤ 100 ∧ RulesIs CL H r (trW b rt) ∧ PsOk b rt p ∧ WalkAt K CR CV CW aW H a L S r p ∧
  ∀ H', Off (Own a L S) H H' → WalkAt K CR CV CW aW H' a L S r (walkM b p z.cps.toList).2 → Q (.int (walkM b p z.cps.toList).1) H'
theorem ok_won {f : Addr} {fd : FuncData} (F : Fun K "walk_on" "Walker.walk_on" s_Walker_walk_on f fd) (T : WkT P w K mg CR CL CV CW aB aO aW) (N : NeT CR CL CV CW) (n_enumerate : mg "enumerate" = none)
    (t_Walker__do : MetG P w K mg base 5 CW "_do" (spWDo K CR CL CV CW aW)) : FnG P w K mg base (CXe P w) 6 f fd ["self", "play"] (spWOn K CR CL CV CW aW) := by
  refine F.okG sc_Walker_walk_on (fun vs H Q E h => ?_) (fun cdv A outer s H vs Q E hgd hr h => ?_)
  · obtain ⟨a, L, S, r, b, rt, p, z, rfl, _⟩ := h; rfl
  · obtain ⟨a, L, S, r, b, rt, p, z, rfl, hz, hb, ht, hc', hru, hp, hw, k1⟩ := h
    refine ⟨_, (pss_cons (ps_for (passes_of rfl) rfl (pi_enumS (by rfl) n_enumerate (pa_cons (pv 1) pa_nil)) (pg_tup (by rfl) (pgs_cons (pg_name (i := 2) sc_Walker_walk_on.nd rfl (Or.inl rfl)) (pgs_cons (pg_name (i := 3) sc_Walker_walk_on.nd rfl (Or.inl rfl)) pgs_nil)))
      (pss_one (ps_if (pt_not (pt_val (pg_mt t_Walker__do hgd hr (by first | decide | omega) (pv 0) (pa_cons (pv 3) pa_nil)))) (pss_one (ps_ret (pv 2))) pss_nil)))
      (pss_one (ps_ret (pe_callB call_len_str (by rfl) T.n_len (by decide +kernel) (pa_cons (pv 1) pa_nil))))), ?_⟩
    refine ⟨_, rfl, z, rfl, ?_⟩
    refine for_it walk_enS (fun i σ H' => ∃ (o1 o2 : Option V), σ = [some (.ref a), some (.str z), o1, o2] ∧ Off (Own a L S) H H' ∧ ∃ q, PsOk b rt q ∧ WalkAt K CR CV CW aW H' a L S r q ∧ walkM b p z.cps.toList = (i + (walkM b q (z.cps.toList.drop i)).1, (walkM b q (z.cps.toList.drop i)).2)) ⟨none, none, rfl, Off.refl _, p, hp, hw, by simp⟩ (fun i σ H' _ hp => trivial) ?_ ?_
    · rintro i x σ H2 H3 hi ⟨o1, o2, rfl, ofs, q, hq, hwq, hm⟩ ⟨T', x1, y1, rfl, hT, rfl, e1, e2⟩
      cases e1
      have hc : z.cps[i]? = some (z.cps[i]'hi) := by simp [hi]
      have e2 : Option.map (fun c => V.str ⟨#[c]⟩) z.cps[i]? = some y1 := e2
      rw [hc] at e2
      cases e2
      refine ⟨T', _, rfl, SqT.of upd_same, rfl, _, _, rfl, _, _, rfl, rfl, ?_⟩
      have s3 : Same H2 (upd H2 T' (.tup [.int (i : Nat), .str ⟨#[z.cps[i]'hi]⟩])) := same_new hT
      have hw3 := WalkAt.same N.r N.v s3 hwq
      generalize upd H2 T' (.tup [.int (i : Nat), .str ⟨#[z.cps[i]'hi]⟩]) = H3 at s3 hw3 ⊢
      have o3 : Off (Own a L S) H H3 := ofs.trans (Off.same s3)
      have hr3 : RulesIs CL H3 r (trW b rt) := by
        obtain ⟨dx, e, lvs, sts, h1, h2, h3, _⟩ := hw
        exact RulesIs.keepX N.l (keep_own h1 h2 h3 o3) hru
      obtain ⟨dx, e, lvs, sts, h1, h2, h3, h4, h5⟩ := id hw3
      have hd : z.cps.toList.drop i = (z.cps[i]'hi) :: z.cps.toList.drop (i + 1) := by
        rw [List.drop_eq_getElem_cons (by simpa using hi)]; simp
      rw [hd] at hm
      refine ⟨_, rfl, a, dx, _, rfl, h1, rfl, _, rfl, a, L, S, r, b, rt, q, z.cps[i]'hi, rfl, hb, ht, hc', hr3, hq, hw3, fun hn H4 o4 hw4 => ?_, fun q' hq' H4 o4 hw4 => ?_⟩
      · have e0 : walkM b q ((z.cps[i]'hi) :: z.cps.toList.drop (i + 1)) = (0, q) := by
          cases q with
          | at_ o t s => unfold walkM; rw [show goM b o t s (z.cps[i]'hi) = none from hn]
          | won => rfl
          | out x y => rfl
        rw [e0] at hm
        refine ⟨_, rfl, iteT' rfl ⟨_, rfl, ?_⟩⟩
        have k2 := k1 H4 (o3.trans o4)
        rw [hm] at k2
        exact k2 hw4
      · have e0 : walkM b q ((z.cps[i]'hi) :: z.cps.toList.drop (i + 1)) = ((walkM b q' (z.cps.toList.drop (i + 1))).1 + 1, (walkM b q' (z.cps.toList.drop (i + 1))).2) := by
          cases q with
          | at_ o t s => rw [walkM, show goM b o t s (z.cps[i]'hi) = some q' from hq']
          | won => cases hq'
          | out x y => cases hq'
        rw [e0] at hm
        refine ⟨_, rfl, iteF' (by simp) ?_⟩
        have hq2 : PsOk b rt q' := by
          cases q with
          | at_ o t s => exact go_ok hb ht hq hq'
          | won => cases hq'
          | out x y => cases hq'
        exact ⟨_, _, rfl, o3.trans o4, q', hq2, hw4, by rw [hm]; exact Prod.ext (by show i + (_ + 1) = _; omega) rfl⟩
    · rintro σ H2 ⟨o1, o2, rfl, ofs, q, hq, hwq, hm⟩
      have hd : z.cps.toList.drop z.cps.size = [] := by simp
      rw [hd] at hm
      have e0 : walkM b q [] = (0, q) := by cases q <;> rfl
      rw [e0] at hm
      refine ⟨_, rfl, z, rfl, hz, ?_⟩
      have k2 := k1 H2 ofs
      rw [hm] at k2
      exact k2 hwq
end
section
variable {P : Program} {w : World} {K : PySem.W.Frag} {mg : Str → Option Value} {base : Heap} {CR CL CV CW aB aO aW : Addr}
theorem putW (r L S e : V) : putF "end" e (putF "states" S (putF "levels" L (putF "rules" r []))) = walkF r L S e := by
  have e1 : ¬ (("rules" : Str) = "levels") := by decide +kernel
  have e2 : ¬ (("rules" : Str) = "states") := by decide +kernel
  have e3 : ¬ (("rules" : Str) = "end") := by decide +kernel
  have e4 : ¬ (("levels" : Str) = "states") := by decide +kernel
  have e5 : ¬ (("levels" : Str) = "end") := by decide +kernel
  have e6 : ¬ (("states" : Str) = "end") := by decide +kernel
  unfold walkF
  simp only [putF, e1, e2, e3, e4, e5, e6, if_false]
def spWInit (K : PySem.W.Frag) (CR CL CV CW aW : Addr) : Sp := fun vs H Q _ => ∃ (x dx r bk : Addr) (y : V) (t : Tr) (b : Bk) (ba bb : Int), vs = [.ref x, y, .ref r, .ref bk] ∧ H x = some (.ins CW dx []) ∧ LevelAt K CR CV H y t ∧ H bk = some (.tup [.int ba, .int bb]) ∧
  ∀ H' L S, H L = none → H S = none → WalkAt K CR CV CW aW H' x L S r (.at_ [] t (begS (trW b t) ba bb)) → Off (fun z => z = x) H H' → Q .non H'
theorem off_none {D : Addr → Prop} {H H' : Hp} (o : Off D H H') {a : Addr} (h : H' a = none) (n : ¬ D a) : H a = none := by
  cases e : H a with
  | none => rfl
  | some u => rw [o a u n e] at h; cases h
theorem ok_winit {f : Addr} {fd : FuncData} (F : Fun K "__init__" "Walker.__init__" s_Walker_init f fd) (T : WkT P w K mg CR CL CV CW aB aO aW) (N : NeT CR CL CV CW) (c_first_state : CalG P w K mg base 1 "first_state" (spFirst CR)) :
    FnG P w K mg base (CXe P w) 2 f fd ["self", "level", "rules", "bag"] (spWInit K CR CL CV CW aW) := by
  refine F.okG sc_Walker_init (fun vs H Q E h => ?_) (fun cdv A outer s H vs Q E hgd hr h => ?_)
  · obtain ⟨x, dx, r, bk, y, t, b, ba, bb, rfl, _⟩ := h; rfl
  · obtain ⟨x, dx, r, bk, y, t, b, ba, bb, rfl, hx, hy, hb, k⟩ := h
    refine ⟨_, (pss_cons (ps_fld (pv 0) (pv 2) rfl)
      (pss_cons (ps_fld (pv 0) (pe_lstA (pa_cons (pv 1) pa_nil)) rfl)
      (pss_cons (ps_fld (pv 0) (pe_lstA (pa_cons (pg_c c_first_state hgd hr (by first | decide | omega) (pa_cons (pe_fld (pv 1) rfl) (pa_cons (pv 3) pa_nil))) pa_nil)) rfl)
      (pss_one (ps_fld (pv 0) pe_non rfl))))), ?_⟩
    obtain ⟨la, ldx, lfs, rfl, hla⟩ := level_ins hy
    have xl : x ≠ la := fun z => by
      obtain ⟨vdx, R, c, n, d, cvs, v1, _⟩ := level_room hy
      rw [← z, hx] at v1
      exact N.v (by injection v1 with v1; injection v1 with v1 _ _; exact v1.symm)
    refine ⟨_, rfl, _, rfl, x, CW, dx, _, rfl, hx, T.clW, T.w_rules, (show 0 < 1000 by decide), ?_⟩
    have o1 : Off (fun z => z = x) H (upd H x (.ins CW dx (putF "rules" (.ref r) []))) := Off.mut rfl
    have kx1 : KeepX CW H (upd H x (.ins CW dx (putF "rules" (.ref r) []))) := fun b u e n1 n2 => o1 b u (fun z => by rw [z, hx] at e; exact n2 _ _ (Option.some.inj e).symm) e
    have hx1 : (upd H x (.ins CW dx (putF "rules" (.ref r) []))) x = some (.ins CW dx (putF "rules" (.ref r) [])) := upd_same
    generalize upd H x (.ins CW dx (putF "rules" (.ref r) [])) = H1 at o1 kx1 hx1 ⊢
    refine ⟨_, rfl, And.intro (Nat.le_of_ble_eq_true rfl) fun L H2 n2 => ?_⟩
    refine ⟨_, rfl, x, CW, dx, _, rfl, n2.same _ _ hx1, T.clW, T.w_levels, (show 1 < 1000 by decide), ?_⟩
    have xL : x ≠ L := fun z => by have := n2.free; rw [← z, hx1] at this; cases this
    have o2 : Off (fun z => z = x) H2 (upd H2 x (.ins CW dx (putF "levels" (.ref L) (putF "rules" (.ref r) [])))) := Off.mut rfl
    have kx2 : KeepX CW H2 (upd H2 x (.ins CW dx (putF "levels" (.ref L) (putF "rules" (.ref r) [])))) := fun b u e n1 n2' => o2 b u (fun z => by rw [z, n2.same _ _ hx1] at e; exact n2' _ _ (Option.some.inj e).symm) e
    have hx2 : (upd H2 x (.ins CW dx (putF "levels" (.ref L) (putF "rules" (.ref r) [])))) x = some (.ins CW dx (putF "levels" (.ref L) (putF "rules" (.ref r) []))) := upd_same
    have hL2 : (upd H2 x (.ins CW dx (putF "levels" (.ref L) (putF "rules" (.ref r) [])))) L = some (.lst [.ref la]) := (upd_ne xL.symm).trans n2.at_
    generalize upd H2 x (.ins CW dx (putF "levels" (.ref L) (putF "rules" (.ref r) []))) = H3 at o2 kx2 hx2 hL2 ⊢
    have kx03 : KeepX CW H H3 := (kx1.trans (KeepX.same n2.same)).trans kx2
    have o03 : Off (fun z => z = x) H H3 := (o1.trans (Off.same n2.same)).trans o2
    have hy3 := LevelAt.keepX N.r N.v kx03 hy
    obtain ⟨vdx, R, c, n, d, cvs, v1, v2, v3, v4, v5⟩ := level_room hy3
    rw [← trW_rows b, ← trW_wd b] at v2
    refine ⟨_, rfl, la, CV, vdx, _, _, rfl, v1, T.clV, T.v_room, rfl, _, rfl, trW b t, R, bk, ba, bb, rfl, v2, kx03.tup _ _ hb, fun v H4 s4 hv => ?_⟩
    refine And.intro (Nat.le_of_ble_eq_true rfl) fun S H5 n5 => ?_
    have s35 := s4.trans n5.same
    refine ⟨_, rfl, x, CW, dx, _, rfl, s35 _ _ hx2, T.clW, T.w_states, (show 2 < 1000 by decide), ?_⟩
    have xS : x ≠ S := fun z => by have := n5.free; rw [← z, s4 _ _ hx2] at this; cases this
    have LS : L ≠ S := fun z => by have := n5.free; rw [← z, s4 _ _ hL2] at this; cases this
    have o5 : Off (fun z => z = x) H5 (upd H5 x (.ins CW dx (putF "states" (.ref S) (putF "levels" (.ref L) (putF "rules" (.ref r) []))))) := Off.mut rfl
    have kx5 : KeepX CW H5 (upd H5 x (.ins CW dx (putF "states" (.ref S) (putF "levels" (.ref L) (putF "rules" (.ref r) []))))) := fun b u e n1 n2' => o5 b u (fun z => by rw [z, s35 _ _ hx2] at e; exact n2' _ _ (Option.some.inj e).symm) e
    have hx5 : (upd H5 x (.ins CW dx (putF "states" (.ref S) (putF "levels" (.ref L) (putF "rules" (.ref r) []))))) x = some (.ins CW dx (putF "states" (.ref S) (putF "levels" (.ref L) (putF "rules" (.ref r) [])))) := upd_same
    have hL5 : (upd H5 x (.ins CW dx (putF "states" (.ref S) (putF "levels" (.ref L) (putF "rules" (.ref r) []))))) L = some (.lst [.ref la]) := (upd_ne xL.symm).trans (s35 _ _ hL2)
    have hS5 : (upd H5 x (.ins CW dx (putF "states" (.ref S) (putF "levels" (.ref L) (putF "rules" (.ref r) []))))) S = some (.lst [v]) := (upd_ne xS.symm).trans n5.at_
    generalize upd H5 x (.ins CW dx (putF "states" (.ref S) (putF "levels" (.ref L) (putF "rules" (.ref r) [])))) = H6 at o5 kx5 hx5 hL5 hS5 ⊢
    refine ⟨_, rfl, x, CW, dx, _, rfl, hx5, T.clW, T.w_end, (show 3 < 1000 by decide), ?_⟩
    rw [putW]
    have o6 : Off (fun z => z = x) H6 (upd H6 x (.ins CW dx (walkF (.ref r) (.ref L) (.ref S) .non))) := Off.mut rfl
    have kx6 : KeepX CW H6 (upd H6 x (.ins CW dx (walkF (.ref r) (.ref L) (.ref S) .non))) := fun b u e n1 n2' => o6 b u (fun z => by rw [z, hx5] at e; exact n2' _ _ (Option.some.inj e).symm) e
    have kx46 := ((KeepX.same n5.same).trans kx5).trans kx6
    refine k _ L S (off_none o1 n2.free (fun z => xL z.symm)) (off_none (o03.trans (Off.same s4)) n5.free (fun z => xS z.symm)) ⟨dx, .non, _, _, upd_same, (upd_ne xL.symm).trans hL5, (upd_ne xS.symm).trans hS5, LS, rfl, ?_, ?_⟩ (((o03.trans (Off.same s35)).trans o5).trans o6)
    · exact ⟨[], _, rfl, rfl, fun i v f e1 e2 => (by cases e1), LevelAt.keepX N.r N.v ((KeepX.same s4).trans kx46) hy3⟩
    · exact ⟨[], v, rfl, rfl, fun i v f e1 e2 => (by cases e1), StaAt.keep kx46.tup hv⟩
/-- a position, or how a play has ended, as a value -/
def PosAt (aW : Addr) (H : Hp) (v : V) : Ps → Prop
  | .at_ o _ s => ∃ a vs, v = .ref a ∧ H a = some (.tup vs) ∧ StsAt H vs o s
  | .won => v = .ref aW
  | .out x y => ∃ q g, v = .ref q ∧ H q = some (.tup [.str "out", .ref g]) ∧ H g = some (.tup [.int x, .int y])
theorem PosAt.keep {H H' : Hp} (k : ∀ (a : Addr) (xs : List V), H a = some (.tup xs) → H' a = some (.tup xs)) {v : V} {p : Ps} (h : PosAt aW H v p) : PosAt aW H' v p := by
  cases p with
  | at_ o t s =>
    obtain ⟨a, vs, e, h1, us, u, e2, h2, h3, h4⟩ := h
    exact ⟨a, vs, e, k _ _ h1, us, u, e2, h2, fun i v f z1 z2 => (h3 i v f z1 z2).keep k, StaAt.keep k h4⟩
  | won => exact h
  | out x y =>
    obtain ⟨q, g, h1, h2, h3⟩ := h
    exact ⟨q, g, h1, k _ _ h2, k _ _ h3⟩
def spPlace (K : PySem.W.Frag) (CR CL CV CW aW : Addr) : Sp := fun vs H Q _ => ∃ (a L S r : Addr) (p : Ps), vs = [.ref a] ∧ WalkAt K CR CV CW aW H a L S r p ∧ ∀ v H', Same H H' → PosAt aW H' v p → Q v H'
theorem ok_place {f : Addr} {fd : FuncData} (F : Fun K "place" "Walker.place" s_Walker_place f fd) (T : WkT P w K mg CR CL CV CW aB aO aW) : FnG P w K mg base (CXe P w) 1 f fd ["self"] (spPlace K CR CL CV CW aW) := by
  refine F.okG sc_Walker_place (fun vs H Q E h => ?_) (fun cdv A outer s H vs Q E hgd hr h => ?_)
  · obtain ⟨a, L, S, r, p, rfl, _⟩ := h; rfl
  · obtain ⟨a, L, S, r, p, rfl, hw, k⟩ := h
    refine ⟨_, (pss_one (ps_ret (pe_ifExp (pt_cmpR op_isN (pe_fld (pv 0) rfl) pe_non (nomark _)) (pe_callTy call_tuple_of (by rfl) T.n_tuple (by decide +kernel) (pa_cons (pe_fld (pv 0) rfl) pa_nil)) (pe_fld (pv 0) rfl)))), ?_⟩
    obtain ⟨dx, e, lvs, sts, h1, h2, h3, h4, h5⟩ := id hw
    refine ⟨_, rfl, a, CW, dx, _, _, rfl, h1, T.clW, T.w_end, rfl, rfl, _, rfl, ?_⟩
    cases p with
    | won =>
      obtain rfl : e = .ref aW := h5
      refine iteF' (by simp) ?_
      exact ⟨_, rfl, a, CW, dx, _, _, rfl, h1, T.clW, T.w_end, rfl, k _ H (Same.refl _) rfl⟩
    | out x y =>
      obtain ⟨q, g, rfl, h6, h7⟩ := h5
      refine iteF' (by simp) ?_
      exact ⟨_, rfl, a, CW, dx, _, _, rfl, h1, T.clW, T.w_end, rfl, k _ H (Same.refl _) ⟨q, g, rfl, h6, h7⟩⟩
    | at_ o t s =>
      obtain ⟨rfl, h6, h7⟩ := h5
      refine iteT' (by simp) ?_
      refine ⟨_, rfl, a, CW, dx, _, _, rfl, h1, T.clW, T.w_states, rfl, ?_⟩
      refine ⟨S, sts, rfl, .inl ⟨SqL.of h3, fun l hl => ?_⟩⟩
      have s1 : Same H (upd H l (.tup sts)) := same_new hl
      exact k _ _ s1 ⟨l, sts, rfl, upd_same, h7.keepX (CW := CW) (KeepX.same s1)⟩
end
theorem sc_is_bag : FnScope ["rules", "thing", "many"] ["rules", "thing"] (defScope s_is_bag) := ⟨rfl, rfl, rfl, by decide +kernel, rfl, by decide +kernel, by decide +kernel⟩
theorem sc_need_bag : FnScope ["rules", "bag"] ["rules", "bag"] (defScope s_need_bag) := ⟨rfl, rfl, rfl, by decide +kernel, rfl, by decide +kernel, by decide +kernel⟩
theorem sc__need_start : FnScope ["level", "rules", "bag"] ["level", "rules", "bag"] (defScope s__need_start) := ⟨rfl, rfl, rfl, by decide +kernel, rfl, by decide +kernel, by decide +kernel⟩
theorem sc_walked : FnScope ["level", "rules", "bag", "play", "walker", "done"] ["level", "rules", "bag", "play"] (defScope s_walked) := ⟨rfl, rfl, rfl, by decide +kernel, rfl, by decide +kernel, by decide +kernel⟩
theorem sc_walk : FnScope ["level", "rules", "bag", "play"] ["level", "rules", "bag", "play"] (defScope s_walk) := ⟨rfl, rfl, rfl, by decide +kernel, rfl, by decide +kernel, by decide +kernel⟩
theorem sc_is_play : FnScope ["level", "rules", "bag", "thing"] ["level", "rules", "bag", "thing"] (defScope s_is_play) := ⟨rfl, rfl, rfl, by decide +kernel, rfl, by decide +kernel, by decide +kernel⟩
section
variable {P : Program} {w : World} {K : PySem.W.Frag} {mg : Str → Option Value} {base : Heap} {CR CL CV CW aB aO aW LB LF GB GF PB PF VE : Addr}
structure PlT (P : Program) (w : World) (K : PySem.W.Frag) (mg : Str → Option Value) (CR CL CV CW aB aO aW LB LF GB GF PB PF VE : Addr) : Prop extends WkT P w K mg CR CL CV CW aB aO aW where
  g_Rules : mg "Rules" = some (.ref CL)
  g_Walker : mg "Walker" = some (.ref CW)
  x_BadRules : RX.ErrT P K mg "BadRules" "value" LB LF
  x_BadBag : RX.ErrT P K mg "BadBag" "value" GB GF
  x_BadPlay : RX.ErrT P K mg "BadPlay" "at" PB PF
  icL : C8.InsC K CL
  icV : C8.InsC K CV
  ne : NeT CR CL CV CW
theorem tyTup {H : Hp} {a : Addr} {xs : List V} (h : H a = some (.tup xs)) : TyX K H (.ref a) (.type "tuple") := .base (.tup h)
theorem kitTT : PySem.W.kitOne K (.type "tuple") (.type "tuple") = some true := kit_ty (show kitB "tuple" "tuple" = some true by decide +kernel)
theorem tyI {H : Hp} {x : Int} : TyX K H (.int x) (.type "int") := .base (tyN_of (n := "int") rfl)
theorem kII : PySem.W.kitOne K (.type "int") (.type "int") = some true := kit_ty (show kitB "int" "int" = some true by decide +kernel)
theorem kIB : PySem.W.kitOne K (.type "int") (.type "bool") = some false := kit_ty (show kitB "int" "bool" = some false by decide +kernel)
theorem tyS {H : Hp} {x : Str} : TyX K H (.str x) (.type "str") := .base (tyN_of (n := "str") rfl)
theorem kSS : PySem.W.kitOne K (.type "str") (.type "str") = some true := kit_ty (show kitB "str" "str" = some true by decide +kernel)
theorem ok_nrul {f : Addr} {fd : FuncData} (F : Fun K "need_rules" "need_rules" s_need_rules f fd) (T : PlT P w K mg CR CL CV CW aB aO aW LB LF GB GF PB PF VE) : FnG P w K mg base (CXe P w) 3 f fd ["rules"] (K16.spNeedC K CL LB) := by
  refine F.okG sc_need_rules (fun vs H Q E h => ?_) (fun cdv A outer s H vs Q E hgd hr h => ?_)
  · obtain ⟨v, t, b, rfl, _⟩ := h; rfl
  · obtain ⟨v, t, b, rfl, ty, e, k1, k2⟩ := h
    refine ⟨_, (pss_one (ps_if (pt_not (pt_val (pe_callB call_isi (by rfl) T.n_isinstance (by decide +kernel) (pa_cons (pv 0) (pa_cons (pe_glob (v := .ref _) rfl T.g_Rules rfl) pa_nil))))) (pss_one (ps_raiseErr rfl T.x_BadRules hr (takes_of rfl rfl rfl rfl) (pa_cons (pv 0) pa_nil))) pss_nil)), ?_⟩
    refine ⟨_, rfl, _, _, _, _, _, rfl, .own CL, ty, e, _, rfl, ?_⟩
    cases b with
    | true => exact iteF (k1 rfl)
    | false => exact iteT ⟨_, rfl, _, rfl, fun d hd => k2 rfl d hd⟩
def spBag1 (CL : Addr) : Sp := fun vs H Q _ => ∃ (W : Wld) (r b : Addr) (ba bb : Int), vs = [.ref r, .ref b] ∧ RulesIs CL H r W ∧ H b = some (.tup [.int ba, .int bb]) ∧ 0 ≤ ba ∧ ba ≤ W.cap ∧ 0 ≤ bb ∧ bb ≤ W.cap ∧ Q (.bl true) H
theorem ok_bag1 {f : Addr} {fd : FuncData} (F : Fun K "is_bag" "is_bag" s_is_bag f fd) (T : PlT P w K mg CR CL CV CW aB aO aW LB LF GB GF PB PF VE) (c_is_whole : CalG P w K mg base 1 "is_whole" (spWhole K)) : FnG P w K mg base (CXe P w) 2 f fd ["rules", "thing"] (spBag1 CL) := by
  refine F.okG sc_is_bag (fun vs H Q E h => ?_) (fun cdv A outer s H vs Q E hgd hr h => ?_)
  · obtain ⟨W, r, b, ba, bb, rfl, _⟩ := h; rfl
  · obtain ⟨W, r, b, ba, bb, rfl, ⟨rdx, hru0⟩, hb, a0, a1, b0, b1, k⟩ := h
    refine ⟨_, (pss_cons (ps_if (PW.pt (pw_or (pt_not (pt_val (pe_callB call_isi (by rfl) T.n_isinstance (by decide +kernel) (pa_cons (pv 1) (pa_cons (pe_bltn (v := .ty "tuple") (u := .type "tuple") rfl T.n_tuple (by decide +kernel) rfl) pa_nil))))) (pw_or1 (pt_cmpR op_ne (pe_callB call_len_seq (by rfl) T.n_len (by decide +kernel) (pa_cons (pv 1) pa_nil)) pe_int (nomark _))))) (pss_one (ps_ret pe_bl)) pss_nil)
      (pss_cons (ps_for (passes_of rfl) rfl (pi_tup (pv 1)) (pg_name (i := 2) sc_is_bag.nd rfl (Or.inl rfl))
      (pss_one (ps_if (PW.pt (pw_or (pt_not (pt_val (pg_c c_is_whole hgd hr (by first | decide | omega) (pa_cons (pv 2) pa_nil)))) (pw_or1 (pt_not (pt_chain op_le op_le pe_int (pv 2) (pe_fld (pv 0) rfl)))))) (pss_one (ps_ret pe_bl)) pss_nil)))
      (pss_one (ps_ret pe_bl)))), ?_⟩
    refine ⟨_, rfl, _, _, _, _, _, rfl, .ty _, tyTup hb, kitTT, _, rfl, iteF' (by decide) ?_⟩
    refine ⟨_, rfl, b, _, rfl, .inr (SqT.of hb), (rfl : scal _ _ = true), _, rfl, iteF' (by simp) ?_⟩
    refine ⟨_, rfl, b, rfl, ⟨_, SqT.of hb⟩, for_it (walk_tup (xs := [V.int ba, V.int bb])) (fun i σ H' => (∃ (o2 : Option V), σ = [some (.ref r), some (.ref b), o2]) ∧ H' = H) ⟨⟨none, rfl⟩, rfl⟩ (fun i σ H' _ q => by rw [q.2]; exact SqT.of hb) ?_ ?_⟩
    · rintro i y σ H1 H2 hi' ⟨⟨o2, rfl⟩, rfl⟩ ⟨rfl, hy⟩
      obtain ⟨x, rfl, x0, x1⟩ : ∃ x : Int, y = .int x ∧ 0 ≤ x ∧ x ≤ W.cap := by
        have : i = 0 ∨ i = 1 := by have : i < 2 := hi'; omega
        rcases this with rfl | rfl
        · cases hy; exact ⟨ba, rfl, a0, a1⟩
        · cases hy; exact ⟨bb, rfl, b0, b1⟩
      refine ⟨_, rfl, _, .type "int", true, false, rfl, tyI, kII, kIB, _, rfl, iteF ?_⟩
      walk_at "rd"
      refine ite2 (fun _ => ?_) (fun z => absurd (decide_eq_true x0) z)
      refine ⟨_, rfl, r, CL, rdx, _, .int W.cap, rfl, hru0, T.clL, T.l_cap, rfl, _, _, rfl, rfl, _, rfl, ?_⟩
      refine ite2 (fun z => ?_) (fun _ => ?_)
      · simp [x1] at z
      exact ⟨⟨_, rfl⟩, rfl⟩
    · rintro σ H1 ⟨⟨o2, rfl⟩, rfl⟩
      exact k
def spNBag (CL : Addr) : Sp := fun vs H Q _ => ∃ (W : Wld) (r b : Addr) (ba bb : Int), vs = [.ref r, .ref b] ∧ RulesIs CL H r W ∧ H b = some (.tup [.int ba, .int bb]) ∧ 0 ≤ ba ∧ ba ≤ W.cap ∧ 0 ≤ bb ∧ bb ≤ W.cap ∧ Q .non H
theorem ok_nbag {f : Addr} {fd : FuncData} (F : Fun K "need_bag" "need_bag" s_need_bag f fd) (T : PlT P w K mg CR CL CV CW aB aO aW LB LF GB GF PB PF VE) (c_is_bag : CalG P w K mg base 2 "is_bag" (spBag1 CL)) : FnG P w K mg base (CXe P w) 4 f fd ["rules", "bag"] (spNBag CL) := by
  refine F.okG sc_need_bag (fun vs H Q E h => ?_) (fun cdv A outer s H vs Q E hgd hr h => ?_)
  · obtain ⟨W, r, b, ba, bb, rfl, _⟩ := h; rfl
  · obtain ⟨W, r, b, ba, bb, rfl, hru, hb, a0, a1, b0, b1, k⟩ := h
    refine ⟨_, (pss_one (ps_if (pt_not (pt_val (pg_c c_is_bag hgd hr (by first | decide | omega) (pa_cons (pv 0) (pa_cons (pv 1) pa_nil))))) (pss_one (ps_raiseErr rfl T.x_BadBag hr (takes_of rfl rfl rfl rfl) (pa_cons (pv 1) pa_nil))) pss_nil)), ?_⟩
    exact ⟨_, rfl, _, rfl, W, r, b, ba, bb, rfl, hru, hb, a0, a1, b0, b1, _, rfl, iteF k⟩
/-- a level, a book and a bag that are right -/
def Right (K : PySem.W.Frag) (CR CL CV : Addr) (H : Hp) (y : V) (r bk : Addr) (t : Tr) (b : Bk) (ba bb : Int) : Prop := LevelAt K CR CV H y t ∧ t.cnt ≤ 60 ∧ BOk b ∧ RulesIs CL H r (trW b t) ∧ H bk = some (.tup [.int ba, .int bb]) ∧ 0 ≤ ba ∧ ba ≤ b.cap ∧ 0 ≤ bb ∧ bb ≤ b.cap
def spStart (K : PySem.W.Frag) (CR CL CV : Addr) : Sp := fun vs H Q _ => ∃ (y : V) (r bk : Addr) (t : Tr) (b : Bk) (ba bb : Int), vs = [y, .ref r, .ref bk] ∧ Right K CR CL CV H y r bk t b ba bb ∧ Q .non H
theorem ok_start {f : Addr} {fd : FuncData} (F : Fun K "_need_start" "_need_start" s__need_start f fd) (T : PlT P w K mg CR CL CV CW aB aO aW LB LF GB GF PB PF VE) (c_need_level : CalG P w K mg base 3 "need_level" (K16.spNeedC K CV VE)) (c_need_rules : CalG P w K mg base 3 "need_rules" (K16.spNeedC K CL LB)) (c_need_bag : CalG P w K mg base 4 "need_bag" (spNBag CL)) :
    FnG P w K mg base (CXe P w) 5 f fd ["level", "rules", "bag"] (spStart K CR CL CV) := by
  refine F.okG sc__need_start (fun vs H Q E h => ?_) (fun cdv A outer s H vs Q E hgd hr h => ?_)
  · obtain ⟨y, r, bk, t, b, ba, bb, rfl, _⟩ := h; rfl
  · obtain ⟨y, r, bk, t, b, ba, bb, rfl, ⟨hy, hc, hb, hru, hbk, a0, a1, b0, b1⟩, k⟩ := h
    refine ⟨_, (pss_cons (ps_expr (pg_cS c_need_level hgd hr (by decide) (fun σ => passAt (takes_of rfl rfl rfl rfl) σ) (pa_cons (pv 0) pa_nil)))
      (pss_cons (ps_expr (pg_cS c_need_rules hgd hr (by decide) (fun σ => passAt (takes_of rfl rfl rfl rfl) σ) (pa_cons (pv 1) pa_nil)))
      (pss_one (ps_expr (pg_c c_need_bag hgd hr (by first | decide | omega) (pa_cons (pv 1) (pa_cons (pv 2) pa_nil))))))), ?_⟩
    obtain ⟨la, ldx, lfs, rfl, hla⟩ := level_ins hy
    obtain ⟨rdx, hru0⟩ := id hru
    refine ⟨_, rfl, .ref la, .ref CV, true, rfl, .base (insTy T.icV hla), T.icV.me, fun _ => ?_, fun z => nomatch z⟩
    refine ⟨_, rfl, .ref r, .ref CL, true, rfl, .base (insTy T.icL hru0), T.icL.me, fun _ => ?_, fun z => nomatch z⟩
    have ec := trW_cap b t
    exact ⟨_, rfl, _, rfl, trW b t, r, bk, ba, bb, rfl, hru, hbk, a0, by rw [ec]; exact a1, b0, by rw [ec]; exact b1, k⟩
theorem LevelAt.tok {H : Hp} {v : V} {t : Tr} (h : LevelAt K CR CV H v t) : TOk t := by
  induction h with
  | @mk x dx R c rows wd n d vs ch a1 a2 a3 a4 a5 a6 a7 a8 ih =>
    refine .mk a4.ok a4.lines a4.whole a5 fun u hu => ?_
    obtain ⟨i, hi, e⟩ := List.mem_iff_getElem.mp hu
    exact ih i (vs[i]'(by rw [a7]; exact hi)) u (by simp) (by rw [← e]; simp [hi])
/-- a text walked through a level -/
def spWalked (K : PySem.W.Frag) (CR CL CV CW aW PB : Addr) : Sp := fun vs H Q E => ∃ (y : V) (r bk : Addr) (z : Str) (t : Tr) (b : Bk) (ba bb : Int), vs = [y, .ref r, .ref bk, .str z] ∧ z.length ≤ 1000 ∧ Right K CR CL CV H y r bk t b ba bb ∧
  ((walkM b (.at_ [] t (begS (trW b t) ba bb)) z.cps.toList).1 < z.length → ∀ H1 d, Off (fun _ => False) H H1 → H1 d = none → E (.ref PB) (some d) (upd H1 d (.xd [("at", .int ((walkM b (.at_ [] t (begS (trW b t) ba bb)) z.cps.toList).1 : Nat))]))) ∧
  (¬ (walkM b (.at_ [] t (begS (trW b t) ba bb)) z.cps.toList).1 < z.length → ∀ H' x L S, Off (fun _ => False) H H' → WalkAt K CR CV CW aW H' x L S r (walkM b (.at_ [] t (begS (trW b t) ba bb)) z.cps.toList).2 → Q (.ref x) H')
theorem ok_walked {f : Addr} {fd : FuncData} (F : Fun K "walked" "walked" s_walked f fd) (T : PlT P w K mg CR CL CV CW aB aO aW LB LF GB GF PB PF VE) (c__need_start : CalG P w K mg base 5 "_need_start" (spStart K CR CL CV)) (m_Walker : MakG P w K mg base 2 "Walker" CW (spWInit K CR CL CV CW aW) []) (t_Walker_walk_on : MetG P w K mg base 6 CW "walk_on" (spWOn K CR CL CV CW aW)) :
    FnG P w K mg base (CXe P w) 7 f fd ["level", "rules", "bag", "play"] (spWalked K CR CL CV CW aW PB) := by
  refine F.okG sc_walked (fun vs H Q E h => ?_) (fun cdv A outer s H vs Q E hgd hr h => ?_)
  · obtain ⟨y, r, bk, z, t, b, ba, bb, rfl, _⟩ := h; rfl
  · obtain ⟨y, r, bk, z, t, b, ba, bb, rfl, hz, hR, kE, kQ⟩ := h
    refine ⟨_, (pss_cons (ps_expr (pg_c c__need_start hgd hr (by first | decide | omega) (pa_cons (pv 0) (pa_cons (pv 1) (pa_cons (pv 2) pa_nil)))))
      (pss_cons (ps_if (pt_not (pt_val (pe_callB call_isi (by rfl) T.n_isinstance (by decide +kernel) (pa_cons (pv 3) (pa_cons (pe_bltn (v := .ty "str") (u := .type "str") rfl T.n_str (by decide +kernel) rfl) pa_nil))))) (pss_one (ps_raiseErr rfl T.x_BadPlay hr (takes_of rfl rfl rfl rfl) (pa_cons (pe_un un_neg pe_int) pa_nil))) pss_nil)
      (pss_cons (ps_set (i := 4) sc_walked.nd rfl (Or.inl rfl) (pg_mk m_Walker hgd hr (by first | decide | omega) (pa_cons (pv 0) (pa_cons (pv 1) (pa_cons (pv 2) pa_nil)))))
      (pss_cons (ps_set (i := 5) sc_walked.nd rfl (Or.inl rfl) (pg_mt t_Walker_walk_on hgd hr (by first | decide | omega) (pv 4) (pa_cons (pv 3) pa_nil)))
      (pss_cons (ps_if (pt_cmpR op_lt (pv 5) (pe_callB call_len_str (by rfl) T.n_len (by decide +kernel) (pa_cons (pv 3) pa_nil)) (nomark _)) (pss_one (ps_raiseErr rfl T.x_BadPlay hr (takes_of rfl rfl rfl rfl) (pa_cons (pv 5) pa_nil))) pss_nil)
      (pss_one (ps_ret (pv 4)))))))), ?_⟩
    obtain ⟨hy, hc, hb, hru, hbk, a0, a1, b0, b1⟩ := id hR
    have ht := LevelAt.tok hy
    refine ⟨_, rfl, _, rfl, _, rfl, y, r, bk, t, b, ba, bb, rfl, hR, ?_⟩
    refine ⟨_, rfl, _, _, _, _, _, rfl, .ty _, tyS, kSS, _, rfl, iteF' (by decide) ?_⟩
    refine ⟨_, rfl, _, rfl, _, rfl, fun x dx hx hdx hne => ?_⟩
    have s1 : Same H (upd (upd H dx (.own x)) x (.ins CW dx [])) := (same_new hdx).trans (same_new ((upd_ne (Ne.symm hne)).trans hx))
    refine ⟨x, dx, r, bk, y, t, b, ba, bb, rfl, upd_same, hy.same s1, s1 _ _ hbk, fun H2 L S hL hS hw o2 => ⟨rfl, ?_⟩⟩
    have L0 : H L = none := off_none (D := fun _ => False) (Off.same s1) hL (fun z => z)
    have S0 : H S = none := off_none (D := fun _ => False) (Off.same s1) hS (fun z => z)
    have o02 : Off (fun _ => False) H H2 := fun a u _ e => o2 a u (fun z => by rw [z, hx] at e; cases e) (s1 _ _ e)
    have k02 : Same H H2 := fun a u e => o02 a u (fun z => z) e
    have hs : Ok (trW b t) (begS (trW b t) ba bb) := by
      have e1 := trW_cap b t
      exact begS_ok (ht.wok hb) (by rw [trW_z]; exact ht.whole) a0 (by rw [e1]; exact a1) b0 (by rw [e1]; exact b1)
    have hp : PsOk b t (.at_ [] t (begS (trW b t) ba bb)) := ⟨.nil, fun f hf => (by cases hf), hs⟩
    obtain ⟨wdx, e, lvs, sts, h1, h2, h3, h4, h5⟩ := id hw
    refine ⟨_, rfl, x, wdx, _, rfl, h1, rfl, _, rfl, x, L, S, r, b, t, _, z, rfl, ?_, hb, ht, by omega, RulesIs.same k02 hru, hp, hw, fun H3 o3 hw3 => ?_⟩
    · exact Nat.le_trans hz (by decide)
    have o03 : Off (fun _ => False) H H3 := fun a u _ e => o3 a u (fun z => by
      rcases z with rfl | rfl | rfl
      · rw [hx] at e; cases e
      · rw [L0] at e; cases e
      · rw [S0] at e; cases e) (k02 _ _ e)
    refine ⟨_, rfl, _, rfl, z, rfl, Nat.le_trans hz (by decide), ?_⟩
    refine ⟨_, _, rfl, rfl, _, rfl, ?_⟩
    refine ite2 (fun q1 => ?_) (fun q1 => ?_)
    · have q1 : (walkM b (.at_ [] t (begS (trW b t) ba bb)) z.cps.toList).1 < z.length := by
        have := of_decide_eq_true q1
        omega
      exact ⟨_, rfl, _, rfl, fun d hd => kE q1 H3 d o03 hd⟩
    · have q1 : ¬ (walkM b (.at_ [] t (begS (trW b t) ba bb)) z.cps.toList).1 < z.length := fun q => by
        have : ((walkM b (.at_ [] t (begS (trW b t) ba bb)) z.cps.toList).1 : Int) < (z.length : Nat) := by omega
        simp [this] at q1
      exact ⟨_, rfl, kQ q1 H3 x L S o03 hw3⟩
def spWalk (K : PySem.W.Frag) (CR CL CV aW PB : Addr) : Sp := fun vs H Q E => ∃ (y : V) (r bk : Addr) (z : Str) (t : Tr) (b : Bk) (ba bb : Int), vs = [y, .ref r, .ref bk, .str z] ∧ z.length ≤ 1000 ∧ Right K CR CL CV H y r bk t b ba bb ∧
  ((walkM b (.at_ [] t (begS (trW b t) ba bb)) z.cps.toList).1 < z.length → ∀ H1 d, Same H H1 → H1 d = none → E (.ref PB) (some d) (upd H1 d (.xd [("at", .int ((walkM b (.at_ [] t (begS (trW b t) ba bb)) z.cps.toList).1 : Nat))]))) ∧
  (¬ (walkM b (.at_ [] t (begS (trW b t) ba bb)) z.cps.toList).1 < z.length → ∀ v H', Same H H' → PosAt aW H' v (walkM b (.at_ [] t (begS (trW b t) ba bb)) z.cps.toList).2 → Q v H')
theorem ok_walk {f : Addr} {fd : FuncData} (F : Fun K "walk" "walk" s_walk f fd) (T : PlT P w K mg CR CL CV CW aB aO aW LB LF GB GF PB PF VE) (c_walked : CalG P w K mg base 7 "walked" (spWalked K CR CL CV CW aW PB)) (t_Walker_place : MetG P w K mg base 1 CW "place" (spPlace K CR CL CV CW aW)) :
    FnG P w K mg base (CXe P w) 8 f fd ["level", "rules", "bag", "play"] (spWalk K CR CL CV aW PB) := by
  refine F.okG sc_walk (fun vs H Q E h => ?_) (fun cdv A outer s H vs Q E hgd hr h => ?_)
  · obtain ⟨y, r, bk, z, t, b, ba, bb, rfl, _⟩ := h; rfl
  · obtain ⟨y, r, bk, z, t, b, ba, bb, rfl, hz, hR, kE, kQ⟩ := h
    refine ⟨_, (pss_one (ps_ret (pg_mt0 t_Walker_place hgd hr (by first | decide | omega) (pg_cS c_walked hgd hr (by first | decide | omega) (fun σ => passAt (takes_of rfl rfl rfl rfl) σ) (pa_cons (pv 0) (pa_cons (pv 1) (pa_cons (pv 2) (pa_cons (pv 3) pa_nil)))))))), ?_⟩
    refine ⟨_, rfl, _, rfl, _, rfl, _, rfl, y, r, bk, z, t, b, ba, bb, rfl, hz, hR, fun hl H1 d o1 hd => kE hl H1 d (fun a u e => o1 a u (fun z => z) e) hd, fun hl H1 x L S o1 hw => ?_⟩
    obtain ⟨wdx, e, lvs, sts, h1, h2, h3, h4, h5⟩ := id hw
    have k1 : Same H H1 := fun a u e => o1 a u (fun z => z) e
    exact ⟨x, wdx, _, rfl, h1, rfl, x, L, S, r, _, rfl, hw, fun v H2 s2 hv => kQ hl v H2 (k1.trans s2) hv⟩
def spIsPlay (K : PySem.W.Frag) (CR CL CV : Addr) : Sp := fun vs H Q E => ∃ (y : V) (r bk : Addr) (z : Str) (t : Tr) (b : Bk) (ba bb : Int), vs = [y, .ref r, .ref bk, .str z] ∧ z.length ≤ 1000 ∧ Right K CR CL CV H y r bk t b ba bb ∧
  ∀ H', Same H H' → Q (.bl (decide ((walkM b (.at_ [] t (begS (trW b t) ba bb)) z.cps.toList).1 = z.length))) H'
theorem ok_isplay {f : Addr} {fd : FuncData} (F : Fun K "is_play" "is_play" s_is_play f fd) (T : PlT P w K mg CR CL CV CW aB aO aW LB LF GB GF PB PF VE) (c__need_start : CalG P w K mg base 5 "_need_start" (spStart K CR CL CV)) (m_Walker : MakG P w K mg base 2 "Walker" CW (spWInit K CR CL CV CW aW) []) (t_Walker_walk_on : MetG P w K mg base 6 CW "walk_on" (spWOn K CR CL CV CW aW)) :
    FnG P w K mg base (CXe P w) 7 f fd ["level", "rules", "bag", "thing"] (spIsPlay K CR CL CV) := by
  refine F.okG sc_is_play (fun vs H Q E h => ?_) (fun cdv A outer s H vs Q E hgd hr h => ?_)
  · obtain ⟨y, r, bk, z, t, b, ba, bb, rfl, _⟩ := h; rfl
  · obtain ⟨y, r, bk, z, t, b, ba, bb, rfl, hz, hR, kQ⟩ := h
    refine ⟨_, (pss_cons (ps_expr (pg_c c__need_start hgd hr (by first | decide | omega) (pa_cons (pv 0) (pa_cons (pv 1) (pa_cons (pv 2) pa_nil)))))
      (pss_one (ps_ret (pe_and (pe_callB call_isi (by rfl) T.n_isinstance (by decide +kernel) (pa_cons (pv 3) (pa_cons (pe_bltn (v := .ty "str") (u := .type "str") rfl T.n_str (by decide +kernel) rfl) pa_nil))) (pe_one (pe_cmpR op_eq (pg_mt t_Walker_walk_on hgd hr (by first | decide | omega) (pg_mk m_Walker hgd hr (by first | decide | omega) (pa_cons (pv 0) (pa_cons (pv 1) (pa_cons (pv 2) pa_nil)))) (pa_cons (pv 3) pa_nil)) (pe_callB call_len_str (by rfl) T.n_len (by decide +kernel) (pa_cons (pv 3) pa_nil)) (nomark _))))))), ?_⟩
    obtain ⟨hy, hc, hb, hru, hbk, a0, a1, b0, b1⟩ := id hR
    have ht := LevelAt.tok hy
    refine ⟨_, rfl, _, rfl, _, rfl, y, r, bk, t, b, ba, bb, rfl, hR, ?_⟩
    refine ⟨_, rfl, _, _, _, _, _, rfl, .ty _, tyS, kSS, _, rfl, ?_⟩
    refine iteT' rfl ?_
    refine ⟨_, rfl, _, rfl, _, rfl, fun x dx hx hdx hne => ?_⟩
    have s1 : Same H (upd (upd H dx (.own x)) x (.ins CW dx [])) := (same_new hdx).trans (same_new ((upd_ne (Ne.symm hne)).trans hx))
    refine ⟨x, dx, r, bk, y, t, b, ba, bb, rfl, upd_same, hy.same s1, s1 _ _ hbk, fun H2 L S hL hS hw o2 => ⟨rfl, ?_⟩⟩
    have L0 : H L = none := off_none (D := fun _ => False) (Off.same s1) hL (fun z => z)
    have S0 : H S = none := off_none (D := fun _ => False) (Off.same s1) hS (fun z => z)
    have o02 : Off (fun _ => False) H H2 := fun a u _ e => o2 a u (fun z => by rw [z, hx] at e; cases e) (s1 _ _ e)
    have k02 : Same H H2 := fun a u e => o02 a u (fun z => z) e
    have hs : Ok (trW b t) (begS (trW b t) ba bb) := by
      have e1 := trW_cap b t
      exact begS_ok (ht.wok hb) (by rw [trW_z]; exact ht.whole) a0 (by rw [e1]; exact a1) b0 (by rw [e1]; exact b1)
    have hp : PsOk b t (.at_ [] t (begS (trW b t) ba bb)) := ⟨.nil, fun f hf => (by cases hf), hs⟩
    obtain ⟨wdx, e, lvs, sts, h1, h2, h3, h4, h5⟩ := id hw
    refine ⟨x, wdx, _, rfl, h1, rfl, _, rfl, x, L, S, r, b, t, _, z, rfl, ?_, hb, ht, by omega, RulesIs.same k02 hru, hp, hw, fun H3 o3 hw3 => ?_⟩
    · exact Nat.le_trans hz (by decide)
    have k03 : Same H H3 := fun a u e => o3 a u (fun z => by
      rcases z with rfl | rfl | rfl
      · rw [hx] at e; cases e
      · rw [L0] at e; cases e
      · rw [S0] at e; cases e) (k02 _ _ e)
    refine ⟨_, rfl, z, rfl, Nat.le_trans hz (by decide), (rfl : scal _ _ = true), ?_⟩
    have ed : decide (V.int (walkM b (.at_ [] t (begS (trW b t) ba bb)) z.cps.toList).1 = V.int (z.length : Nat)) = decide ((walkM b (.at_ [] t (begS (trW b t) ba bb)) z.cps.toList).1 = z.length) := by
      refine decide_eq_decide.mpr ⟨fun q => ?_, fun q => by rw [q]⟩
      injection q with q
      omega
    rw [ed]
    exact kQ H3 k03
end
def signF (W : Wld) (go : List Int) (c : Int) : Nat := if mark W.z c = 111 ∨ c ∈ go then 46 else mark W.z c
def liesF (W : Wld) (cr go : List Int) (c : Int) : Bool := decide (0 ≤ c) && (decide (c ∉ cr) && decide (signF W go c = 46 ∨ signF W go c = 112))
def nxW (W : Wld) (w : Way) (c : Int) : Int := nx W.rows.length W.wd w c
/-- a crate pushed from c with no crate behind -/
def dropF (W : Wld) (cr go : List Int) (c goal : Int) : Option (List Int × List Int) :=
  if 0 ≤ goal ∧ signF W go goal = 120 then some (without cr c, withOne go goal)
  else if liesF W cr go goal = true then some (withOne (without cr c) goal, go)
  else none
def pushF (W : Wld) (w : Way) : Nat → List Int → List Int → Int → Option (List Int × List Int)
  | 0, cr, go, c => if 0 ≤ nxW W w c ∧ nxW W w c ∈ cr then none else dropF W cr go c (nxW W w c)
  | m + 1, cr, go, c => if 0 ≤ nxW W w c ∧ nxW W w c ∈ cr then (match pushF W w m cr go (nxW W w c) with
      | none => none
      | some (cr, go) => dropF W cr go c (nxW W w c)) else dropF W cr go c (nxW W w c)
def shutF (W : Wld) (s : Sta) (w : Way) (goal : Int) : Prop := goal < 0 ∨ signF W s.go goal = 35 ∨ signF W s.go s.at_ = 42 ∨ badWay (signF W s.go s.at_) w = true ∨ (signF W s.go goal = 103 ∧ gateL W.z s.cr = false)
/-- what a step does to the crates -/
def cratesF (W : Wld) (s : Sta) (w : Way) (big : Bool) (goal : Int) : Option (List Int × List Int) :=
  if big = true then (if W.pull = false ∨ goal ∈ s.cr ∨ nxW W w.back s.at_ ∉ s.cr ∨ liesF W s.cr s.go s.at_ = false then none else some (withOne (without s.cr (nxW W w.back s.at_)) s.at_, s.go))
  else if goal ∈ s.cr then pushF W w (if W.strong = true then 1 else 0) s.cr s.go goal else some (s.cr, s.go)
/-- what a step does to the bag -/
def enterF (W : Wld) (s : Sta) (cr go : List Int) (goal : Int) : Option Sta :=
  if signF W go goal = 120 then none
  else if isKD (signF W go goal) = true then (match changedBag W.cap s.ba s.bb (signF W go goal) with
    | none => none
    | some (a, b) => some { s with at_ := goal, cr := cr, go := withOne go goal, ba := a, bb := b })
  else some { s with at_ := goal, cr := cr, go := go }
instance (W : Wld) (s : Sta) (w : Way) (goal : Int) : Decidable (shutF W s w goal) := by unfold shutF; infer_instance
def stepF (W : Wld) (s : Sta) (w : Way) (big : Bool) : Option Sta :=
  if shutF W s w (nxW W w s.at_) then none
  else match cratesF W s w big (nxW W w s.at_) with
    | none => none
    | some (cr, go) => enterF W s cr go (nxW W w s.at_)
/-- crates in order, and not where somebody stands -/
structure OkC (s : Sta) : Prop where
  up : s.cr.Pairwise (· < ·)
  off : s.at_ ∉ s.cr
section
variable {W : Wld} {s : Sta} {w : Way}
theorem lies_F {cr go : List Int} {c : Int} : liesF W cr go c = true ↔ 0 ≤ c ∧ c ∉ cr ∧ lies W.z go c = true := by
  have key : (signF W go c = 46 ∨ signF W go c = 112) ↔ lies W.z go c = true := by
    unfold signF lies isFree
    by_cases h1 : mark W.z c = 111
    · simp [h1]
    · by_cases h2 : c ∈ go
      · simp [h2]
      · simp [h1, h2]
  unfold liesF
  rw [Bool.and_eq_true, Bool.and_eq_true, decide_eq_true_iff, decide_eq_true_iff, decide_eq_true_iff, key]
theorem lies_not {m : Nat} {go : List Int} {c : Int} (h : lies W.z go c = true) (h1 : m ≠ 46) (h2 : m ≠ 112) : signF W go c ≠ m := by
  intro e
  have := lies_F (W := W) (cr := []) (go := go) (c := c)
  unfold signF at e
  unfold lies isFree at h
  split at e
  · exact h1 e.symm
  · rename_i q
    have n1 : ¬ mark W.z c = 111 := fun z => q (.inl z)
    have n2 : c ∉ go := fun z => q (.inr z)
    simp [n1, n2] at h
    rcases h with h | h
    · exact h1 (by rw [← e, h])
    · exact h2 (by rw [← e, h])
theorem sign_mark (K : Ok W s) {c : Int} {m : Nat} (h1 : m ≠ 46) (h2 : m ≠ 111) (h3 : isKD m = false) (h4 : m ≠ 120) : signF W s.go c = m ↔ mark W.z c = m := by
  unfold signF
  split
  · rename_i q
    refine ⟨fun e => absurd e.symm h1, fun e => ?_⟩
    rcases q with q | q
    · exact absurd (e.symm.trans q) h2
    · rcases K.gom _ q with g | g
      · rw [e, h3] at g; cases g
      · exact absurd (e.symm.trans g) h4
  · exact Iff.rfl
theorem sign_way (K : Ok W s) {c : Int} : badWay (signF W s.go c) w = badWay (mark W.z c) w := by
  have z46 : badWay 46 w = false := rfl
  unfold signF
  split
  · rename_i q
    rw [z46]
    rcases q with q | q
    · rw [q]; rfl
    · rcases K.gom _ q with g | g
      · have g := of_decide_eq_true g
        rcases g with g | g | g | g <;> rw [g] <;> rfl
      · rw [g]; rfl
  · rfl
theorem up_le {xs : List Int} (h : xs.Pairwise (· < ·)) : xs.Pairwise (· ≤ ·) := h.imp fun a => Int.le_of_lt a
theorem up_nd {xs : List Int} (h : xs.Pairwise (· < ·)) : xs.Nodup := h.imp fun a => Int.ne_of_lt a
theorem without_up {xs : List Int} {x : Int} (h : xs.Pairwise (· < ·)) : (without xs x).Pairwise (· < ·) := h.filter _
theorem withOne_up {xs : List Int} {x : Int} (h : xs.Pairwise (· < ·)) (hx : x ∉ xs) : (withOne xs x).Pairwise (· < ·) := by
  have n := withOne_nodup (up_nd h) hx
  have u := sortZ_up (xs ++ [x])
  have key : ∀ {l : List Int}, l.Pairwise (· ≤ ·) → l.Nodup → l.Pairwise (· < ·) := fun {l} => by
    induction l with
    | nil => intro _ _; exact .nil
    | cons y r ih =>
      intro h n
      rw [List.pairwise_cons] at h ⊢
      rw [List.nodup_cons] at n
      refine ⟨fun z hz => ?_, ih h.2 n.2⟩
      have a := h.1 z hz
      have b : y ≠ z := fun e => n.1 (e ▸ hz)
      omega
  exact key u n
/-- a list in order is told by what is in it -/
theorem up_ext : ∀ {a b : List Int}, a.Pairwise (· < ·) → b.Pairwise (· < ·) → (∀ x, x ∈ a ↔ x ∈ b) → a = b := fun {a b} ha hb h =>
  up_unique ((List.perm_ext_iff_of_nodup (up_nd ha) (up_nd hb)).mpr fun x => h x) (up_le ha) (up_le hb)
theorem nx_ne {h wd : Nat} (hw : 1 ≤ wd) (w : Way) {i : Int} (h0 : 0 ≤ i) : nx h wd w i ≠ i := by
  unfold nx
  split
  · have e : (i / (wd : Int)) * (wd : Int) + i % (wd : Int) = i := by
      have := Int.mul_ediv_add_emod i wd
      rw [Int.mul_comm] at this
      exact this
    have d : (i / (wd : Int) + w.down) * (wd : Int) = (i / (wd : Int)) * (wd : Int) + w.down * (wd : Int) := Int.add_mul ..
    rw [d]
    cases w with
    | u => simp only [Way.down, Way.across]; omega
    | d => simp only [Way.down, Way.across]; omega
    | l => simp only [Way.down, Way.across]; omega
    | r => simp only [Way.down, Way.across]; omega
  · omega
theorem drop_eq (K : Ok W s) {c goal : Int} (hg : ¬ (goal < 0 ∨ goal ∈ s.cr)) : dropF W s.cr s.go c goal = if lies W.z s.go goal = true then some (withOne (without s.cr c) goal, s.go) else if mark W.z goal = 120 then some (without s.cr c, withOne s.go goal) else none := by
  have g0 : 0 ≤ goal := by
    have : ¬ goal < 0 := fun z => hg (.inl z)
    omega
  have gc : goal ∉ s.cr := fun z => hg (.inr z)
  unfold dropF
  by_cases hl : lies W.z s.go goal = true
  · rw [if_pos hl, if_neg (fun z => lies_not hl (by decide) (by decide) z.2), if_pos (lies_F.mpr ⟨g0, gc, hl⟩)]
  · rw [if_neg hl]
    have hgo : goal ∉ s.go := fun z => hl (by unfold lies; simp [z])
    have h111 : ¬ mark W.z goal = 111 := fun z => hl (by unfold lies isFree; simp [z])
    have e : signF W s.go goal = mark W.z goal := by unfold signF; rw [if_neg (fun z => z.elim h111 hgo)]
    rw [e]
    by_cases h : mark W.z goal = 120
    · rw [if_pos ⟨g0, h⟩, if_pos h]
    · rw [if_neg (fun z => h z.2), if_neg h, if_neg (fun z => hl (lies_F.mp z).2.2)]
def restL (W : Wld) (s : Sta) (goal b : Int) : Option (List Int × List Int) :=
  if b < 0 ∨ b ∈ s.cr then none
  else if lies W.z s.go b = true then some (withOne (without s.cr goal) b, s.go)
  else if mark W.z b = 120 then some (without s.cr goal, withOne s.go b)
  else none
theorem pushedL_is (goal : Int) : pushedL W s w goal = restL W s goal (if W.strong = true ∧ nxW W w goal ∈ s.cr then nxW W w (nxW W w goal) else nxW W w goal) := rfl
theorem push_eq (O : WOk W) (K : Ok W s) (C : OkC s) {goal : Int} (hc : goal ∈ s.cr) : pushF W w (if W.strong = true then 1 else 0) s.cr s.go goal = pushedL W s w goal := by
  have g0 := K.cr0 _ hc
  have one : ¬ (W.strong = true ∧ nxW W w goal ∈ s.cr) → (if nxW W w goal < 0 ∨ nxW W w goal ∈ s.cr then none else dropF W s.cr s.go goal (nxW W w goal)) = pushedL W s w goal := fun h => by
    rw [pushedL_is, if_neg h]
    unfold restL
    split
    · rfl
    · rename_i q
      exact drop_eq K q
  have neg : nxW W w goal < 0 → dropF W s.cr s.go goal (nxW W w goal) = none := fun h => by
    unfold dropF
    rw [if_neg (fun z => by have := z.1; omega), if_neg (fun z => by have := (lies_F.mp z).1; omega)]
  by_cases hs : W.strong = true
  · rw [if_pos hs]
    unfold pushF
    by_cases hn : nxW W w goal ∈ s.cr
    · have n0 := K.cr0 _ hn
      rw [if_pos ⟨n0, hn⟩]
      rw [pushedL_is, if_pos ⟨hs, hn⟩]
      unfold pushF restL
      generalize hg1 : nxW W w goal = g1 at hn n0 ⊢
      have ne1 : g1 ≠ goal := by rw [← hg1]; exact nx_ne O.R.w1 w g0
      generalize hg2 : nxW W w g1 = g2
      have lg1 : lies W.z s.go g1 = true := K.crl _ hn
      by_cases q : g2 < 0 ∨ g2 ∈ s.cr
      · rw [if_pos q]
        by_cases q2 : 0 ≤ g2 ∧ g2 ∈ s.cr
        · rw [if_pos q2]
        · have q3 : g2 < 0 := by
            rcases q with q | q
            · exact q
            · exact absurd ⟨K.cr0 _ q, q⟩ q2
          rw [if_neg q2]
          have : dropF W s.cr s.go g1 g2 = none := by
            unfold dropF
            rw [if_neg (fun z => by have := z.1; omega), if_neg (fun z => by have := (lies_F.mp z).1; omega)]
          rw [this]
      · rw [if_neg q, if_neg (fun z => q (.inr z.2)), drop_eq K q]
        have g2c : g2 ∉ s.cr := fun z => q (.inr z)
        have fin : ∀ cr1 go1, g1 ∉ cr1 → (∀ x ∈ s.go, x ∈ go1) → dropF W cr1 go1 goal g1 = some (withOne (without cr1 goal) g1, go1) := fun cr1 go1 hh hgo => by
          have l2 := lies_mono hgo lg1
          unfold dropF
          rw [if_neg (fun z => lies_not l2 (by decide) (by decide) z.2), if_pos (lies_F.mpr ⟨n0, hh, l2⟩)]
        have ne2 : g2 ≠ g1 := fun e => g2c (e ▸ hn)
        by_cases hl : lies W.z s.go g2 = true
        · rw [if_pos hl, if_pos hl]
          show dropF W (withOne (without s.cr g1) g2) s.go goal g1 = _
          have hm : g1 ∉ withOne (without s.cr g1) g2 := fun z => by
            rcases mem_withOne.mp z with z | z
            · exact (mem_without.mp z).2 rfl
            · exact ne2 z.symm
          rw [fin _ _ hm (fun x hx => hx)]
          have g2w : ∀ y, g2 ∉ without s.cr y := fun y z => g2c (mem_without.mp z).1
          have hu := withOne_up (without_up (x := g1) C.up) (g2w g1)
          have hm2 : g1 ∉ without (withOne (without s.cr g1) g2) goal := fun z => hm (mem_without.mp z).1
          congr 2
          refine up_ext (withOne_up (without_up hu) hm2) (withOne_up (without_up C.up) (g2w goal)) fun x => ?_
          rw [mem_withOne, mem_without, mem_withOne, mem_without, mem_withOne, mem_without]
          have gg : g2 ≠ goal := fun e => g2c (e ▸ hc)
          constructor
          · rintro (⟨⟨a, b⟩ | a, c⟩ | a)
            · exact .inl ⟨a, c⟩
            · exact .inr a
            · subst a; exact .inl ⟨hn, ne1⟩
          · rintro (⟨a, b⟩ | a)
            · by_cases e : x = g1
              · exact .inr e
              · exact .inl ⟨.inl ⟨a, e⟩, b⟩
            · subst a; exact .inl ⟨.inr rfl, gg⟩
        · rw [if_neg hl, if_neg hl]
          by_cases h120 : mark W.z g2 = 120
          · rw [if_pos h120, if_pos h120]
            show dropF W (without s.cr g1) (withOne s.go g2) goal g1 = _
            have hm : g1 ∉ without s.cr g1 := fun z => (mem_without.mp z).2 rfl
            rw [fin _ _ hm (fun x hx => mem_withOne.mpr (.inl hx))]
            have hm2 : g1 ∉ without (without s.cr g1) goal := fun z => hm (mem_without.mp z).1
            congr 2
            refine up_ext (withOne_up (without_up (without_up C.up)) hm2) (without_up C.up) fun x => ?_
            rw [mem_withOne, mem_without, mem_without, mem_without]
            constructor
            · rintro (⟨⟨a, b⟩, c⟩ | a)
              · exact ⟨a, c⟩
              · subst a; exact ⟨hn, ne1⟩
            · rintro ⟨a, b⟩
              by_cases e : x = g1
              · exact .inr e
              · exact .inl ⟨⟨a, e⟩, b⟩
          · rw [if_neg h120, if_neg h120]
    · rw [if_neg (fun z => hn z.2), ← one (fun z => hn z.2)]
      by_cases h0 : nxW W w goal < 0
      · rw [if_pos (.inl h0)]; exact neg h0
      · rw [if_neg (fun z => z.elim h0 hn)]
  · rw [if_neg hs]
    unfold pushF
    rw [← one (fun z => hs z.1)]
    by_cases hn : nxW W w goal ∈ s.cr
    · rw [if_pos ⟨K.cr0 _ hn, hn⟩, if_pos (.inr hn)]
    · rw [if_neg (fun z => hn z.2)]
      by_cases h0 : nxW W w goal < 0
      · rw [if_pos (.inl h0)]; exact neg h0
      · rw [if_neg (fun z => z.elim h0 hn)]
theorem moved_C (O : WOk W) (K : Ok W s) (C : OkC s) {big : Bool} {s' : Sta} (h : moved W s w big = some s') : OkC s' := by
  have ne0 : ∀ (v : Way) {i : Int}, 0 ≤ i → nb W.rows W.wd v i ≠ i := fun v {i} h0 => by
    rw [nb_eq O h0]
    split
    · omega
    · exact nx_ne O.R.w1 v h0
  unfold moved at h
  simp only at h
  split at h
  · cases h
  rename_i q0
  split at h
  · rename_i hc
    split at h
    · cases h
    unfold pushed at h
    simp only at h
    generalize (if W.strong = true ∧ nb W.rows W.wd w (nb W.rows W.wd w s.at_) ∈ s.cr then nb W.rows W.wd w (nb W.rows W.wd w (nb W.rows W.wd w s.at_)) else nb W.rows W.wd w (nb W.rows W.wd w s.at_)) = b at h
    split at h
    · cases h
    rename_i q
    have bn : b ∉ s.cr := fun z => q (.inr z)
    have bw : b ∉ without s.cr (nb W.rows W.wd w s.at_) := fun z => bn (mem_without.mp z).1
    split at h
    · cases h
      refine ⟨withOne_up (without_up C.up) bw, fun z => ?_⟩
      rcases mem_withOne.mp z with z | z
      · exact (mem_without.mp z).2 rfl
      · exact bn (z ▸ hc)
    · split at h
      · cases h
        exact ⟨without_up C.up, fun z => (mem_without.mp z).2 rfl⟩
      · cases h
  · rename_i hc
    split at h
    · cases h
    · split at h
      · split at h
        · cases h
        · rename_i c hp
          cases h
          unfold pulled at hp
          simp only at hp
          split at hp
          · cases hp
          · cases hp
            refine ⟨withOne_up (without_up C.up) (fun z => C.off (mem_without.mp z).1), fun z => ?_⟩
            rcases mem_withOne.mp z with z | z
            · exact hc (mem_without.mp z).1
            · exact ne0 w K.at0 z
      · cases h
        exact ⟨C.up, hc⟩
theorem step_F (O : WOk W) (K : Ok W s) (C : OkC s) (big : Bool) : stepF W s w big = moved W s w big := by
  rw [step_eq O K big]
  unfold stepF stepL
  show (if shutF W s w (nxW W w s.at_) then none else _) = _
  have e35 : signF W s.go (nxW W w s.at_) = 35 ↔ mark W.z (nxW W w s.at_) = 35 := sign_mark K (by decide) (by decide) rfl (by decide)
  have e42 : signF W s.go s.at_ = 42 ↔ mark W.z s.at_ = 42 := sign_mark K (by decide) (by decide) rfl (by decide)
  have e103 : signF W s.go (nxW W w s.at_) = 103 ↔ mark W.z (nxW W w s.at_) = 103 := sign_mark K (by decide) (by decide) rfl (by decide)
  have ew : badWay (signF W s.go s.at_) w = badWay (mark W.z s.at_) w := sign_way K
  have esh : shutF W s w (nxW W w s.at_) ↔ (nxW W w s.at_ < 0 ∨ mark W.z (nxW W w s.at_) = 35 ∨ mark W.z s.at_ = 42 ∨ badWay (mark W.z s.at_) w = true ∨ (mark W.z (nxW W w s.at_) = 103 ∧ gateL W.z s.cr = false)) := by
    unfold shutF
    rw [e35, e42, e103, ew]
  by_cases hsh : shutF W s w (nxW W w s.at_)
  · rw [if_pos hsh]
    have h := esh.mp hsh
    by_cases h42 : mark W.z s.at_ = 42
    · rw [if_pos (.inl h42)]
    have hw : walkedL W s w = none := by
      unfold walkedL
      simp only
      by_cases q1 : nx W.rows.length W.wd w s.at_ < 0 ∨ mark W.z (nx W.rows.length W.wd w s.at_) = 35
      · rw [if_pos q1]
      rw [if_neg q1]
      by_cases q2 : badWay (mark W.z s.at_) w = true
      · rw [if_pos q2]
      rw [if_neg q2]
      have q3 : mark W.z (nx W.rows.length W.wd w s.at_) = 103 ∧ gateL W.z s.cr = false := by
        rcases h with h | h | h | h | h
        · exact absurd (.inl h) q1
        · exact absurd (.inr h) q1
        · exact absurd h h42
        · exact absurd h q2
        · exact h
      rw [if_pos q3]
    rw [hw]
    split
    · rfl
    · split
      · rfl
      · simp only
        split <;> rfl
  rw [if_neg hsh]
  have hn : ¬ (nxW W w s.at_ < 0 ∨ mark W.z (nxW W w s.at_) = 35 ∨ mark W.z s.at_ = 42 ∨ badWay (mark W.z s.at_) w = true ∨ (mark W.z (nxW W w s.at_) = 103 ∧ gateL W.z s.cr = false)) := fun z => hsh (esh.mpr z)
  have h42 : ¬ mark W.z s.at_ = 42 := fun z => hn (.inr (.inr (.inl z)))
  have g0 : ¬ nxW W w s.at_ < 0 := fun z => hn (.inl z)
  have hwl : walkedL W s w = (if nxW W w s.at_ ∈ s.cr then (match pushedL W s w (nxW W w s.at_) with
    | none => none
    | some (c, g) => some { s with at_ := nxW W w s.at_, cr := c, go := g })
  else if nxW W w s.at_ ∉ s.go ∧ (isKD (mark W.z (nxW W w s.at_)) = true ∨ mark W.z (nxW W w s.at_) = 120) then
    (if mark W.z (nxW W w s.at_) = 120 then none else match bagL W.cap s.ba s.bb (mark W.z (nxW W w s.at_)) with
      | none => none
      | some (a, b) => some { s with at_ := nxW W w s.at_, go := withOne s.go (nxW W w s.at_), ba := a, bb := b })
  else some { s with at_ := nxW W w s.at_ }) := by
    have hg : nx W.rows.length W.wd w s.at_ = nxW W w s.at_ := rfl
    unfold walkedL
    simp only [hg]
    rw [if_neg (fun z => z.elim g0 fun z => hn (.inr (.inl z))), if_neg (fun z => hn (.inr (.inr (.inr (.inl z))))), if_neg (fun z => hn (.inr (.inr (.inr (.inr z)))))]
    try (cases pushedL W s w (nxW W w s.at_) <;> cases bagL W.cap s.ba s.bb (mark W.z (nxW W w s.at_)) <;> rfl)
  -- onto a place without a crate
  have ent : nxW W w s.at_ ∉ s.cr → ∀ cr, enterF W s cr s.go (nxW W w s.at_) = (match (if nxW W w s.at_ ∉ s.go ∧ (isKD (mark W.z (nxW W w s.at_)) = true ∨ mark W.z (nxW W w s.at_) = 120) then
    (if mark W.z (nxW W w s.at_) = 120 then none else match bagL W.cap s.ba s.bb (mark W.z (nxW W w s.at_)) with
      | none => none
      | some (a, b) => some { s with at_ := nxW W w s.at_, go := withOne s.go (nxW W w s.at_), ba := a, bb := b })
    else some { s with at_ := nxW W w s.at_ }) with
    | none => none
    | some s' => some { s' with cr := cr }) := fun _ cr => by
    generalize nxW W w s.at_ = goal
    unfold enterF
    by_cases hgo : goal ∈ s.go
    · have e : signF W s.go goal = 46 := by unfold signF; rw [if_pos (.inr hgo)]
      rw [e, if_neg (by decide), if_neg (by decide), if_neg (fun z => z.1 hgo)]
    by_cases h111 : mark W.z goal = 111
    · have e : signF W s.go goal = 46 := by unfold signF; rw [if_pos (.inl h111)]
      rw [e, if_neg (by decide), if_neg (by decide), if_neg (fun z => by rw [h111] at z; exact absurd z.2 (by decide))]
    have e : signF W s.go goal = mark W.z goal := by unfold signF; rw [if_neg (fun z => z.elim h111 hgo)]
    rw [e]
    by_cases hx : mark W.z goal = 120
    · rw [if_pos hx, if_pos ⟨hgo, .inr hx⟩, if_pos hx]
    rw [if_neg hx]
    cases hk : isKD (mark W.z goal) with
    | false => rw [if_neg (by decide), if_neg (fun z => z.2.elim (fun y => by cases y) hx)]
    | true =>
      rw [if_pos rfl, if_pos ⟨hgo, .inl rfl⟩, if_neg hx, bag_eq K.ba0 K.ba1 K.bb0 K.bb1 hk]
      cases bagL W.cap s.ba s.bb (mark W.z goal) with
      | none => rfl
      | some ab => rfl
  cases big with
  | false =>
    rw [if_neg (fun z => z.elim h42 fun z => by cases z.1), if_pos rfl, hwl]
    unfold cratesF
    rw [if_neg (by decide)]
    by_cases hc : nxW W w s.at_ ∈ s.cr
    · rw [if_pos hc, if_pos hc, push_eq O K C hc]
      cases hp : pushedL W s w (nxW W w s.at_) with
      | none => rfl
      | some cg =>
        obtain ⟨cr, go⟩ := cg
        show enterF W s cr go _ = some _
        have sub : ∀ x ∈ s.go, x ∈ go := by
          rw [pushedL_is] at hp
          generalize (if W.strong = true ∧ nxW W w (nxW W w s.at_) ∈ s.cr then nxW W w (nxW W w (nxW W w s.at_)) else nxW W w (nxW W w s.at_)) = b at hp
          unfold restL at hp
          split at hp
          · cases hp
          · split at hp
            · cases hp; exact fun x hx => hx
            · split at hp
              · cases hp; exact fun x hx => mem_withOne.mpr (.inl hx)
              · cases hp
        have l2 := lies_mono sub (K.crl _ hc)
        unfold enterF
        have nk : ¬ isKD (signF W go (nxW W w s.at_)) = true := fun z => by
          have z := of_decide_eq_true z
          rcases z with z | z | z | z <;> exact lies_not l2 (by decide) (by decide) z
        rw [if_neg (lies_not l2 (by decide) (by decide)), if_neg nk]
    · rw [if_neg hc, if_neg hc]
      show enterF W s s.cr s.go _ = _
      rw [ent hc]
      split
      · rename_i e
        rw [e]
      · rename_i s' e
        rw [e]
        congr 1
        have : s'.cr = s.cr := by
          split at e
          · split at e
            · cases e
            · split at e
              · cases e
              · cases e; rfl
          · cases e; rfl
        cases s'
        cases this
        rfl
  | true =>
    unfold cratesF
    rw [if_pos rfl]
    by_cases hp : W.pull = false
    · rw [if_pos (.inl hp), if_pos (.inr ⟨rfl, hp⟩)]
    rw [if_neg (show ¬ (mark W.z s.at_ = 42 ∨ (true = true ∧ W.pull = false)) from fun z => z.elim h42 fun z => hp z.2), if_neg (show ¬ (true = false) by decide)]
    simp only
    have el : liesF W s.cr s.go s.at_ = lies W.z s.go s.at_ := by
      have := lies_F (W := W) (cr := s.cr) (go := s.go) (c := s.at_)
      cases h1 : lies W.z s.go s.at_ with
      | true => rw [h1] at this; exact this.mpr ⟨K.at0, C.off, rfl⟩
      | false =>
        cases h2 : liesF W s.cr s.go s.at_ with
        | false => rfl
        | true => rw [h1, h2] at this; exact absurd (this.mp rfl).2.2 (by decide)
    rw [el]
    by_cases hq : nxW W w.back s.at_ ∉ s.cr ∨ nxW W w s.at_ ∈ s.cr ∨ lies W.z s.go s.at_ = false
    · have hq2 : nx W.rows.length W.wd w.back s.at_ ∉ s.cr ∨ nx W.rows.length W.wd w s.at_ ∈ s.cr ∨ lies W.z s.go s.at_ = false := hq
      rw [if_pos hq2, if_pos (by
        rcases hq with h | h | h
        · exact .inr (.inr (.inl h))
        · exact .inr (.inl h)
        · exact .inr (.inr (.inr h)))]
    · have hq2 : ¬ (nx W.rows.length W.wd w.back s.at_ ∉ s.cr ∨ nx W.rows.length W.wd w s.at_ ∈ s.cr ∨ lies W.z s.go s.at_ = false) := hq
      have hc : nxW W w s.at_ ∉ s.cr := fun z => hq (.inr (.inl z))
      rw [if_neg hq2, if_neg (fun z => by
        rcases z with h | h | h | h
        · exact hp h
        · exact hc h
        · exact hq (.inl h)
        · exact hq (.inr (.inr h))), hwl, if_neg hc]
      show enterF W s _ s.go _ = _
      rw [ent hc]
      rfl
end
theorem sc__law_next : FnScope ["rows", "at", "letter", "wide", "line", "column"] ["rows", "at", "letter"] (defScope s__law_next) := ⟨rfl, rfl, rfl, by decide +kernel, rfl, by decide +kernel, by decide +kernel⟩
theorem sc__law_sign : FnScope ["rows", "gone", "at", "sign"] ["rows", "gone", "at"] (defScope s__law_sign) := ⟨rfl, rfl, rfl, by decide +kernel, rfl, by decide +kernel, by decide +kernel⟩
theorem sc__law_lies : FnScope ["rows", "crates", "gone", "at"] ["rows", "crates", "gone", "at"] (defScope s__law_lies) := ⟨rfl, rfl, rfl, by decide +kernel, rfl, by decide +kernel, by decide +kernel⟩
theorem sc__law_pushed : FnScope ["rows", "crates", "gone", "at", "letter", "more", "goal", "told", "left", "crate"] ["rows", "crates", "gone", "at", "letter", "more"] (defScope s__law_pushed) := ⟨rfl, rfl, rfl, by decide +kernel, rfl, by decide +kernel, by decide +kernel⟩
theorem sc__law_is_shut : FnScope ["rows", "state", "letter", "goal", "here", "text", "bare", "at"] ["rows", "state", "letter", "goal"] (defScope s__law_is_shut) := ⟨rfl, rfl, rfl, by decide +kernel, rfl, by decide +kernel, by decide +kernel⟩
theorem sc__law_step : FnScope ["rows", "rules", "state", "letter", "at", "crates", "gone", "used", "bag", "goal", "behind", "told", "sign", "more", "crate"] ["rows", "rules", "state", "letter"] (defScope s__law_step) := ⟨rfl, rfl, rfl, by decide +kernel, rfl, by decide +kernel, by decide +kernel⟩
/-- the rows of a room as the law holds them -/
def LR (H : Hp) (v : V) (W : Wld) : Prop := ∃ a, v = .ref a ∧ H a = some (.tup (W.rows.map V.str))
theorem LR.keep {H H' : Hp} (k : ∀ (a : Addr) (xs : List V), H a = some (.tup xs) → H' a = some (.tup xs)) {v : V} {W : Wld} (h : LR H v W) : LR H' v W := by
  obtain ⟨a, e, ha⟩ := h
  exact ⟨a, e, k _ _ ha⟩
theorem LR.same {H H' : Hp} (s : Same H H') {v : V} {W : Wld} (h : LR H v W) : LR H' v W := h.keep fun _ _ e => s _ _ e
structure LawT (mg : Str → Option Value) : Prop extends Rb mg where
  n_sorted : mg "sorted" = none
  n_min : mg "min" = none
theorem join_fit {W : Wld} (O : WOk W) : (W.rows.map fun x => x.length).sum + W.rows.length * ("" : Str).length ≤ 16777216 := by
  have h1 := join_sum W.rows
  have h2 := join_len O.R
  have h3 := O.n30
  have h4 : ("" : Str).length = 0 := rfl
  have h5 : W.n = W.rows.length * W.wd := rfl
  rw [h4]
  omega
theorem eqV_str (x y : Str) : eqV (.str y) (.str x) = decide (x = y) := by
  by_cases h : x = y
  · subst h; simp [eqV]
  · have h2 : ¬ y = x := fun z => h z.symm
    simp [eqV, h, h2]
theorem inV_strs (x : Str) : ∀ ys : List Str, inV (.str x) (ys.map V.str) = decide (x ∈ ys)
  | [] => by simp [inV]
  | y :: r => by
    have ih := inV_strs x r
    unfold inV at ih ⊢
    rw [List.map_cons, List.any_cons, ih, eqV_str]
    simp [List.mem_cons, Bool.decide_or]
theorem str1 (a b : Nat) : ((⟨#[a]⟩ : Str) = ⟨#[b]⟩) ↔ a = b := ⟨fun z => by injection z with z; simpa using z, fun z => by rw [z]⟩
def wayIx : Way → Nat
  | .u => 0
  | .d => 1
  | .l => 2
  | .r => 3
def wayC : Way → Nat
  | .u => 117
  | .d => 100
  | .l => 108
  | .r => 114
theorem sign_c (w : Way) : w.sign = ⟨#[wayC w]⟩ := by cases w <;> decide +kernel
theorem wayC_mem (w : Way) : wayC w ∈ ("udlr" : Str).cps.toList := by cases w <;> decide +kernel
theorem wayC_ix (w : Way) : Txt.find "udlr" ⟨#[wayC w]⟩ = (wayIx w : Nat) := by cases w <;> decide +kernel
section
variable {P : Program} {w : World} {K : PySem.W.Frag} {mg : Str → Option Value} {base : Heap}
def spNext : Sp := fun vs H Q _ => ∃ (W : Wld) (rw_ : V) (at_ : Int) (wy : Way) (big : Bool), vs = [rw_, .int at_, .str (letterOf wy big)] ∧ WOk W ∧ LR H rw_ W ∧ 0 ≤ at_ ∧ ∀ H', Same H H' → Q (.int (nxW W wy at_)) H'
theorem ok_next {f : Addr} {fd : FuncData} (F : Fun K "_law_next" "_law_next" s__law_next f fd) (T : Rb mg) : FnG P w K mg base (CXe P w) 1 f fd ["rows", "at", "letter"] spNext := by
  refine F.okG sc__law_next (fun vs H Q E h => ?_) (fun cdv A outer s H vs Q E hgd hr h => ?_)
  · obtain ⟨W, rw_, at_, wy, big, rfl, _⟩ := h; rfl
  · obtain ⟨W, rw_, at_, wy, big, rfl, O, ⟨ra, rfl, hra⟩, a0, k⟩ := h
    refine ⟨_, (pss_cons (ps_set (i := 3) sc__law_next.nd rfl (Or.inl rfl) (pe_callB call_len_str (by rfl) T.n_len (by decide +kernel) (pa_cons (pe_ix ix_tup (pv 0) pe_int (fun _ _ => rfl)) pa_nil)))
      (pss_cons (ps_set (i := 4) sc__law_next.nd rfl (Or.inl rfl) (pe_op op_add (pe_op op_fdivN (pv 1) (pv 3)) (pe_ix ix_list (pe_lstA (pa_cons (pe_un un_neg pe_int) (pa_cons pe_int (pa_cons pe_int (pa_cons pe_int pa_nil))))) (pe_m1 PySem.F.slot_str_index PySem.F.type_str_index mt_signAt pe_str (pe_bm0 PySem.F.plainAttrs_str PySem.F.slot_str_lower PySem.F.type_str_lower mt_lower (pv 2))) (fun _ _ => rfl))))
      (pss_cons (ps_set (i := 5) sc__law_next.nd rfl (Or.inl rfl) (pe_op op_add (pe_op op_mod (pe_callTy call_int1 (by rfl) T.n_int (by decide +kernel) (pa_cons (pv 1) pa_nil)) (pv 3)) (pe_ix ix_list (pe_lstA (pa_cons pe_int (pa_cons pe_int (pa_cons (pe_un un_neg pe_int) (pa_cons pe_int pa_nil))))) (pe_m1 PySem.F.slot_str_index PySem.F.type_str_index mt_signAt pe_str (pe_bm0 PySem.F.plainAttrs_str PySem.F.slot_str_lower PySem.F.type_str_lower mt_lower (pv 2))) (fun _ _ => rfl))))
      (pss_cons (ps_if (PW.pt (pw_or (pt_cmpR op_lt (pv 4) pe_int (nomark _)) (pw_or (pt_cmpR op_ge (pv 4) (pe_callB call_len_seq (by rfl) T.n_len (by decide +kernel) (pa_cons (pv 0) pa_nil)) (nomark _)) (pw_or (pt_cmpR op_lt (pv 5) pe_int (nomark _)) (pw_or1 (pt_cmpR op_ge (pv 5) (pv 3) (nomark _))))))) (pss_one (ps_ret (pe_un un_neg pe_int))) pss_nil)
      (pss_one (ps_ret (pe_op op_add (pe_op op_mul (pv 4) (pv 3)) (pv 5)))))))), ?_⟩
    obtain ⟨r0, rest, hrows⟩ : ∃ r0 rest, W.rows = r0 :: rest := by
      have := O.R.h1
      cases hw : W.rows with
      | nil => rw [hw] at this; cases this
      | cons x y => exact ⟨x, y, rfl⟩
    have l0 : r0.length = W.wd := O.R.al r0 (by rw [hrows]; simp)
    have w1 := O.R.w1
    have w6 := O.R.w6
    have h5 := O.R.h5
    refine ⟨_, rfl, ra, _, 0, .str r0, rfl, rfl, SqT.of hra, atI_nat (xs := W.rows.map V.str) (j := 0) (v := .str r0) (by rw [hrows]; rfl), ?_⟩
    walk_at "rd"
    refine And.intro (by rw [l0]; exact Nat.le_of_lt (small1000 (by omega))) ?_
    rw [l0]
    walk_at "rd"
    refine And.intro (Nat.le_of_ble_eq_true rfl) fun L1 H1 n1 => ?_
    refine ⟨⟨_, rfl⟩, _, rfl, rfl, letterOf wy big, rfl, rfl, letter_len wy big, ?_⟩
    rw [letter_low]
    refine ⟨"udlr", wayC wy, rfl, by rw [sign_c], wayC_mem wy, ?_⟩
    rw [wayC_ix]
    refine ⟨L1, _, _, .int wy.down, rfl, rfl, SqL.of n1.at_, atI_nat (xs := [V.int (-1), V.int 1, V.int 0, V.int 0]) (j := wayIx wy) (by cases wy <;> rfl), ?_⟩
    refine ⟨_, _, rfl, rfl, ?_⟩
    refine ⟨_, rfl, .inl ⟨_, rfl, _, rfl, _, _, rfl, rfl, And.intro (by show (0 : Int) < _; omega) ?_⟩⟩
    walk_at "rd"
    refine And.intro (Nat.le_of_ble_eq_true rfl) fun L2 H2 n2 => ?_
    refine ⟨⟨_, rfl⟩, _, rfl, rfl, letterOf wy big, rfl, rfl, letter_len wy big, ?_⟩
    rw [letter_low]
    refine ⟨"udlr", wayC wy, rfl, by rw [sign_c], wayC_mem wy, ?_⟩
    rw [wayC_ix]
    refine ⟨L2, _, _, .int wy.across, rfl, rfl, SqL.of n2.at_, atI_nat (xs := [V.int 0, V.int 0, V.int (-1), V.int 1]) (j := wayIx wy) (by cases wy <;> rfl), ?_⟩
    refine ⟨_, _, rfl, rfl, ?_⟩
    have s2 : Same H H2 := Same.trans n1.same n2.same
    have hra2 := s2 _ _ hra
    have k := k H2 s2
    unfold nxW nx at k
    have ef : at_.fdiv (W.wd : Int) = at_ / W.wd := Int.fdiv_eq_ediv_of_nonneg _ (by omega)
    have ew : (fun i j => V.int (i + j)) (at_.fdiv (W.wd : Int)) wy.down = .int (at_ / W.wd + wy.down) := by rw [ef]
    rw [ew]
    have ew2 : (fun i j => V.int (i + j)) (at_ % (W.wd : Int)) wy.across = .int (at_ % W.wd + wy.across) := rfl
    rw [ew2]
    generalize at_ / (W.wd : Int) + wy.down = R at *
    generalize at_ % (W.wd : Int) + wy.across = Cc at *
    have no : ¬ ((0 ≤ R ∧ R < (W.rows.length : Int)) ∧ (0 ≤ Cc ∧ Cc < (W.wd : Int))) → Q (.int (-1)) H2 := fun z => by rw [if_neg z] at k; exact k
    walk_at "rd"
    refine ite2 (fun z => iteT ?_) (fun z => ?_)
    · exact ⟨_, rfl, no (fun y => by have := of_decide_eq_true z; omega)⟩
    have z1 : ¬ R < 0 := fun y => z (decide_eq_true y)
    walk_at "rd"
    refine ⟨ra, _, rfl, .inr (SqT.of hra2), ?_⟩
    walk_at "rd"
    refine ite2 (fun z => iteT ?_) (fun z => ?_)
    · exact ⟨_, rfl, no (fun y => by have := of_decide_eq_true z; rw [List.length_map] at this; omega)⟩
    have z2 : R < (W.rows.length : Int) := by
      have : ¬ (((W.rows.map V.str).length : Nat) : Int) ≤ R := fun y => z (decide_eq_true y)
      rw [List.length_map] at this
      omega
    walk_at "rd"
    refine ite2 (fun z => iteT ?_) (fun z => ?_)
    · exact ⟨_, rfl, no (fun y => by have := of_decide_eq_true z; omega)⟩
    have z3 : ¬ Cc < 0 := fun y => z (decide_eq_true y)
    walk_at "rd"
    refine ite2 (fun z => ?_) (fun z => ?_)
    · exact ⟨_, rfl, no (fun y => by have := of_decide_eq_true z; omega)⟩
    have z4 : ¬ (W.wd : Int) ≤ Cc := fun y => z (decide_eq_true y)
    rw [if_pos (by omega)] at k
    walk_at "rd"
    exact k
def spSign : Sp := fun vs H Q _ => ∃ (W : Wld) (rw_ : V) (g : Addr) (go : List Int) (c : Int), vs = [rw_, .ref g, .int c] ∧ WOk W ∧ LR H rw_ W ∧ H g = some (.tup (go.map V.int)) ∧ 0 ≤ c ∧ c < W.n ∧ Q (.str ⟨#[signF W go c]⟩) H
theorem ok_sign {f : Addr} {fd : FuncData} (F : Fun K "_law_sign" "_law_sign" s__law_sign f fd) (T : Rb mg) : FnG P w K mg base (CXe P w) 1 f fd ["rows", "gone", "at"] spSign := by
  refine F.okG sc__law_sign (fun vs H Q E h => ?_) (fun cdv A outer s H vs Q E hgd hr h => ?_)
  · obtain ⟨W, rw_, g, go, c, rfl, _⟩ := h; rfl
  · obtain ⟨W, rw_, g, go, c, rfl, O, ⟨ra, rfl, hra⟩, hg, c0, c1, k⟩ := h
    refine ⟨_, (pss_cons (ps_set (i := 3) sc__law_sign.nd rfl (Or.inl rfl) (pe_ix ix_str (pe_m1 PySem.F.slot_str_join PySem.F.type_str_join mt_join pe_str (pv 0)) (pv 2) (fun _ _ => rfl)))
      (pss_one (ps_ret (pe_ifExp (PW.pt (pw_or (pt_cmpR op_eq (pv 3) pe_str (nomark _)) (pw_or1 (pt_cmpR op_in_seq (pv 2) (pv 1) (by rfl))))) pe_str (pv 3))))), ?_⟩
    refine ⟨⟨_, rfl⟩, _, rfl, "", ra, W.rows, rfl, rfl, .inr (SqT.of hra), join_fit O, ?_⟩
    refine ⟨_, rfl, W.z, c, mark W.z c, rfl, rfl, z_fit O, mark_at c0 c1 O.R, ?_⟩
    have e111 : ("o" : Str) = ⟨#[111]⟩ := by decide +kernel
    have e46 : ("." : Str) = ⟨#[46]⟩ := by decide +kernel
    have ec : ∀ k : Nat, (V.str ⟨#[mark W.z c]⟩ = V.str ⟨#[k]⟩) ↔ mark W.z c = k := fun k => ⟨fun z => by injection z with z; injection z with z; simpa using z, fun z => by rw [z]⟩
    refine ⟨_, rfl, (rfl : scal _ _ = true), _, rfl, ?_⟩
    rw [e111]
    by_cases h1 : mark W.z c = 111
    · refine iteT' (decide_eq_true ((ec _).mpr h1)) (iteT ?_)
      rw [e46]
      unfold signF at k
      rw [if_pos (.inl h1)] at k
      exact k
    refine iteF' (fun z => h1 ((ec _).mp (of_decide_eq_true z))) ?_
    refine ⟨_, rfl, _, rfl, g, _, rfl, .inr (SqT.of hg), rfl, flat_ints _, ?_⟩
    rw [inV_ints]
    unfold signF at k
    by_cases h2 : c ∈ go
    · rw [if_pos (.inr h2)] at k
      refine ⟨_, rfl, ?_⟩
      rw [decide_eq_true h2]
      refine iteT ?_
      rw [e46]
      exact k
    · rw [if_neg (fun z => z.elim h1 h2)] at k
      refine ⟨_, rfl, ?_⟩
      rw [decide_eq_false h2]
      exact iteF ⟨_, rfl, k⟩
def spLies : Sp := fun vs H Q _ => ∃ (W : Wld) (rw_ : V) (q g : Addr) (cr go : List Int) (c : Int), vs = [rw_, .ref q, .ref g, .int c] ∧ WOk W ∧ LR H rw_ W ∧ H q = some (.tup (cr.map V.int)) ∧ H g = some (.tup (go.map V.int)) ∧ c < W.n ∧ ∀ H', Same H H' → Q (.bl (liesF W cr go c)) H'
theorem ok_lies {f : Addr} {fd : FuncData} (F : Fun K "_law_lies" "_law_lies" s__law_lies f fd) (T : Rb mg) (c__law_sign : CalG P w K mg base 1 "_law_sign" spSign) : FnG P w K mg base (CXe P w) 2 f fd ["rows", "crates", "gone", "at"] spLies := by
  refine F.okG sc__law_lies (fun vs H Q E h => ?_) (fun cdv A outer s H vs Q E hgd hr h => ?_)
  · obtain ⟨W, rw_, q, g, cr, go, c, rfl, _⟩ := h; rfl
  · obtain ⟨W, rw_, q, g, cr, go, c, rfl, O, hL, hq, hg, c1, k⟩ := h
    refine ⟨_, (pss_one (ps_ret (pe_and (pe_cmpR op_ge (pv 3) pe_int (nomark _)) (pe_and (pe_cmpR op_notIn_seq (pv 3) (pv 1) (by rfl)) (pe_one (pe_cmpR op_in_seq (pg_c c__law_sign hgd hr (by first | decide | omega) (pa_cons (pv 0) (pa_cons (pv 2) (pa_cons (pv 3) pa_nil)))) (pe_lstA (pa_cons pe_str (pa_cons pe_str pa_nil))) (by rfl))))))), ?_⟩
    walk_at "rd"
    by_cases h0 : 0 ≤ c
    rotate_left
    · refine iteF' (by simpa using h0) ?_
      have : liesF W cr go c = false := by unfold liesF; rw [decide_eq_false h0]; rfl
      rw [this] at k
      exact k H (Same.refl _)
    refine iteT' (decide_eq_true h0) ?_
    refine ⟨_, rfl, _, rfl, q, _, rfl, .inr (SqT.of hq), rfl, flat_ints _, ?_⟩
    rw [inV_ints]
    by_cases h1 : c ∈ cr
    · refine ⟨_, rfl, ?_⟩
      have : liesF W cr go c = false := by unfold liesF; simp [h1]
      rw [this] at k
      refine iteF' (by simp [h1]) ?_
      exact k H (Same.refl _)
    refine ⟨_, rfl, iteT' (by simp [h1]) ?_⟩
    refine ⟨_, rfl, _, rfl, _, rfl, W, rw_, g, go, c, rfl, O, hL, hg, h0, c1, ?_⟩
    refine And.intro (Nat.le_of_ble_eq_true rfl) fun L1 H1 n1 => ?_
    refine ⟨L1, _, rfl, .inl (SqL.of n1.at_), rfl, rfl, ?_⟩
    have k := k H1 n1.same
    have e46 : ("." : Str) = ⟨#[46]⟩ := by decide +kernel
    have e112 : ("p" : Str) = ⟨#[112]⟩ := by decide +kernel
    have e : inV (.str ⟨#[signF W go c]⟩) [V.str ".", V.str "p"] = liesF W cr go c := by
      rw [e46, e112]
      have := inV_strs ⟨#[signF W go c]⟩ [⟨#[46]⟩, ⟨#[112]⟩]
      refine this.trans ?_
      unfold liesF
      rw [decide_eq_true h0, decide_eq_true h1, Bool.true_and, Bool.true_and]
      refine decide_eq_decide.mpr ?_
      simp only [List.mem_cons, List.not_mem_nil, or_false, str1]
    show Q (.bl (inV (.str ⟨#[signF W go c]⟩) [V.str ".", V.str "p"])) H1
    rw [e]
    exact k
theorem dropF_len {W : Wld} {cr go : List Int} {c goal : Int} {a b : List Int} (h : dropF W cr go c goal = some (a, b)) : a.length ≤ cr.length + 1 ∧ b.length ≤ go.length + 1 := by
  have := without_le cr c
  unfold dropF at h
  split at h
  · cases h; rw [withOne_len]; omega
  · split at h
    · cases h; rw [withOne_len]; omega
    · cases h
theorem pushF_len {W : Wld} {wy : Way} : ∀ (n : Nat) {cr go : List Int} {c : Int} {a b : List Int}, pushF W wy n cr go c = some (a, b) → a.length ≤ cr.length + n + 1 ∧ b.length ≤ go.length + n + 1
  | 0, cr, go, c, a, b, h => by
    unfold pushF at h
    split at h
    · cases h
    · have := dropF_len h; omega
  | n + 1, cr, go, c, a, b, h => by
    unfold pushF at h
    split at h
    · cases e : pushF W wy n cr go (nxW W wy c) with
      | none => rw [e] at h; cases h
      | some ab =>
        obtain ⟨x, y⟩ := ab
        rw [e] at h
        have h1 := pushF_len n e
        have h2 := dropF_len h
        omega
    · have := dropF_len h; omega
def below (sp : Nat → Sp) (n : Nat) : Sp := fun vs H Q E => ∃ m, m < n ∧ sp m vs H Q E
def spPush (n : Nat) : Sp := fun vs H Q _ => ∃ (W : Wld) (rw_ : V) (q g : Addr) (cr go : List Int) (c : Int) (wy : Way), vs = [rw_, .ref q, .ref g, .int c, .str (letterOf wy false), .int (n : Nat)] ∧ WOk W ∧ LR H rw_ W ∧ H q = some (.tup (cr.map V.int)) ∧ H g = some (.tup (go.map V.int)) ∧ 0 ≤ c ∧ cr.length ≤ 60 ∧ go.length + n ≤ 60 ∧ n ≤ 2 ∧
  (pushF W wy n cr go c = none → ∀ H', Same H H' → Q .non H') ∧
  (∀ cr' go', pushF W wy n cr go c = some (cr', go') → ∀ t q' g' H', Same H H' → H' t = some (.tup [.ref q', .ref g']) → H' q' = some (.tup (cr'.map V.int)) → H' g' = some (.tup (go'.map V.int)) → Q (.ref t) H')
theorem ok_push {f : Addr} {fd : FuncData} {n : Nat} (F : Fun K "_law_pushed" "_law_pushed" s__law_pushed f fd) (T : LawT mg) (c__law_next : CalG P w K mg base 1 "_law_next" spNext) (c__law_sign : CalG P w K mg base 1 "_law_sign" spSign) (c__law_lies : CalG P w K mg base 2 "_law_lies" spLies) (c__law_pushed : CalG P w K mg base (2 + n) "_law_pushed" (below spPush n)) :
    FnG P w K mg base (CXe P w) (2 + n + 1) f fd ["rows", "crates", "gone", "at", "letter", "more"] (spPush n) := by
  refine F.okG sc__law_pushed (fun vs H Q E h => ?_) (fun cdv A outer s H vs Q E hgd hr h => ?_)
  · obtain ⟨W, rw_, q, g, cr, go, c, wy, rfl, _⟩ := h; rfl
  · obtain ⟨W, rw_, q, g, cr, go, c, wy, rfl, O, hL, hq, hg, c0, lc, lg, hn, kN, kS⟩ := h
    refine ⟨_, (pss_cons (ps_set (i := 6) sc__law_pushed.nd rfl (Or.inl rfl) (pg_c c__law_next hgd hr (by omega) (pa_cons (pv 0) (pa_cons (pv 3) (pa_cons (pv 4) pa_nil)))))
      (C8.pss_cut (ps_if (PW.pt (pw_and (pt_cmpR op_ge (pv 6) pe_int (nomark _)) (pw_and1 (pt_cmpR op_in_seq (pv 6) (pv 1) (by rfl))))) (pss_cons (ps_set (i := 7) sc__law_pushed.nd rfl (Or.inl rfl) pe_non)
      (C8.pss_cut (ps_if (pt_cmpR op_gt (pv 5) pe_int (nomark _)) (pss_one (ps_set (i := 7) sc__law_pushed.nd rfl (Or.inl rfl) (pg_c c__law_pushed hgd hr (by omega) (pa_cons (pv 0) (pa_cons (pv 1) (pa_cons (pv 2) (pa_cons (pv 6) (pa_cons (pv 4) (pa_cons (pe_op op_sub (pv 5) pe_int) pa_nil))))))))) pss_nil)
      (pss_cons (ps_if (pt_cmpR op_isN (pv 7) pe_non (nomark _)) (pss_one (ps_ret pe_non)) pss_nil)
      (pss_one (ps_asg (pv 7) (pg_tup (by rfl) (pgs_cons (pg_name (i := 1) sc__law_pushed.nd rfl (Or.inl rfl)) (pgs_cons (pg_name (i := 2) sc__law_pushed.nd rfl (Or.inl rfl)) pgs_nil)))))))) pss_nil)
      (pss_cons (ps_set (i := 8) sc__law_pushed.nd rfl (Or.inl rfl) (pe_callTy call_tuple_of (by rfl) T.n_tuple (by decide +kernel) (pa_cons (pe_lc (own := [("crate", 9)]) (g := gName 9) rfl sc__law_pushed.nd (pi_tup (pv 1)) (blkOk_by (own := [("crate", 9)]) (N := ["rows", "crates", "gone", "at", "letter", "more", "goal", "told", "left", "crate"]) (sc := defScope s__law_pushed) (by decide +kernel)) (fun _ _ _ _ _ => pg_name (i := 9) sc__law_pushed.nd rfl (Or.inl rfl)) (fun _ _ _ _ _ => pts_one (pt_cmpR op_ne (pv 9) (pv 3) (nomark _))) (fun _ _ _ _ _ => (pv 9))) pa_nil)))
      (C8.pss_cut (ps_if (PW.pt (pw_and (pt_cmpR op_ge (pv 6) pe_int (nomark _)) (pw_and1 (pt_cmpR op_eq (pg_c c__law_sign hgd hr (by omega) (pa_cons (pv 0) (pa_cons (pv 2) (pa_cons (pv 6) pa_nil)))) pe_str (nomark _))))) (pss_one (ps_ret (pe_tupA (pa_cons (pv 8) (pa_cons (pe_callTy call_tuple_of (by rfl) T.n_tuple (by decide +kernel) (pa_cons (pe_callB cr_sortedIT (by rfl) T.n_sorted (by decide +kernel) (pa_cons (pe_op op_catA (pv 2) (pe_tupA (pa_cons (pv 6) pa_nil))) pa_nil)) pa_nil)) pa_nil))))) pss_nil)
      (pss_cons (ps_if (pt_not (pt_val (pg_c c__law_lies hgd hr (by omega) (pa_cons (pv 0) (pa_cons (pv 1) (pa_cons (pv 2) (pa_cons (pv 6) pa_nil))))))) (pss_one (ps_ret pe_non)) pss_nil)
      (pss_one (ps_ret (pe_tupA (pa_cons (pe_callTy call_tuple_of (by rfl) T.n_tuple (by decide +kernel) (pa_cons (pe_callB cr_sortedIT (by rfl) T.n_sorted (by decide +kernel) (pa_cons (pe_op op_catA (pv 8) (pe_tupA (pa_cons (pv 6) pa_nil))) pa_nil)) pa_nil)) (pa_cons (pv 2) pa_nil)))))))))), ?_⟩
    refine ⟨_, rfl, _, rfl, _, rfl, W, rw_, c, wy, false, rfl, O, hL, c0, fun H1 s1 => ?_⟩
    have g1 : nxW W wy c < W.n := by
      by_cases z : 0 ≤ nxW W wy c
      · exact nx_lt z
      · have : (0 : Int) ≤ W.n := Int.natCast_nonneg _
        omega
    have hpf : pushF W wy n cr go c = if 0 ≤ nxW W wy c ∧ nxW W wy c ∈ cr then (match (match n with | 0 => none | m + 1 => pushF W wy m cr go (nxW W wy c)) with | none => none | some (a, b) => dropF W a b c (nxW W wy c)) else dropF W cr go c (nxW W wy c) := by
      cases n <;> rfl
    generalize nxW W wy c = goal at g1 hpf ⊢
    refine ⟨fun σ' H' => ∃ (q2 g2 : Addr) (cr2 go2 : List Int) (o : Option V), σ' = [some rw_, some (.ref q2), some (.ref g2), some (.int c), some (.str (letterOf wy false)), some (.int (n : Nat)), some (.int goal), o, none, none] ∧ Same H H' ∧ H' q2 = some (.tup (cr2.map V.int)) ∧ H' g2 = some (.tup (go2.map V.int)) ∧ cr2.length ≤ 70 ∧ go2.length ≤ 70 ∧ pushF W wy n cr go c = dropF W cr2 go2 c goal, ?_, ?_⟩
    · walk_at "rd"
      by_cases h0 : 0 ≤ goal
      rotate_left
      · refine iteF' (by simpa using h0) ?_
        refine iteF' (by simp) ?_
        exact ⟨q, g, cr, go, _, rfl, s1, s1 _ _ hq, s1 _ _ hg, by omega, by omega, by rw [hpf, if_neg (fun z => h0 z.1)]⟩
      refine iteT' (decide_eq_true h0) ?_
      refine ⟨_, rfl, _, rfl, q, _, rfl, .inr (SqT.of (s1 _ _ hq)), rfl, flat_ints _, ?_⟩
      rw [inV_ints]
      refine ⟨_, rfl, ?_⟩
      by_cases hc : goal ∈ cr
      rotate_left
      · refine iteF' (by simp [hc]) ?_
        exact ⟨q, g, cr, go, _, rfl, s1, s1 _ _ hq, s1 _ _ hg, by omega, by omega, by rw [hpf, if_neg (fun z => hc z.2)]⟩
      refine iteT' (by simp [hc]) ?_
      rw [if_pos ⟨h0, hc⟩] at hpf
      refine ⟨fun σ' H' => ∃ (u : V), σ' = [some rw_, some (.ref q), some (.ref g), some (.int c), some (.str (letterOf wy false)), some (.int (n : Nat)), some (.int goal), some u, none, none] ∧ Same H H' ∧ ((u = .non ∧ pushF W wy n cr go c = none) ∨ ∃ t q2 g2 cr2 go2, u = .ref t ∧ H' t = some (.tup [.ref q2, .ref g2]) ∧ H' q2 = some (.tup (cr2.map V.int)) ∧ H' g2 = some (.tup (go2.map V.int)) ∧ cr2.length ≤ 70 ∧ go2.length ≤ 70 ∧ pushF W wy n cr go c = dropF W cr2 go2 c goal), ?_, ?_⟩
      · walk_at "rd"
        cases n with
        | zero => exact iteF' (by simp) ⟨.non, rfl, s1, .inl ⟨rfl, by rw [hpf]⟩⟩
        | succ m =>
          refine iteT' (by simp) ?_
          have hpf : pushF W wy (m + 1) cr go c = (match pushF W wy m cr go goal with | none => none | some (a, b) => dropF W a b c goal) := hpf
          refine ⟨_, rfl, _, rfl, _, rfl, _, rfl, _, rfl, _, rfl, _, _, rfl, rfl, m, by omega, W, rw_, q, g, cr, go, goal, wy, ?_, O, hL.same s1, s1 _ _ hq, s1 _ _ hg, h0, lc, by omega, by omega, fun hn H2 s2 => ?_, fun cr2 go2 hs t q2 g2 H2 s2 e1 e3 e4 => ?_⟩
          · congr 5
            show [V.int (((m + 1 : Nat) : Int) - 1)] = _
            congr 2
            omega
          · exact ⟨.non, rfl, s1.trans s2, .inl ⟨rfl, by rw [hpf, hn]⟩⟩
          · have hl := pushF_len m hs
            exact ⟨.ref t, rfl, s1.trans s2, .inr ⟨t, q2, g2, cr2, go2, rfl, e1, e3, e4, by omega, by omega, by rw [hpf, hs]⟩⟩
      · rintro σ2 H2 ⟨u, rfl, s2, hu⟩
        walk_at "rd"
        refine ⟨rfl, _, rfl, ?_⟩
        rcases hu with ⟨rfl, hu⟩ | ⟨t, q2, g2, cr2, go2, rfl, e1, e3, e4, l1, l2, e5⟩
        · refine iteT' (by simp) ?_
          exact kN hu H2 s2
        · refine iteF' (by simp) ?_
          refine ⟨_, rfl, t, _, rfl, SqT.of e1, rfl, _, _, rfl, _, _, rfl, rfl, ?_⟩
          exact ⟨q2, g2, cr2, go2, _, rfl, s2, e3, e4, l1, l2, e5⟩
    · rintro σ2 H2 ⟨q2, g2, cr2, go2, o, rfl, s2, hq2, hg2, lc2, lg2, e2⟩
      rw [e2] at kN kS
      refine ⟨_, rfl, q2, rfl, ⟨_, SqT.of hq2⟩, fun D hD => lc_it (walk_tup (xs := cr2.map V.int)) (fun i H3 => H3 D = some (.lst ((without (cr2.take i) c).map V.int)) ∧ Off (fun b => b = D) H2 H3) ⟨upd_same, Off.new hD⟩ (fun i H3 _ z => SqT.of (z.2 _ _ (ne_of_none hq2 hD) hq2)) ?_ ?_⟩
      · rintro i y H3 H4 hi ⟨hacc, off⟩ ⟨rfl, hy⟩
        rw [List.length_map] at hi
        cases mapI_get hi hy
        refine And.intro rfl ?_
        walk_at "rd"
        rw [without_take hi]
        by_cases e : cr2[i] = c
        · refine iteF' (by simp [e]) ?_
          rw [if_pos e]
          exact ⟨hacc, off⟩
        · refine iteT' (by simp [e]) ?_
          rw [if_neg e]
          refine ⟨_, rfl, _, hacc, sz ?_, ?_, off.trans (Off.mut rfl)⟩
          · rw [List.length_map]
            have := without_le (cr2.take i) c
            have : (cr2.take i).length ≤ 100 := Nat.le_trans (List.length_take_le' ..) (by omega)
            omega
          · rw [upd_same, List.map_append]
            rfl
      rintro H3 ⟨hacc, off⟩
      rw [List.length_map, List.take_length] at hacc
      have s3 : Same H2 H3 := fun b o e => off b o (ne_of_none e hD) e
      refine ⟨D, _, rfl, .inl ⟨SqL.of hacc, fun l hl => ?_⟩⟩
      have s4 := (s2.trans s3).trans (same_new (o := .tup ((without cr2 c).map V.int)) hl)
      have s24 : Same H2 (upd H3 l (.tup ((without cr2 c).map V.int))) := s3.trans (same_new hl)
      have el : (upd H3 l (.tup ((without cr2 c).map V.int))) l = some (.tup ((without cr2 c).map V.int)) := upd_same
      generalize upd H3 l (.tup ((without cr2 c).map V.int)) = H4 at s4 s24 el ⊢
      have hg4 := s24 _ _ hg2
      have hq4 := s24 _ _ hq2
      have llw := without_le cr2 c
      walk_at "rd"
      have ec : ∀ k m : Nat, (V.str ⟨#[m]⟩ = V.str ⟨#[k]⟩) ↔ m = k := fun k m => ⟨fun z => by injection z with z; exact (str1 _ _).mp z, fun z => by rw [z]⟩
      have e120 : ("x" : Str) = ⟨#[120]⟩ := by decide +kernel
      refine ⟨fun σ' H' => σ' = [some rw_, some (.ref q2), some (.ref g2), some (.int c), some (.str (letterOf wy false)), some (.int (n : Nat)), some (.int goal), o, some (.ref l), none] ∧ H' = H4 ∧ ¬ (0 ≤ goal ∧ signF W go2 goal = 120), ?_, ?_⟩
      · walk_at "rd"
        by_cases h0 : 0 ≤ goal
        rotate_left
        · exact iteF' (by simpa using h0) (iteF' (by simp) ⟨rfl, rfl, fun z => h0 z.1⟩)
        refine iteT' (decide_eq_true h0) ?_
        refine ⟨_, rfl, _, rfl, _, rfl, W, rw_, g2, go2, goal, rfl, O, hL.same s4, hg4, h0, g1, ?_⟩
        refine ⟨(rfl : scal _ _ = true), _, rfl, ?_⟩
        rw [e120]
        by_cases hx : signF W go2 goal = 120
        rotate_left
        · exact iteF' (fun z => hx ((ec _ _).mp (of_decide_eq_true z))) ⟨rfl, rfl, fun z => hx z.2⟩
        refine iteT' (decide_eq_true ((ec _ _).mpr hx)) ?_
        refine ⟨_, rfl, _, rfl, _, rfl, And.intro (Nat.le_of_ble_eq_true rfl) fun tp H5 n5 => ?_⟩
        refine catU (n5.same _ _ hg4) n5.at_ (Nat.le_of_lt (sz (by rw [List.length_map]; show go2.length + 1 ≤ 1000; omega))) fun u1 K1 t1 hu1 => ?_
        refine ⟨u1, go2 ++ [goal], rfl, .inr (SqT.of (by rw [List.map_append]; exact hu1)), fun ns u2 hp hu hp0 => ?_⟩
        have es : ns = withOne go2 goal := sorted_is hp hu
        subst es
        refine ⟨u2, _, rfl, .inl ⟨SqL.of upd_same, fun t hl0 => ?_⟩⟩
        have s6 : Same H5 _ := (t1.trans (same_new hp0)).trans (same_new (o := .tup ((withOne go2 goal).map V.int)) hl0)
        have ht : (upd (upd K1 u2 (.lst ((withOne go2 goal).map V.int))) t (.tup ((withOne go2 goal).map V.int))) t = some (.tup ((withOne go2 goal).map V.int)) := upd_same
        generalize upd (upd K1 u2 (.lst ((withOne go2 goal).map V.int))) t (.tup ((withOne go2 goal).map V.int)) = H6 at s6 ht ⊢
        refine And.intro (Nat.le_of_ble_eq_true rfl) fun r H7 n7 => ?_
        have s47 : Same H4 H7 := (Same.trans n5.same s6).trans n7.same
        refine kS (without cr2 c) (withOne go2 goal) (by unfold dropF; rw [if_pos ⟨h0, hx⟩]) r l t H7 (s4.trans s47) n7.at_ (s47 _ _ el) (n7.same _ _ ht)
      · rintro σ3 H5 ⟨rfl, rfl, hnx⟩
        refine ⟨_, rfl, _, rfl, _, rfl, _, rfl, W, rw_, q2, g2, cr2, go2, goal, rfl, O, hL.same s4, hq4, hg4, g1, fun H6 s6 => ?_⟩
        by_cases hl2 : liesF W cr2 go2 goal = true
        rotate_left
        · refine ⟨_, rfl, iteT' (by simpa using hl2) ?_⟩
          exact kN (by unfold dropF; rw [if_neg hnx, if_neg hl2]) H6 (s4.trans s6)
        refine ⟨_, rfl, iteF' (by simp [hl2]) ?_⟩
        refine ⟨_, rfl, _, rfl, And.intro (Nat.le_of_ble_eq_true rfl) fun tp H7 n7 => ?_⟩
        refine catU (n7.same _ _ (s6 _ _ el)) n7.at_ (Nat.le_of_lt (sz (by rw [List.length_map]; show (without cr2 c).length + 1 ≤ 1000; omega))) fun u1 K1 t1 hu1 => ?_
        refine ⟨u1, without cr2 c ++ [goal], rfl, .inr (SqT.of (by rw [List.map_append]; exact hu1)), fun ns u2 hp hu hp0 => ?_⟩
        have es : ns = withOne (without cr2 c) goal := sorted_is hp hu
        subst es
        refine ⟨u2, _, rfl, .inl ⟨SqL.of upd_same, fun t hl0 => ?_⟩⟩
        have s8 : Same H7 _ := (t1.trans (same_new hp0)).trans (same_new (o := .tup ((withOne (without cr2 c) goal).map V.int)) hl0)
        have ht : (upd (upd K1 u2 (.lst ((withOne (without cr2 c) goal).map V.int))) t (.tup ((withOne (without cr2 c) goal).map V.int))) t = some (.tup ((withOne (without cr2 c) goal).map V.int)) := upd_same
        generalize upd (upd K1 u2 (.lst ((withOne (without cr2 c) goal).map V.int))) t (.tup ((withOne (without cr2 c) goal).map V.int)) = H8 at s8 ht ⊢
        refine ⟨_, rfl, And.intro (Nat.le_of_ble_eq_true rfl) fun r H9 n9 => ?_⟩
        have s59 := ((s6.trans n7.same).trans s8).trans n9.same
        refine kS (withOne (without cr2 c) goal) go2 (by unfold dropF; rw [if_neg hnx, if_pos hl2]) r t g2 H9 (s4.trans s59) n9.at_ (n9.same _ _ ht) (s59 _ _ hg4)
end
theorem DpAll_ints {K : PySem.W.Frag} {H : Hp} : ∀ xs : List Int, DpAll K H (xs.map V.int) (xs.map PyData.int)
  | [] => .nil
  | x :: xs => .cons (.int x) (DpAll_ints xs)
theorem lay_ints : ∀ xs : List Int, PyData.canLayAll0 (xs.map PyData.int) = true
  | [] => rfl
  | x :: xs => by show (true && PyData.canLayAll0 (xs.map PyData.int)) = true; rw [lay_ints xs]; rfl
theorem depth_ints : ∀ xs : List Int, PyData.depthAll (xs.map PyData.int) ≤ 1
  | [] => by simp [PyData.depthAll]
  | x :: xs => by have := depth_ints xs; simp [PyData.depthAll, PyData.depth]; omega
theorem shaped_ints (xs : List Int) : SeqAt.shaped (.list (xs.map PyData.int)) = true := by
  have := depth_ints xs
  unfold SeqAt.shaped
  simp [PyData.canLay0, lay_ints, PyData.depth]
  omega
theorem eqv_nil (xs : List Int) : PyData.eqv (.list (xs.map PyData.int)) (.list []) = decide (xs = []) := by
  cases xs with
  | nil => rfl
  | cons x r => simp [PyData.eqv, PyData.eqvAll]
theorem ec (k m : Nat) : (V.str ⟨#[m]⟩ = V.str ⟨#[k]⟩) ↔ m = k := ⟨fun z => by injection z with z; exact (str1 _ _).mp z, fun z => by rw [z]⟩
/-- the plates that are bare -/
def bareL (W : Wld) (cr : List Int) (n : Nat) : List Int := ((List.range n).filter fun k : Nat => decide (mark W.z (k : Int) = 112) && decide ((k : Int) ∉ cr)).map fun k : Nat => (k : Int)
theorem bare_nil (W : Wld) (cr : List Int) : (bareL W cr W.z.length = []) ↔ gateL W.z cr = true := by
  unfold bareL gateL
  rw [List.map_eq_nil_iff, List.filter_eq_nil_iff, List.all_eq_true]
  refine ⟨fun h k hk => ?_, fun h k hk => ?_⟩
  · have := h k hk
    simp only [Bool.and_eq_true, decide_eq_true_eq, not_and, Classical.not_not] at this
    by_cases e : mark W.z (k : Int) = 112
    · simp [this e]
    · simp [e]
  · have := h k hk
    simp only [Bool.or_eq_true, decide_eq_true_eq] at this
    simp only [Bool.and_eq_true, decide_eq_true_eq, not_and, Classical.not_not]
    intro e
    rcases this with h1 | h1
    · exact absurd e h1
    · exact h1
theorem bare_succ (W : Wld) (cr : List Int) (n : Nat) : bareL W cr (n + 1) = if mark W.z (n : Int) = 112 ∧ (n : Int) ∉ cr then bareL W cr n ++ [(n : Int)] else bareL W cr n := by
  unfold bareL
  rw [List.range_succ, List.filter_append, List.map_append]
  by_cases h : mark W.z (n : Int) = 112 ∧ (n : Int) ∉ cr
  · rw [if_pos h]; simp [h.1, h.2]
  · rw [if_neg h]
    have : (decide (mark W.z (n : Int) = 112) && decide ((n : Int) ∉ cr)) = false := by
      simpa [Classical.not_and_iff_not_or_not] using h
    rw [List.filter_cons]
    simp only [this]
    simp
theorem bare_len (W : Wld) (cr : List Int) (n : Nat) : (bareL W cr n).length ≤ n := by
  unfold bareL
  rw [List.length_map]
  exact Nat.le_trans (List.length_filter_le _ _) (by rw [List.length_range]; exact Nat.le_refl _)
def oneC : Way → Nat
  | .u => 94
  | .d => 118
  | .l => 60
  | .r => 62
theorem badWay_is (m : Nat) (w : Way) : badWay m w = (decide (m = 94 ∨ m = 118 ∨ m = 60 ∨ m = 62) && decide (m ≠ oneC w)) := by
  unfold badWay oneWay
  by_cases h1 : m = 94
  · subst h1; cases w <;> decide
  by_cases h2 : m = 118
  · subst h2; cases w <;> decide
  by_cases h3 : m = 60
  · subst h3; cases w <;> decide
  by_cases h4 : m = 62
  · subst h4; cases w <;> decide
  simp [h1, h2, h3, h4]
section
variable {P : Program} {w : World} {K : PySem.W.Frag} {mg : Str → Option Value} {base : Heap}
def spShut : Sp := fun vs H Q _ => ∃ (W : Wld) (rw_ sv : V) (s : Sta) (wy : Way) (big : Bool) (goal : Int), vs = [rw_, sv, .str (letterOf wy big), .int goal] ∧ WOk W ∧ LR H rw_ W ∧ StaAt H sv s ∧ Ok W s ∧ goal < W.n ∧ ∀ H', Same H H' → Q (.bl (decide (shutF W s wy goal))) H'
theorem ok_shut {f : Addr} {fd : FuncData} (F : Fun K "_law_is_shut" "_law_is_shut" s__law_is_shut f fd) (T : LawT mg) (c__law_sign : CalG P w K mg base 1 "_law_sign" spSign) : FnG P w K mg base (CXe P w) 2 f fd ["rows", "state", "letter", "goal"] spShut := by
  refine F.okG sc__law_is_shut (fun vs H Q E h => ?_) (fun cdv A outer s H vs Q E hgd hr h => ?_)
  · obtain ⟨W, rw_, sv, st, wy, big, goal, rfl, _⟩ := h; rfl
  · obtain ⟨W, rw_, sv, st, wy, big, goal, rfl, O, hL, hsv, hs, g1, k⟩ := h
    refine ⟨_, (pss_cons (ps_set (i := 4) sc__law_is_shut.nd rfl (Or.inl rfl) (pg_c c__law_sign hgd hr (by first | decide | omega) (pa_cons (pv 0) (pa_cons (pe_ix ix_tup (pv 1) pe_int (fun _ _ => rfl)) (pa_cons (pe_ix ix_tup (pv 1) pe_int (fun _ _ => rfl)) pa_nil)))))
      (pss_cons (ps_if (PW.pt (pw_or (pt_cmpR op_lt (pv 3) pe_int (nomark _)) (pw_or (pt_cmpR op_eq (pg_c c__law_sign hgd hr (by first | decide | omega) (pa_cons (pv 0) (pa_cons (pe_ix ix_tup (pv 1) pe_int (fun _ _ => rfl)) (pa_cons (pv 3) pa_nil)))) pe_str (nomark _)) (pw_or1 (pt_cmpR op_eq (pv 4) pe_str (nomark _)))))) (pss_one (ps_ret pe_bl)) pss_nil)
      (C8.pss_cut (ps_if (PW.pt (pw_and (pt_cmpR op_in_seq (pv 4) (pe_lstA (pa_cons pe_str (pa_cons pe_str (pa_cons pe_str (pa_cons pe_str pa_nil))))) (by rfl)) (pw_and1 (pt_cmpR op_ne (pv 4) (pe_ix ix_str pe_str (pe_m1 PySem.F.slot_str_index PySem.F.type_str_index mt_signAt pe_str (pe_bm0 PySem.F.plainAttrs_str PySem.F.slot_str_lower PySem.F.type_str_lower mt_lower (pv 2))) (fun _ _ => rfl)) (nomark _))))) (pss_one (ps_ret pe_bl)) pss_nil)
      (pss_cons (ps_set (i := 5) sc__law_is_shut.nd rfl (Or.inr rfl) (pe_m1 PySem.F.slot_str_join PySem.F.type_str_join mt_join pe_str (pv 0)))
      (pss_cons (ps_setLc (i := 6) (own := [("at", 7)]) (g := gName 7) rfl sc__law_is_shut.nd rfl rfl (sw_true rfl rfl rfl (by decide +kernel)) (pi_range1 (by rfl) T.n_range (pa_cons (pe_callB call_len_str (by rfl) T.n_len (by decide +kernel) (pa_cons (pv 5) pa_nil)) pa_nil)) (blkOk_by (own := [("at", 7)]) (N := ["rows", "state", "letter", "goal", "here", "text", "bare", "at"]) (sc := defScope s__law_is_shut) (by decide +kernel)) (fun _ _ _ _ _ => pg_name (i := 7) sc__law_is_shut.nd rfl (Or.inl rfl)) (fun _ _ _ _ _ => pts_one (PW.pt (pw_and (pt_cmpR op_eq (pe_ix ix_str (pv 5) (pv 7) (fun _ _ => rfl)) pe_str (nomark _)) (pw_and1 (pt_cmpR (show OpR _ (compareOp .NotIn) (rIn K true) from op_notIn_seq) (pv 7) (pe_ix (show IxR _ (rIxT K) from ix_tup) (pv 1) pe_int (fun _ _ => rfl)) (by rfl)))))) (fun _ _ _ _ _ => (pv 7)))
      (pss_one (ps_ret (pe_and (pe_cmpR op_eq (pg_c c__law_sign hgd hr (by first | decide | omega) (pa_cons (pv 0) (pa_cons (pe_ix ix_tup (pv 1) pe_int (fun _ _ => rfl)) (pa_cons (pv 3) pa_nil)))) pe_str (nomark _)) (pe_one (pe_cmpR (op_neD hr.units) (pv 6) (pe_lstA pa_nil) (nomark _))))))))))), ?_⟩
    obtain ⟨a, c, g, u, b, rfl, ha, hc, hg, hu, hb⟩ := id hsv
    refine ⟨_, rfl, _, rfl, a, _, 2, _, rfl, rfl, SqT.of ha, rfl, ?_⟩
    refine ⟨_, rfl, a, _, 0, _, rfl, rfl, SqT.of ha, rfl, ?_⟩
    refine ⟨W, rw_, g, st.go, st.at_, rfl, O, hL, hg, hs.at0, hs.at1, ?_⟩
    walk_at "rd"
    by_cases h0 : goal < 0
    · refine iteT' (decide_eq_true h0) (iteT ?_)
      have : decide (shutF W st wy goal) = true := decide_eq_true (.inl h0)
      rw [this] at k
      exact k H (Same.refl _)
    refine iteF' (by simpa using h0) ?_
    refine ⟨_, rfl, _, rfl, a, _, 2, _, rfl, rfl, SqT.of ha, rfl, _, rfl, W, rw_, g, st.go, goal, rfl, O, hL, hg, by omega, g1, (rfl : scal _ _ = true), _, rfl, ?_⟩
    have e35 : ("#" : Str) = ⟨#[35]⟩ := by decide +kernel
    have e42 : ("*" : Str) = ⟨#[42]⟩ := by decide +kernel
    have e103 : ("g" : Str) = ⟨#[103]⟩ := by decide +kernel
    rw [e35]
    by_cases h1 : signF W st.go goal = 35
    · refine iteT' (decide_eq_true ((ec _ _).mpr h1)) (iteT ?_)
      have : decide (shutF W st wy goal) = true := decide_eq_true (.inr (.inl h1))
      rw [this] at k
      exact k H (Same.refl _)
    refine iteF' (fun z => h1 ((ec _ _).mp (of_decide_eq_true z))) ?_
    refine ⟨_, rfl, (rfl : scal _ _ = true), _, rfl, ?_⟩
    rw [e42]
    by_cases h2 : signF W st.go st.at_ = 42
    · refine iteT' (decide_eq_true ((ec _ _).mpr h2)) ?_
      have : decide (shutF W st wy goal) = true := decide_eq_true (.inr (.inr (.inl h2)))
      rw [this] at k
      exact k H (Same.refl _)
    refine iteF' (fun z => h2 ((ec _ _).mp (of_decide_eq_true z))) ?_
    refine ⟨fun σ' H' => σ' = [some rw_, some (.ref a), some (.str (letterOf wy big)), some (.int goal), some (.str ⟨#[signF W st.go st.at_]⟩), none, none, none] ∧ Same H H' ∧ badWay (signF W st.go st.at_) wy = false, ?_, ?_⟩
    · refine ⟨_, rfl, And.intro (Nat.le_of_ble_eq_true rfl) fun L1 H1 n1 => ?_⟩
      refine ⟨L1, _, rfl, .inl (SqL.of n1.at_), rfl, rfl, _, rfl, ?_⟩
      have e1 : ("^" : Str) = ⟨#[94]⟩ := by decide +kernel
      have e2 : ("v" : Str) = ⟨#[118]⟩ := by decide +kernel
      have e3 : ("<" : Str) = ⟨#[60]⟩ := by decide +kernel
      have e4 : (">" : Str) = ⟨#[62]⟩ := by decide +kernel
      have ein : inV (.str ⟨#[signF W st.go st.at_]⟩) [V.str "^", V.str "v", V.str "<", V.str ">"] = decide (signF W st.go st.at_ = 94 ∨ signF W st.go st.at_ = 118 ∨ signF W st.go st.at_ = 60 ∨ signF W st.go st.at_ = 62) := by
        rw [e1, e2, e3, e4]
        refine (inV_strs ⟨#[signF W st.go st.at_]⟩ [⟨#[94]⟩, ⟨#[118]⟩, ⟨#[60]⟩, ⟨#[62]⟩]).trans (decide_eq_decide.mpr ?_)
        simp only [List.mem_cons, List.not_mem_nil, or_false, str1]
      have ew := badWay_is (signF W st.go st.at_) wy
      by_cases h3 : signF W st.go st.at_ = 94 ∨ signF W st.go st.at_ = 118 ∨ signF W st.go st.at_ = 60 ∨ signF W st.go st.at_ = 62
      rotate_left
      · refine iteF' (by
          show ¬ (inV (.str ⟨#[signF W st.go st.at_]⟩) [V.str "^", V.str "v", V.str "<", V.str ">"]) = true
          rw [ein, decide_eq_false h3]; simp) ?_
        exact iteF' (by simp) ⟨rfl, n1.same, by rw [ew, decide_eq_false h3]; rfl⟩
      refine iteT' (by
          show (inV (.str ⟨#[signF W st.go st.at_]⟩) [V.str "^", V.str "v", V.str "<", V.str ">"]) = true
          rw [ein, decide_eq_true h3]) ?_
      rw [decide_eq_true h3, Bool.true_and] at ew
      refine ⟨_, rfl, ⟨_, rfl⟩, _, rfl, rfl, letterOf wy big, rfl, rfl, letter_len wy big, ?_⟩
      rw [letter_low]
      refine ⟨"udlr", wayC wy, rfl, by rw [sign_c], wayC_mem wy, ?_⟩
      rw [wayC_ix]
      refine ⟨"^v<>", wayIx wy, oneC wy, rfl, rfl, Nat.le_of_lt (sz (by decide +kernel)), by cases wy <;> decide +kernel, (rfl : scal _ _ = true), _, rfl, ?_⟩
      by_cases h4 : signF W st.go st.at_ = oneC wy
      · exact iteF' (by rw [h4]; simp) ⟨rfl, n1.same, by rw [ew]; simp [h4]⟩
      · refine iteT' (by
          have : ¬ V.str ⟨#[signF W st.go st.at_]⟩ = V.str ⟨#[oneC wy]⟩ := fun z => h4 ((ec _ _).mp z)
          simpa using this) ?_
        have hb : badWay (signF W st.go st.at_) wy = true := by rw [ew]; simp [h4]
        have : decide (shutF W st wy goal) = true := decide_eq_true (.inr (.inr (.inr (.inl hb))))
        rw [this] at k
        exact k H1 n1.same
    · rintro σ1 H1 ⟨rfl, s1, hbw⟩
      have hk : ∀ b : Bool, b = (decide (signF W st.go goal = 103) && !gateL W.z st.cr) → decide (shutF W st wy goal) = b := fun b e => by
        rw [e]
        have : shutF W st wy goal ↔ (signF W st.go goal = 103 ∧ gateL W.z st.cr = false) := by
          unfold shutF
          rw [hbw]
          exact ⟨fun z => by
            rcases z with z | z | z | z | z
            · exact absurd z h0
            · exact absurd z h1
            · exact absurd z h2
            · cases z
            · exact z, fun z => .inr (.inr (.inr (.inr z)))⟩
        rw [show decide (shutF W st wy goal) = decide (signF W st.go goal = 103 ∧ gateL W.z st.cr = false) from decide_eq_decide.mpr this]
        by_cases e : signF W st.go goal = 103 <;> by_cases e2 : gateL W.z st.cr = true <;> simp [e, e2]
      obtain ⟨ra, rfl, hra⟩ := id hL
      have hz : W.z.length = W.n := join_len O.R
      have hn := O.n30
      refine ⟨⟨_, rfl⟩, _, rfl, "", ra, W.rows, rfl, rfl, .inr (SqT.of (s1 _ _ hra)), join_fit O, ?_⟩
      walk_at "rd"
      refine And.intro (z_fit O) ?_
      refine ⟨_, rfl, by show -(2 ^ 62) ≤ ((W.z.length : Nat) : Int); omega, by show ((W.z.length : Nat) : Int) < 2 ^ 62; omega, ?_⟩
      rw [show (((Txt.join "" W.rows).length : Nat) : Int).toNat = W.z.length from Int.toNat_natCast _]
      refine fun D hD => lc_it walk_range (fun i H' => H' D = some (.lst ((bareL W st.cr i).map V.int)) ∧ Off (fun b => b = D) H1 H') ⟨upd_same, Off.new hD⟩ (fun _ _ _ _ => trivial) ?_ ?_
      · rintro i y H2 H3 hi ⟨hacc, off⟩ ⟨rfl, rfl⟩
        have hi2 : i < W.z.length := hi
        have e0 : (0 : Int) + (i : Int) = (i : Int) := by omega
        have h2a := off _ _ (ne_of_none (s1 _ _ ha) hD) (s1 _ _ ha)
        have h2c := off _ _ (ne_of_none (s1 _ _ hc) hD) (s1 _ _ hc)
        have e112 : ("p" : Str) = ⟨#[112]⟩ := by decide +kernel
        have bl := bare_len W st.cr i
        have bs := bare_succ W st.cr i
        refine And.intro rfl ?_
        refine ⟨_, rfl, _, rfl, W.z, 0 + (i : Int), mark W.z (i : Int), rfl, rfl, z_fit O, by rw [e0]; exact mark_at (by omega) (by omega) O.R, ?_⟩
        refine ⟨(rfl : scal _ _ = true), _, rfl, ?_⟩
        rw [e112]
        by_cases q1 : mark W.z (i : Int) = 112
        rotate_left
        · refine iteF' (fun z => q1 ((ec _ _).mp (of_decide_eq_true z))) ?_
          refine iteF' (by simp) ?_
          rw [if_neg (fun z => q1 z.1)] at bs
          rw [bs]
          exact ⟨hacc, off⟩
        refine iteT' (decide_eq_true ((ec _ _).mpr q1)) ?_
        refine ⟨_, rfl, _, rfl, a, _, 1, _, rfl, rfl, SqT.of h2a, rfl, c, _, rfl, .inr (SqT.of h2c), rfl, flat_ints _, _, rfl, ?_⟩
        by_cases q2 : (i : Int) ∈ st.cr
        · refine iteF' (by show ¬ (!inV (V.int (0 + (i : Int))) (st.cr.map V.int)) = true; rw [e0, inV_ints]; simp [q2]) ?_
          rw [if_neg (fun z => z.2 q2)] at bs
          rw [bs]
          exact ⟨hacc, off⟩
        · refine iteT' (by show (!inV (V.int (0 + (i : Int))) (st.cr.map V.int)) = true; rw [e0, inV_ints]; simp [q2]) ?_
          rw [if_pos ⟨q1, q2⟩] at bs
          refine ⟨_, rfl, _, hacc, sz ?_, ?_, off.trans (Off.mut rfl)⟩
          · rw [List.length_map]; omega
          · rw [upd_same, bs, List.map_append]
            show _ = some (HO.lst (_ ++ [V.int (i : Int)]))
            rw [← e0]
      rintro H2 ⟨hacc, off⟩
      have s2 : Same H1 H2 := fun b o e => off b o (ne_of_none e hD) e
      have s02 := s1.trans s2
      refine ⟨_, rfl, _, rfl, a, _, 2, _, rfl, rfl, SqT.of (s02 _ _ ha), rfl, _, rfl, W, .ref ra, g, st.go, goal, rfl, O, ⟨ra, rfl, s02 _ _ hra⟩, s02 _ _ hg, by omega, g1, (rfl : scal _ _ = true), _, rfl, ?_⟩
      rw [e103]
      by_cases q : signF W st.go goal = 103
      rotate_left
      · rw [if_neg (by simpa using fun z => q ((ec _ _).mp z))]
        have k := k H2 s02
        rw [hk false (by simp [q])] at k
        exact k
      rw [if_pos (decide_eq_true ((ec _ _).mpr q))]
      refine ⟨_, rfl, And.intro (Nat.zero_le _) fun L3 H3 n3 => ?_⟩
      refine ⟨_, _, .lst (SqL.of (n3.same _ _ hacc)) (DpAll_ints _), .lst (SqL.of n3.at_) .nil, shaped_ints _, shaped_ints [], ?_⟩
      rw [eqv_nil]
      have k := k H3 (s02.trans n3.same)
      have eb : decide (bareL W st.cr W.z.length = []) = gateL W.z st.cr := by
        have := bare_nil W st.cr
        cases hgl : gateL W.z st.cr with
        | true => exact decide_eq_true (this.mpr hgl)
        | false => exact decide_eq_false (fun z => by rw [this.mp z] at hgl; cases hgl)
      rw [eb]
      rw [hk (!gateL W.z st.cr) (by simp [q])] at k
      exact k
end
/-- a book of rules as the law holds it -/
def LRl (H : Hp) (v : V) (W : Wld) : Prop := ∃ a, v = .ref a ∧ H a = some (.tup [.int W.cap, .bl W.strong, .bl W.pull])
theorem LRl.keep {H H' : Hp} (k : ∀ (a : Addr) (xs : List V), H a = some (.tup xs) → H' a = some (.tup xs)) {v : V} {W : Wld} (h : LRl H v W) : LRl H' v W := by
  obtain ⟨a, e, ha⟩ := h
  exact ⟨a, e, k _ _ ha⟩
theorem letter_up (w : Way) (b : Bool) : (decide (V.str (letterOf w b) ≠ V.str w.sign)) = b := by
  cases b with
  | false => simp [letterOf]
  | true => cases w <;> decide +kernel
section
variable {P : Program} {w : World} {K : PySem.W.Frag} {mg : Str → Option Value} {base : Heap}
def spLStep : Sp := fun vs H Q _ => ∃ (W : Wld) (rw_ ru sv : V) (s : Sta) (wy : Way) (big : Bool), vs = [rw_, ru, sv, .str (letterOf wy big)] ∧ WOk W ∧ LR H rw_ W ∧ LRl H ru W ∧ StaAt H sv s ∧ Ok W s ∧ s.go.length ≤ 50 ∧
  (stepF W s wy big = none → ∀ H', Same H H' → Q .non H') ∧ (∀ s', stepF W s wy big = some s' → ∀ v H', Same H H' → StaAt H' v s' → Q v H')
theorem ok_lstep {f : Addr} {fd : FuncData} (F : Fun K "_law_step" "_law_step" s__law_step f fd) (T : LawT mg) (c__law_next : CalG P w K mg base 1 "_law_next" spNext) (c__law_sign : CalG P w K mg base 1 "_law_sign" spSign) (c__law_lies : CalG P w K mg base 2 "_law_lies" spLies) (c__law_pushed : CalG P w K mg base 4 "_law_pushed" (atMost 1 spPush)) (c__law_is_shut : CalG P w K mg base 2 "_law_is_shut" spShut) :
    FnG P w K mg base (CXe P w) 5 f fd ["rows", "rules", "state", "letter"] spLStep := by
  refine F.okG sc__law_step (fun vs H Q E h => ?_) (fun cdv A outer s H vs Q E hgd hr h => ?_)
  · obtain ⟨W, rw_, ru, sv, st, wy, big, rfl, _⟩ := h; rfl
  · obtain ⟨W, rw_, ru, sv, st, wy, big, rfl, O, hL, hru, hsv, hs, hgl, kN, kS⟩ := h
    refine ⟨_, (pss_cons (ps_asg (pv 2) (pg_tup (by rfl) (pgs_cons (pg_name (i := 4) sc__law_step.nd rfl (Or.inl rfl)) (pgs_cons (pg_name (i := 5) sc__law_step.nd rfl (Or.inl rfl)) (pgs_cons (pg_name (i := 6) sc__law_step.nd rfl (Or.inl rfl)) (pgs_cons (pg_name (i := 7) sc__law_step.nd rfl (Or.inl rfl)) (pgs_cons (pg_name (i := 8) sc__law_step.nd rfl (Or.inl rfl)) pgs_nil)))))))
      (pss_cons (ps_set (i := 9) sc__law_step.nd rfl (Or.inl rfl) (pg_c c__law_next hgd hr (by first | decide | omega) (pa_cons (pv 0) (pa_cons (pv 4) (pa_cons (pv 3) pa_nil)))))
      (pss_cons (ps_if (pt_val (pg_c c__law_is_shut hgd hr (by first | decide | omega) (pa_cons (pv 0) (pa_cons (pv 2) (pa_cons (pv 3) (pa_cons (pv 9) pa_nil)))))) (pss_one (ps_ret pe_non)) pss_nil)
      (C8.pss_cut (ps_if (pt_cmpR op_ne (pv 3) (pe_bm0 PySem.F.plainAttrs_str PySem.F.slot_str_lower PySem.F.type_str_lower mt_lower (pv 3)) (nomark _)) (pss_cons (ps_set (i := 10) sc__law_step.nd rfl (Or.inr rfl) (pg_c c__law_next hgd hr (by first | decide | omega) (pa_cons (pv 0) (pa_cons (pv 4) (pa_cons (pe_ix ix_str pe_str (pe_m1 PySem.F.slot_str_index PySem.F.type_str_index mt_signAt pe_str (pe_bm0 PySem.F.plainAttrs_str PySem.F.slot_str_lower PySem.F.type_str_lower mt_lower (pv 3))) (fun _ _ => rfl)) pa_nil)))))
      (pss_cons (ps_if (PW.pt (pw_or (pt_not (pt_val (pe_ix ix_tup (pv 1) pe_int (fun _ _ => rfl)))) (pw_or (pt_cmpR op_in_seq (pv 9) (pv 5) (by rfl)) (pw_or (pt_cmpR op_notIn_seq (pv 10) (pv 5) (by rfl)) (pw_or1 (pt_not (pt_val (pg_c c__law_lies hgd hr (by first | decide | omega) (pa_cons (pv 0) (pa_cons (pv 5) (pa_cons (pv 6) (pa_cons (pv 4) pa_nil)))))))))))) (pss_one (ps_ret pe_non)) pss_nil)
      (pss_one (ps_set (i := 5) sc__law_step.nd rfl (Or.inl rfl) (pe_callTy call_tuple_of (by rfl) T.n_tuple (by decide +kernel) (pa_cons (pe_callB cr_sortedIT (by rfl) T.n_sorted (by decide +kernel) (pa_cons (pe_op op_cat (pe_lc (own := [("crate", 14)]) (g := gName 14) rfl sc__law_step.nd (pi_tup (pv 5)) (blkOk_by (own := [("crate", 14)]) (N := ["rows", "rules", "state", "letter", "at", "crates", "gone", "used", "bag", "goal", "behind", "told", "sign", "more", "crate"]) (sc := defScope s__law_step) (by decide +kernel)) (fun _ _ _ _ _ => pg_name (i := 14) sc__law_step.nd rfl (Or.inl rfl)) (fun _ _ _ _ _ => pts_one (pt_cmpR op_ne (pv 14) (pv 10) (nomark _))) (fun _ _ _ _ _ => (pv 14))) (pe_lstA (pa_cons (pv 4) pa_nil))) pa_nil)) pa_nil)))))) (pss_one (ps_if (pt_cmpR op_in_seq (pv 9) (pv 5) (by rfl)) (pss_cons (ps_set (i := 11) sc__law_step.nd rfl (Or.inl rfl) (pg_c c__law_pushed hgd hr (by first | decide | omega) (pa_cons (pv 0) (pa_cons (pv 5) (pa_cons (pv 6) (pa_cons (pv 9) (pa_cons (pv 3) (pa_cons (pe_callTy call_int1 (by rfl) T.n_int (by decide +kernel) (pa_cons (pe_ix ix_tup (pv 1) pe_int (fun _ _ => rfl)) pa_nil)) pa_nil))))))))
      (pss_cons (ps_if (pt_cmpR op_isN (pv 11) pe_non (nomark _)) (pss_one (ps_ret pe_non)) pss_nil)
      (pss_one (ps_asg (pv 11) (pg_tup (by rfl) (pgs_cons (pg_name (i := 5) sc__law_step.nd rfl (Or.inl rfl)) (pgs_cons (pg_name (i := 6) sc__law_step.nd rfl (Or.inl rfl)) pgs_nil))))))) pss_nil)))
      (pss_cons (ps_set (i := 12) sc__law_step.nd rfl (Or.inl rfl) (pg_c c__law_sign hgd hr (by first | decide | omega) (pa_cons (pv 0) (pa_cons (pv 6) (pa_cons (pv 9) pa_nil)))))
      (pss_cons (ps_if (pt_cmpR op_eq (pv 12) pe_str (nomark _)) (pss_one (ps_ret pe_non)) pss_nil)
      (C8.pss_cut (ps_if (pt_cmpR op_in_seq (pv 12) (pe_lstA (pa_cons pe_str (pa_cons pe_str (pa_cons pe_str (pa_cons pe_str pa_nil))))) (by rfl)) (pss_cons (ps_set (i := 13) sc__law_step.nd rfl (Or.inl rfl) (pe_ix ix_list (pe_lstA (pa_cons pe_int (pa_cons (pe_un un_neg pe_int) pa_nil))) (pe_callTy call_int1 (by rfl) T.n_int (by decide +kernel) (pa_cons (pe_cmpR op_in_seq (pv 12) (pe_lstA (pa_cons pe_str (pa_cons pe_str pa_nil))) (by rfl)) pa_nil)) (fun _ _ => rfl)))
      (pss_cons (ps_set (i := 8) sc__law_step.nd rfl (Or.inl rfl) (pe_tupA (pa_cons (pe_op op_add (pe_ix ix_tup (pv 8) pe_int (fun _ _ => rfl)) (pe_op op_mul (pv 13) (pe_callTy call_int1 (by rfl) T.n_int (by decide +kernel) (pa_cons (pe_cmpR op_in_seq (pv 12) (pe_lstA (pa_cons pe_str (pa_cons pe_str pa_nil))) (by rfl)) pa_nil)))) (pa_cons (pe_op op_add (pe_ix ix_tup (pv 8) pe_int (fun _ _ => rfl)) (pe_op op_mul (pv 13) (pe_callTy call_int1 (by rfl) T.n_int (by decide +kernel) (pa_cons (pe_cmpR op_in_seq (pv 12) (pe_lstA (pa_cons pe_str (pa_cons pe_str pa_nil))) (by rfl)) pa_nil)))) pa_nil))))
      (pss_cons (ps_set (i := 6) sc__law_step.nd rfl (Or.inl rfl) (pe_callTy call_tuple_of (by rfl) T.n_tuple (by decide +kernel) (pa_cons (pe_callB cr_sortedIT (by rfl) T.n_sorted (by decide +kernel) (pa_cons (pe_op op_catA (pv 6) (pe_tupA (pa_cons (pv 9) pa_nil))) pa_nil)) pa_nil)))
      (pss_one (ps_if (PW.pt (pw_or (pt_cmpR op_lt (pe_callB (cr_minT rfl hr.units) (by rfl) T.n_min (by decide +kernel) (pa_cons (pv 8) pa_nil)) pe_int (nomark _)) (pw_or1 (pt_cmpR op_gt (pe_callB (cr_maxT rfl hr.units) (by rfl) T.n_max (by decide +kernel) (pa_cons (pv 8) pa_nil)) (pe_ix ix_tup (pv 1) pe_int (fun _ _ => rfl)) (nomark _))))) (pss_one (ps_ret pe_non)) pss_nil))))) pss_nil)
      (pss_one (ps_ret (pe_tupA (pa_cons (pv 9) (pa_cons (pv 5) (pa_cons (pv 6) (pa_cons (pv 7) (pa_cons (pv 8) pa_nil))))))))))))))), ?_⟩
    obtain ⟨a, c, g, u, b, rfl, ha, hc, hg, hu, hb⟩ := id hsv
    obtain ⟨R, rfl, hR⟩ := id hru
    refine ⟨_, rfl, a, _, rfl, SqT.of ha, rfl, ?_⟩
    refine ⟨_, _, rfl, _, _, rfl, _, _, rfl, _, _, rfl, _, _, rfl, rfl, ?_⟩
    refine ⟨_, rfl, _, rfl, _, rfl, W, rw_, st.at_, wy, big, rfl, O, hL, hs.at0, fun H1 s1 => ?_⟩
    have g1 : nxW W wy st.at_ < W.n := by
      by_cases z : 0 ≤ nxW W wy st.at_
      · exact nx_lt z
      · have : (0 : Int) ≤ W.n := Int.natCast_nonneg _
        omega
    unfold stepF at kN kS
    generalize nxW W wy st.at_ = goal at g1 kN kS ⊢
    refine ⟨_, rfl, _, rfl, _, rfl, _, rfl, W, rw_, .ref a, st, wy, big, goal, rfl, O, hL.same s1, hsv.same s1, hs, g1, fun H2 s2 => ?_⟩
    have s02 := s1.trans s2
    by_cases hsh : shutF W st wy goal
    · rw [if_pos hsh] at kN
      exact ⟨_, rfl, iteT' (decide_eq_true hsh) (kN rfl H2 s02)⟩
    refine ⟨_, rfl, iteF' (by simp [hsh]) ?_⟩
    rw [if_neg hsh] at kN kS
    have gn : 0 ≤ goal := by
      have : ¬ goal < 0 := fun z => hsh (.inl z)
      omega
    refine ⟨fun σ' H' => ∃ (q g2 : Addr) (cr2 go2 : List Int) (o10 o11 o14 : Option V), σ' = [some rw_, some (.ref R), some (.ref a), some (.str (letterOf wy big)), some (.int st.at_), some (.ref q), some (.ref g2), some (.ref u), some (.ref b), some (.int goal), o10, o11, none, none, o14] ∧ Same H H' ∧ H' q = some (.tup (cr2.map V.int)) ∧ H' g2 = some (.tup (go2.map V.int)) ∧ go2.length ≤ 70 ∧ cratesF W st wy big goal = some (cr2, go2), ?_, ?_⟩
    · refine ⟨_, rfl, _, rfl, rfl, letterOf wy big, rfl, rfl, letter_len wy big, ?_⟩
      rw [letter_low]
      refine ⟨(rfl : scal _ _ = true), _, rfl, ?_⟩
      have eup := letter_up wy big
      cases big with
      | true =>
        refine iteT' (by simpa using eup) ?_
        refine ⟨_, rfl, _, rfl, ⟨_, rfl⟩, _, rfl, rfl, letterOf wy true, rfl, rfl, letter_len wy true, ?_⟩
        rw [letter_low]
        refine ⟨"udlr", wayC wy, rfl, by rw [sign_c], wayC_mem wy, ?_⟩
        rw [wayC_ix]
        refine ⟨"durl", wayIx wy, wayC wy.back, rfl, rfl, Nat.le_of_lt (sz (by decide +kernel)), by cases wy <;> decide +kernel, ?_⟩
        refine ⟨W, rw_, st.at_, wy.back, false, by rw [← sign_c]; rfl, O, hL.same s02, hs.at0, fun H3 s3 => ?_⟩
        have s03 := s02.trans s3
        generalize hbk : nxW W wy.back st.at_ = bk
        refine ⟨_, rfl, R, _, 2, .bl W.pull, rfl, rfl, SqT.of (s03 _ _ hR), rfl, ?_⟩
        have eno : (W.pull = false ∨ goal ∈ st.cr ∨ bk ∉ st.cr ∨ liesF W st.cr st.go st.at_ = false) → cratesF W st wy true goal = none := fun z => by
          unfold cratesF
          rw [if_pos rfl, hbk, if_pos z]
        have no : (W.pull = false ∨ goal ∈ st.cr ∨ bk ∉ st.cr ∨ liesF W st.cr st.go st.at_ = false) → ∀ H', Same H H' → Q .non H' := fun z => by
          rw [eno z] at kN
          exact kN rfl
        refine ⟨_, rfl, ?_⟩
        by_cases hp : W.pull = true
        rotate_left
        · have hp : W.pull = false := by simpa using hp
          refine iteT' (by rw [hp]; rfl) (iteT ?_)
          exact no (.inl hp) H3 s03
        refine iteF' (by rw [hp]; decide) ?_
        refine ⟨_, rfl, _, rfl, c, _, rfl, .inr (SqT.of (s03 _ _ hc)), rfl, flat_ints _, _, rfl, ?_⟩
        by_cases hin : goal ∈ st.cr
        · refine iteT' (by show (inV _ _) = true; rw [inV_ints]; simp [hin]) (iteT ?_)
          exact no (.inr (.inl hin)) H3 s03
        refine iteF' (by show ¬ (inV _ _) = true; rw [inV_ints]; simp [hin]) ?_
        refine ⟨_, rfl, _, rfl, c, _, rfl, .inr (SqT.of (s03 _ _ hc)), rfl, flat_ints _, _, rfl, ?_⟩
        by_cases hb2 : bk ∈ st.cr
        rotate_left
        · refine iteT' (by show (!inV _ _) = true; rw [inV_ints]; simp [hb2]) (iteT ?_)
          exact no (.inr (.inr (.inl hb2))) H3 s03
        refine iteF' (by show ¬ (!inV _ _) = true; rw [inV_ints]; simp [hb2]) ?_
        refine ⟨_, rfl, _, rfl, _, rfl, _, rfl, W, rw_, c, g, st.cr, st.go, st.at_, rfl, O, hL.same s03, s03 _ _ hc, s03 _ _ hg, hs.at1, fun H4 s4 => ?_⟩
        have s04 := s03.trans s4
        by_cases hl : liesF W st.cr st.go st.at_ = true
        rotate_left
        · have hl : liesF W st.cr st.go st.at_ = false := by simpa using hl
          refine ⟨_, rfl, iteT' (by rw [hl]; rfl) ?_⟩
          exact no (.inr (.inr (.inr hl))) H4 s04
        refine ⟨_, rfl, iteF' (by rw [hl]; decide) ?_⟩
        have hc4 := s04 _ _ hc
        have hcl := hs.crn
        refine ⟨_, rfl, c, rfl, ⟨_, SqT.of hc4⟩, fun D hD => lc_it (walk_tup (xs := st.cr.map V.int)) (fun i H5 => H5 D = some (.lst ((without (st.cr.take i) bk).map V.int)) ∧ Off (fun b => b = D) H4 H5) ⟨upd_same, Off.new hD⟩ (fun i H5 _ z => SqT.of (z.2 _ _ (ne_of_none hc4 hD) hc4)) ?_ ?_⟩
        · rintro i y H5 H6 hi ⟨hacc, off⟩ ⟨rfl, hy⟩
          rw [List.length_map] at hi
          cases mapI_get hi hy
          refine And.intro rfl ?_
          walk_at "rd"
          rw [without_take hi]
          by_cases e : st.cr[i] = bk
          · refine iteF' (by simp [e]) ?_
            rw [if_pos e]
            exact ⟨hacc, off⟩
          · refine iteT' (by simp [e]) ?_
            rw [if_neg e]
            refine ⟨_, rfl, _, hacc, sz ?_, ?_, off.trans (Off.mut rfl)⟩
            · rw [List.length_map]
              have := without_le (st.cr.take i) bk
              have : (st.cr.take i).length ≤ 100 := Nat.le_trans (List.length_take_le' ..) (by omega)
              omega
            · rw [upd_same, List.map_append]
              rfl
        rintro H5 ⟨hacc, off⟩
        rw [List.length_map, List.take_length] at hacc
        have s5 : Same H4 H5 := fun b o e => off b o (ne_of_none e hD) e
        have llw := without_le st.cr bk
        refine ⟨_, rfl, And.intro (Nat.le_of_ble_eq_true rfl) fun p6 H6 n6 => ?_⟩
        refine ⟨D, p6, _, _, rfl, rfl, n6.same _ _ hacc, n6.at_, Nat.le_of_lt (sz (by rw [List.length_map]; show (without st.cr bk).length + 1 ≤ 1000; omega)), fun q7 hq7 => ?_⟩
        have s7 : Same H6 (upd H6 q7 (.lst ((without st.cr bk).map V.int ++ [V.int st.at_]))) := same_new hq7
        have e7 : (upd H6 q7 (.lst ((without st.cr bk).map V.int ++ [V.int st.at_]))) q7 = some (.lst ((without st.cr bk ++ [st.at_]).map V.int)) := by rw [upd_same, List.map_append]; rfl
        generalize upd H6 q7 (.lst ((without st.cr bk).map V.int ++ [V.int st.at_])) = H7 at s7 e7 ⊢
        refine ⟨q7, without st.cr bk ++ [st.at_], rfl, .inl (SqL.of e7), fun ns u2 hpm hu2 hp0 => ?_⟩
        have es : ns = withOne (without st.cr bk) st.at_ := sorted_is hpm hu2
        subst es
        refine ⟨u2, _, rfl, .inl ⟨SqL.of upd_same, fun t8 hl0 => ?_⟩⟩
        have s8 : Same H7 _ := (same_new hp0).trans (same_new (o := .tup ((withOne (without st.cr bk) st.at_).map V.int)) hl0)
        have s08 := ((s04.trans s5).trans (n6.same.trans s7)).trans s8
        refine ⟨t8, g, withOne (without st.cr bk) st.at_, st.go, _, _, _, rfl, s08, upd_same, s08 _ _ hg, by omega, ?_⟩
        unfold cratesF
        rw [if_pos rfl, hbk, if_neg]
        rintro (z | z | z | z)
        · rw [hp] at z; cases z
        · exact hin z
        · exact z hb2
        · rw [hl] at z; cases z
      | false =>
        refine iteF' (by simpa using eup) ?_
        refine ⟨_, rfl, _, rfl, c, _, rfl, .inr (SqT.of (s02 _ _ hc)), rfl, flat_ints _, _, rfl, ?_⟩
        by_cases hin : goal ∈ st.cr
        rotate_left
        · refine iteF' (by show ¬ (inV _ _) = true; rw [inV_ints]; simp [hin]) ?_
          exact ⟨c, g, st.cr, st.go, _, _, _, rfl, s02, s02 _ _ hc, s02 _ _ hg, by omega, by unfold cratesF; rw [if_neg (by decide), if_neg hin]⟩
        refine iteT' (by show (inV _ _) = true; rw [inV_ints]; simp [hin]) ?_
        have ecf : cratesF W st wy false goal = pushF W wy (if W.strong = true then 1 else 0) st.cr st.go goal := by unfold cratesF; rw [if_neg (by decide), if_pos hin]
        rw [ecf] at kN kS
        refine ⟨_, rfl, _, rfl, _, rfl, _, rfl, _, rfl, _, rfl, R, _, 1, .bl W.strong, rfl, rfl, SqT.of (s02 _ _ hR), rfl, .inr ⟨_, rfl, ?_⟩⟩
        have em : (V.int (if W.strong = true then 1 else 0)) = V.int ((if W.strong = true then 1 else 0 : Nat) : Int) := by cases W.strong <;> rfl
        rw [em]
        refine ⟨(if W.strong = true then 1 else 0), by split <;> omega, W, rw_, c, g, st.cr, st.go, goal, wy, rfl, O, hL.same s02, s02 _ _ hc, s02 _ _ hg, gn, by have := hs.crn; omega, by split <;> omega, by split <;> omega, fun hn H3 s3 => ?_, fun cr2 go2 hp t q2 g2 H3 s3 e1 e3 e4 => ?_⟩
        · rw [hn] at kN
          refine ⟨_, rfl, rfl, _, rfl, iteT' (by simp) ?_⟩
          exact kN rfl H3 (s02.trans s3)
        · have hl := pushF_len _ hp
          refine ⟨_, rfl, rfl, _, rfl, iteF' (by simp) ?_⟩
          refine ⟨_, rfl, t, _, rfl, SqT.of e1, rfl, _, _, rfl, _, _, rfl, rfl, ?_⟩
          exact ⟨q2, g2, cr2, go2, _, _, _, rfl, s02.trans s3, e3, e4, by have : (if W.strong = true then 1 else 0) ≤ 1 := (by split <;> omega); omega, by rw [ecf]; exact hp⟩
    · rintro σ3 H3 ⟨q, g2, cr2, go2, o10, o11, o14, rfl, s3, hq, hg2, lg2, ecr⟩
      rw [ecr] at kN kS
      have kN : enterF W st cr2 go2 goal = none → ∀ H', Same H H' → Q .non H' := kN
      have kS : ∀ s', enterF W st cr2 go2 goal = some s' → ∀ v H', Same H H' → StaAt H' v s' → Q v H' := kS
      have s3L := hL.same s3
      refine ⟨_, rfl, _, rfl, _, rfl, W, rw_, g2, go2, goal, rfl, O, s3L, hg2, gn, g1, ?_⟩
      unfold enterF at kN kS
      generalize signF W go2 goal = m at kN kS ⊢
      refine ⟨_, rfl, (rfl : scal _ _ = true), _, rfl, ?_⟩
      have e120 : ("x" : Str) = ⟨#[120]⟩ := by decide +kernel
      rw [e120]
      by_cases hx : m = 120
      · rw [if_pos hx] at kN
        exact iteT' (decide_eq_true ((ec _ _).mpr hx)) (kN rfl H3 s3)
      rw [if_neg hx] at kN kS
      refine iteF' (fun z => hx ((ec _ _).mp (of_decide_eq_true z))) ?_
      refine ⟨fun σ' H' => ∃ (g4 b4 : Addr) (go4 : List Int) (a4 b5 : Int) (o10 o11 o13 o14 : Option V), σ' = [some rw_, some (.ref R), some (.ref a), some (.str (letterOf wy big)), some (.int st.at_), some (.ref q), some (.ref g4), some (.ref u), some (.ref b4), some (.int goal), o10, o11, some (.str ⟨#[m]⟩), o13, o14] ∧ Same H H' ∧ H' q = some (.tup (cr2.map V.int)) ∧ H' g4 = some (.tup (go4.map V.int)) ∧ H' b4 = some (.tup [.int a4, .int b5]) ∧ ∀ v H', Same H H' → StaAt H' v { st with at_ := goal, cr := cr2, go := go4, ba := a4, bb := b5 } → Q v H', ?_, ?_⟩
      · refine ⟨_, rfl, And.intro (Nat.le_of_ble_eq_true rfl) fun L4 H4 n4 => ?_⟩
        refine ⟨L4, _, rfl, .inl (SqL.of n4.at_), rfl, rfl, _, rfl, ?_⟩
        have ea : ("a" : Str) = ⟨#[97]⟩ := by decide +kernel
        have eb : ("b" : Str) = ⟨#[98]⟩ := by decide +kernel
        have eA : ("A" : Str) = ⟨#[65]⟩ := by decide +kernel
        have eB : ("B" : Str) = ⟨#[66]⟩ := by decide +kernel
        have ein : inV (.str ⟨#[m]⟩) [V.str "a", V.str "b", V.str "A", V.str "B"] = isKD m := by
          rw [ea, eb, eA, eB]
          refine (inV_strs ⟨#[m]⟩ [⟨#[97]⟩, ⟨#[98]⟩, ⟨#[65]⟩, ⟨#[66]⟩]).trans (decide_eq_decide.mpr ?_)
          simp only [List.mem_cons, List.not_mem_nil, or_false, str1]
        cases hk : isKD m with
        | false =>
          rw [hk, if_neg (by decide)] at kS
          refine iteF' (by
            show ¬ inV (.str ⟨#[m]⟩) [V.str "a", V.str "b", V.str "A", V.str "B"] = true
            rw [ein, hk]; decide) ?_
          have s34 := s3.trans n4.same
          exact ⟨g2, b, go2, st.ba, st.bb, _, _, _, _, rfl, s34, n4.same _ _ hq, n4.same _ _ hg2, s34 _ _ hb, kS _ rfl⟩
        | true =>
          rw [hk, if_pos rfl] at kS kN
          refine iteT' (by
            show inV (.str ⟨#[m]⟩) [V.str "a", V.str "b", V.str "A", V.str "B"] = true
            rw [ein, hk]) ?_
          obtain ⟨kA, eA1, k1, e11, k2, e21, hcb⟩ : ∃ kA, inV (.str ⟨#[m]⟩) [V.str "A", V.str "B"] = kA ∧ ∃ k1, inV (.str ⟨#[m]⟩) [V.str "a", V.str "A"] = k1 ∧ ∃ k2, inV (.str ⟨#[m]⟩) [V.str "b", V.str "B"] = k2 ∧ changedBag W.cap st.ba st.bb m = (if min (st.ba + (if kA = true then -1 else 1) * (if k1 = true then 1 else 0)) (st.bb + (if kA = true then -1 else 1) * (if k2 = true then 1 else 0)) < 0 ∨ max (st.ba + (if kA = true then -1 else 1) * (if k1 = true then 1 else 0)) (st.bb + (if kA = true then -1 else 1) * (if k2 = true then 1 else 0)) > W.cap then none else some (st.ba + (if kA = true then -1 else 1) * (if k1 = true then 1 else 0), st.bb + (if kA = true then -1 else 1) * (if k2 = true then 1 else 0))) := by
            have h4 := of_decide_eq_true hk
            rcases h4 with rfl | rfl | rfl | rfl
            · exact ⟨false, by decide +kernel, true, by decide +kernel, false, by decide +kernel, by simp [changedBag]⟩
            · exact ⟨false, by decide +kernel, false, by decide +kernel, true, by decide +kernel, by simp [changedBag]⟩
            · exact ⟨true, by decide +kernel, true, by decide +kernel, false, by decide +kernel, by simp [changedBag]⟩
            · exact ⟨true, by decide +kernel, false, by decide +kernel, true, by decide +kernel, by simp [changedBag]⟩
          rw [hcb] at kN kS
          walk_at "rd"
          refine And.intro (Nat.le_of_ble_eq_true rfl) fun L5 H5 n5 => ?_
          refine ⟨_, rfl, ?_⟩
          refine And.intro (Nat.le_of_ble_eq_true rfl) fun L6 H6 n6 => ?_
          refine ⟨L6, _, rfl, .inl (SqL.of n6.at_), rfl, rfl, .inr ⟨_, rfl, ?_⟩⟩
          refine ⟨L5, _, _, .int (if kA = true then -1 else 1), rfl, rfl, SqL.of (n6.same _ _ n5.at_), ?_, ?_⟩
          · show atI [V.int 1, V.int (-1)] (if inV (.str ⟨#[m]⟩) [V.str "A", V.str "B"] = true then 1 else 0) = _
            rw [eA1]
            cases kA <;> rfl
          have hmo : (if kA = true then (-1 : Int) else 1) = 1 ∨ (if kA = true then (-1 : Int) else 1) = -1 := by cases kA <;> simp
          generalize (if kA = true then (-1 : Int) else 1) = more at kN kS hmo ⊢
          have s36 := (n4.same.trans n5.same).trans n6.same
          have hb6 := s36 _ _ (s3 _ _ hb)
          have hg6 := s36 _ _ hg2
          refine ⟨_, rfl, b, _, 0, .int st.ba, rfl, rfl, SqT.of hb6, rfl, ?_⟩
          refine ⟨_, rfl, _, rfl, ?_⟩
          refine And.intro (Nat.le_of_ble_eq_true rfl) fun L7 H7 n7 => ?_
          refine ⟨L7, _, rfl, .inl (SqL.of n7.at_), rfl, rfl, .inr ⟨_, rfl, _, _, rfl, rfl, ?_⟩⟩
          have cm : ∀ (v : V) (kk : Bool), (if false = true then !inV (.str ⟨#[m]⟩) [v] else true) = true → CMul more (if kk = true then 1 else 0) := fun _ kk _ => by
            rcases hmo with rfl | rfl <;> cases kk <;> (unfold CMul; decide)
          have ev1 : (if false = true then !inV (.str ⟨#[m]⟩) [V.str "a", V.str "A"] else inV (.str ⟨#[m]⟩) [V.str "a", V.str "A"]) = k1 := e11
          have ev2 : (if false = true then !inV (.str ⟨#[m]⟩) [V.str "b", V.str "B"] else inV (.str ⟨#[m]⟩) [V.str "b", V.str "B"]) = k2 := e21
          rw [ev1]
          refine And.intro (cm .non k1 rfl) ?_
          refine ⟨_, _, rfl, rfl, ?_⟩
          have s37 := s36.trans n7.same
          have hb7 := n7.same _ _ hb6
          refine ⟨_, rfl, b, _, 1, .int st.bb, rfl, rfl, SqT.of hb7, rfl, ?_⟩
          refine ⟨_, rfl, _, rfl, ?_⟩
          refine And.intro (Nat.le_of_ble_eq_true rfl) fun L8 H8 n8 => ?_
          refine ⟨L8, _, rfl, .inl (SqL.of n8.at_), rfl, rfl, .inr ⟨_, rfl, _, _, rfl, rfl, ?_⟩⟩
          rw [ev2]
          refine And.intro (cm .non k2 rfl) ?_
          refine ⟨_, _, rfl, rfl, ?_⟩
          generalize hna : st.ba + more * (if k1 = true then 1 else 0) = na at kN kS ⊢
          generalize hnb : st.bb + more * (if k2 = true then 1 else 0) = nb_ at kN kS ⊢
          refine And.intro (Nat.le_of_ble_eq_true rfl) fun b9 H9 n9 => ?_
          have hb9 : H9 b9 = some (.tup ([na, nb_].map V.int)) := by rw [n9.at_]; show some (HO.tup [V.int (st.ba + more * (if k1 = true then 1 else 0)), V.int (st.bb + more * (if k2 = true then 1 else 0))]) = _; rw [hna, hnb]; rfl
          have s49 := (s37.trans n8.same).trans n9.same
          refine ⟨_, rfl, _, rfl, ?_⟩
          refine And.intro (Nat.le_of_ble_eq_true rfl) fun t10 H10 n10 => ?_
          refine catU (n10.same _ _ (s49 _ _ hg2)) n10.at_ (Nat.le_of_lt (sz (by rw [List.length_map]; show go2.length + 1 ≤ 1000; omega))) fun u1 K1 w1 hu1 => ?_
          refine ⟨u1, go2 ++ [goal], rfl, .inr (SqT.of (by rw [List.map_append]; exact hu1)), fun ns u2 hpm huu hp0 => ?_⟩
          have es : ns = withOne go2 goal := sorted_is hpm huu
          subst es
          refine ⟨u2, _, rfl, .inl ⟨SqL.of upd_same, fun t11 hl0 => ?_⟩⟩
          have s11 : Same H10 _ := (w1.trans (same_new hp0)).trans (same_new (o := .tup ((withOne go2 goal).map V.int)) hl0)
          have e11 : (upd (upd K1 u2 (.lst ((withOne go2 goal).map V.int))) t11 (.tup ((withOne go2 goal).map V.int))) t11 = some (.tup ((withOne go2 goal).map V.int)) := upd_same
          generalize upd (upd K1 u2 (.lst ((withOne go2 goal).map V.int))) t11 (.tup ((withOne go2 goal).map V.int)) = H11 at s11 e11 ⊢
          have s9b := n10.same.trans s11
          have s411 := s49.trans s9b
          have s311 := (s3.trans s411)
          have fin : ¬ (min na nb_ < 0 ∨ max na nb_ > W.cap) → ∀ v H', Same H H' → StaAt H' v { st with at_ := goal, cr := cr2, go := withOne go2 goal, ba := na, bb := nb_ } → Q v H' := fun z => by
            rw [if_neg z] at kS
            exact kS _ rfl
          have bad : (min na nb_ < 0 ∨ max na nb_ > W.cap) → ∀ H', Same H H' → Q .non H' := fun z => by
            rw [if_pos z] at kN
            exact kN rfl
          refine ⟨_, rfl, b9, na, [nb_], rfl, SqT.of (s9b _ _ hb9), _, _, rfl, rfl, _, rfl, ?_⟩
          by_cases z1 : min na nb_ < 0
          · exact iteT' (decide_eq_true z1) (iteT (bad (.inl z1) H11 s311))
          refine iteF' (fun y => z1 (of_decide_eq_true y)) ?_
          refine ⟨_, rfl, b9, na, [nb_], rfl, SqT.of (s9b _ _ hb9), _, rfl, R, _, 0, .int W.cap, rfl, rfl, SqT.of (s311 _ _ hR), rfl, _, _, rfl, rfl, _, rfl, ?_⟩
          by_cases z2 : W.cap < max na nb_
          · exact iteT' (decide_eq_true z2) (bad (.inr z2) H11 s311)
          refine iteF' (fun y => z2 (of_decide_eq_true y)) ?_
          exact ⟨t11, b9, withOne go2 goal, na, nb_, _, _, _, _, rfl, s311, s411 _ _ hq, e11, s9b _ _ hb9, fin (fun z => z.elim z1 z2)⟩
      · rintro σ4 H4 ⟨g4, b4, go4, a4, b5, o10', o11', o13, o14', rfl, s4, hq4, hg4, hb4, k4⟩
        refine ⟨_, rfl, _, rfl, _, rfl, _, rfl, _, rfl, And.intro (Nat.le_of_ble_eq_true rfl) fun r H5 n5 => ?_⟩
        exact k4 _ H5 (s4.trans n5.same) ⟨r, q, g4, u, b4, rfl, n5.at_, n5.same _ _ hq4, n5.same _ _ hg4, n5.same _ _ (s4 _ _ hu), n5.same _ _ hb4⟩
end
theorem sc__law_begin : FnScope ["rows", "bag", "text", "at"] ["rows", "bag"] (defScope s__law_begin) := ⟨rfl, rfl, rfl, by decide +kernel, rfl, by decide +kernel, by decide +kernel⟩
theorem sc__law_inside : FnScope ["level", "position", "state"] ["level", "position"] (defScope s__law_inside) := ⟨rfl, rfl, rfl, by decide +kernel, rfl, by decide +kernel, by decide +kernel⟩
theorem sc__law_move : FnScope ["level", "rules", "position", "letter", "rows", "children", "state", "sign", "left", "after"] ["level", "rules", "position", "letter"] (defScope s__law_move) := ⟨rfl, rfl, rfl, by decide +kernel, rfl, by decide +kernel, by decide +kernel⟩
theorem sc__law_outcome : FnScope ["ending"] ["ending"] (defScope s__law_outcome) := ⟨rfl, rfl, rfl, by decide +kernel, rfl, by decide +kernel, by decide +kernel⟩
theorem sc__law_walked : FnScope ["level", "rules", "bag", "play", "position", "at", "after"] ["level", "rules", "bag", "play"] (defScope s__law_walked) := ⟨rfl, rfl, rfl, by decide +kernel, rfl, by decide +kernel, by decide +kernel⟩
section
variable {P : Program} {w : World} {K : PySem.W.Frag} {mg : Str → Option Value} {base : Heap}
def spLBeg : Sp := fun vs H Q _ => ∃ (W : Wld) (rw_ : V) (b : Addr) (ba bb : Int), vs = [rw_, .ref b] ∧ WOk W ∧ LR H rw_ W ∧ wholeZ W.z = true ∧ H b = some (.tup [.int ba, .int bb]) ∧ ∀ v H', Same H H' → StaAt H' v (begS W ba bb) → Q v H'
theorem ok_lbeg {f : Addr} {fd : FuncData} (F : Fun K "_law_begin" "_law_begin" s__law_begin f fd) (T : LawT mg) : FnG P w K mg base (CXe P w) 1 f fd ["rows", "bag"] spLBeg := by
  refine F.okG sc__law_begin (fun vs H Q E h => ?_) (fun cdv A outer s H vs Q E hgd hr h => ?_)
  · obtain ⟨W, rw_, b, ba, bb, rfl, _⟩ := h; rfl
  · obtain ⟨W, rw_, b, ba, bb, rfl, O, ⟨ra, rfl, hra⟩, hw, hb, k⟩ := h
    refine ⟨_, (pss_cons (ps_set (i := 2) sc__law_begin.nd rfl (Or.inr rfl) (pe_m1 PySem.F.slot_str_join PySem.F.type_str_join mt_join pe_str (pv 0)))
      (pss_one (ps_ret (pe_tupA (pa_cons (pe_m1 PySem.F.slot_str_index PySem.F.type_str_index mt_signAt (pv 2) pe_str) (pa_cons (pe_callTy call_tuple_of (by rfl) T.n_tuple (by decide +kernel) (pa_cons (pe_lc (own := [("at", 3)]) (g := gName 3) rfl sc__law_begin.nd (pi_range1 (by rfl) T.n_range (pa_cons (pe_callB call_len_str (by rfl) T.n_len (by decide +kernel) (pa_cons (pv 2) pa_nil)) pa_nil)) (blkOk_by (own := [("at", 3)]) (N := ["rows", "bag", "text", "at"]) (sc := defScope s__law_begin) (by decide +kernel)) (fun _ _ _ _ _ => pg_name (i := 3) sc__law_begin.nd rfl (Or.inl rfl)) (fun _ _ _ _ _ => pts_one (pt_cmpR op_eq (pe_ix ix_str (pv 2) (pv 3) (fun _ _ => rfl)) pe_str (nomark _))) (fun _ _ _ _ _ => (pv 3))) pa_nil)) (pa_cons (pe_tupA pa_nil) (pa_cons (pe_tupA pa_nil) (pa_cons (pv 1) pa_nil))))))))), ?_⟩
    have hz : W.z.length = W.n := join_len O.R
    have hn := O.n30
    refine ⟨⟨_, rfl⟩, _, rfl, "", ra, W.rows, rfl, rfl, .inr (SqT.of hra), join_fit O, ?_⟩
    refine ⟨_, rfl, ⟨_, rfl⟩, W.z, 64, rfl, by rw [at_sign], there_at hw, ?_⟩
    walk_at "rd"
    refine And.intro (z_fit O) ?_
    refine ⟨_, rfl, by show -(2 ^ 62) ≤ ((W.z.length : Nat) : Int); omega, by show ((W.z.length : Nat) : Int) < 2 ^ 62; omega, ?_⟩
    rw [show (((Txt.join "" W.rows).length : Nat) : Int).toNat = W.z.length from Int.toNat_natCast _]
    refine fun D hD => lc_it walk_range (fun i H' => H' D = some (.lst ((placesL W.z 111 i).map V.int)) ∧ Off (fun b => b = D) H H') ⟨upd_same, Off.new hD⟩ (fun _ _ _ _ => trivial) ?_ ?_
    · rintro i y H1 H2 hi ⟨hacc, off⟩ ⟨rfl, rfl⟩
      have hi2 : i < W.z.length := hi
      have e0 : (0 : Int) + (i : Int) = (i : Int) := by omega
      have hci := mark_ix hi2
      have hci : W.z.cps[i]? = some (mark W.z (i : Int)) := by rw [← Array.getElem?_toList]; exact hci
      have e111 : ("o" : Str) = ⟨#[111]⟩ := by decide +kernel
      refine And.intro rfl ?_
      refine ⟨_, rfl, _, rfl, W.z, 0 + (i : Int), mark W.z (i : Int), rfl, rfl, z_fit O, by rw [e0]; exact mark_at (by omega) (by omega) O.R, ?_⟩
      refine ⟨(rfl : scal _ _ = true), _, rfl, ?_⟩
      rw [e111]
      by_cases h1 : mark W.z (i : Int) = 111
      · refine iteT' (decide_eq_true ((ec _ _).mpr h1)) ⟨_, rfl, _, hacc, sz ?_, ?_, off.trans (Off.mut rfl)⟩
        · rw [List.length_map]
          have := placesL_le W.z 111 i
          omega
        · rw [upd_same, placesL_yes (by rw [hci, h1]), List.map_append]
          show _ = some (HO.lst (_ ++ [V.int (i : Int)]))
          rw [← e0]
      · refine iteF' (fun z => h1 ((ec _ _).mp (of_decide_eq_true z))) ?_
        rw [placesL_no (by rw [hci]; simpa using h1)]
        exact ⟨hacc, off⟩
    rintro H1 ⟨hacc, off⟩
    have s1 : Same H H1 := fun b o e => off b o (ne_of_none e hD) e
    refine ⟨D, _, rfl, .inl ⟨SqL.of hacc, fun t2 ht2 => ?_⟩⟩
    have s2 : Same H1 (upd H1 t2 (.tup ((placesL W.z 111 W.z.length).map V.int))) := same_new ht2
    have e2 : upd H1 t2 (.tup ((placesL W.z 111 W.z.length).map V.int)) t2 = some (.tup ((placesL W.z 111 W.z.length).map V.int)) := upd_same
    generalize upd H1 t2 (.tup ((placesL W.z 111 W.z.length).map V.int)) = H2 at s2 e2 ⊢
    refine And.intro (Nat.zero_le _) fun t3 H3 n3 => And.intro (Nat.zero_le _) fun t4 H4 n4 => ⟨_, rfl, And.intro (Nat.le_of_ble_eq_true rfl) fun t5 H5 n5 => ?_⟩
    have s35 : Same H2 H5 := (n3.same.trans n4.same).trans n5.same
    refine k _ H5 ((s1.trans s2).trans s35) ⟨t5, t2, t3, t4, b, rfl, ?_, s35 _ _ e2, n5.same _ _ (n4.same _ _ n3.at_), n5.same _ _ n4.at_, s35 _ _ (s2 _ _ (s1 _ _ hb))⟩
    rw [n5.at_]
    show _ = some (HO.tup [V.int (Txt.find W.z "@"), V.ref t2, V.ref t3, V.ref t4, V.ref b])
    rw [at_sign]
theorem cut_neg {α : Type} (xs : List V) (k : Nat) (hk : 1 ≤ k) (h : k ≤ xs.length) : cutV xs none (some (-(k : Int))) = xs.take (xs.length - k) := by
  unfold cutV
  have e0 : HT.sIx xs.length 0 none = 0 := rfl
  have e1 : HT.sIx xs.length xs.length (some (-(k : Int))) = xs.length - k := by
    show (if -(k : Int) < 0 then (-(k : Int) + (xs.length : Int)).toNat else _) = _
    rw [if_pos (by omega)]
    omega
  rw [e0, e1]
  simp
theorem cut_last (us : List V) (u : V) : cutV (us ++ [u]) none (some (-1)) = us := by
  have := cut_neg (α := Nat) (us ++ [u]) 1 (Nat.le_refl _) (by simp)
  refine this.trans ?_
  simp
theorem digit_int {m : Nat} (h : digit m ≠ 0) : intText? (⟨#[m]⟩ : Str) = some ((digit m : Nat) : Int) := by
  have i1 : intText? (⟨#[49]⟩ : Str) = some 1 := by decide +kernel
  have i2 : intText? (⟨#[50]⟩ : Str) = some 2 := by decide +kernel
  unfold digit at *
  by_cases h1 : m = 49
  · subst h1; exact i1
  · rw [if_neg h1] at h ⊢
    by_cases h2 : m = 50
    · subst h2; exact i2
    · rw [if_neg h2] at h; exact absurd rfl h
theorem tree_parts {H : Hp} {v : V} {t : Tr} (h : TreeAt H v t) (b : Bk) : ∃ a r c vs, v = .ref a ∧ H a = some (.tup [.ref r, .ref c]) ∧ H r = some (.tup ((trW b t).rows.map V.str)) ∧ H c = some (.tup vs) ∧ vs.length = t.ch.length ∧ ∀ (i : Nat) (v : V) (u : Tr), vs[i]? = some v → t.ch[i]? = some u → TreeAt H v u := by
  cases h with
  | mk h1 h2 h3 h4 h5 => exact ⟨_, _, _, _, rfl, h1, h2.1, h3, h4, h5⟩
theorem Ch.head {t u : Tr} {f : Fr} {o : List Fr} (h : Ch t (f :: o) u) : f.t = t ∧ ∃ v, digit (mark (trZ t) f.s.at_) ≠ 0 ∧ t.ch[digit (mark (trZ t) f.s.at_) - 1]? = some v ∧ Ch v o u := by
  cases h with
  | cons a b c => exact ⟨rfl, _, a, b, c⟩
def spInside : Sp := fun vs H Q _ => ∃ (lv : V) (a : Addr) (sts : List V) (b : Bk) (rt : Tr) (o : List Fr) (t : Tr) (s : Sta), vs = [lv, .ref a] ∧ BOk b ∧ TreeAt H lv rt ∧ TOk rt ∧ Ch rt o t ∧ (∀ f ∈ o, Ok (trW b f.t) f.s) ∧ H a = some (.tup sts) ∧ StsAt H sts o s ∧ o.length ≤ 100 ∧ ∀ v H', Same H H' → TreeAt H' v t → Q v H'
theorem ok_inside {f : Addr} {fd : FuncData} (F : Fun K "_law_inside" "_law_inside" s__law_inside f fd) (T : LawT mg) : FnG P w K mg base (CXe P w) 1 f fd ["level", "position"] spInside := by
  refine F.okG sc__law_inside (fun vs H Q E h => ?_) (fun cdv A outer s H vs Q E hgd hr h => ?_)
  · obtain ⟨lv, a, sts, b, rt, o, t, st, rfl, _⟩ := h; rfl
  · obtain ⟨lv, a, sts, b, rt, o, t, st, rfl, hb, hlv, ht, hch, hfo, ha, hst, hol, k⟩ := h
    refine ⟨_, (pss_cons (ps_for (passes_of rfl) rfl (pi_tup (pe_slice sl_tupA (pv 1) po_none (po_some (pe_un un_neg pe_int)))) (pg_name (i := 2) sc__law_inside.nd rfl (Or.inl rfl))
      (pss_one (ps_set (i := 0) sc__law_inside.nd rfl (Or.inl rfl) (pe_ix ix_tup (pe_ix ix_tup (pv 0) pe_int (fun _ _ => rfl)) (pe_op op_sub (pe_callTy call_int_str (by rfl) T.n_int (by decide +kernel) (pa_cons (pe_ix ix_str (pe_m1 PySem.F.slot_str_join PySem.F.type_str_join mt_join pe_str (pe_ix ix_tup (pv 0) pe_int (fun _ _ => rfl))) (pe_ix ix_tup (pv 2) pe_int (fun _ _ => rfl)) (fun _ _ => rfl)) pa_nil)) pe_int) (fun _ _ => rfl)))))
      (pss_one (ps_ret (pv 0)))), ?_⟩
    obtain ⟨us, u, rfl, hul, hus, hu⟩ := hst
    refine ⟨_, rfl, nopart_of ⟨_, rfl, _, rfl, slU ha fun q H1 s1 hq => ?_⟩⟩
    rw [cut_last] at hq
    refine ⟨q, rfl, ⟨_, SqT.of hq⟩, for_it (walk_tup (xs := us)) (fun i σ H' => ∃ (v : V) (o2 : Option V) (ti : Tr), σ = [some v, some (.ref a), o2] ∧ Same H1 H' ∧ TreeAt H' v ti ∧ TOk ti ∧ Ch ti (o.drop i) t) ⟨lv, none, rt, rfl, Same.refl _, hlv.same s1, ht, by simpa using hch⟩ (fun i σ H' _ z => by obtain ⟨v, o2, ti, _, s2, _⟩ := z; exact SqT.of (s2 _ _ hq)) ?_ ?_⟩
    · rintro i y σ H2 H3 hi ⟨v, o2, ti, rfl, s2, hv, hti, hci⟩ ⟨rfl, hy⟩
      have hio : i < o.length := by rw [← hul]; exact hi
      have hoi : o[i]? = some (o[i]'hio) := by simp [hio]
      have hd : o.drop i = (o[i]'hio) :: o.drop (i + 1) := List.drop_eq_getElem_cons hio
      rw [hd] at hci
      obtain ⟨eft, ch2, hd0, hd1, hd2⟩ := hci.head
      have hsn := (hus i y _ hy hoi).same (s1.trans s2)
      have hok := hfo _ (List.getElem_mem hio)
      generalize o[i]'hio = fr at eft hd0 hd1 hsn hok
      obtain ⟨ft, fs⟩ := fr
      have eft : ft = ti := eft
      subst eft
      obtain ⟨ta, tr, tc, tvs, rfl, t1, t2, t3, t4, t5⟩ := tree_parts hv b
      obtain ⟨sa, sc, sg, su, rfl, q1, q2, q3, q4⟩ := hsn
      have O := hti.wok hb
      have hmk : mark (trW b ft).z fs.at_ = mark (trZ ft) fs.at_ := by rw [trW_z]
      have hd0 : digit (mark (trZ ft) fs.at_) ≠ 0 := hd0
      have hdn := digit_int hd0
      have hch1 : ∃ cv, tvs[digit (mark (trZ ft) fs.at_) - 1]? = some cv ∧ TreeAt H3 cv ch2 := by
        have hlt : digit (mark (trZ ft) fs.at_) - 1 < tvs.length := by rw [t4]; exact (List.getElem?_eq_some_iff.mp hd1).1
        exact ⟨tvs[digit (mark (trZ ft) fs.at_) - 1]'hlt, by simp [hlt], t5 _ _ _ (by simp [hlt]) hd1⟩
      obtain ⟨cv, hcv, hct⟩ := hch1
      refine ⟨_, rfl, ta, _, 1, .ref tc, rfl, rfl, SqT.of t1, rfl, ?_⟩
      refine ⟨⟨_, rfl⟩, _, rfl, ta, _, 0, .ref tr, rfl, rfl, SqT.of t1, rfl, "", tr, (trW b ft).rows, rfl, rfl, .inr (SqT.of t2), join_fit O, ?_⟩
      refine ⟨_, rfl, sa, _, 0, .int fs.at_, rfl, rfl, SqT.of q1, rfl, (trW b ft).z, fs.at_, mark (trW b ft).z fs.at_, rfl, rfl, z_fit O, mark_at hok.at0 hok.at1 O.R, ?_⟩
      rw [hmk]
      refine ⟨_, _, rfl, hdn, Nat.le_of_ble_eq_true rfl, _, _, rfl, rfl, ?_⟩
      have en : ((digit (mark (trZ ft) fs.at_) : Nat) : Int) - 1 = ((digit (mark (trZ ft) fs.at_) - 1 : Nat) : Int) := by omega
      refine ⟨tc, tvs, ((digit (mark (trZ ft) fs.at_) - 1 : Nat) : Int), cv, rfl, by rw [← en], SqT.of t3, atI_nat hcv, ?_⟩
      exact ⟨cv, _, ch2, rfl, s2, hct, hti.child hd1, hd2⟩
    · rintro σ H2 ⟨v, o2, ti, rfl, s2, hv, hti, hci⟩
      have hd : o.drop us.length = [] := by rw [hul]; simp
      rw [hd] at hci
      cases hci
      exact ⟨_, rfl, k v H2 (s1.trans s2) hv⟩
end
/-- a position, or how a play has ended, as the law holds it -/
def LPos (H : Hp) (v : V) : Ps → Prop
  | .at_ o _ s => ∃ a vs, v = .ref a ∧ H a = some (.tup vs) ∧ StsAt H vs o s
  | .won => ∃ a, v = .ref a ∧ H a = some (.tup [.str "won"])
  | .out x y => ∃ q g, v = .ref q ∧ H q = some (.tup [.str "out", .ref g]) ∧ H g = some (.tup [.int x, .int y])
theorem LPos.keep {H H' : Hp} (k : ∀ (a : Addr) (xs : List V), H a = some (.tup xs) → H' a = some (.tup xs)) {v : V} {p : Ps} (h : LPos H v p) : LPos H' v p := by
  cases p with
  | at_ o t s =>
    obtain ⟨a, vs, e, h1, us, u, e2, h2, h3, h4⟩ := h
    exact ⟨a, vs, e, k _ _ h1, us, u, e2, h2, fun i v f z1 z2 => (h3 i v f z1 z2).keep k, StaAt.keep k h4⟩
  | won =>
    obtain ⟨a, e, h1⟩ := h
    exact ⟨a, e, k _ _ h1⟩
  | out x y =>
    obtain ⟨q, g, h1, h2, h3⟩ := h
    exact ⟨q, g, h1, k _ _ h2, k _ _ h3⟩
theorem lrl_any {b : Bk} {t u : Tr} {H : Hp} {v : V} (h : LRl H v (trW b t)) : LRl H v (trW b u) := by cases t; cases u; exact h
/-- the crates of a position -/
def PsC : Ps → Prop
  | .at_ o _ s => OkC s ∧ ∀ f ∈ o, OkC f.s
  | _ => True
theorem go_len {W : Wld} {s : Sta} (O : WOk W) (h : Ok W s) : s.go.length ≤ 30 := by
  have key : ∀ {l D : List Int}, l.Nodup → (∀ x ∈ l, x ∈ D) → l.length ≤ D.length := fun {l} => by
    induction l with
    | nil => intro D _ _; exact Nat.zero_le _
    | cons x r ih =>
      intro D n h
      rw [List.nodup_cons] at n
      have hx := h x (List.mem_cons_self ..)
      have := ih (D := D.erase x) n.2 fun y hy => (List.mem_erase_of_ne (fun (e : y = x) => n.1 (by rw [← e]; exact hy))).mpr (h y (List.mem_cons_of_mem _ hy))
      rw [List.length_erase_of_mem hx] at this
      have p : 0 < D.length := List.length_pos_of_mem hx
      rw [List.length_cons]; omega
  have := key (D := (List.range W.n).map fun k : Nat => (k : Int)) h.gon fun x hx => by
    have h0 := h.go0 x hx
    have h1 := h.go1 x hx
    exact List.mem_map.mpr ⟨x.toNat, List.mem_range.mpr (by omega), by omega⟩
  rw [List.length_map, List.length_range] at this
  have := O.n30
  omega
theorem cut_2 (us : List V) (x y : V) : cutV (us ++ [x] ++ [y]) none (some (-2)) = us := by
  have := cut_neg (α := Nat) (us ++ [x] ++ [y]) 2 (by decide) (by simp)
  refine this.trans ?_
  simp
theorem atI_2 (us : List V) (x y : V) : atI (us ++ [x] ++ [y]) (-2) = some x := by
  have e : ixN (us ++ [x] ++ [y]).length (-2) = some us.length := by
    unfold ixN
    simp only [List.length_append, List.length_singleton]
    simp
    omega
  unfold atI
  rw [e]
  simp
section
variable {P : Program} {w : World} {K : PySem.W.Frag} {mg : Str → Option Value} {base : Heap}
def spMove : Sp := fun vs H Q _ => ∃ (lv ru pv : V) (b : Bk) (rt : Tr) (o : List Fr) (t : Tr) (s : Sta) (c : Nat), vs = [lv, ru, pv, .str ⟨#[c]⟩] ∧ (c = 105 ∨ c = 111 ∨ (wayOf c).isSome = true) ∧ BOk b ∧ TreeAt H lv rt ∧ TOk rt ∧ rt.cnt ≤ 60 ∧ LRl H ru (trW b rt) ∧ LPos H pv (.at_ o t s) ∧ PsOk b rt (.at_ o t s) ∧ OkC s ∧
  (goM b o t s c = none → ∀ H', Same H H' → Q .non H') ∧ (∀ q, goM b o t s c = some q → ∀ v H', Same H H' → LPos H' v q → Q v H')
theorem ok_move {f : Addr} {fd : FuncData} (F : Fun K "_law_move" "_law_move" s__law_move f fd) (T : LawT mg) (c__law_inside : CalG P w K mg base 1 "_law_inside" spInside) (c__law_begin : CalG P w K mg base 1 "_law_begin" spLBeg) (c__law_step : CalG P w K mg base 5 "_law_step" spLStep) :
    FnG P w K mg base (CXe P w) 6 f fd ["level", "rules", "position", "letter"] spMove := by
  refine F.okG sc__law_move (fun vs H Q E h => ?_) (fun cdv A outer s H vs Q E hgd hr h => ?_)
  · obtain ⟨lv, ru, pv, b, rt, o, t, st, c, rfl, _⟩ := h; rfl
  · obtain ⟨lv, ru, pv, b, rt, o, t, st, c, rfl, hc, hb, hlv, ht, hcnt, hru, ⟨a, sts, rfl, ha, hst⟩, ⟨hch, hfo, hs⟩, hC, kN, kS⟩ := h
    refine ⟨_, (pss_cons (ps_asg (pg_c c__law_inside hgd hr (by first | decide | omega) (pa_cons (pv 0) (pa_cons (pv 2) pa_nil))) (pg_tup (by rfl) (pgs_cons (pg_name (i := 4) sc__law_move.nd rfl (Or.inl rfl)) (pgs_cons (pg_name (i := 5) sc__law_move.nd rfl (Or.inl rfl)) pgs_nil))))
      (pss_cons (ps_set (i := 6) sc__law_move.nd rfl (Or.inl rfl) (pe_ix ix_tup (pv 2) (pe_un un_neg pe_int) (fun _ _ => rfl)))
      (pss_cons (ps_set (i := 7) sc__law_move.nd rfl (Or.inl rfl) (pe_ix ix_str (pe_m1 PySem.F.slot_str_join PySem.F.type_str_join mt_join pe_str (pv 4)) (pe_ix ix_tup (pv 6) pe_int (fun _ _ => rfl)) (fun _ _ => rfl)))
      (pss_cons (ps_if (pt_cmpR op_eq (pv 3) pe_str (nomark _)) (pss_cons (ps_if (PW.pt (pw_or (pt_cmpR op_notIn_seq (pv 7) (pe_lstA (pa_cons pe_str (pa_cons pe_str pa_nil))) (by rfl)) (pw_or1 (pt_cmpR op_in_seq (pe_callTy call_int_str (by rfl) T.n_int (by decide +kernel) (pa_cons (pv 7) pa_nil)) (pe_ix ix_tup (pv 6) pe_int (fun _ _ => rfl)) (by rfl))))) (pss_one (ps_ret pe_non)) pss_nil)
      (pss_cons (ps_set (i := 8) sc__law_move.nd rfl (Or.inl rfl) (pe_op op_catA (pe_slice sl_tupA (pv 6) po_none (po_some pe_int)) (pe_tupA (pa_cons (pe_callTy call_tuple_of (by rfl) T.n_tuple (by decide +kernel) (pa_cons (pe_callB cr_sortedIT (by rfl) T.n_sorted (by decide +kernel) (pa_cons (pe_op op_catA (pe_ix ix_tup (pv 6) pe_int (fun _ _ => rfl)) (pe_tupA (pa_cons (pe_callTy call_int_str (by rfl) T.n_int (by decide +kernel) (pa_cons (pv 7) pa_nil)) pa_nil))) pa_nil)) pa_nil)) (pa_cons pe_non pa_nil)))))
      (pss_one (ps_ret (pe_op op_catA (pe_slice sl_tupA (pv 2) po_none (po_some (pe_un un_neg pe_int))) (pe_tupA (pa_cons (pv 8) (pa_cons (pg_c c__law_begin hgd hr (by first | decide | omega) (pa_cons (pe_ix ix_tup (pe_ix ix_tup (pv 5) (pe_op op_sub (pe_callTy call_int_str (by rfl) T.n_int (by decide +kernel) (pa_cons (pv 7) pa_nil)) pe_int) (fun _ _ => rfl)) pe_int (fun _ _ => rfl)) (pa_cons (pe_ix ix_tup (pv 6) pe_int (fun _ _ => rfl)) pa_nil))) pa_nil)))))))) pss_nil)
      (pss_cons (ps_if (pt_cmpR op_eq (pv 3) pe_str (nomark _)) (pss_cons (ps_if (pt_cmpR op_ne (pv 7) pe_str (nomark _)) (pss_one (ps_ret pe_non)) pss_nil)
      (pss_cons (ps_if (pt_cmpR op_eq (pe_callB call_len_seq (by rfl) T.n_len (by decide +kernel) (pa_cons (pv 2) pa_nil)) pe_int (nomark _)) (pss_one (ps_ret (pe_tupA (pa_cons pe_str (pa_cons (pe_ix ix_tup (pv 6) pe_int (fun _ _ => rfl)) pa_nil))))) pss_nil)
      (pss_one (ps_ret (pe_op op_catA (pe_slice sl_tupA (pv 2) po_none (po_some (pe_un un_neg pe_int))) (pe_tupA (pa_cons (pe_op op_catA (pe_slice sl_tupA (pe_ix ix_tup (pv 2) (pe_un un_neg pe_int) (fun _ _ => rfl)) po_none (po_some pe_int)) (pe_tupA (pa_cons (pe_ix ix_tup (pv 6) pe_int (fun _ _ => rfl)) pa_nil))) pa_nil))))))) pss_nil)
      (pss_cons (ps_set (i := 9) sc__law_move.nd rfl (Or.inl rfl) (pg_c c__law_step hgd hr (by first | decide | omega) (pa_cons (pv 4) (pa_cons (pv 1) (pa_cons (pv 6) (pa_cons (pv 3) pa_nil))))))
      (pss_cons (ps_if (pt_cmpR op_isN (pv 9) pe_non (nomark _)) (pss_one (ps_ret pe_non)) pss_nil)
      (pss_one (ps_ret (pe_ifExp (pt_cmpR op_eq (pe_ix ix_str (pe_m1 PySem.F.slot_str_join PySem.F.type_str_join mt_join pe_str (pv 4)) (pe_ix ix_tup (pv 9) pe_int (fun _ _ => rfl)) (fun _ _ => rfl)) pe_str (nomark _)) (pe_tupA (pa_cons pe_str pa_nil)) (pe_op op_catA (pe_slice sl_tupA (pv 2) po_none (po_some (pe_un un_neg pe_int))) (pe_tupA (pa_cons (pv 9) pa_nil))))))))))))), ?_⟩
    obtain ⟨us, u, rfl, hul, hus, hu⟩ := id hst
    obtain ⟨htt, hff⟩ := hch.ok ht
    have hol : o.length ≤ 60 := by have := hch.short; omega
    have O := htt.wok hb
    refine ⟨_, rfl, _, rfl, lv, a, _, b, rt, o, t, st, rfl, hb, hlv, ht, hch, hfo, ha, hst, by omega, fun tv H1 s1 htv => ?_⟩
    obtain ⟨ta, tr, tc, tvs, rfl, t1, t2, t3, t4, t5⟩ := tree_parts htv b
    obtain ⟨sa, sc, sg, su, sb, rfl, q1, q2, q3, q4, q5⟩ := hu.same s1
    have ha1 := s1 _ _ ha
    refine ⟨ta, _, rfl, SqT.of t1, rfl, _, _, rfl, _, _, rfl, rfl, ?_⟩
    refine ⟨_, rfl, _, rfl, a, _, -1, .ref sa, rfl, rfl, SqT.of ha1, atI_last _ _, ?_⟩
    refine ⟨⟨_, rfl⟩, _, rfl, "", tr, (trW b t).rows, rfl, rfl, .inr (SqT.of t2), join_fit O, ?_⟩
    refine ⟨_, rfl, sa, _, 0, .int st.at_, rfl, rfl, SqT.of q1, rfl, (trW b t).z, st.at_, mark (trW b t).z st.at_, rfl, rfl, z_fit O, mark_at hs.at0 hs.at1 O.R, ?_⟩
    have hmk : mark (trW b t).z st.at_ = mark (trZ t) st.at_ := by rw [trW_z]
    rw [hmk]
    have e105 : ("i" : Str) = ⟨#[105]⟩ := by decide +kernel
    have e111 : ("o" : Str) = ⟨#[111]⟩ := by decide +kernel
    have e64 : ("@" : Str) = ⟨#[64]⟩ := by decide +kernel
    have hus1 : ∀ (i : Nat) (u : V) (f : Fr), us[i]? = some u → o[i]? = some f → StaN H1 u f.s := fun i v f z1 z2 => (hus i v f z1 z2).same s1
    refine ⟨_, rfl, (rfl : scal _ _ = true), _, rfl, ?_⟩
    rw [e105]
    by_cases hi : c = 105
    · refine iteT' (decide_eq_true ((ec _ _).mpr hi)) ?_
      have egi : goM b o t st c = inM b o t st := by unfold goM; rw [if_pos hi]
      rw [egi] at kN kS
      refine ⟨_, rfl, And.intro (Nat.le_of_ble_eq_true rfl) fun L2 H2 n2 => ?_⟩
      refine ⟨L2, _, rfl, .inl (SqL.of n2.at_), rfl, rfl, _, rfl, ?_⟩
      have e49 : ("1" : Str) = ⟨#[49]⟩ := by decide +kernel
      have e50 : ("2" : Str) = ⟨#[50]⟩ := by decide +kernel
      have ein : inV (.str ⟨#[mark (trZ t) st.at_]⟩) [V.str "1", V.str "2"] = decide (mark (trZ t) st.at_ = 49 ∨ mark (trZ t) st.at_ = 50) := by
        rw [e49, e50]
        refine (inV_strs ⟨#[mark (trZ t) st.at_]⟩ [⟨#[49]⟩, ⟨#[50]⟩]).trans (decide_eq_decide.mpr ?_)
        simp only [List.mem_cons, List.not_mem_nil, or_false, str1]
      unfold inM at kN kS
      by_cases hd : mark (trZ t) st.at_ = 49 ∨ mark (trZ t) st.at_ = 50
      rotate_left
      · refine iteT' (by
          show (!inV (.str ⟨#[mark (trZ t) st.at_]⟩) [V.str "1", V.str "2"]) = true
          rw [ein, decide_eq_false hd]; rfl) (iteT ?_)
        have : digit (mark (trZ t) st.at_) = 0 := by
          unfold digit
          rw [if_neg (fun z => hd (.inl z)), if_neg (fun z => hd (.inr z))]
        have hm0 : mouthN (trZ t) st = 0 := by unfold mouthN; rw [this]; split <;> rfl
        rw [if_pos hm0] at kN
        exact kN rfl H2 (s1.trans n2.same)
      refine iteF' (by
          show ¬ (!inV (.str ⟨#[mark (trZ t) st.at_]⟩) [V.str "1", V.str "2"]) = true
          rw [ein, decide_eq_true hd]; decide) ?_
      have hdig : digit (mark (trZ t) st.at_) ≠ 0 := by
        unfold digit
        rcases hd with h | h <;> rw [h] <;> decide
      have hdn := digit_int hdig
      have s02 := s1.trans n2.same
      have q41 := n2.same _ _ q4
      have q11 := n2.same _ _ q1
      refine ⟨_, rfl, _, _, rfl, hdn, Nat.le_of_ble_eq_true rfl, _, rfl, sa, _, 3, .ref su, rfl, rfl, SqT.of q11, rfl, su, _, rfl, .inr (SqT.of q41), rfl, flat_ints _, _, rfl, ?_⟩
      by_cases hused : ((digit (mark (trZ t) st.at_) : Nat) : Int) ∈ st.us
      · refine iteT' (by show inV _ _ = true; rw [inV_ints]; simp [hused]) ?_
        have hm0 : mouthN (trZ t) st = 0 := by unfold mouthN; rw [if_pos hused]
        rw [if_pos hm0] at kN
        exact kN rfl H2 s02
      refine iteF' (by show ¬ inV _ _ = true; rw [inV_ints]; simp [hused]) ?_
      have hmn : mouthN (trZ t) st = digit (mark (trZ t) st.at_) := by unfold mouthN; rw [if_neg hused]
      have hle := mouthN_le (b := b) htt hs
      rw [hmn] at kS hle
      rw [if_neg hdig] at kS
      generalize digit (mark (trZ t) st.at_) = dg at kS hle hdn hdig hused
      have hlt : dg - 1 < t.ch.length := by omega
      have hcu : t.ch[dg - 1]? = some (t.ch[dg - 1]'hlt) := by simp [hlt]
      have hltv : dg - 1 < tvs.length := by rw [t4]; exact hlt
      have hcv : tvs[dg - 1]? = some (tvs[dg - 1]'hltv) := by simp [hltv]
      have hct := t5 _ _ _ hcv hcu
      generalize tvs[dg - 1]'hltv = cv at hcv hct
      generalize t.ch[dg - 1]'hlt = cu at hcu hct
      rw [hcu] at kS
      have kS := kS _ rfl
      have hul2 := us_len hs
      refine ⟨_, rfl, nopart_of ⟨_, rfl, slU q11 fun p3 H3 s3 hp3 => ?_⟩⟩
      have hcut : cutV [V.int st.at_, V.ref sc, V.ref sg, V.ref su, V.ref sb] none (some 3) = [V.int st.at_, V.ref sc, V.ref sg] := rfl
      rw [hcut] at hp3
      refine ⟨_, rfl, sa, _, 3, .ref su, rfl, rfl, SqT.of (s3 _ _ q11), rfl, _, rfl, _, _, rfl, hdn, Nat.le_of_ble_eq_true rfl, And.intro (Nat.le_of_ble_eq_true rfl) fun p4 H4 n4 => ?_⟩
      refine catU (n4.same _ _ (s3 _ _ q41)) n4.at_ (Nat.le_of_lt (sz (by rw [List.length_map]; show st.us.length + 1 ≤ 1000; omega))) fun u1 K1 w1 hu1 => ?_
      refine ⟨u1, st.us ++ [(dg : Int)], rfl, .inr (SqT.of (by rw [List.map_append]; exact hu1)), fun ns u2 hpm huu hp0 => ?_⟩
      have es : ns = withOne st.us dg := sorted_is hpm huu
      subst es
      refine ⟨u2, _, rfl, .inl ⟨SqL.of upd_same, fun t11 hl0 => ?_⟩⟩
      have s11 : Same H4 _ := (w1.trans (same_new hp0)).trans (same_new (o := .tup ((withOne st.us dg).map V.int)) hl0)
      have e11 : (upd (upd K1 u2 (.lst ((withOne st.us dg).map V.int))) t11 (.tup ((withOne st.us dg).map V.int))) t11 = some (.tup ((withOne st.us dg).map V.int)) := upd_same
      generalize upd (upd K1 u2 (.lst ((withOne st.us dg).map V.int))) t11 (.tup ((withOne st.us dg).map V.int)) = H11 at s11 e11 ⊢
      refine And.intro (Nat.le_of_ble_eq_true rfl) fun p12 H12 n12 => ?_
      have s3c := (n4.same.trans s11).trans n12.same
      refine catU (s3c _ _ hp3) n12.at_ (Nat.le_of_lt (sz (show 3 + 2 ≤ 1000 by decide))) fun lf H13 s13 hlf => ?_
      have s213 := (Same.trans s3 s3c).trans s13
      have s113 := n2.same.trans s213
      refine ⟨_, rfl, nopart_of ⟨_, rfl, _, rfl, slU (s113 _ _ ha1) fun p14 H14 s14 hp14 => ?_⟩⟩
      rw [cut_last] at hp14
      have s114 := s113.trans s14
      obtain ⟨ca, cr, cc, cvs, rfl, c1, c2, c3, c4, c5⟩ := tree_parts (hct.same s114) b
      have en : ((dg : Nat) : Int) - 1 = ((dg - 1 : Nat) : Int) := by omega
      have O2 := (htt.child hcu).wok hb
      refine ⟨_, rfl, _, rfl, _, rfl, _, _, rfl, hdn, Nat.le_of_ble_eq_true rfl, _, _, rfl, rfl, ?_⟩
      refine ⟨tc, tvs, ((dg - 1 : Nat) : Int), .ref ca, rfl, by rw [← en], SqT.of (s114 _ _ t3), atI_nat hcv, ca, _, 0, .ref cr, rfl, rfl, SqT.of c1, rfl, ?_⟩
      refine ⟨_, rfl, sa, _, 4, .ref sb, rfl, rfl, SqT.of (s114 _ _ q1), rfl, trW b cu, .ref cr, sb, st.ba, st.bb, rfl, O2, ⟨cr, rfl, c2⟩, by rw [trW_z]; exact (htt.child hcu).whole, s114 _ _ q5, fun v H15 s15 hv => ?_⟩
      refine And.intro (Nat.le_of_ble_eq_true rfl) fun p16 H16 n16 => ?_
      refine catU (n16.same _ _ (s15 _ _ hp14)) n16.at_ (Nat.le_of_lt (sz (show us.length + 2 ≤ 1000 by omega))) fun p17 H17 s17 hp17 => ?_
      have s1417 := (s15.trans n16.same).trans s17
      have s1317 := Same.trans s14 s1417
      have s117 := s114.trans s1417
      refine kS _ H17 (s1.trans s117) ⟨p17, us ++ [.ref lf] ++ [v], rfl, by rw [hp17]; simp, us ++ [.ref lf], v, rfl, by rw [List.length_append, List.length_append, hul]; rfl, fun i x f z1 z2 => ?_, hv.same (n16.same.trans s17)⟩
      by_cases hi2 : i < us.length
      · rw [List.getElem?_append_left hi2] at z1
        rw [List.getElem?_append_left (by rw [← hul]; exact hi2)] at z2
        exact (hus1 i x f z1 z2).same s117
      · rw [List.getElem?_append_right (by omega)] at z1
        rw [List.getElem?_append_right (by rw [← hul]; omega), ← hul] at z2
        cases hk : i - us.length with
        | zero =>
          rw [hk] at z1 z2; cases z1; cases z2
          have sx := (n12.same.trans s13).trans s1317
          exact ⟨lf, sc, sg, t11, rfl, s1317 _ _ hlf, s117 _ _ q2, s117 _ _ q3, sx _ _ e11⟩
        | succ k => rw [hk] at z1; cases z1
    refine iteF' (fun z => hi ((ec _ _).mp (of_decide_eq_true z))) ?_
    refine ⟨_, rfl, (rfl : scal _ _ = true), _, rfl, ?_⟩
    rw [e111]
    by_cases ho : c = 111
    · refine iteT' (decide_eq_true ((ec _ _).mpr ho)) ?_
      have ego : goM b o t st c = outM o t st := by unfold goM; rw [if_neg hi, if_pos ho]
      rw [ego] at kN kS
      refine ⟨_, rfl, (rfl : scal _ _ = true), _, rfl, ?_⟩
      rw [e64]
      have hat := at_entry (b := b) htt hs
      by_cases h64 : mark (trZ t) st.at_ = 64
      rotate_left
      · refine iteT' (by
          have : ¬ V.str ⟨#[mark (trZ t) st.at_]⟩ = V.str ⟨#[64]⟩ := fun z => h64 ((ec _ _).mp z)
          simpa using this) ?_
        exact kN (by unfold outM; rw [if_pos (fun z => h64 (hat.mpr z))]) H1 s1
      refine iteF' (by rw [h64]; simp) ?_
      have hnat : ¬ st.at_ ≠ Txt.find (trZ t) "@" := fun z => z (hat.mp h64)
      unfold outM at kS
      rw [if_neg hnat] at kS
      refine ⟨_, rfl, a, _, rfl, .inr (SqT.of ha1), (rfl : scal _ _ = true), _, rfl, ?_⟩
      rcases List.eq_nil_or_concat o with rfl | ⟨o', fr, rfl⟩
      · have eus : us = [] := List.eq_nil_of_length_eq_zero hul
        subst eus
        refine iteT' (decide_eq_true rfl) ?_
        refine ⟨_, rfl, sa, _, 4, .ref sb, rfl, rfl, SqT.of q1, rfl, And.intro (Nat.le_of_ble_eq_true rfl) fun r H3 n3 => ?_⟩
        exact kS (.out st.ba st.bb) rfl _ H3 (s1.trans n3.same) ⟨r, sb, rfl, n3.at_, n3.same _ _ q5⟩
      rw [List.concat_eq_append] at *
      obtain ⟨us', uf, rfl⟩ : ∃ x y, us = x ++ [y] := by
        rcases List.eq_nil_or_concat us with rfl | ⟨x, y, e⟩
        · simp at hul
        · exact ⟨x, y, by rw [e, List.concat_eq_append]⟩
      have e1 : us'.length = o'.length := by simpa using hul
      refine iteF' (fun z => by
        have z := of_decide_eq_true z
        injection z with z
        simp only [List.length_append, List.length_singleton] at z
        omega) ?_
      have huf : StaN H1 uf fr.s := hus1 us'.length uf fr (by simp) (by rw [e1]; simp)
      obtain ⟨fa, fc, fg, fu, rfl, f1, f2, f3, f4⟩ := id huf
      refine ⟨_, rfl, nopart_of ⟨_, rfl, _, rfl, slU ha1 fun p2 H2 s2 hp2 => ?_⟩⟩
      have hp2 : H2 p2 = some (.tup us') := by rw [hp2]; exact congrArg (fun l => some (HO.tup l)) (cut_2 us' (.ref fa) (.ref sa))
      refine ⟨_, rfl, _, rfl, a, _, -2, .ref fa, rfl, rfl, SqT.of (s2 _ _ ha1), atI_2 _ _ _, nopart_of ⟨_, rfl, slU (s2 _ _ f1) fun p3 H3 s3 hp3 => ?_⟩⟩
      have hcut : cutV [V.int fr.s.at_, V.ref fc, V.ref fg, V.ref fu, V.non] none (some 4) = [V.int fr.s.at_, V.ref fc, V.ref fg, V.ref fu] := rfl
      rw [hcut] at hp3
      have s13 : Same H1 H3 := Same.trans s2 s3
      refine ⟨_, rfl, sa, _, 4, .ref sb, rfl, rfl, SqT.of (s13 _ _ q1), rfl, And.intro (Nat.le_of_ble_eq_true rfl) fun p4 H4 n4 => ?_⟩
      refine catU (n4.same _ _ hp3) n4.at_ (Nat.le_of_lt (sz (show 4 + 1 ≤ 1000 by decide))) fun p5 H5 s5 hp5 => ?_
      have s35 : Same H3 H5 := n4.same.trans s5
      refine And.intro (Nat.le_of_ble_eq_true rfl) fun p6 H6 n6 => ?_
      have s36 := s35.trans n6.same
      refine catU (s36 _ _ (s3 _ _ hp2)) n6.at_ (Nat.le_of_lt (sz (by show us'.length + 1 ≤ 1000; simp only [List.length_append, List.length_singleton] at hol; omega))) fun p7 H7 s7 hp7 => ?_
      have s37 := s36.trans s7
      have s17 := s13.trans s37
      refine kS (.at_ o' fr.t { fr.s with ba := st.ba, bb := st.bb }) (by rw [List.getLast?_concat, List.dropLast_concat]) _ H7 (s1.trans s17) ⟨p7, _, rfl, hp7, us', .ref p5, rfl, e1, fun i v f z1 z2 => ?_, ?_⟩
      · have hi2 : i < us'.length := (List.getElem?_eq_some_iff.mp z1).1
        exact (hus1 i v f (by rw [List.getElem?_append_left hi2]; exact z1) (by rw [List.getElem?_append_left (by rw [← e1]; exact hi2)]; exact z2)).same s17
      · exact ⟨p5, fc, fg, fu, sb, rfl, s7 _ _ (n6.same _ _ hp5), s17 _ _ f2, s17 _ _ f3, s17 _ _ f4, s17 _ _ q5⟩
    refine iteF' (fun z => ho ((ec _ _).mp (of_decide_eq_true z))) ?_
    obtain ⟨⟨wy, big⟩, ew⟩ : ∃ v, wayOf c = some v := Option.isSome_iff_exists.mp (by rcases hc with h | h | h; exact absurd h hi; exact absurd h ho; exact h)
    have egs : goM b o t st c = stepM b o t st wy big := by unfold goM; rw [if_neg hi, if_neg ho, ew]
    rw [egs] at kN kS
    have hgl := go_len O hs
    refine ⟨_, rfl, _, rfl, _, rfl, _, rfl, trW b t, .ref tr, ru, .ref sa, st, wy, big, by rw [← wayOf_letter ew], O, ⟨tr, rfl, t2⟩, (lrl_any hru).keep (fun _ _ e => s1 _ _ e), ⟨sa, sc, sg, su, sb, rfl, q1, q2, q3, q4, q5⟩, hs, by omega, fun hn H2 s2 => ?_, fun s' hs' v H2 s2 hv => ?_⟩
    · rw [step_F O hs hC] at hn
      refine ⟨_, rfl, rfl, _, rfl, iteT' (by simp) ?_⟩
      exact kN (by unfold stepM; rw [hn]) H2 (s1.trans s2)
    · rw [step_F O hs hC] at hs'
      have hk' := moved_ok O hs hs'
      obtain ⟨va, vc, vg, vu, vb, rfl, v1, v2, v3, v4, v5⟩ := id hv
      refine ⟨_, rfl, rfl, _, rfl, iteF' (by simp) ?_⟩
      refine ⟨⟨_, rfl⟩, _, rfl, "", tr, (trW b t).rows, rfl, rfl, .inr (SqT.of (s2 _ _ t2)), join_fit O, ?_⟩
      refine ⟨_, rfl, va, _, 0, .int s'.at_, rfl, rfl, SqT.of v1, rfl, (trW b t).z, s'.at_, mark (trW b t).z s'.at_, rfl, rfl, z_fit O, mark_at hk'.at0 hk'.at1 O.R, ?_⟩
      have hmk2 : mark (trW b t).z s'.at_ = mark (trZ t) s'.at_ := by rw [trW_z]
      rw [hmk2]
      refine ⟨(rfl : scal _ _ = true), _, rfl, ?_⟩
      have e42 : ("*" : Str) = ⟨#[42]⟩ := by decide +kernel
      rw [e42]
      have kS : ∀ q, (if mark (trZ t) s'.at_ = 42 then some Ps.won else some (.at_ o t s')) = some q → ∀ v H', Same H H' → LPos H' v q → Q v H' := fun q hq => kS q (by unfold stepM; rw [hs']; exact hq)
      by_cases h42 : mark (trZ t) s'.at_ = 42
      · refine iteT' (decide_eq_true ((ec _ _).mpr h42)) ?_
        refine And.intro (Nat.le_of_ble_eq_true rfl) fun r H3 n3 => ?_
        exact kS .won (by rw [if_pos h42]) _ H3 ((s1.trans s2).trans n3.same) ⟨r, rfl, n3.at_⟩
      refine iteF' (fun z => h42 ((ec _ _).mp (of_decide_eq_true z))) ?_
      refine ⟨_, rfl, nopart_of ⟨_, rfl, _, rfl, slU (s2 _ _ ha1) fun p3 H3 s3 hp3 => ?_⟩⟩
      rw [cut_last] at hp3
      refine ⟨_, rfl, And.intro (Nat.le_of_ble_eq_true rfl) fun p4 H4 n4 => ?_⟩
      refine catU (n4.same _ _ hp3) n4.at_ (Nat.le_of_lt (sz (show us.length + 1 ≤ 1000 by omega))) fun p5 H5 s5 hp5 => ?_
      have s25 : Same H2 H5 := (Same.trans s3 n4.same).trans s5
      refine kS (.at_ o t s') (by rw [if_neg h42]) _ H5 ((s1.trans s2).trans s25) ⟨p5, _, rfl, hp5, us, .ref va, rfl, hul, fun i v f z1 z2 => (hus1 i v f z1 z2).same (s2.trans s25), hv.same s25⟩
end
theorem sc__law_rules : FnScope ["rules"] ["rules"] (defScope s__law_rules) := ⟨rfl, rfl, rfl, by decide +kernel, rfl, by decide +kernel, by decide +kernel⟩
theorem sc__law_rules_drawn : FnScope ["pool", "cap"] ["pool"] (defScope s__law_rules_drawn) := ⟨rfl, rfl, rfl, by decide +kernel, rfl, by decide +kernel, by decide +kernel⟩
theorem sc__law_bag_drawn : FnScope ["pool", "rules"] ["pool", "rules"] (defScope s__law_bag_drawn) := ⟨rfl, rfl, rfl, by decide +kernel, rfl, by decide +kernel, by decide +kernel⟩
theorem sc__law_play : FnScope ["pool", "level", "rules", "bag", "many", "play", "position", "k", "letters", "letter", "good", "after"] ["pool", "level", "rules", "bag", "many"] (defScope s__law_play) := ⟨rfl, rfl, rfl, by decide +kernel, rfl, by decide +kernel, by decide +kernel⟩
theorem sc__law_told : FnScope ["made", "rules", "bag", "play", "found", "e"] ["made", "rules", "bag", "play"] (defScope s__law_told) := ⟨rfl, rfl, rfl, by decide +kernel, rfl, by decide +kernel, by decide +kernel⟩
theorem sc__law_right : FnScope ["made", "book", "level", "rules", "bag", "play", "due", "is_good", "told", "flag"] ["made", "book", "level", "rules", "bag", "play"] (defScope s__law_right) := ⟨rfl, rfl, rfl, by decide +kernel, rfl, by decide +kernel, by decide +kernel⟩
theorem sc_law : FnScope ["script", "pool", "level", "rules", "bag", "made", "book", "turn", "play", "many", "at", "sign"] ["script"] (defScope s_law) := ⟨rfl, rfl, rfl, by decide +kernel, rfl, by decide +kernel, by decide +kernel⟩
def dI (xs : List Int) : PyData := .tuple (xs.map PyData.int)
def dSta (s : Sta) : PyData := .tuple [.int s.at_, dI s.cr, dI s.go, dI s.us, .tuple [.int s.ba, .int s.bb]]
def dNta (s : Sta) : PyData := .tuple [.int s.at_, dI s.cr, dI s.go, dI s.us, .none]
def dPs : Ps → PyData
  | .at_ o _ s => .tuple (o.map (fun f => dNta f.s) ++ [dSta s])
  | .won => .tuple [.str "won"]
  | .out x y => .tuple [.str "out", .tuple [.int x, .int y]]
section
variable {K : PySem.W.Frag} {H : Hp}
theorem dp_sta {v : V} {s : Sta} (h : StaAt H v s) : Dp K H v (dSta s) := by
  obtain ⟨a, c, g, u, b, rfl, h1, h2, h3, h4, h5⟩ := h
  exact .tup (SqT.of h1) (.cons (.int _) (.cons (.tup (SqT.of h2) (DpAll_ints _)) (.cons (.tup (SqT.of h3) (DpAll_ints _)) (.cons (.tup (SqT.of h4) (DpAll_ints _)) (.cons (.tup (SqT.of h5) (.cons (.int _) (.cons (.int _) .nil))) .nil)))))
theorem dp_nta {v : V} {s : Sta} (h : StaN H v s) : Dp K H v (dNta s) := by
  obtain ⟨a, c, g, u, rfl, h1, h2, h3, h4⟩ := h
  exact .tup (SqT.of h1) (.cons (.int _) (.cons (.tup (SqT.of h2) (DpAll_ints _)) (.cons (.tup (SqT.of h3) (DpAll_ints _)) (.cons (.tup (SqT.of h4) (DpAll_ints _)) (.cons .non .nil)))))
theorem DpAll.app : ∀ {xs ys : List V} {ds es : List PyData}, DpAll K H xs ds → DpAll K H ys es → DpAll K H (xs ++ ys) (ds ++ es)
  | _, _, _, _, .nil, h => h
  | _, _, _, _, .cons a t, h => .cons a (DpAll.app t h)
theorem dp_frs : ∀ {us : List V} {o : List Fr}, us.length = o.length → (∀ (i : Nat) (u : V) (f : Fr), us[i]? = some u → o[i]? = some f → StaN H u f.s) → DpAll K H us (o.map fun f => dNta f.s)
  | [], [], _, _ => .nil
  | u :: us, f :: o, hl, h => .cons (dp_nta (h 0 u f rfl rfl)) (dp_frs (by simpa using hl) fun i x y e1 e2 => h (i + 1) x y e1 e2)
  | [], _ :: _, hl, _ => by cases hl
  | _ :: _, [], hl, _ => by cases hl
theorem dp_lpos {v : V} {p : Ps} (h : LPos H v p) : Dp K H v (dPs p) := by
  cases p with
  | at_ o t s =>
    obtain ⟨a, vs, rfl, h1, us, u, rfl, h2, h3, h4⟩ := h
    exact .tup (SqT.of h1) (DpAll.app (dp_frs h2 h3) (.cons (dp_sta h4) .nil))
  | won =>
    obtain ⟨a, rfl, h1⟩ := h
    exact .tup (SqT.of h1) (.cons (.str _) .nil)
  | out x y =>
    obtain ⟨q, g, rfl, h2, h3⟩ := h
    exact .tup (SqT.of h2) (.cons (.str _) (.cons (.tup (SqT.of h3) (.cons (.int _) (.cons (.int _) .nil))) .nil))
end
theorem lay_app : ∀ (xs ys : List PyData), PyData.canLayAll0 (xs ++ ys) = (PyData.canLayAll0 xs && PyData.canLayAll0 ys)
  | [], ys => by simp [PyData.canLayAll0]
  | x :: xs, ys => by show (PyData.canLay0 x && PyData.canLayAll0 (xs ++ ys)) = _; rw [lay_app xs ys, ← Bool.and_assoc]; rfl
theorem lay_dI (xs : List Int) : PyData.canLay0 (dI xs) = true := lay_ints xs
theorem lay_dSta (s : Sta) : PyData.canLay0 (dSta s) = true := by
  unfold dSta
  simp [PyData.canLay0, PyData.canLayAll0, lay_dI]
theorem lay_frs : ∀ o : List Fr, PyData.canLayAll0 (o.map fun f => dNta f.s) = true
  | [] => rfl
  | f :: o => by
    show (PyData.canLay0 (dNta f.s) && PyData.canLayAll0 (o.map fun f => dNta f.s)) = true
    rw [lay_frs o]
    unfold dNta
    simp [PyData.canLay0, PyData.canLayAll0, lay_dI]
theorem depth_app : ∀ (xs ys : List PyData), PyData.depthAll (xs ++ ys) = max (PyData.depthAll xs) (PyData.depthAll ys)
  | [], ys => by simp [PyData.depthAll]
  | x :: xs, ys => by
    show max (PyData.depth x) (PyData.depthAll (xs ++ ys)) = max (max (PyData.depth x) (PyData.depthAll xs)) _
    rw [depth_app xs ys]
    omega
theorem depth_dI (xs : List Int) : PyData.depth (dI xs) ≤ 3 := by
  have := depth_ints xs
  unfold dI
  simp [PyData.depth]
  omega
theorem depth_dSta (s : Sta) : PyData.depth (dSta s) ≤ 6 := by
  have h1 := depth_dI s.cr
  have h2 := depth_dI s.go
  have h3 := depth_dI s.us
  unfold dSta
  simp [PyData.depth, PyData.depthAll]
  omega
theorem depth_dNta (s : Sta) : PyData.depth (dNta s) ≤ 6 := by
  have h1 := depth_dI s.cr
  have h2 := depth_dI s.go
  have h3 := depth_dI s.us
  unfold dNta
  simp [PyData.depth, PyData.depthAll]
  omega
theorem depth_frs : ∀ o : List Fr, PyData.depthAll (o.map fun f => dNta f.s) ≤ 6
  | [] => by simp [PyData.depthAll]
  | f :: o => by
    have h1 := depth_dNta f.s
    have h2 := depth_frs o
    show max (PyData.depth (dNta f.s)) _ ≤ 6
    omega
theorem shaped_ps (p : Ps) : SeqAt.shaped (dPs p) = true ∧ PyData.depth (dPs p) ≤ 8 := by
  have wl : PyData.strOk "won" = true := by decide +kernel
  have ol : PyData.strOk "out" = true := by decide +kernel
  cases p with
  | at_ o t s =>
    have h1 := depth_frs o
    have h2 := depth_dSta s
    have hd : PyData.depth (dPs (.at_ o t s)) ≤ 8 := by
      unfold dPs
      show PyData.depthAll (o.map (fun f => dNta f.s) ++ [dSta s]) + 1 ≤ 8
      rw [depth_app]
      simp [PyData.depthAll]
      omega
    refine ⟨?_, hd⟩
    unfold SeqAt.shaped
    have hl : PyData.canLay0 (dPs (.at_ o t s)) = true := by
      show PyData.canLayAll0 (o.map (fun f => dNta f.s) ++ [dSta s]) = true
      rw [lay_app, lay_frs]
      simp [PyData.canLayAll0, lay_dSta]
    rw [hl, decide_eq_true (by omega)]
    rfl
  | won => exact ⟨by simp [dPs, SeqAt.shaped, PyData.canLay0, PyData.canLayAll0, PyData.depth, PyData.depthAll, wl], by simp [dPs, PyData.depth, PyData.depthAll]⟩
  | out x y => exact ⟨by simp [dPs, SeqAt.shaped, PyData.canLay0, PyData.canLayAll0, PyData.depth, PyData.depthAll, ol], by simp [dPs, PyData.depth, PyData.depthAll]⟩
def isWon : Ps → Bool
  | .won => true
  | _ => false
theorem eqv_won (p : Ps) : PyData.eqv (dPs p) (.tuple [.str "won"]) = isWon p := by
  cases p with
  | at_ o t s =>
    cases o with
    | nil => simp [dPs, dSta, PyData.eqv, PyData.eqvAll, isWon]
    | cons f o => simp [dPs, dNta, PyData.eqv, PyData.eqvAll, isWon]
  | won => simp [dPs, PyData.eqv, PyData.eqvAll, isWon]
  | out x y => simp [dPs, PyData.eqv, PyData.eqvAll, isWon]
section
variable {P : Program} {w : World} {K : PySem.W.Frag} {mg : Str → Option Value} {base : Heap}
def isAt : Ps → Bool
  | .at_ _ _ _ => true
  | _ => false
def spOutc : Sp := fun vs H Q _ => ∃ (pos : V) (p : Ps), vs = [pos] ∧ LPos H pos p ∧ ∀ v H', Same H H' → (isAt p = true → v = .non) → (isAt p = false → v ≠ .non) → Q v H'
theorem ok_outc {f : Addr} {fd : FuncData} (F : Fun K "_law_outcome" "_law_outcome" s__law_outcome f fd) (T : LawT mg) : FnG P w K mg base (CXe P w) 1 f fd ["ending"] spOutc := by
  refine F.okG sc__law_outcome (fun vs H Q E h => ?_) (fun cdv A outer s H vs Q E hgd hr h => ?_)
  · obtain ⟨pos, p, rfl, _⟩ := h; rfl
  · obtain ⟨pos, p, rfl, hp, k⟩ := h
    refine ⟨_, (pss_cons (ps_if (pt_cmpR (show OpR _ (compareOp .Eq) (rEqD K) from op_eqD hr.units) (pv 0) (pe_tupA (pa_cons pe_str pa_nil)) (nomark _)) (pss_one (ps_ret pe_str)) pss_nil)
      (pss_one (ps_ret (pe_ifExp (pt_cmpR (show OpR _ (compareOp .Eq) (rEqD K) from op_eqD hr.units) (pe_ix ix_tup (pv 0) pe_int (fun _ _ => rfl)) pe_str (nomark _)) (pe_ix ix_tup (pv 0) pe_int (fun _ _ => rfl)) pe_non)))), ?_⟩
    refine ⟨_, rfl, And.intro (Nat.le_of_ble_eq_true rfl) fun w2 H2 n2 => ?_⟩
    have hp2 : LPos H2 pos p := hp.keep fun _ _ e => n2.same _ _ e
    refine ⟨dPs p, .tuple [.str "won"], dp_lpos hp2, .tup (SqT.of n2.at_) (.cons (.str _) .nil), (shaped_ps p).1, (shaped_ps .won).1, _, rfl, ?_⟩
    rw [eqv_won]
    cases p with
    | won => exact iteT' rfl (k _ H2 n2.same (fun z => by cases z) (fun _ z => by cases z))
    | at_ o t s =>
      refine iteF' (fun z => by cases z) ?_
      obtain ⟨a, vs, rfl, h1, us, u, rfl, h2, h3, h4⟩ := id hp2
      obtain ⟨x0, hx0, d0, hd0, sd0, ne0⟩ : ∃ x0, atI (us ++ [u]) 0 = some x0 ∧ ∃ d0, Dp K H2 x0 d0 ∧ SeqAt.shaped d0 = true ∧ PyData.eqv d0 (.str "out") = false := by
        cases us with
        | nil =>
          refine ⟨u, atI_nat (j := 0) rfl, dSta s, dp_sta h4, ?_, by simp [dSta, PyData.eqv]⟩
          unfold SeqAt.shaped
          rw [lay_dSta, decide_eq_true (by have := depth_dSta s; omega)]; rfl
        | cons v us =>
          cases o with
          | nil => cases h2
          | cons f o =>
            refine ⟨v, atI_nat (j := 0) rfl, dNta f.s, dp_nta (h3 0 v f rfl rfl), ?_, by simp [dNta, PyData.eqv]⟩
            unfold SeqAt.shaped
            have hl : PyData.canLay0 (dNta f.s) = true := by
              have := lay_frs [f]
              simpa [PyData.canLayAll0] using this
            rw [hl, decide_eq_true (by have := depth_dNta f.s; omega)]; rfl
      refine ⟨_, rfl, a, _, 0, x0, rfl, rfl, SqT.of h1, hx0, d0, .str "out", hd0, .str _, sd0, by decide +kernel, _, rfl, ?_⟩
      rw [ne0]
      refine iteF' (by decide) ?_
      exact k _ H2 n2.same (fun _ => rfl) (fun z => by cases z)
    | out x y =>
      refine iteF' (fun z => by cases z) ?_
      obtain ⟨a, g, rfl, h1, h2⟩ := id hp2
      refine ⟨_, rfl, a, _, 0, .str "out", rfl, rfl, SqT.of h1, rfl, .str "out", .str "out", .str _, .str _, by decide +kernel, by decide +kernel, _, rfl, ?_⟩
      refine iteT' (by simp [PyData.eqv]) ?_
      exact ⟨_, rfl, a, _, 1, .ref g, rfl, rfl, SqT.of h1, rfl, k _ H2 n2.same (fun z => by cases z) (fun _ z => by cases z)⟩
theorem begS_C {W : Wld} (hw : wholeZ W.z = true) (ba bb : Int) : OkC (begS W ba bb) := by
  refine ⟨?_, fun h => ?_⟩
  · show (placesL W.z 111 W.z.length).Pairwise (· < ·)
    unfold placesL
    refine List.pairwise_map.mpr (List.Pairwise.filter _ ?_)
    exact List.pairwise_lt_range.imp fun h => Int.ofNat_lt.mpr h
  · have hm := places_mem (show (begS W ba bb).at_ ∈ placesL W.z 111 W.z.length from h)
    have ht := there_at hw
    obtain ⟨n, e1, e2⟩ := find_there ht
    have e3 := find_mark ht e1
    have : mark W.z (begS W ba bb).at_ = 64 := by
      show mark W.z (Txt.find W.z "@") = 64
      rw [at_sign, e1]; exact e3
    rw [this] at hm
    exact absurd hm.2.2 (by decide)
theorem go_C {b : Bk} (hb : BOk b) {r : Tr} (hr : TOk r) {o : List Fr} {t : Tr} {s : Sta} (h : PsOk b r (.at_ o t s)) (hC : PsC (.at_ o t s)) {c : Nat} {q : Ps} (e : goM b o t s c = some q) : PsC q := by
  obtain ⟨hc, ho, hs⟩ := h
  obtain ⟨ht, hf⟩ := hc.ok hr
  obtain ⟨c1, c2⟩ := hC
  unfold goM at e
  split at e
  · unfold inM at e
    split at e
    · cases e
    · split at e
      · rename_i u hu2
        cases e
        refine ⟨begS_C (by rw [trW_z]; exact (ht.child hu2).whole) _ _, fun f hf => ?_⟩
        rcases List.mem_append.mp hf with hf | hf
        · exact c2 f hf
        · rw [List.mem_singleton.mp hf]; exact ⟨c1.up, c1.off⟩
      · cases e
  · split at e
    · unfold outM at e
      split at e
      · cases e
      · split at e
        · cases e; trivial
        · rename_i f hf2
          cases e
          have eo : o = o.dropLast ++ [f] := by
            obtain ⟨ys, rfl⟩ := List.getLast?_eq_some_iff.mp hf2
            rw [List.dropLast_concat]
          have hfo : f ∈ o := by rw [eo]; simp
          exact ⟨⟨(c2 f hfo).up, (c2 f hfo).off⟩, fun g hg => c2 g (List.dropLast_subset _ hg)⟩
    · split at e
      · cases e
      · rename_i w big hw
        unfold stepM at e
        split at e
        · cases e
        · rename_i s' hs'
          split at e
          · cases e; trivial
          · cases e
            exact ⟨moved_C (ht.wok hb) hs c1 hs', c2⟩
theorem letters_mem (c : Nat) : c ∈ ("udlrUDLRio" : Str).cps.toList ↔ (c = 105 ∨ c = 111 ∨ (wayOf c).isSome = true) := by
  have e : ("udlrUDLRio" : Str).cps.toList = ("udlrUDLR" : Str).cps.toList ++ [105, 111] := by decide +kernel
  rw [e, List.mem_append, wayOf_mem]
  simp only [List.mem_cons, List.not_mem_nil, or_false]
  constructor
  · rintro (h | h | h)
    · exact .inr (.inr h)
    · exact .inl h
    · exact .inr (.inl h)
  · rintro (h | h | h)
    · exact .inr (.inl h)
    · exact .inr (.inr h)
    · exact .inl h
theorem goM_no {b : Bk} {o : List Fr} {t : Tr} {s : Sta} {c : Nat} (h : ¬ (c = 105 ∨ c = 111 ∨ (wayOf c).isSome = true)) : goM b o t s c = none := by
  unfold goM
  rw [if_neg (fun z => h (.inl z)), if_neg (fun z => h (.inr (.inl z)))]
  cases e : wayOf c with
  | none => rfl
  | some v => exact absurd (.inr (.inr (by rw [e]; rfl))) h
/-- level, book and bag as the law holds them -/
def LRight (H : Hp) (lv ru : V) (bg : Addr) (rt : Tr) (b : Bk) (ba bb : Int) : Prop := TreeAt H lv rt ∧ TOk rt ∧ rt.cnt ≤ 60 ∧ BOk b ∧ LRl H ru (trW b rt) ∧ H bg = some (.tup [.int ba, .int bb]) ∧ 0 ≤ ba ∧ ba ≤ b.cap ∧ 0 ≤ bb ∧ bb ≤ b.cap
def spLW : Sp := fun vs H Q _ => ∃ (lv ru : V) (bg : Addr) (rt : Tr) (b : Bk) (ba bb : Int) (z : Str), vs = [lv, ru, .ref bg, .str z] ∧ z.length ≤ 1000 ∧ LRight H lv ru bg rt b ba bb ∧
  ((walkM b (.at_ [] rt (begS (trW b rt) ba bb)) z.cps.toList).1 < z.length → ∀ H', Same H H' → Q (.int ((walkM b (.at_ [] rt (begS (trW b rt) ba bb)) z.cps.toList).1 : Nat)) H') ∧
  (¬ (walkM b (.at_ [] rt (begS (trW b rt) ba bb)) z.cps.toList).1 < z.length → ∀ v H', Same H H' → LPos H' v (walkM b (.at_ [] rt (begS (trW b rt) ba bb)) z.cps.toList).2 → Q v H')
theorem ok_lw {f : Addr} {fd : FuncData} (F : Fun K "_law_walked" "_law_walked" s__law_walked f fd) (T : LawT mg) (c__law_begin : CalG P w K mg base 1 "_law_begin" spLBeg) (c__law_outcome : CalG P w K mg base 1 "_law_outcome" spOutc) (c__law_move : CalG P w K mg base 6 "_law_move" spMove) :
    FnG P w K mg base (CXe P w) 7 f fd ["level", "rules", "bag", "play"] spLW := by
  refine F.okG sc__law_walked (fun vs H Q E h => ?_) (fun cdv A outer s H vs Q E hgd hr h => ?_)
  · obtain ⟨lv, ru, bg, rt, b, ba, bb, z, rfl, _⟩ := h; rfl
  · obtain ⟨lv, ru, bg, rt, b, ba, bb, z, rfl, hz, ⟨hlv, ht, hc, hb, hru, hbg, a0, a1, b0, b1⟩, kN, kS⟩ := h
    refine ⟨_, (pss_cons (ps_set (i := 4) sc__law_walked.nd rfl (Or.inl rfl) (pe_tupA (pa_cons (pg_c c__law_begin hgd hr (by first | decide | omega) (pa_cons (pe_ix ix_tup (pv 0) pe_int (fun _ _ => rfl)) (pa_cons (pv 2) pa_nil))) pa_nil)))
      (pss_cons (ps_for (passes_of rfl) rfl (pi_range1 (by rfl) T.n_range (pa_cons (pe_callB call_len_str (by rfl) T.n_len (by decide +kernel) (pa_cons (pv 3) pa_nil)) pa_nil)) (pg_name (i := 5) sc__law_walked.nd rfl (Or.inl rfl))
      (pss_cons (ps_set (i := 6) sc__law_walked.nd rfl (Or.inl rfl) pe_non)
      (C8.pss_cut (ps_if (PW.pt (pw_and (pt_cmpR op_isN (pg_c c__law_outcome hgd hr (by first | decide | omega) (pa_cons (pv 4) pa_nil)) pe_non (nomark _)) (pw_and1 (pt_cmpR op_in_sign (pe_ix ix_str (pv 3) (pv 5) (fun _ _ => rfl)) pe_str (by rfl))))) (pss_one (ps_set (i := 6) sc__law_walked.nd rfl (Or.inl rfl) (pg_c c__law_move hgd hr (by first | decide | omega) (pa_cons (pv 0) (pa_cons (pv 1) (pa_cons (pv 4) (pa_cons (pe_ix ix_str (pv 3) (pv 5) (fun _ _ => rfl)) pa_nil))))))) pss_nil)
      (pss_cons (ps_if (pt_cmpR op_isN (pv 6) pe_non (nomark _)) (pss_one (ps_ret (pv 5))) pss_nil)
      (pss_one (ps_set (i := 4) sc__law_walked.nd rfl (Or.inl rfl) (pv 6)))))))
      (pss_one (ps_ret (pv 4))))), ?_⟩
    obtain ⟨la, lr, lc, lvs, rfl, t1, t2, t3, t4, t5⟩ := tree_parts hlv b
    have O := ht.wok hb
    have ecap := trW_cap b rt
    have hs0 : Ok (trW b rt) (begS (trW b rt) ba bb) := begS_ok O (by rw [trW_z]; exact ht.whole) a0 (by rw [ecap]; exact a1) b0 (by rw [ecap]; exact b1)
    refine ⟨_, rfl, la, _, 0, .ref lr, rfl, rfl, SqT.of t1, rfl, _, rfl, trW b rt, .ref lr, bg, ba, bb, rfl, O, ⟨lr, rfl, t2⟩, by rw [trW_z]; exact ht.whole, hbg, fun v0 H1 s1 hv0 => ?_⟩
    refine And.intro (Nat.le_of_ble_eq_true rfl) fun p1 H2 n2 => ?_
    have s02 := s1.trans n2.same
    refine ⟨_, rfl, z, rfl, Nat.le_trans hz (by decide), ?_⟩
    refine ⟨_, rfl, by show -(2 ^ 62) ≤ ((z.length : Nat) : Int); omega, by show ((z.length : Nat) : Int) < 2 ^ 62; omega, ?_⟩
    rw [show ((z.length : Nat) : Int).toNat = z.length from Int.toNat_natCast _]
    have hzl : z.length = z.cps.size := rfl
    refine for_it walk_range (fun i σ H' => ∃ (v : V) (o5 o6 : Option V) (q : Ps), σ = [some (.ref la), some ru, some (.ref bg), some (.str z), some v, o5, o6] ∧ Same H2 H' ∧ PsOk b rt q ∧ PsC q ∧ LPos H' v q ∧ walkM b (.at_ [] rt (begS (trW b rt) ba bb)) z.cps.toList = (i + (walkM b q (z.cps.toList.drop i)).1, (walkM b q (z.cps.toList.drop i)).2))
      ⟨.ref p1, none, none, .at_ [] rt (begS (trW b rt) ba bb), rfl, Same.refl _, ⟨.nil, fun f hf => (by cases hf), hs0⟩, ⟨begS_C (by rw [trW_z]; exact ht.whole) _ _, fun f hf => (by cases hf)⟩, ⟨p1, _, rfl, n2.at_, [], v0, rfl, rfl, fun i u f e1 e2 => (by cases e1), hv0.same n2.same⟩, by simp⟩ (fun _ _ _ _ _ => trivial) ?_ ?_
    · rintro i y σ H4 H3 hi ⟨v, o5, o6, q, rfl, s3, hq, hqC, hv, hm⟩ ⟨rfl, rfl⟩
      have hi2 : i < z.cps.size := hi
      have hci : z.cps[i]? = some (z.cps[i]'hi2) := by simp [hi2]
      have hd : z.cps.toList.drop i = (z.cps[i]'hi2) :: z.cps.toList.drop (i + 1) := by
        rw [List.drop_eq_getElem_cons (by simpa using hi2)]; simp
      rw [hd] at hm
      generalize z.cps[i]'hi2 = c at hm hci
      have e0 : (0 : Int) + (i : Int) = (i : Int) := by omega
      have hix : ∀ (A : Nat), A = A := fun _ => rfl
      have hat : atI z.cps.toList (0 + (i : Int)) = some c := by
        rw [e0]
        exact atI_nat (by rw [Array.getElem?_toList]; exact hci)
      refine ⟨fun σ' H' => ∃ (af : V), σ' = [some (.ref la), some ru, some (.ref bg), some (.str z), some v, some (.int (0 + (i : Int))), some af] ∧ Same H3 H' ∧ ((af = .non ∧ goP b q c = none) ∨ ∃ q', goP b q c = some q' ∧ LPos H' af q'), ?_, ?_⟩
      · refine ⟨_, rfl, v, q, rfl, hv, fun ov H5 s5 h1 h2 => ?_⟩
        refine ⟨rfl, _, rfl, ?_⟩
        cases hqa : isAt q with
        | false =>
          have hn := h2 hqa
          refine iteF' (by simpa using hn) (iteF' (by simp) ?_)
          refine ⟨.non, rfl, s5, .inl ⟨rfl, ?_⟩⟩
          cases q with
          | at_ o t s => cases hqa
          | won => rfl
          | out x y => rfl
        | true =>
          obtain rfl := h1 hqa
          refine iteT' (by simp) ?_
          obtain ⟨o, t, st, rfl⟩ : ∃ o t s, q = .at_ o t s := by
            cases q with
            | at_ o t s => exact ⟨o, t, s, rfl⟩
            | won => cases hqa
            | out x y => cases hqa
          refine ⟨_, rfl, _, rfl, z, 0 + (i : Int), c, rfl, rfl, Nat.le_trans hz (by decide), hat, c, "udlrUDLRio", rfl, rfl, _, rfl, ?_⟩
          by_cases hcm : c ∈ ("udlrUDLRio" : Str).cps.toList
          rotate_left
          · refine iteF' (by simpa using hcm) ?_
            exact ⟨.non, rfl, s5, .inl ⟨rfl, goM_no (fun z => hcm ((letters_mem c).mpr z))⟩⟩
          refine iteT' (by simpa using hcm) ?_
          have s05 := (s02.trans s3).trans s5
          refine ⟨_, rfl, _, rfl, _, rfl, _, rfl, _, rfl, z, 0 + (i : Int), c, rfl, rfl, Nat.le_trans hz (by decide), hat, .ref la, ru, v, b, rt, o, t, st, c, rfl, (letters_mem c).mp hcm, hb, hlv.same s05, ht, hc, hru.keep (fun _ _ e => s05 _ _ e), hv.keep (fun _ _ e => s5 _ _ e), hq, hqC.1, fun hn H6 s6 => ?_, fun q' hq' v' H6 s6 hv' => ?_⟩
          · exact ⟨.non, rfl, s5.trans s6, .inl ⟨rfl, hn⟩⟩
          · exact ⟨v', rfl, s5.trans s6, .inr ⟨q', hq', hv'⟩⟩
      · rintro σ' H5 ⟨af, rfl, s5, haf⟩
        refine ⟨_, rfl, rfl, _, rfl, ?_⟩
        rcases haf with ⟨rfl, hn⟩ | ⟨q', hq', hv'⟩
        · refine iteT' (by simp) ⟨_, rfl, ?_⟩
          have ew : walkM b q (c :: z.cps.toList.drop (i + 1)) = (0, q) := by
            cases q with
            | at_ o t s => unfold walkM; rw [show goM b o t s c = none from hn]
            | won => rfl
            | out x y => rfl
          rw [ew] at hm
          rw [hm] at kN
          have kN := kN (by show i + 0 < z.length; omega) H5 ((s02.trans s3).trans s5)
          show Q (.int (0 + (i : Int))) H5
          rw [e0]
          exact kN
        · have haf : af ≠ .non := by
            cases q' with
            | at_ o t s => obtain ⟨x, vs, rfl, _⟩ := hv'; intro z; cases z
            | won => obtain ⟨x, rfl, _⟩ := hv'; intro z; cases z
            | out x y => obtain ⟨x, g, rfl, _⟩ := hv'; intro z; cases z
          refine iteF' (by simpa using haf) ?_
          have ew : walkM b q (c :: z.cps.toList.drop (i + 1)) = ((walkM b q' (z.cps.toList.drop (i + 1))).1 + 1, (walkM b q' (z.cps.toList.drop (i + 1))).2) := by
            cases q with
            | at_ o t s => rw [walkM, show goM b o t s c = some q' from hq']
            | won => cases hq'
            | out x y => cases hq'
          rw [ew] at hm
          obtain ⟨o, t, st, rfl⟩ : ∃ o t s, q = .at_ o t s := by
            cases q with
            | at_ o t s => exact ⟨o, t, s, rfl⟩
            | won => cases hq'
            | out x y => cases hq'
          exact ⟨_, rfl, af, _, _, q', rfl, s3.trans s5, go_ok hb ht hq hq', go_C hb ht hq hqC hq', hv', by rw [hm]; exact Prod.ext (by show i + (_ + 1) = _; omega) rfl⟩
    · rintro σ H3 ⟨v, o5, o6, q, rfl, s3, hq, hqC, hv, hm⟩
      have hd : z.cps.toList.drop z.length = [] := by simp [hzl]
      rw [hd] at hm
      have ew : walkM b q [] = (0, q) := by cases q <;> rfl
      rw [ew] at hm
      rw [hm] at kS
      exact ⟨_, rfl, kS (by show ¬ z.length + 0 < z.length; omega) v H3 (s02.trans s3) hv⟩
end
theorem sta_sh {W : Wld} {s : Sta} (O : WOk W) (Ks : Ok W s) : L2.Sh (dSta s) 2 785 ∧ L2.Sh (dNta s) 2 785 := by
  have hn := O.n30
  have c1 := O.c1
  have hul := us_len Ks
  have hgl := go_len O Ks
  have up : ∀ {d l}, d ≤ 1 → l ≤ 153 → ∀ {x : PyData}, L2.Sh x d l → L2.Sh x 1 153 := fun a b x h => h.mono a b
  have h1 : L2.Sh (.int s.at_) 1 153 := up (by omega) (by omega) (L2.Sh.int Ks.at0 (by have := Ks.at1; omega))
  have h2 : L2.Sh (dI s.cr) 1 153 := up (by omega) (by omega) (L2.Sh.ints (m := 30) (fun x hx => ⟨Ks.cr0 x hx, by have := Ks.cr1 x hx; omega⟩) Ks.crn)
  have h3 : L2.Sh (dI s.go) 1 153 := up (by omega) (by omega) (L2.Sh.ints (m := 30) (fun x hx => ⟨Ks.go0 x hx, by have := Ks.go1 x hx; omega⟩) hgl)
  have h4 : L2.Sh (dI s.us) 1 153 := up (by omega) (by omega) (L2.Sh.ints (m := 3) (fun x hx => by have := Ks.us0 x hx; omega) (by omega))
  have h5 : L2.Sh (.tuple [.int s.ba, .int s.bb]) 1 153 := by
    have := Ks.ba1; have := Ks.bb1
    exact up (by omega) (by omega) (L2.Sh.ints (xs := [s.ba, s.bb]) (m := 2) (fun x hx => by
      simp only [List.mem_cons, List.not_mem_nil, or_false] at hx
      rcases hx with rfl | rfl
      · exact ⟨Ks.ba0, by omega⟩
      · exact ⟨Ks.bb0, by omega⟩) (by simp))
  constructor
  · refine (L2.Sh.tuple (n := 1) (l := 153) (m := 5) ?_ (by simp)).mono (by omega) (by omega)
    intro d hd
    simp only [List.mem_cons, List.not_mem_nil, or_false] at hd
    rcases hd with rfl | rfl | rfl | rfl | rfl
    · exact h1
    · exact h2
    · exact h3
    · exact h4
    · exact h5
  · refine (L2.Sh.tuple (n := 1) (l := 153) (m := 5) ?_ (by simp)).mono (by omega) (by omega)
    intro d hd
    simp only [List.mem_cons, List.not_mem_nil, or_false] at hd
    rcases hd with rfl | rfl | rfl | rfl | rfl
    · exact h1
    · exact h2
    · exact h3
    · exact h4
    · exact up (by omega) (by omega) L2.Sh.non
theorem ps_sh {b : Bk} {r : Tr} {p : Ps} (hb : BOk b) (hr : TOk r) (hc : r.cnt ≤ 60) (h : PsOk b r p) : L2.Sh (dPs p) 3 100000 := by
  cases p with
  | at_ o t s =>
    obtain ⟨h1, h2, h3⟩ := h
    obtain ⟨ht, hf⟩ := h1.ok hr
    have hol := h1.short
    refine (L2.Sh.tuple (n := 2) (l := 785) (m := 61) (fun d hd => ?_) (by simp; omega)).mono (by omega) (by omega)
    rcases List.mem_append.mp hd with hd | hd
    · obtain ⟨f, hf2, rfl⟩ := List.mem_map.mp hd
      exact (sta_sh ((hf f hf2).wok hb) (h2 f hf2)).2
    · rw [List.mem_singleton.mp hd]
      exact (sta_sh (ht.wok hb) h3).1
  | won => exact ⟨by decide +kernel, by simp [dPs, PyData.depth, PyData.depthAll], Nat.le_trans (show (dPs .won).shown.length ≤ 20 by decide +kernel) (by decide)⟩
  | out x y =>
    obtain ⟨x0, x1, y0, y1⟩ := h
    have c1 := hb.c1
    refine (L2.Sh.tuple (n := 1) (l := 100) (m := 2) (fun d hd => ?_) (by simp)).mono (by omega) (by omega)
    simp only [List.mem_cons, List.not_mem_nil, or_false] at hd
    rcases hd with rfl | rfl
    · exact ⟨rfl, by simp [PyData.depth], Nat.le_trans (show (PyData.str "out").shown.length ≤ 20 by decide +kernel) (by decide)⟩
    · exact (L2.Sh.ints (xs := [x, y]) (m := 2) (fun z hz => by
        simp only [List.mem_cons, List.not_mem_nil, or_false] at hz
        rcases hz with rfl | rfl
        · exact ⟨x0, by omega⟩
        · exact ⟨y0, by omega⟩) (by simp)).mono (by omega) (by omega)
theorem nodict_ints : ∀ xs : List Int, PyData.hasDictAll (xs.map PyData.int) = false
  | [] => rfl
  | x :: xs => by simp [PyData.hasDictAll, PyData.hasDict, nodict_ints xs]
theorem nodict_app : ∀ xs ys : List PyData, PyData.hasDictAll (xs ++ ys) = (PyData.hasDictAll xs || PyData.hasDictAll ys)
  | [], ys => by simp [PyData.hasDictAll]
  | x :: xs, ys => by simp [PyData.hasDictAll, nodict_app xs ys, Bool.or_assoc]
theorem nodict_frs : ∀ o : List Fr, PyData.hasDictAll (o.map fun f => dNta f.s) = false
  | [] => rfl
  | f :: o => by
    show ((dNta f.s).hasDict || PyData.hasDictAll (o.map fun f => dNta f.s)) = false
    rw [nodict_frs o]
    simp [PyData.hasDictAll, PyData.hasDict, dNta, dI, nodict_ints]
theorem nodict_ps (p : Ps) : (dPs p).hasDict = false := by
  cases p with
  | at_ o t s => simp [dPs, PyData.hasDict, nodict_app, nodict_frs, PyData.hasDictAll, dSta, dI, nodict_ints]
  | won => simp [dPs, PyData.hasDict, PyData.hasDictAll]
  | out x y => simp [dPs, PyData.hasDict, PyData.hasDictAll]
mutual
theorem eqv_self : ∀ d : PyData, d.hasDict = false → PyData.eqv d d = true
  | .none, _ => rfl
  | .bool b, _ => by cases b <;> rfl
  | .int i, _ => by simp [PyData.eqv]
  | .str x, _ => by simp [PyData.eqv]
  | .list xs, h => by
    show PyData.eqvAll xs xs = true
    exact eqvAll_self xs (by simpa [PyData.hasDict] using h)
  | .tuple xs, h => by
    show PyData.eqvAll xs xs = true
    exact eqvAll_self xs (by simpa [PyData.hasDict] using h)
  | .dict _, h => by simp [PyData.hasDict] at h
theorem eqvAll_self : ∀ ds : List PyData, PyData.hasDictAll ds = false → PyData.eqvAll ds ds = true
  | [], _ => rfl
  | d :: ds, h => by
    have h : (d.hasDict || PyData.hasDictAll ds) = false := h
    rw [Bool.or_eq_false_iff] at h
    show (PyData.eqv d d && PyData.eqvAll ds ds) = true
    rw [eqv_self d h.1, eqvAll_self ds h.2]; rfl
end
section
variable {P : Program} {w : World} {K : PySem.W.Frag} {mg : Str → Option Value} {base : Heap} {CR CL CV CW aB aO aW LB LF GB GF PB PF VE : Addr}
theorem dp_pos {H : Hp} (hK : WonK K aW) {v : V} {p : Ps} (h : PosAt aW H v p) : Dp K H v (dPs p) := by
  cases p with
  | at_ o t s =>
    obtain ⟨a, vs, rfl, h1, us, u, rfl, h2, h3, h4⟩ := h
    exact .tup (SqT.of h1) (DpAll.app (dp_frs h2 h3) (.cons (dp_sta h4) .nil))
  | won =>
    obtain rfl : v = .ref aW := h
    exact .tup (hK H) (.cons (.str _) .nil)
  | out x y =>
    obtain ⟨q, g, rfl, h2, h3⟩ := h
    exact .tup (SqT.of h2) (.cons (.str _) (.cons (.tup (SqT.of h3) (.cons (.int _) (.cons (.int _) .nil))) .nil))
/-- what the law is told of a play -/
def ToldA (K : PySem.W.Frag) (aW : Addr) (H : Hp) (v : V) (m : Nat × Ps) (n : Nat) : Prop := ∃ a x, v = .ref a ∧
  ((m.1 < n ∧ H a = some (.tup [.str "bad", x]) ∧ x = .int (m.1 : Nat)) ∨ (¬ m.1 < n ∧ H a = some (.tup [.str "at", x]) ∧ PosAt aW H x m.2))
def spTold (K : PySem.W.Frag) (CR CL CV aW : Addr) : Sp := fun vs H Q _ => ∃ (y : V) (r bk : Addr) (z : Str) (t : Tr) (b : Bk) (ba bb : Int), vs = [y, .ref r, .ref bk, .str z] ∧ z.length ≤ 1000 ∧ Right K CR CL CV H y r bk t b ba bb ∧
  ∀ v H', Same H H' → ToldA K aW H' v (walkM b (.at_ [] t (begS (trW b t) ba bb)) z.cps.toList) z.length → Q v H'
theorem ok_told {f : Addr} {fd : FuncData} (F : Fun K "_law_told" "_law_told" s__law_told f fd) (T : PlT P w K mg CR CL CV CW aB aO aW LB LF GB GF PB PF VE) (c_walk : CalG P w K mg base 8 "walk" (spWalk K CR CL CV aW PB)) : FnG P w K mg base (CXe P w) 9 f fd ["made", "rules", "bag", "play"] (spTold K CR CL CV aW) := by
  refine F.okG sc__law_told (fun vs H Q E h => ?_) (fun cdv A outer s H vs Q E hgd hr h => ?_)
  · obtain ⟨y, r, bk, z, t, b, ba, bb, rfl, _⟩ := h; rfl
  · obtain ⟨y, r, bk, z, t, b, ba, bb, rfl, hz, hR, k⟩ := h
    refine ⟨_, (pss_cons (ps_set (i := 4) sc__law_told.nd rfl (Or.inl rfl) pe_non)
      (pss_cons (ps_try_clsN rfl rfl sc__law_told.nd takes0 (.cons (i := 5) rfl rfl ⟨rfl, by decide, .inl T.x_BadPlay.gC⟩ (fun a oe cls d pn hz hf => (pss_one (ps_set (i := 4) sc__law_told.nd rfl (Or.inl rfl) (pe_tupA (pa_cons pe_str (pa_cons (pe_xf T.x_BadPlay.xf T.x_BadPlay.noN hz hf (pv 5)) pa_nil)))))) .nil)
      (fun W pn xe tk _ => (pss_one (ps_set (i := 4) sc__law_told.nd rfl (Or.inl rfl) (pe_tupA (pa_cons pe_str (pa_cons (pg_cS c_walk hgd hr (by first | decide | omega) (fun σ => passAt tk σ) (pa_cons (pv 0) (pa_cons (pv 1) (pa_cons (pv 2) (pa_cons (pv 3) pa_nil))))) pa_nil)))))))
      (pss_one (ps_ret (pv 4))))), ?_⟩
    refine ⟨_, rfl, _, rfl, _, rfl, _, rfl, y, r, bk, z, t, b, ba, bb, rfl, hz, hR, fun hl H1 d s1 hd => ⟨true, T.x_BadPlay.te, fun _ a ha => ?_, fun z => nomatch z⟩, fun hl v H1 s1 hv => ?_⟩
    · have s2 : Same H1 (upd H1 d (.xd [("at", .int ((walkM b (.at_ [] t (begS (trW b t) ba bb)) z.cps.toList).1 : Nat))])) := same_new hd
      refine ⟨_, rfl, rfl, rfl, d, _, _, rfl, upd_same, rfl, And.intro (Nat.le_of_ble_eq_true rfl) (fun t0 H2 n2 => ?_)⟩
      exact ⟨_, rfl, k _ H2 ((s1.trans s2).trans n2.same) ⟨t0, _, rfl, .inl ⟨hl, n2.at_, rfl⟩⟩⟩
    · refine And.intro (Nat.le_of_ble_eq_true rfl) fun t0 H2 n2 => ?_
      exact ⟨_, rfl, k _ H2 (s1.trans n2.same) ⟨t0, _, rfl, .inr ⟨hl, n2.at_, hv.keep fun _ _ e => n2.same _ _ e⟩⟩⟩
theorem Right.same {H H' : Hp} (s : Same H H') {y : V} {r bk : Addr} {t : Tr} {b : Bk} {ba bb : Int} (h : Right K CR CL CV H y r bk t b ba bb) : Right K CR CL CV H' y r bk t b ba bb := by
  obtain ⟨h1, h2, h3, h4, h5, h6⟩ := h
  exact ⟨h1.same s, h2, h3, RulesIs.same s h4, s _ _ h5, h6⟩
theorem tyB {H : Hp} {x : Bool} : TyX K H (.bl x) (.type "bool") := .base (tyN_of (n := "bool") rfl)
theorem kBB : PySem.W.kitOne K (.type "bool") (.type "bool") = some true := kit_ty (show kitB "bool" "bool" = some true by decide +kernel)
theorem kTI : PySem.W.kitOne K (.type "tuple") (.type "int") = some false := kit_ty (show kitB "tuple" "int" = some false by decide +kernel)
theorem shaped_told {x : Str} (hx : PyData.strOk x = true) {d : PyData} (h : SeqAt.shaped d = true) (hd : d.depth ≤ 20) : SeqAt.shaped (.tuple [.str x, d]) = true := by
  have h1 := SeqAt.canLay_of_shaped h
  unfold SeqAt.shaped
  simp [PyData.canLay0, PyData.canLayAll0, hx, h1, PyData.depth, PyData.depthAll]
  omega
def spRgt (K : PySem.W.Frag) (CR CL CV : Addr) : Sp := fun vs H Q _ => ∃ (y lv ru : V) (r bk : Addr) (z : Str) (t : Tr) (b : Bk) (ba bb : Int), vs = [y, .ref r, lv, ru, .ref bk, .str z] ∧ z.length ≤ 900 ∧ Right K CR CL CV H y r bk t b ba bb ∧ LRight H lv ru bk t b ba bb ∧ ∀ H', Same H H' → Q (.bl true) H'
theorem ok_right {f : Addr} {fd : FuncData} (F : Fun K "_law_right" "_law_right" s__law_right f fd) (T : PlT P w K mg CR CL CV CW aB aO aW LB LF GB GF PB PF VE) (c__law_walked : CalG P w K mg base 7 "_law_walked" spLW) (c__law_told : CalG P w K mg base 9 "_law_told" (spTold K CR CL CV aW)) (c_is_play : CalG P w K mg base 7 "is_play" (spIsPlay K CR CL CV)) :
    FnG P w K mg base (CXe P w) 10 f fd ["made", "book", "level", "rules", "bag", "play"] (spRgt K CR CL CV) := by
  refine F.okG sc__law_right (fun vs H Q E h => ?_) (fun cdv A outer s H vs Q E hgd hr h => ?_)
  · obtain ⟨y, lv, ru, r, bk, z, t, b, ba, bb, rfl, _⟩ := h; rfl
  · obtain ⟨y, lv, ru, r, bk, z, t, b, ba, bb, rfl, hz, hR, hL, k⟩ := h
    refine ⟨_, (pss_cons (ps_set (i := 6) sc__law_right.nd rfl (Or.inl rfl) (pg_c c__law_walked hgd hr (by first | decide | omega) (pa_cons (pv 2) (pa_cons (pv 3) (pa_cons (pv 4) (pa_cons (pv 5) pa_nil))))))
      (pss_cons (ps_set (i := 7) sc__law_right.nd rfl (Or.inl rfl) (pe_not (pe_callB call_isi (by rfl) T.n_isinstance (by decide +kernel) (pa_cons (pv 6) (pa_cons (pe_bltn (v := .ty "int") (u := .type "int") rfl T.n_int (by decide +kernel) rfl) pa_nil)))))
      (pss_cons (ps_set (i := 8) sc__law_right.nd rfl (Or.inl rfl) (pg_c c__law_told hgd hr (by first | decide | omega) (pa_cons (pv 0) (pa_cons (pv 1) (pa_cons (pv 4) (pa_cons (pv 5) pa_nil))))))
      (pss_cons (ps_if (PW.pt (pw_or (pt_cmpR (show OpR _ (compareOp .NotEq) (rNeD K) from op_neD hr.units) (pv 8) (pe_tupA (pa_cons (pe_ifExp (pt_val (pv 7)) pe_str pe_str) (pa_cons (pv 6) pa_nil))) (nomark _)) (pw_or1 (pt_cmpR op_ne (pe_callB (CallR.or (call_reprT hgd hr) (call_reprD hgd hr)) (by rfl) T.n_repr (by decide +kernel) (pa_cons (pe_ix ix_tup (pv 8) pe_int (fun _ _ => rfl)) pa_nil)) (pe_callB (CallR.or (call_reprT hgd hr) (call_reprD hgd hr)) (by rfl) T.n_repr (by decide +kernel) (pa_cons (pv 6) pa_nil)) (nomark _))))) (pss_one (ps_ret pe_bl)) pss_nil)
      (pss_cons (ps_set (i := 9) sc__law_right.nd rfl (Or.inl rfl) (pg_c c_is_play hgd hr (by first | decide | omega) (pa_cons (pv 0) (pa_cons (pv 1) (pa_cons (pv 4) (pa_cons (pv 5) pa_nil))))))
      (pss_one (ps_ret (pe_and (pe_callB call_isi (by rfl) T.n_isinstance (by decide +kernel) (pa_cons (pv 9) (pa_cons (pe_bltn (v := .ty "bool") (u := .type "bool") rfl T.n_bool (by decide +kernel) rfl) pa_nil))) (pe_one (pe_cmpR op_eq (pv 9) (pv 7) (nomark _))))))))))), ?_⟩
    have hps : PsOk b t (walkM b (.at_ [] t (begS (trW b t) ba bb)) z.cps.toList).2 := by
      obtain ⟨hlv, ht, hc, hb, hru, hbg, a0, a1, b0, b1⟩ := id hL
      have ecap := trW_cap b t
      exact walkM_ok hb ht _ ⟨.nil, fun f hf => (by cases hf), begS_ok (ht.wok hb) (by rw [trW_z]; exact ht.whole) a0 (by rw [ecap]; exact a1) b0 (by rw [ecap]; exact b1)⟩
    have hle := walkM_le b z.cps.toList (.at_ [] t (begS (trW b t) ba bb))
    have hzl : z.cps.toList.length = z.length := by simp; rfl
    rw [hzl] at hle
    have hsh := ps_sh hL.2.2.2.1 hL.2.1 hL.2.2.1 hps
    refine ⟨_, rfl, _, rfl, _, rfl, _, rfl, lv, ru, bk, t, b, ba, bb, z, rfl, by omega, hL, fun hl H1 s1 => ?_, fun hl v H1 s1 hv => ?_⟩
    · generalize hm : walkM b (.at_ [] t (begS (trW b t) ba bb)) z.cps.toList = m at hl hle hsh
      refine ⟨_, rfl, _, _, _, _, _, rfl, .ty _, tyI, kII, ?_⟩
      refine ⟨_, rfl, ?_⟩
      refine ⟨_, rfl, _, rfl, _, rfl, _, rfl, y, r, bk, z, t, b, ba, bb, rfl, by omega, hR.same s1, fun tv H2 s2 htv => ?_⟩
      rw [hm] at htv
      obtain ⟨ta, x, rfl, h⟩ := htv
      obtain ⟨ht2, rfl⟩ : H2 ta = some (.tup [.str "bad", x]) ∧ x = .int (m.1 : Nat) := by
        rcases h with ⟨_, h1, h2⟩ | ⟨h1, _⟩
        · exact ⟨h1, h2⟩
        · exact absurd hl h1
      refine ⟨_, rfl, ?_⟩
      refine ⟨_, rfl, _, rfl, ?_⟩
      refine iteF' (by decide) ?_
      refine ⟨_, rfl, And.intro (Nat.le_of_ble_eq_true rfl) fun p3 H3 n3 => ?_⟩
      have sI : SeqAt.shaped (.int ((m.1 : Nat) : Int)) = true := by simp [SeqAt.shaped, PyData.canLay0, PyData.depth]
      have st := shaped_told (x := "bad") (by decide +kernel) sI (by simp [PyData.depth])
      refine ⟨.tuple [.str "bad", .int (m.1 : Nat)], .tuple [.str "bad", .int (m.1 : Nat)], .tup (SqT.of (n3.same _ _ ht2)) (.cons (.str _) (.cons (.int _) .nil)), .tup (SqT.of n3.at_) (.cons (.str _) (.cons (.int _) .nil)), st, st, _, rfl, ?_⟩
      rw [eqv_self _ (by simp [PyData.hasDict, PyData.hasDictAll])]
      refine iteF' (by decide) ?_
      have hi := (L2.Sh.int (i := ((m.1 : Nat) : Int)) (by omega) (by omega)).fit (by omega) (by omega)
      refine ⟨_, rfl, ta, _, 1, .int (m.1 : Nat), rfl, rfl, SqT.of (n3.same _ _ ht2), rfl, .inr ⟨_, .int (m.1 : Nat), true, fun _ => False, rfl, .int _, hi.1, hi.2.1, hi.2.2, ?_⟩⟩
      refine ⟨_, rfl, .inr ⟨_, .int (m.1 : Nat), true, fun _ => False, rfl, .int _, hi.1, hi.2.1, hi.2.2, ?_⟩⟩
      refine ⟨(rfl : scal _ _ = true), _, rfl, iteF' (by simp) ?_⟩
      have s13 := s2.trans n3.same
      refine ⟨_, rfl, _, rfl, _, rfl, _, rfl, y, r, bk, z, t, b, ba, bb, rfl, by omega, (hR.same s1).same s13, fun H4 s4 => ?_⟩
      rw [hm]
      have ef : decide (m.1 = z.length) = false := decide_eq_false (by omega)
      rw [ef]
      refine ⟨_, rfl, _, _, _, _, _, rfl, .ty _, tyB, kBB, _, rfl, ?_⟩
      refine iteT' rfl ?_
      refine ⟨_, rfl, _, rfl, (rfl : scal _ _ = true), ?_⟩
      exact k H4 ((s1.trans s13).trans s4)
    · generalize hm : walkM b (.at_ [] t (begS (trW b t) ba bb)) z.cps.toList = m at hl hle hsh hps hv
      obtain ⟨va, vxs, rfl, hva⟩ : ∃ a xs, v = .ref a ∧ H1 a = some (.tup xs) := by
        cases hq : m.2 with
        | at_ o t s => rw [hq] at hv; obtain ⟨x, vs, e, h1, _⟩ := hv; exact ⟨x, vs, e, h1⟩
        | won => rw [hq] at hv; obtain ⟨x, e, h1⟩ := hv; exact ⟨x, _, e, h1⟩
        | out x y => rw [hq] at hv; obtain ⟨x, g, e, h1, _⟩ := hv; exact ⟨x, _, e, h1⟩
      refine ⟨_, rfl, _, _, _, _, _, rfl, .ty _, tyTup hva, kTI, ?_⟩
      refine ⟨_, rfl, ?_⟩
      refine ⟨_, rfl, _, rfl, _, rfl, _, rfl, y, r, bk, z, t, b, ba, bb, rfl, by omega, hR.same s1, fun tv H2 s2 htv => ?_⟩
      rw [hm] at htv
      obtain ⟨ta, x, rfl, h⟩ := htv
      obtain ⟨ht2, hx⟩ : H2 ta = some (.tup [.str "at", x]) ∧ PosAt aW H2 x m.2 := by
        rcases h with ⟨h1, _⟩ | ⟨_, h1, h2⟩
        · exact absurd h1 hl
        · exact ⟨h1, h2⟩
      refine ⟨_, rfl, ?_⟩
      refine ⟨_, rfl, _, rfl, ?_⟩
      refine iteT' rfl ?_
      refine ⟨_, rfl, And.intro (Nat.le_of_ble_eq_true rfl) fun p3 H3 n3 => ?_⟩
      have hv3 : LPos H3 (.ref va) m.2 := (hv.keep fun _ _ e => s2 _ _ e).keep fun _ _ e => n3.same _ _ e
      have hx3 : PosAt aW H3 x m.2 := hx.keep fun _ _ e => n3.same _ _ e
      have sp := shaped_ps m.2
      have st := shaped_told (x := "at") (by decide +kernel) sp.1 (by omega)
      have nd := nodict_ps m.2
      have dx := dp_pos T.won hx3
      have dv := dp_lpos (K := K) hv3
      refine ⟨.tuple [.str "at", dPs m.2], .tuple [.str "at", dPs m.2], .tup (SqT.of (n3.same _ _ ht2)) (.cons (.str _) (.cons dx .nil)), .tup (SqT.of n3.at_) (.cons (.str _) (.cons dv .nil)), st, st, _, rfl, ?_⟩
      rw [eqv_self _ (by simp [PyData.hasDict, PyData.hasDictAll, nd])]
      refine iteF' (by decide) ?_
      have hi := hsh.fit (by omega) (by omega)
      obtain ⟨ds, eds⟩ : ∃ ds, dPs m.2 = .tuple ds := by
        cases m.2 with
        | at_ o t s => exact ⟨_, rfl⟩
        | won => exact ⟨_, rfl⟩
        | out x y => exact ⟨_, rfl⟩
      rw [eds] at hi dx dv nd
      refine ⟨_, rfl, ta, _, 1, x, rfl, rfl, SqT.of (n3.same _ _ ht2), rfl, .inl ⟨_, ds, rfl, dx, hi.1, nd, hi.2.1, hi.2.2, ?_⟩⟩
      refine ⟨_, rfl, .inl ⟨_, ds, rfl, dv, hi.1, nd, hi.2.1, hi.2.2, ?_⟩⟩
      refine ⟨(rfl : scal _ _ = true), _, rfl, iteF' (by simp) ?_⟩
      have s13 := s2.trans n3.same
      refine ⟨_, rfl, _, rfl, _, rfl, _, rfl, y, r, bk, z, t, b, ba, bb, rfl, by omega, (hR.same s1).same s13, fun H4 s4 => ?_⟩
      rw [hm]
      have ef : decide (m.1 = z.length) = true := decide_eq_true (by omega)
      rw [ef]
      refine ⟨_, rfl, _, _, _, _, _, rfl, .ty _, tyB, kBB, _, rfl, ?_⟩
      refine iteT' rfl ?_
      refine ⟨_, rfl, _, rfl, (rfl : scal _ _ = true), ?_⟩
      exact k H4 ((s1.trans s13).trans s4)
end
theorem fork1 {C R : Hp → Prop} {G : Prop} (rest : ∀ H, C H → R H) (main : (∀ H, C H → R H) → G) : G := main rest
/-- letters that may be drawn from -/
def LetOk (z : Str) : Prop := 0 < z.length ∧ z.length ≤ 16 ∧ ∀ c ∈ z.cps.toList, c ∈ ("udlrUDLRio" : Str).cps.toList
theorem let_all : LetOk "udlrUDLRio" := ⟨by decide +kernel, by decide +kernel, fun c h => h⟩
theorem let_i : LetOk "i" := ⟨by decide +kernel, by decide +kernel, by decide +kernel⟩
theorem join_ones (cs : List Nat) : (Txt.join "" (cs.map fun c => (⟨#[c]⟩ : Str))).cps.toList = cs := by
  rw [join_cps, List.map_map]
  induction cs with
  | nil => rfl
  | cons c r ih => rw [List.map_cons, List.flatten_cons, ih]; rfl
theorem let_join {cs : List Nat} (h0 : cs ≠ []) (h1 : cs.length ≤ 16) (h2 : ∀ c ∈ cs, c ∈ ("udlrUDLRio" : Str).cps.toList) : LetOk (Txt.join "" (cs.map fun c => (⟨#[c]⟩ : Str))) := by
  have e := join_ones cs
  have el : (Txt.join "" (cs.map fun c => (⟨#[c]⟩ : Str))).length = cs.length := by
    show (Txt.join "" (cs.map fun c => (⟨#[c]⟩ : Str))).cps.size = _
    rw [← Array.length_toList, e]
  refine ⟨by rw [el]; exact List.length_pos_iff.mpr h0, by rw [el]; exact h1, fun c hc => by rw [e] at hc; exact h2 c hc⟩
abbrev V1 (c : Nat) : V := .str ⟨#[c]⟩
theorem dp_ones {K : PySem.W.Frag} {H : Hp} : ∀ cs : List Nat, DpAll K H (cs.map V1) (cs.map fun c => PyData.str ⟨#[c]⟩)
  | [] => .nil
  | c :: cs => .cons (.str _) (dp_ones cs)
theorem lay_ones : ∀ {cs : List Nat}, (∀ c ∈ cs, c ∈ ("udlrUDLRio" : Str).cps.toList) → PyData.canLayAll0 (cs.map fun c => PyData.str ⟨#[c]⟩) = true
  | [], _ => rfl
  | c :: cs, h => by
    have hc : c < 200 := (show ∀ c ∈ ("udlrUDLRio" : Str).cps.toList, c < 200 by decide +kernel) c (h c (List.mem_cons_self ..))
    have hs : PyData.strOk ⟨#[c]⟩ = true := by
      show (#[c].all fun x => decide (x < 0x110000)) = true
      simp
      omega
    show (PyData.strOk ⟨#[c]⟩ && PyData.canLayAll0 (cs.map fun c => PyData.str ⟨#[c]⟩)) = true
    rw [hs, lay_ones fun d hd => h d (List.mem_cons_of_mem _ hd)]; rfl
theorem depth_ones : ∀ cs : List Nat, PyData.depthAll (cs.map fun c => PyData.str ⟨#[c]⟩) ≤ 1
  | [] => by simp [PyData.depthAll]
  | c :: cs => by have := depth_ones cs; simp [PyData.depthAll, PyData.depth]; omega
theorem shaped_ones {cs : List Nat} (h : ∀ c ∈ cs, c ∈ ("udlrUDLRio" : Str).cps.toList) : SeqAt.shaped (.list (cs.map fun c => PyData.str ⟨#[c]⟩)) = true := by
  have h1 := lay_ones h
  have h2 := depth_ones cs
  unfold SeqAt.shaped
  simp [PyData.canLay0, h1, PyData.depth]
  omega
theorem eqv_ones (cs : List Nat) : PyData.eqv (.list (cs.map fun c => PyData.str ⟨#[c]⟩)) (.list []) = decide (cs = []) := by
  cases cs with
  | nil => rfl
  | cons x r => simp [PyData.eqv, PyData.eqvAll]
theorem flat_ones (cs : List Nat) : (cs.map V1).all flatV = true := by
  rw [List.all_eq_true]
  intro v hv
  obtain ⟨i, _, rfl⟩ := List.mem_map.mp hv
  rfl
theorem join_ones_fit (cs : List Nat) (h : cs.length ≤ 16) : ((cs.map fun c => (⟨#[c]⟩ : Str)).map fun x => x.length).sum + (cs.map fun c => (⟨#[c]⟩ : Str)).length * ("" : Str).length ≤ 16777216 := by
  have e0 : ("" : Str).length = 0 := rfl
  have : ∀ cs : List Nat, ((cs.map fun c => (⟨#[c]⟩ : Str)).map fun x => x.length).sum = cs.length := fun cs => by
    induction cs with
    | nil => rfl
    | cons c r ih => rw [List.map_cons, List.map_cons, List.sum_cons, ih, List.length_cons]; show 1 + _ = _; omega
  rw [this, e0]
  omega
section
variable {P : Program} {w : World} {K : PySem.W.Frag} {mg : Str → Option Value} {base : Heap} {CR CL CV CW aB aO aW LB LF GB GF PB PF VE : Addr}
def spLRul (CL : Addr) : Sp := fun vs H Q _ => ∃ (ru : V) (W : Wld), vs = [ru] ∧ LRl H ru W ∧ 1 ≤ W.cap ∧ W.cap ≤ 2 ∧ ∀ x H', Same H H' → RulesIs CL H' x W → Q (.ref x) H'
theorem ok_lrules {f : Addr} {fd : FuncData} (F : Fun K "_law_rules" "_law_rules" s__law_rules f fd) (m_Rules : MakG P w K mg base 4 "Rules" CL (spRInit K CL LB) []) : FnG P w K mg base (CXe P w) 6 f fd ["rules"] (spLRul CL) := by
  refine F.okG sc__law_rules (fun vs H Q E h => ?_) (fun cdv A outer s H vs Q E hgd hr h => ?_)
  · obtain ⟨ru, W, rfl, _⟩ := h; rfl
  · obtain ⟨ru, W, rfl, ⟨R, rfl, hR⟩, c1, c2, k⟩ := h
    refine ⟨_, (pss_one (ps_ret (pg_mk m_Rules hgd hr (by first | decide | omega) (pa_cons (pe_ix ix_tup (pv 0) pe_int (fun _ _ => rfl)) (pa_cons (pe_ix ix_tup (pv 0) pe_int (fun _ _ => rfl)) (pa_cons (pe_ix ix_tup (pv 0) pe_int (fun _ _ => rfl)) pa_nil)))))), ?_⟩
    refine ⟨_, rfl, R, _, 0, .int W.cap, rfl, rfl, SqT.of hR, rfl, ?_⟩
    refine ⟨_, rfl, R, _, 1, .bl W.strong, rfl, rfl, SqT.of hR, rfl, ?_⟩
    refine ⟨_, rfl, R, _, 2, .bl W.pull, rfl, rfl, SqT.of hR, rfl, ?_⟩
    refine fun r dr nr ndr ner => ?_
    have s1 : Same H (upd (upd H dr (.own r)) r (.ins CL dr [])) := (same_new ndr).trans (same_new ((upd_ne (Ne.symm ner)).trans nr))
    have hc : capOk (.int W.cap) = true := by simp [capOk, c1, c2]
    refine ⟨r, dr, .int W.cap, .bl W.strong, .bl W.pull, rfl, upd_same, knd_of (n := "int") rfl, knd_of (n := "bool") rfl, knd_of (n := "bool") rfl, fun z => (by rw [hc] at z; cases z), fun _ z => (by cases z), fun _ _ z => (by cases z), fun _ _ _ => ⟨rfl, ?_⟩⟩
    refine k r _ (fun b o e => ?_) ⟨dr, upd_same⟩
    rw [upd_ne (fun z => by rw [z, nr] at e; cases e)]
    exact s1 _ _ e
def spRD2 (K : PySem.W.Frag) : Sp := fun vs H Q _ => ∃ p, vs = [.ref p] ∧ PoolAt H p ∧ ∀ t c s pl H', (c = 1 ∨ c = 2) → H' t = some (.tup [.int c, .bl s, .bl pl]) → Off (fun b => b = p) H H' → PoolAt H' p → Q (.ref t) H'
theorem ok_rd2 {f : Addr} {fd : FuncData} (F : Fun K "_law_rules_drawn" "_law_rules_drawn" s__law_rules_drawn f fd) (T : Rb mg) (c__law_draw : CalG P w K mg base 1 "_law_draw" (spDraw K)) : FnG P w K mg base (CXe P w) 2 f fd ["pool"] (spRD2 K) := by
  refine F.okG sc__law_rules_drawn (fun vs H Q E h => ?_) (fun cdv A outer s H vs Q E hgd hr h => ?_)
  · obtain ⟨p, rfl, _⟩ := h; rfl
  · obtain ⟨p, rfl, hp, k⟩ := h
    refine ⟨_, (pss_cons (ps_set (i := 1) sc__law_rules_drawn.nd rfl (Or.inl rfl) (pe_op op_add pe_int (pe_callTy call_int1 (by rfl) T.n_int (by decide +kernel) (pa_cons (pe_cmpR op_eq (pg_c c__law_draw hgd hr (by first | decide | omega) (pa_cons (pv 0) (pa_cons pe_int pa_nil))) pe_int (nomark _)) pa_nil))))
      (pss_one (ps_ret (pe_tupA (pa_cons (pv 1) (pa_cons (pe_cmpR op_eq (pg_c c__law_draw hgd hr (by first | decide | omega) (pa_cons (pv 0) (pa_cons pe_int pa_nil))) pe_int (nomark _)) (pa_cons (pe_cmpR op_eq (pg_c c__law_draw hgd hr (by first | decide | omega) (pa_cons (pv 0) (pa_cons pe_int pa_nil))) pe_int (nomark _)) pa_nil))))))), ?_⟩
    walk_at "rd"
    refine ⟨p, 6, rfl, hp, by decide, by decide, fun r1 H1 a1 b1 o1 hp1 => ?_⟩
    walk_at "rd"
    refine .inr ⟨_, rfl, ?_⟩
    walk_at "rd"
    refine ⟨p, 2, rfl, hp1.1, by decide, by decide, fun r2 H2 a2 b2 o2 hp2 => ?_⟩
    walk_at "rd"
    refine ⟨p, 2, rfl, hp2.1, by decide, by decide, fun r3 H3 a3 b3 o3 hp3 => ?_⟩
    walk_at "rd"
    refine And.intro (Nat.le_of_ble_eq_true rfl) (fun t H4 n4 => ?_)
    refine k t _ _ _ H4 ?_ n4.at_ (((o1.trans o2).trans o3).trans n4.off) (hp3.1.same n4.same)
    by_cases z : r1 = 0 <;> simp [z]
def spBD2 (K : PySem.W.Frag) : Sp := fun vs H Q _ => ∃ (p R : Addr) (c : Int) (x y : V), vs = [.ref p, .ref R] ∧ PoolAt H p ∧ H R = some (.tup [.int c, x, y]) ∧ (c = 1 ∨ c = 2) ∧ ∀ t ba bb H', 0 ≤ ba → ba ≤ c → 0 ≤ bb → bb ≤ c → H' t = some (.tup [.int ba, .int bb]) → Off (fun b => b = p) H H' → PoolAt H' p → Q (.ref t) H'
theorem ok_bd2 {f : Addr} {fd : FuncData} (F : Fun K "_law_bag_drawn" "_law_bag_drawn" s__law_bag_drawn f fd) (c__law_draw : CalG P w K mg base 1 "_law_draw" (spDraw K)) : FnG P w K mg base (CXe P w) 2 f fd ["pool", "rules"] (spBD2 K) := by
  refine F.okG sc__law_bag_drawn (fun vs H Q E h => ?_) (fun cdv A outer s H vs Q E hgd hr h => ?_)
  · obtain ⟨p, R, c, x, y, rfl, _⟩ := h; rfl
  · obtain ⟨p, R, c, x, y, rfl, hp, hR, hc, k⟩ := h
    refine ⟨_, (pss_one (ps_ret (pe_tupA (pa_cons (pg_c c__law_draw hgd hr (by first | decide | omega) (pa_cons (pv 0) (pa_cons (pe_op op_add (pe_ix ix_tup (pv 1) pe_int (fun _ _ => rfl)) pe_int) pa_nil))) (pa_cons (pg_c c__law_draw hgd hr (by first | decide | omega) (pa_cons (pv 0) (pa_cons (pe_op op_add (pe_ix ix_tup (pv 1) pe_int (fun _ _ => rfl)) pe_int) pa_nil))) pa_nil))))), ?_⟩
    refine ⟨_, rfl, _, rfl, R, _, 0, .int c, rfl, rfl, SqT.of hR, rfl, ?_⟩
    walk_at "rd"
    refine ⟨p, c + 1, rfl, hp, by omega, by omega, fun r1 H1 a1 b1 o1 hp1 => ?_⟩
    have hR1 := o1 _ _ (hp.notTup hR) hR
    refine ⟨_, rfl, _, rfl, R, _, 0, .int c, rfl, rfl, SqT.of hR1, rfl, ?_⟩
    walk_at "rd"
    refine ⟨p, c + 1, rfl, hp1.1, by omega, by omega, fun r2 H2 a2 b2 o2 hp2 => ?_⟩
    refine And.intro (Nat.le_of_ble_eq_true rfl) (fun t H3 n3 => ?_)
    exact k t r1 r2 H3 a1 (by omega) a2 (by omega) n3.at_ ((o1.trans o2).trans n3.off) (hp2.1.same n3.same)
def spPlay (K : PySem.W.Frag) : Sp := fun vs H Q _ => ∃ (p bg : Addr) (lv ru : V) (rt : Tr) (b : Bk) (ba bb : Int) (n : Nat), vs = [.ref p, lv, ru, .ref bg, .int (n : Nat)] ∧ n ≤ 16 ∧ PoolAt H p ∧ LRight H lv ru bg rt b ba bb ∧ ∀ z H', z.length ≤ n → Off (fun b => b = p) H H' → PoolAt H' p → Q (.str z) H'
theorem ok_play {f : Addr} {fd : FuncData} (F : Fun K "_law_play" "_law_play" s__law_play f fd) (T : LawT mg) (c__law_draw : CalG P w K mg base 1 "_law_draw" (spDraw K)) (c__law_begin : CalG P w K mg base 1 "_law_begin" spLBeg) (c__law_outcome : CalG P w K mg base 1 "_law_outcome" spOutc) (c__law_move : CalG P w K mg base 6 "_law_move" spMove) :
    FnG P w K mg base (CXe P w) 7 f fd ["pool", "level", "rules", "bag", "many"] (spPlay K) := by
  refine F.okG sc__law_play (fun vs H Q E h => ?_) (fun cdv A outer s H vs Q E hgd hr h => ?_)
  · obtain ⟨p, bg, lv, ru, rt, b, ba, bb, n, rfl, _⟩ := h; rfl
  · obtain ⟨p, bg, lv, ru, rt, b, ba, bb, n, rfl, hn, hp, ⟨hlv, ht, hc, hb, hru, hbg, a0, a1, b0, b1⟩, k⟩ := h
    refine ⟨_, (pss_cons (ps_set (i := 5) sc__law_play.nd rfl (Or.inl rfl) pe_str)
      (pss_cons (ps_set (i := 6) sc__law_play.nd rfl (Or.inr rfl) (pe_tupA (pa_cons (pg_c c__law_begin hgd hr (by first | decide | omega) (pa_cons (pe_ix ix_tup (pv 1) pe_int (fun _ _ => rfl)) (pa_cons (pv 3) pa_nil))) pa_nil)))
      (pss_cons (ps_for (passes_of rfl) rfl (pi_range1 (by rfl) T.n_range (pa_cons (pv 4) pa_nil)) (pg_name (i := 7) sc__law_play.nd rfl (Or.inl rfl))
      (pss_cons (ps_set (i := 8) sc__law_play.nd rfl (Or.inl rfl) pe_str)
      (C8.pss_cut (ps_if (pt_cmpR op_isN (pg_c c__law_outcome hgd hr (by first | decide | omega) (pa_cons (pv 6) pa_nil)) pe_non (nomark _)) (pss_cons (ps_setLc (i := 10) (own := [("letter", 9)]) (g := gName 9) rfl sc__law_play.nd rfl rfl (sw_true rfl rfl rfl (by decide +kernel)) (pi_str (pv 8)) (blkOk_by (own := [("letter", 9)]) (N := ["pool", "level", "rules", "bag", "many", "play", "position", "k", "letters", "letter", "good", "after"]) (sc := defScope s__law_play) (by decide +kernel)) (fun _ _ _ _ _ => pg_name (i := 9) sc__law_play.nd rfl (Or.inl rfl)) (fun _ _ _ _ _ => pts_one (pt_cmpR op_notN (pg_c c__law_move hgd hr (by first | decide | omega) (pa_cons (pv 1) (pa_cons (pv 2) (pa_cons (pv 6) (pa_cons (pv 9) pa_nil))))) pe_non (nomark _))) (fun _ _ _ _ _ => (pv 9)))
      (pss_one (ps_if (PW.pt (pw_and (pt_cmpR (op_neD hr.units) (pv 10) (pe_lstA pa_nil) (nomark _)) (pw_and1 (pt_cmpR op_gt (pg_c c__law_draw hgd hr (by first | decide | omega) (pa_cons (pv 0) (pa_cons pe_int pa_nil))) pe_int (nomark _))))) (pss_cons (ps_set (i := 8) sc__law_play.nd rfl (Or.inl rfl) (pe_m1 PySem.F.slot_str_join PySem.F.type_str_join mt_join pe_str (pv 10)))
      (pss_one (ps_if (PW.pt (pw_and (pt_cmpR op_in_seq pe_str (pv 10) (by rfl)) (pw_and1 (pt_cmpR op_eq (pg_c c__law_draw hgd hr (by first | decide | omega) (pa_cons (pv 0) (pa_cons pe_int pa_nil))) pe_int (nomark _))))) (pss_one (ps_set (i := 8) sc__law_play.nd rfl (Or.inl rfl) pe_str)) (pss_one (ps_if (PW.pt (pw_and (pt_cmpR op_gt (pe_callB call_len_seq (by rfl) T.n_len (by decide +kernel) (pa_cons (pv 10) pa_nil)) pe_int (nomark _)) (pw_and (pt_cmpR op_eq (pe_ix ix_list (pv 10) (pe_un un_neg pe_int) (fun _ _ => rfl)) pe_str (nomark _)) (pw_and1 (pt_cmpR op_gt (pg_c c__law_draw hgd hr (by first | decide | omega) (pa_cons (pv 0) (pa_cons pe_int pa_nil))) pe_int (nomark _)))))) (pss_one (ps_set (i := 8) sc__law_play.nd rfl (Or.inl rfl) (pe_m1 PySem.F.slot_str_join PySem.F.type_str_join mt_join pe_str (pe_slice sl_list (pv 10) po_none (po_some (pe_un un_neg pe_int)))))) pss_nil))))) pss_nil))) pss_nil)
      (pss_cons (ps_set (i := 9) sc__law_play.nd rfl (Or.inl rfl) (pe_ix ix_str (pv 8) (pg_c c__law_draw hgd hr (by first | decide | omega) (pa_cons (pv 0) (pa_cons (pe_callB call_len_str (by rfl) T.n_len (by decide +kernel) (pa_cons (pv 8) pa_nil)) pa_nil))) (fun _ _ => rfl)))
      (C8.pss_cut (ps_if (pt_cmpR op_isN (pg_c c__law_outcome hgd hr (by first | decide | omega) (pa_cons (pv 6) pa_nil)) pe_non (nomark _)) (pss_cons (ps_set (i := 11) sc__law_play.nd rfl (Or.inl rfl) (pg_c c__law_move hgd hr (by first | decide | omega) (pa_cons (pv 1) (pa_cons (pv 2) (pa_cons (pv 6) (pa_cons (pv 9) pa_nil))))))
      (pss_one (ps_if (pt_cmpR op_notN (pv 11) pe_non (nomark _)) (pss_one (ps_set (i := 6) sc__law_play.nd rfl (Or.inr rfl) (pv 11))) pss_nil))) pss_nil)
      (pss_one (ps_if (PW.pt (pw_or (pt_cmpR op_isN (pg_c c__law_outcome hgd hr (by first | decide | omega) (pa_cons (pv 6) pa_nil)) pe_non (nomark _)) (pw_or (pt_cmpR op_eq (pg_c c__law_draw hgd hr (by first | decide | omega) (pa_cons (pv 0) (pa_cons pe_int pa_nil))) pe_int (nomark _)) (pw_or1 (pt_cmpR op_eq (pv 5) pe_str (nomark _)))))) (pss_one (ps_set (i := 5) sc__law_play.nd rfl (Or.inl rfl) (pe_op op_add_str (pv 5) (pv 9)))) pss_nil)))))))
      (pss_one (ps_ret (pv 5)))))), ?_⟩
    obtain ⟨la, lr, lc, lvs, rfl, t1, t2, t3, t4, t5⟩ := tree_parts hlv b
    have O := ht.wok hb
    have ecap := trW_cap b rt
    have hs0 : Ok (trW b rt) (begS (trW b rt) ba bb) := begS_ok O (by rw [trW_z]; exact ht.whole) a0 (by rw [ecap]; exact a1) b0 (by rw [ecap]; exact b1)
    refine ⟨_, rfl, la, _, 0, .ref lr, rfl, rfl, SqT.of t1, rfl, _, rfl, trW b rt, .ref lr, bg, ba, bb, rfl, O, ⟨lr, rfl, t2⟩, by rw [trW_z]; exact ht.whole, hbg, fun v0 H1 s1 hv0 => ?_⟩
    refine And.intro (Nat.le_of_ble_eq_true rfl) fun p1 H2 n2 => ?_
    have s02 := s1.trans n2.same
    refine ⟨_, rfl, _, rfl, by show -(2 ^ 62) ≤ ((n : Nat) : Int); omega, by show ((n : Nat) : Int) < 2 ^ 62; omega, ?_⟩
    rw [show ((n : Nat) : Int).toNat = n from Int.toNat_natCast _]
    refine for_it walk_range (fun i σ H' => ∃ (z : Str) (v : V) (o7 o8 o9 o10 o11 : Option V) (q : Ps), σ = [some (.ref p), some (.ref la), some ru, some (.ref bg), some (.int (n : Nat)), some (.str z), some v, o7, o8, o9, o10, o11] ∧ z.length ≤ i ∧ Off (fun b => b = p) H H' ∧ PoolAt H' p ∧ PsOk b rt q ∧ PsC q ∧ LPos H' v q)
      ⟨"", .ref p1, none, none, none, none, none, .at_ [] rt (begS (trW b rt) ba bb), rfl, Nat.zero_le _, Off.same s02, hp.same s02, ⟨.nil, fun f hf => (by cases hf), hs0⟩, ⟨begS_C (by rw [trW_z]; exact ht.whole) _ _, fun f hf => (by cases hf)⟩, ⟨p1, _, rfl, n2.at_, [], v0, rfl, rfl, fun i u f e1 e2 => (by cases e1), hv0.same n2.same⟩⟩ (fun _ _ _ _ _ => trivial) ?_ ?_
    · rintro i y σ H4 H3 hi ⟨z, v, o7, o8, o9, o10, o11, q, rfl, hzi, o3, hp3, hq, hqC, hv⟩ ⟨rfl, rfl⟩
      have ktup : ∀ (a : Addr) (xs : List V), H a = some (.tup xs) → H3 a = some (.tup xs) := fun a xs e => o3 a _ (hp.notTup e) e
      have hlv3 := hlv.keep ktup
      have hru3 := hru.keep ktup
      refine ⟨fun σ' H' => ∃ (L : Str) (o9 o10 o11 : Option V), σ' = [some (.ref p), some (.ref la), some ru, some (.ref bg), some (.int (n : Nat)), some (.str z), some v, some (.int (0 + (i : Int))), some (.str L), o9, o10, o11] ∧ LetOk L ∧ Off (fun b => b = p) H3 H' ∧ PoolAt H' p, ?_, ?_⟩
      · refine ⟨_, rfl, v, q, rfl, hv, fun ov H5 s5 h1 h2 => ?_⟩
        refine ⟨rfl, _, rfl, ?_⟩
        cases hqa : isAt q with
        | false =>
          have hn := h2 hqa
          refine iteF' (by simpa using hn) ?_
          exact ⟨"udlrUDLRio", _, _, _, rfl, let_all, Off.same s5, hp3.same s5⟩
        | true =>
          obtain rfl := h1 hqa
          refine iteT' (by simp) ?_
          obtain ⟨o, t, st, rfl⟩ : ∃ o t s, q = .at_ o t s := by
            cases q with
            | at_ o t s => exact ⟨o, t, s, rfl⟩
            | won => cases hqa
            | out x y => cases hqa
          have hlen10 : ("udlrUDLRio" : Str).cps.toList.length = 10 := by decide +kernel
          let Pg : Nat → Bool := fun c => (goM b o t st c).isSome
          refine ⟨_, rfl, "udlrUDLRio", rfl, fun D hD => lc_it walk_str (fun j H' => H' D = some (.lst ((((("udlrUDLRio" : Str).cps.toList.take j)).filter Pg).map V1)) ∧ Off (fun b => b = D) H5 H') ⟨upd_same, Off.new hD⟩ (fun _ _ _ _ => trivial) ?_ ?_⟩
          · rintro j y H7 H6 hj ⟨hacc, off⟩ ⟨rfl, c, hcj, rfl⟩
            refine And.intro rfl ?_
            have k6 : ∀ (a : Addr) (xs : List V), H3 a = some (.tup xs) → H6 a = some (.tup xs) := fun a xs e => off _ _ (ne_of_none (s5 _ _ e) hD) (s5 _ _ e)
            have hct : ("udlrUDLRio" : Str).cps.toList[j]? = some c := by rw [Array.getElem?_toList]; exact hcj
            have hcm : c ∈ ("udlrUDLRio" : Str).cps.toList := List.mem_of_getElem? hct
            have etk : ("udlrUDLRio" : Str).cps.toList.take (j + 1) = ("udlrUDLRio" : Str).cps.toList.take j ++ [c] := by rw [List.take_add_one, hct]; rfl
            refine ⟨_, rfl, _, rfl, _, rfl, _, rfl, .ref la, ru, v, b, rt, o, t, st, c, rfl, (letters_mem c).mp hcm, hb, hlv3.keep k6, ht, hc, hru3.keep k6, hv.keep k6, hq, hqC.1, fun hn H8 s8 => ?_, fun q' hq' v' H8 s8 hv' => ?_⟩
            · refine ⟨rfl, _, rfl, iteF' (by simp) ?_⟩
              have eP : Pg c = false := by show (goM b o t st c).isSome = false; rw [hn]; rfl
              rw [etk, List.filter_append, List.filter_cons, eP]
              refine ⟨?_, off.trans (Off.same s8)⟩
              rw [s8 _ _ hacc]; simp
            · have hne : v' ≠ .non := by
                cases q' with
                | at_ o t s => obtain ⟨x, vs, rfl, _⟩ := hv'; intro z; cases z
                | won => obtain ⟨x, rfl, _⟩ := hv'; intro z; cases z
                | out x y => obtain ⟨x, g, rfl, _⟩ := hv'; intro z; cases z
              refine ⟨rfl, _, rfl, iteT' (by simpa using hne) ?_⟩
              have eP : Pg c = true := by show (goM b o t st c).isSome = true; rw [hq']; rfl
              refine ⟨_, rfl, _, s8 _ _ hacc, sz ?_, ?_, (off.trans (Off.same s8)).trans (Off.mut rfl)⟩
              · rw [List.length_map]
                have h1 := List.length_filter_le Pg (("udlrUDLRio" : Str).cps.toList.take j)
                have h2 := List.length_take_le' j ("udlrUDLRio" : Str).cps.toList
                omega
              · rw [upd_same, etk, List.filter_append, List.filter_cons, eP]
                simp
          rintro H6 ⟨hacc, off⟩
          have s6 : Same H5 H6 := fun b o e => off b o (ne_of_none e hD) e
          have s36 := s5.trans s6
          have ef : (("udlrUDLRio" : Str).cps.toList.take ("udlrUDLRio" : Str).cps.size).filter Pg = ("udlrUDLRio" : Str).cps.toList.filter Pg := by
            rw [← Array.length_toList, List.take_length]
          rw [ef] at hacc
          have hgs : ∀ c ∈ ("udlrUDLRio" : Str).cps.toList.filter Pg, c ∈ ("udlrUDLRio" : Str).cps.toList := fun c h => (List.mem_filter.mp h).1
          have hgl : (("udlrUDLRio" : Str).cps.toList.filter Pg).length ≤ 10 := Nat.le_trans (List.length_filter_le _ _) (Nat.le_of_eq hlen10)
          generalize ("udlrUDLRio" : Str).cps.toList.filter Pg = gs at hacc hgs hgl
          refine ⟨_, rfl, And.intro (Nat.zero_le _) fun L7 H7 n7 => ?_⟩
          refine ⟨_, _, .lst (SqL.of (n7.same _ _ hacc)) (dp_ones gs), .lst (SqL.of n7.at_) .nil, shaped_ones hgs, shaped_ints [], _, rfl, ?_⟩
          rw [eqv_ones]
          have s37 := s36.trans n7.same
          by_cases hg0 : gs = []
          · refine iteF' (by simp [hg0]) (iteF' (by simp) ?_)
            exact ⟨"udlrUDLRio", _, _, _, rfl, let_all, Off.same s37, hp3.same s37⟩
          refine iteT' (by simp [hg0]) ?_
          refine ⟨_, rfl, p, 12, rfl, hp3.same s37, by decide, by decide, fun r8 H8 a8 b8 o8 hp8 => ?_⟩
          have o38 : Off (fun b => b = p) H3 H8 := (Off.same s37).trans o8
          have Dp_ : D ≠ p := (hp3.same s5).ne hD
          have hD8 : H8 D = some (.lst (gs.map V1)) := o8 _ _ Dp_ (n7.same _ _ hacc)
          refine ⟨_, _, rfl, rfl, _, rfl, ?_⟩
          by_cases hr8 : 0 < r8
          rotate_left
          · refine iteF' (by simpa using hr8) ?_
            exact ⟨"udlrUDLRio", _, _, _, rfl, let_all, o38, hp8.1⟩
          refine iteT' (decide_eq_true hr8) ?_
          have emap : (gs.map fun c => (⟨#[c]⟩ : Str)).map V.str = gs.map V1 := by rw [List.map_map]; rfl
          refine ⟨⟨_, rfl⟩, _, rfl, "", D, gs.map fun c => (⟨#[c]⟩ : Str), rfl, rfl, .inl (SqL.of (by rw [emap]; exact hD8)), join_ones_fit gs (by omega), ?_⟩
          have hj := let_join hg0 (by omega) hgs
          generalize Txt.join "" (gs.map fun c => (⟨#[c]⟩ : Str)) = JJ at hj ⊢
          refine ⟨_, rfl, D, _, rfl, .inl (SqL.of hD8), rfl, flat_ones _, _, rfl, ?_⟩
          apply fork1 (C := fun H9 => Off (fun b => b = p) H3 H9 ∧ PoolAt H9 p ∧ H9 D = some (.lst (gs.map V1)))
          rotate_left
          · intro rest
            by_cases hin : (if false = true then !inV (V.str "i") (gs.map V1) else inV (V.str "i") (gs.map V1)) = true
            · refine iteT' hin ?_
              refine ⟨_, rfl, p, 2, rfl, hp8.1, by decide, by decide, fun r9 H9 a9 b9 o9 hp9 => ?_⟩
              refine ⟨(rfl : scal _ _ = true), _, rfl, ?_⟩
              by_cases hr9 : r9 = 0
              · refine iteT' (by simp [hr9]) ?_
                exact ⟨"i", _, _, _, rfl, let_i, o38.trans o9, hp9.1⟩
              · refine iteF' (by simpa using hr9) ?_
                exact rest H9 ⟨o38.trans o9, hp9.1, o9 _ _ Dp_ hD8⟩
            · refine iteF' hin (iteF' (by simp) ?_)
              exact rest H8 ⟨o38, hp8.1, hD8⟩
          · rintro H9 ⟨o39, hp9, hD9⟩
            refine ⟨_, rfl, D, _, rfl, .inl (SqL.of hD9), _, _, rfl, rfl, _, rfl, ?_⟩
            obtain ⟨gs', g, rfl⟩ : ∃ x y, gs = x ++ [y] := by
              rcases List.eq_nil_or_concat gs with e | ⟨x, y, e⟩
              · exact absurd e hg0
              · exact ⟨x, y, by rw [e, List.concat_eq_append]⟩
            have em2 : (gs' ++ [g]).map V1 = gs'.map V1 ++ [V1 g] := by rw [List.map_append]; rfl
            rw [em2] at hD9
            have hl2 : ((gs' ++ [g]).map V1).length = gs'.length + 1 := by simp
            rw [hl2]
            by_cases hgt : 1 ≤ gs'.length
            rotate_left
            · refine iteF' (fun z => hgt (by have := of_decide_eq_true z; omega)) (iteF' (by simp) ?_)
              exact ⟨JJ, _, _, _, rfl, hj, o39, hp9⟩
            refine iteT' (decide_eq_true (by omega)) ?_
            refine ⟨_, rfl, _, rfl, D, _, -1, V1 g, rfl, rfl, SqL.of hD9, atI_last _ _, (rfl : scal _ _ = true), _, rfl, ?_⟩
            by_cases ho : V1 g = V.str "o"
            rotate_left
            · refine iteF' (fun z => ho (of_decide_eq_true z)) (iteF' (by simp) ?_)
              exact ⟨JJ, _, _, _, rfl, hj, o39, hp9⟩
            refine iteT' (decide_eq_true ho) ?_
            refine ⟨_, rfl, p, 4, rfl, hp9, by decide, by decide, fun r10 H10 a10 b10 o10' hp10 => ?_⟩
            refine ⟨_, _, rfl, rfl, _, rfl, ?_⟩
            by_cases hr10 : 0 < r10
            rotate_left
            · refine iteF' (by simpa using hr10) ?_
              exact ⟨JJ, _, _, _, rfl, hj, o39.trans o10', hp10.1⟩
            refine iteT' (decide_eq_true hr10) ?_
            refine ⟨⟨_, rfl⟩, _, rfl, nopart_of ⟨_, rfl, _, rfl, D, _, rfl, SqL.of (o10' _ _ Dp_ hD9), fun pp hpp => ?_⟩⟩
            rw [cut_last]
            have emap2 : (gs'.map fun c => (⟨#[c]⟩ : Str)).map V.str = gs'.map V1 := by rw [List.map_map]; rfl
            have hgl' : gs'.length + 1 ≤ 10 := by simpa using hgl
            refine ⟨"", pp, gs'.map fun c => (⟨#[c]⟩ : Str), rfl, rfl, .inl (SqL.of (by rw [emap2]; exact upd_same)), join_ones_fit gs' (by omega), ?_⟩
            have hj2 := let_join (cs := gs') (fun z => by rw [z] at hgt; simp at hgt) (by omega) (fun c hc => hgs c (List.mem_append_left _ hc))
            generalize Txt.join "" (gs'.map fun c => (⟨#[c]⟩ : Str)) = J2 at hj2 ⊢
            have spp : Same H10 (upd H10 pp (.lst (gs'.map V1))) := same_new hpp
            exact ⟨J2, _, _, _, rfl, hj2, (o39.trans o10').trans (Off.same spp), hp10.1.same spp⟩
      · rintro σ' H5 ⟨L, o9', o10', o11', rfl, hL, o5, hp5⟩
        have kL0 : (0 : Int) < (L.length : Nat) := by have := hL.1; omega
        have kL1 : ((L.length : Nat) : Int) < 1000000 := by have := hL.2.1; omega
        refine ⟨_, rfl, _, rfl, _, rfl, L, rfl, Nat.le_trans hL.2.1 (by decide), p, (L.length : Nat), rfl, hp5, kL0, kL1, fun r6 H6 a6 b6 o6 hp6 => ?_⟩
        obtain ⟨rn, rfl⟩ := Int.eq_ofNat_of_zero_le a6
        have hrn : rn < L.cps.size := by have : ((rn : Nat) : Int) < (L.length : Nat) := b6; have e : L.length = L.cps.size := rfl; omega
        have hLc : L.cps.toList[rn]? = some (L.cps[rn]'hrn) := by rw [Array.getElem?_toList]; simp [hrn]
        have hcm := hL.2.2 _ (List.mem_of_getElem? hLc)
        generalize L.cps[rn]'hrn = c at hLc hcm
        refine ⟨L, (rn : Nat), c, rfl, rfl, Nat.le_trans hL.2.1 (by decide), atI_nat hLc, ?_⟩
        have k56 : ∀ (a : Addr) (xs : List V), H3 a = some (.tup xs) → H6 a = some (.tup xs) := fun a xs e => o6 _ _ (hp5.notTup (o5 _ _ (hp3.notTup e) e)) (o5 _ _ (hp3.notTup e) e)
        refine ⟨fun σ' H' => ∃ (v' : V) (o11 : Option V) (q' : Ps), σ' = [some (.ref p), some (.ref la), some ru, some (.ref bg), some (.int (n : Nat)), some (.str z), some v', some (.int (0 + (i : Int))), some (.str L), some (.str ⟨#[c]⟩), o10', o11] ∧ Same H6 H' ∧ PsOk b rt q' ∧ PsC q' ∧ LPos H' v' q', ?_, ?_⟩
        · have hv6 := hv.keep k56
          refine ⟨_, rfl, v, q, rfl, hv6, fun ov H7 s7 h1 h2 => ?_⟩
          refine ⟨rfl, _, rfl, ?_⟩
          cases hqa : isAt q with
          | false =>
            have hn := h2 hqa
            refine iteF' (by simpa using hn) ?_
            exact ⟨v, _, q, rfl, s7, hq, hqC, hv6.keep fun _ _ e => s7 _ _ e⟩
          | true =>
            obtain rfl := h1 hqa
            refine iteT' (by simp) ?_
            obtain ⟨o, t, st, rfl⟩ : ∃ o t s, q = .at_ o t s := by
              cases q with
              | at_ o t s => exact ⟨o, t, s, rfl⟩
              | won => cases hqa
              | out x y => cases hqa
            have k7 : ∀ (a : Addr) (xs : List V), H3 a = some (.tup xs) → H7 a = some (.tup xs) := fun a xs e => s7 _ _ (k56 a xs e)
            refine ⟨_, rfl, _, rfl, _, rfl, _, rfl, .ref la, ru, v, b, rt, o, t, st, c, rfl, (letters_mem c).mp hcm, hb, hlv3.keep k7, ht, hc, hru3.keep k7, hv.keep k7, hq, hqC.1, fun hn H8 s8 => ?_, fun q' hq' v' H8 s8 hv' => ?_⟩
            · refine ⟨_, rfl, rfl, _, rfl, iteF' (by simp) ?_⟩
              exact ⟨v, _, _, rfl, s7.trans s8, hq, hqC, hv6.keep fun _ _ e => s8 _ _ (s7 _ _ e)⟩
            · have hne : v' ≠ .non := by
                cases q' with
                | at_ o t s => obtain ⟨x, vs, rfl, _⟩ := hv'; intro z; cases z
                | won => obtain ⟨x, rfl, _⟩ := hv'; intro z; cases z
                | out x y => obtain ⟨x, g, rfl, _⟩ := hv'; intro z; cases z
              refine ⟨_, rfl, rfl, _, rfl, iteT' (by simpa using hne) ?_⟩
              exact ⟨_, rfl, v', _, q', rfl, s7.trans s8, go_ok hb ht hq hq', go_C hb ht hq hqC hq', hv'⟩
        · rintro σ' H7 ⟨v', o11, q', rfl, s7, hq', hqC', hv'⟩
          have o37 : Off (fun b => b = p) H H7 := ((o3.trans o5).trans o6).trans (Off.same s7)
          have hp7 := hp6.1.same s7
          have hcat : z.length + (⟨#[c]⟩ : Str).length ≤ sizeLine := Nat.le_trans (show z.length + 1 ≤ 20 by omega) (by decide)
          have hlen : (z ++ (⟨#[c]⟩ : Str)).length ≤ i + 1 := by
            show (z.cps ++ #[c]).size ≤ i + 1
            rw [Array.size_append]
            have : z.cps.size = z.length := rfl
            show z.cps.size + 1 ≤ i + 1
            omega
          refine ⟨_, rfl, v', q', rfl, hv', fun ov H8 s8 h1 h2 => ?_⟩
          have hv8 := hv'.keep fun _ _ e => s8 _ _ e
          refine ⟨rfl, _, rfl, ?_⟩
          by_cases hov : ov = .non
          · refine iteT' (by simp [hov]) (iteT ?_)
            refine ⟨_, rfl, _, rfl, z, ⟨#[c]⟩, rfl, rfl, hcat, ?_⟩
            exact ⟨_, v', _, _, _, _, _, q', rfl, hlen, o37.trans (Off.same s8), hp7.same s8, hq', hqC', hv8⟩
          refine iteF' (by simpa using hov) ?_
          refine ⟨_, rfl, p, 2, rfl, hp7.same s8, by decide, by decide, fun r9 H9 a9 b9 o9 hp9 => ?_⟩
          have hv9 := hv8.keep fun a xs e => o9 _ _ ((hp7.same s8).notTup e) e
          refine ⟨(rfl : scal _ _ = true), _, rfl, ?_⟩
          by_cases hr9 : r9 = 0
          · refine iteT' (by simp [hr9]) (iteT ?_)
            refine ⟨_, rfl, _, rfl, z, ⟨#[c]⟩, rfl, rfl, hcat, ?_⟩
            exact ⟨_, v', _, _, _, _, _, q', rfl, hlen, (o37.trans (Off.same s8)).trans o9, hp9.1, hq', hqC', hv9⟩
          refine iteF' (by simpa using hr9) ?_
          refine ⟨_, rfl, (rfl : scal _ _ = true), _, rfl, ?_⟩
          by_cases hz0 : V.str z = V.str ""
          · refine iteT' (decide_eq_true hz0) ?_
            refine ⟨_, rfl, _, rfl, z, ⟨#[c]⟩, rfl, rfl, hcat, ?_⟩
            exact ⟨_, v', _, _, _, _, _, q', rfl, hlen, (o37.trans (Off.same s8)).trans o9, hp9.1, hq', hqC', hv9⟩
          · refine iteF' (fun y => hz0 (of_decide_eq_true y)) ?_
            exact ⟨z, v', _, _, _, _, _, q', rfl, by omega, (o37.trans (Off.same s8)).trans o9, hp9.1, hq', hqC', hv9⟩
    · rintro σ H3 ⟨z, v, o7, o8, o9, o10, o11, q, rfl, hzi, o3, hp3, hq, hqC, hv⟩
      exact ⟨_, rfl, k z H3 hzi o3 hp3⟩
end
section
variable {P : Program} {w : World} {K : PySem.W.Frag} {mg : Str → Option Value} {base : Heap} {CR CL CV CW aB aO aW LB LF GB GF PB PF VE CB fB fE CT fv : Addr} {fdv : FuncData}
theorem op_lv {X : Cx} {f : Addr} {fd : FuncData} {op : CmpOp} {n m : Nat} (ic : C8.InsC X.K CV) (hop : op = .Eq ∨ op = .NotEq) (T : EqC X.K CV f) (F : FnG X.prog X.w X.K X.mg X.base (CXe X.prog X.w) n f fd ["self", "other"] (spEqB (LvQ X.K CR CV m))) (hb : Binds X.K fd ["self", "other"] []) (hgd : X.A.guards = some []) (hr : Room (n + 1) X.A) : OpR X (compareOp op) (rOpB op (LvQ X.K CR CV m)) := op_X hop (rcX_lv ic hop T F hb) hgd hr
theorem lvQ_same {m : Nat} {x y : V} {t : Tr} {H : Hp} (h : LevelAt K CR CV H x t) (h' : LevelAt K CR CV H y t) (hd : t.dep ≤ m) : LvQ K CR CV m x y H true := ⟨t, h, hd, .inl ⟨t, h', by simp⟩⟩
theorem TreeAt.tok {H : Hp} {v : V} {t : Tr} (h : TreeAt H v t) : TOk t := by
  induction h with
  | @mk a r c rows wd vs ch h1 h2 h3 h4 h5 ih =>
    refine .mk h2.2.1 h2.2.2.1 h2.2.2.2.1 h2.2.2.2.2 fun u hu => ?_
    obtain ⟨i, hi, e⟩ := List.mem_iff_getElem.mp hu
    exact ih i (vs[i]'(by rw [h4]; exact hi)) u (by simp) (by rw [← e]; simp [hi])
/-- what the law holds while it tries plays -/
structure Sc (K : PySem.W.Frag) (CR CL CV : Addr) (H : Hp) (p : Addr) (y lv ru : V) (r bk : Addr) (t : Tr) (b : Bk) (ba bb : Int) : Prop where
  pool : PoolAt H p
  R : Right K CR CL CV H y r bk t b ba bb
  L : LRight H lv ru bk t b ba bb
theorem Sc.off {K : PySem.W.Frag} {CR CL CV : Addr} {H H' : Hp} {p : Addr} {y lv ru : V} {r bk : Addr} {t : Tr} {b : Bk} {ba bb : Int} (h : Sc K CR CL CV H p y lv ru r bk t b ba bb) (o : Off (fun b => b = p) H H') (hp : PoolAt H' p) : Sc K CR CL CV H' p y lv ru r bk t b ba bb := by
  have kl : ∀ (b : Addr) (q : HO), H b = some q → (∀ xs, q ≠ HO.lst xs) → H' b = some q := fun b q e nq => o b q (fun z => by
    obtain ⟨xs, e2⟩ := h.pool.isL
    rw [z, e2] at e
    exact nq xs (Option.some.inj e).symm) e
  have kt : ∀ (a : Addr) (xs : List V), H a = some (.tup xs) → H' a = some (.tup xs) := fun a xs e => kl _ _ e (fun _ z => by cases z)
  obtain ⟨h1, h2, h3, ⟨dx, h4⟩, h5, h6⟩ := h.R
  obtain ⟨g1, g2, g3, g4, g5, g6, g7⟩ := h.L
  exact ⟨hp, ⟨h1.keepL kl, h2, h3, ⟨dx, kl _ _ h4 (fun _ z => by cases z)⟩, kt _ _ h5, h6⟩, ⟨g1.keep kt, g2, g3, g4, g5.keep kt, kt _ _ g6, g7⟩⟩
theorem Sc.same {K : PySem.W.Frag} {CR CL CV : Addr} {H H' : Hp} {p : Addr} {y lv ru : V} {r bk : Addr} {t : Tr} {b : Bk} {ba bb : Int} (h : Sc K CR CL CV H p y lv ru r bk t b ba bb) (s : Same H H') : Sc K CR CL CV H' p y lv ru r bk t b ba bb := h.off (Off.same s) (h.pool.same s)
def spLaw (K : PySem.W.Frag) : Sp := fun vs H Q _ => ∃ (a : Addr) (ns : List Int), vs = [.ref a] ∧ SqL K H a (ns.map V.int) ∧ ns.length ≤ 63 ∧ ∀ H', Q (.bl true) H'
theorem ok_law {f : Addr} {fd : FuncData} (F : Fun K "law" "law" s_law f fd) (T : LawT mg) (TV : LevT P w K mg CR CV CB fB VE fE CT) (qV : FnG P w K mg base (CXe P w) 182 fv fdv ["self", "other"] (spEqB (LvQ K CR CV 60))) (eV : EqC K CV fv) (bV : Binds K fdv ["self", "other"] [])
    (c__law_pool : CalG P w K mg base 1 "_law_pool" (spPool K)) (c__law_draw : CalG P w K mg base 1 "_law_draw" (spDraw K)) (c__law_level_drawn : CalG P w K mg base 13 "_law_level_drawn" (spLD K 6)) (c__law_rules_drawn : CalG P w K mg base 2 "_law_rules_drawn" (spRD2 K)) (c__law_bag_drawn : CalG P w K mg base 2 "_law_bag_drawn" (spBD2 K)) (c__law_level : CalG P w K mg base 12 "_law_level" (atMost 6 (spLL K CR CV))) (c__law_rules : CalG P w K mg base 6 "_law_rules" (spLRul CL)) (c__law_play : CalG P w K mg base 7 "_law_play" (spPlay K)) (c__law_right : CalG P w K mg base 10 "_law_right" (spRgt K CR CL CV)) :
    FnG P w K mg base (CXe P w) 190 f fd ["script"] (spLaw K) := by
  refine F.okG sc_law (fun vs H Q E h => ?_) (fun cdv A outer s H vs Q E hgd hr h => ?_)
  · obtain ⟨a, ns, rfl, _⟩ := h; rfl
  · obtain ⟨a, ns, rfl, hs, hl, k⟩ := h
    refine ⟨_, (pss_cons (ps_set (i := 1) sc_law.nd rfl (Or.inl rfl) (pg_c c__law_pool hgd hr (by first | decide | omega) (pa_cons (pv 0) pa_nil)))
      (pss_cons (ps_set (i := 2) sc_law.nd rfl (Or.inl rfl) (pg_c c__law_level_drawn hgd hr (by first | decide | omega) (pa_cons (pv 1) (pa_cons (pe_op op_add pe_int (pg_c c__law_draw hgd hr (by first | decide | omega) (pa_cons (pv 1) (pa_cons pe_int pa_nil)))) pa_nil))))
      (pss_cons (ps_set (i := 3) sc_law.nd rfl (Or.inl rfl) (pg_c c__law_rules_drawn hgd hr (by first | decide | omega) (pa_cons (pv 1) pa_nil)))
      (pss_cons (ps_set (i := 4) sc_law.nd rfl (Or.inl rfl) (pg_c c__law_bag_drawn hgd hr (by first | decide | omega) (pa_cons (pv 1) (pa_cons (pv 3) pa_nil))))
      (pss_cons (ps_set (i := 5) sc_law.nd rfl (Or.inl rfl) (pg_c c__law_level hgd hr (by first | decide | omega) (pa_cons (pv 2) pa_nil)))
      (pss_cons (ps_set (i := 6) sc_law.nd rfl (Or.inl rfl) (pg_c c__law_rules hgd hr (by first | decide | omega) (pa_cons (pv 3) pa_nil)))
      (pss_cons (ps_for (passes_of rfl) rfl (pi_range1 (by rfl) T.n_range (pa_cons pe_int pa_nil)) (pg_name (i := 7) sc_law.nd rfl (Or.inl rfl))
      (pss_cons (ps_set (i := 8) sc_law.nd rfl (Or.inl rfl) (pg_c c__law_play hgd hr (by first | decide | omega) (pa_cons (pv 1) (pa_cons (pv 2) (pa_cons (pv 3) (pa_cons (pv 4) (pa_cons (pe_ix ix_list (pe_lstA (pa_cons pe_int (pa_cons pe_int (pa_cons pe_int pa_nil)))) (pv 7) (fun _ _ => rfl)) pa_nil)))))))
      (pss_cons (ps_for (passes_of rfl) rfl (pi_range2 (by rfl) T.n_range (pa_cons (pe_op op_sub (pe_callB call_len_str (by rfl) T.n_len (by decide +kernel) (pa_cons (pv 8) pa_nil)) (pe_ix ix_list (pe_lstA (pa_cons pe_int (pa_cons pe_int (pa_cons pe_int pa_nil)))) (pv 7) (fun _ _ => rfl))) (pa_cons (pe_op op_add (pe_callB call_len_str (by rfl) T.n_len (by decide +kernel) (pa_cons (pv 8) pa_nil)) pe_int) pa_nil))) (pg_name (i := 9) sc_law.nd rfl (Or.inl rfl))
      (pss_one (ps_if (pt_not (pt_val (pg_c c__law_right hgd hr (by first | decide | omega) (pa_cons (pv 5) (pa_cons (pv 6) (pa_cons (pv 2) (pa_cons (pv 3) (pa_cons (pv 4) (pa_cons (pe_slice sl_str (pv 8) po_none (po_some (pe_callB (call_max2 rfl) (by rfl) T.n_max (by decide +kernel) (pa_cons pe_int (pa_cons (pe_callTy call_int1 (by rfl) T.n_int (by decide +kernel) (pa_cons (pv 9) pa_nil)) pa_nil))))) pa_nil))))))))) (pss_one (ps_ret pe_bl)) pss_nil)))
      (pss_cons (ps_set (i := 10) sc_law.nd rfl (Or.inl rfl) (pg_c c__law_draw hgd hr (by first | decide | omega) (pa_cons (pv 1) (pa_cons (pe_op op_add (pe_callB call_len_str (by rfl) T.n_len (by decide +kernel) (pa_cons (pv 8) pa_nil)) pe_int) pa_nil))))
      (pss_cons (ps_set (i := 11) sc_law.nd rfl (Or.inl rfl) (pe_ix ix_list (pe_lstA (pa_cons pe_str (pa_cons pe_str (pa_cons pe_str (pa_cons pe_str (pa_cons pe_str (pa_cons pe_str (pa_cons pe_str (pa_cons pe_str (pa_cons pe_str pa_nil)))))))))) (pg_c c__law_draw hgd hr (by first | decide | omega) (pa_cons (pv 1) (pa_cons pe_int pa_nil))) (fun _ _ => rfl)))
      (pss_cons (ps_if (pt_not (pt_val (pg_c c__law_right hgd hr (by first | decide | omega) (pa_cons (pv 5) (pa_cons (pv 6) (pa_cons (pv 2) (pa_cons (pv 3) (pa_cons (pv 4) (pa_cons (pe_op op_add_str (pe_op op_add_str (pe_slice sl_str (pv 8) po_none (po_some (pv 10))) (pv 11)) (pe_slice sl_str (pv 8) (po_some (pv 10)) po_none)) pa_nil))))))))) (pss_one (ps_ret pe_bl)) pss_nil)
      (pss_one (ps_if (pt_not (pt_val (pg_c c__law_right hgd hr (by first | decide | omega) (pa_cons (pv 5) (pa_cons (pv 6) (pa_cons (pv 2) (pa_cons (pv 3) (pa_cons (pv 4) (pa_cons (pe_slice sl_str (pv 8) (po_some (pv 10)) po_none) pa_nil))))))))) (pss_one (ps_ret pe_bl)) pss_nil))))))))
      (pss_one (ps_ret (pe_and (pg_c c__law_right hgd hr (by first | decide | omega) (pa_cons (pv 5) (pa_cons (pv 6) (pa_cons (pv 2) (pa_cons (pv 3) (pa_cons (pv 4) (pa_cons pe_str pa_nil))))))) (pe_one (pe_cmpR (op_lv (op := .Eq) (n := 182) (m := 60) (by exact TV.icV) (.inl rfl) (by exact eV) (by exact qV) (by exact bV) hgd (hr.mono (by decide))) (pv 5) (pg_c c__law_level hgd hr (by first | decide | omega) (pa_cons (pv 2) pa_nil)) (nomark _))))))))))))), ?_⟩
    refine ⟨_, rfl, a, ns, rfl, hs, hl, fun p H1 np s1 hp1 => ?_⟩
    refine ⟨_, rfl, _, rfl, p, 4, rfl, hp1, by decide, by decide, fun r2 H2 ra rb o2 p2 => ?_⟩
    obtain ⟨n2, rfl⟩ := Int.eq_ofNat_of_zero_le ra
    refine ⟨_, _, rfl, rfl, p, n2, congrArg (fun z : Int => [V.ref p, V.int z]) (by omega), p2.1, by omega, by decide, fun lv lt H3 o3 p3 hT3 hc3 hlow => ?_⟩
    refine ⟨_, rfl, p, rfl, p3.1, fun tr cc ss pl H4 hcc htr o4 p4 => ?_⟩
    refine ⟨_, rfl, _, rfl, p, tr, cc, .bl ss, .bl pl, rfl, p4, htr, hcc, fun tb ba bb H5 x0 x1 y0 y1 htb o5 p5 => ?_⟩
    have hT5 : TreeAt H5 lv lt := (hT3.off p3.1 o4).off p4 o5
    have htr5 := o5 _ _ (p4.notTup htr) htr
    refine ⟨_, rfl, 3, by decide, lv, lt, rfl, hT5, by omega, by decide, fun y H6 s6 hLv => ?_⟩
    have ht := TreeAt.tok hT5
    have hb : BOk ⟨cc, ss, pl⟩ := ⟨by show (1 : Int) ≤ cc; omega, by show cc ≤ (2 : Int); omega⟩
    have hW : trW ⟨cc, ss, pl⟩ lt = ⟨(trW ⟨cc, ss, pl⟩ lt).rows, (trW ⟨cc, ss, pl⟩ lt).wd, cc, ss, pl⟩ := by cases lt; rfl
    have hru6 : LRl H6 (.ref tr) (trW ⟨cc, ss, pl⟩ lt) := ⟨tr, rfl, by rw [hW]; exact s6 _ _ htr5⟩
    have ecap := trW_cap ⟨cc, ss, pl⟩ lt
    refine ⟨_, rfl, .ref tr, trW ⟨cc, ss, pl⟩ lt, rfl, hru6, by rw [ecap]; exact hb.c0, by rw [ecap]; exact hb.c1, fun x H7 s7 hbk => ?_⟩
    have s57 := s6.trans s7
    have S7 : Sc K CR CL CV H7 p y lv (.ref tr) x tb lt ⟨cc, ss, pl⟩ ba bb := ⟨p5.same s57, ⟨hLv.same s7, by omega, hb, hbk, s57 _ _ htb, x0, x1, y0, y1⟩, ⟨hT5.same s57, ht, by omega, hb, hru6.keep (fun _ _ e => s7 _ _ e), s57 _ _ htb, x0, x1, y0, y1⟩⟩
    refine ⟨_, rfl, by decide, by decide, ?_⟩
    refine for_it walk_range (fun i σ H' => ∃ (o7 o8 o9 o10 o11 : Option V), σ = [some (.ref a), some (.ref p), some lv, some (.ref tr), some (.ref tb), some y, some (.ref x), o7, o8, o9, o10, o11] ∧ Sc K CR CL CV H' p y lv (.ref tr) x tb lt ⟨cc, ss, pl⟩ ba bb) ⟨none, none, none, none, none, rfl, S7⟩ (fun _ _ _ _ _ => trivial) ?_ ?_
    · rintro i yy σ H9 H8 hi ⟨o7, o8, o9, o10, o11, rfl, S8⟩ ⟨rfl, rfl⟩
      have hi3 : i < 3 := hi
      have e0 : (0 : Int) + (i : Int) = (i : Int) := by omega
      obtain ⟨m1, hm1, em1⟩ : ∃ m : Nat, m ≤ 16 ∧ [V.int 2, V.int 5, V.int 16][i]? = some (V.int (m : Nat)) := by
        rcases (show i = 0 ∨ i = 1 ∨ i = 2 by omega) with rfl | rfl | rfl
        · exact ⟨2, by omega, rfl⟩
        · exact ⟨5, by omega, rfl⟩
        · exact ⟨16, by omega, rfl⟩
      obtain ⟨m2, hm2, em2⟩ : ∃ m : Nat, m ≤ 16 ∧ [V.int 2, V.int 5, V.int 2][i]? = some (V.int (m : Nat)) := by
        rcases (show i = 0 ∨ i = 1 ∨ i = 2 by omega) with rfl | rfl | rfl
        · exact ⟨2, by omega, rfl⟩
        · exact ⟨5, by omega, rfl⟩
        · exact ⟨2, by omega, rfl⟩
      refine ⟨_, rfl, _, rfl, _, rfl, _, rfl, ?_⟩
      refine And.intro (Nat.le_of_ble_eq_true rfl) fun L9 H9 n9 => ?_
      have S9 := S8.same n9.same
      refine ⟨_, rfl, L9, _, 0 + (i : Int), .int (m1 : Nat), rfl, rfl, SqL.of n9.at_, by rw [e0]; exact atI_nat em1, p, tb, lv, .ref tr, lt, ⟨cc, ss, pl⟩, ba, bb, m1, rfl, hm1, S9.pool, S9.L, fun z H10 hz o10' p10 => ?_⟩
      have S10 := S9.off o10' p10
      have hzl : z.length ≤ sizeLine := Nat.le_trans (show z.length ≤ 20 by omega) (by decide)
      refine ⟨_, rfl, z, rfl, hzl, ?_⟩
      refine And.intro (Nat.le_of_ble_eq_true rfl) fun L11 H11 n11 => ?_
      have S11 := S10.same n11.same
      refine ⟨_, rfl, L11, _, 0 + (i : Int), .int (m2 : Nat), rfl, rfl, SqL.of n11.at_, by rw [e0]; exact atI_nat em2, _, _, rfl, rfl, ?_⟩
      refine ⟨_, rfl, z, rfl, hzl, _, _, rfl, rfl, ?_⟩
      refine ⟨_, _, rfl, ⟨by show -(2 ^ 62) ≤ ((z.length : Nat) : Int) - ((m2 : Nat) : Int); omega, by show ((z.length : Nat) : Int) - ((m2 : Nat) : Int) < 2 ^ 62; omega, by show -(2 ^ 62) ≤ ((z.length : Nat) : Int) + 1; omega, by show ((z.length : Nat) : Int) + 1 < 2 ^ 62; omega⟩, ?_⟩
      refine for_it walk_range (fun j σ H' => ∃ (o9 : Option V), σ = [some (.ref a), some (.ref p), some lv, some (.ref tr), some (.ref tb), some y, some (.ref x), some (.int (0 + (i : Int))), some (.str z), o9, o10, o11] ∧ Sc K CR CL CV H' p y lv (.ref tr) x tb lt ⟨cc, ss, pl⟩ ba bb) ⟨o9, rfl, S11⟩ (fun _ _ _ _ _ => trivial) ?_ ?_
      · rintro j yy σ H13 H12 hj ⟨o9', rfl, S12⟩ ⟨rfl, rfl⟩
        refine ⟨_, rfl, _, rfl, _, rfl, _, rfl, _, rfl, _, rfl, nopart_of ?_⟩
        refine ⟨_, rfl, .inl ⟨_, rfl, _, _, rfl, _, rfl, z, rfl, hzl, ?_⟩⟩
        refine ⟨y, lv, .ref tr, x, tb, _, lt, ⟨cc, ss, pl⟩, ba, bb, rfl, Nat.le_trans (cutS_length _ _ _) (by omega), S12.R, S12.L, fun H14 s14 => ?_⟩
        exact ⟨_, rfl, iteF' (by simp) ⟨_, rfl, S12.same s14⟩⟩
      · rintro σ H12 ⟨o9', rfl, S12⟩
        refine ⟨_, rfl, _, rfl, z, rfl, hzl, _, _, rfl, rfl, p, ((z.length : Nat) : Int) + 1, rfl, S12.pool, by omega, by omega, fun r13 H13 a13 b13 o13 p13 => ?_⟩
        have S13 := S12.off o13 p13.1
        obtain ⟨r13n, rfl⟩ := Int.eq_ofNat_of_zero_le a13
        walk_at "rd"
        refine And.intro (Nat.le_of_ble_eq_true rfl) fun L14 H14 n14 => ?_
        have S14 := S13.same n14.same
        refine ⟨_, rfl, p, 9, rfl, S14.pool, by decide, by decide, fun r15 H15 a15 b15 o15 p15 => ?_⟩
        have S15 := S14.off o15 p15.1
        obtain ⟨r15n, rfl⟩ := Int.eq_ofNat_of_zero_le a15
        obtain ⟨sg, hsg, esg⟩ : ∃ sg : Str, sg.length ≤ 2 ∧ [V.str "x", V.str " ", V.str "I", V.str "O", V.str "uu", V.str "1", V.str "*", V.str "\n", V.str "ul"][r15n]? = some (V.str sg) := by
          have : r15n < 9 := by omega
          rcases (show r15n = 0 ∨ r15n = 1 ∨ r15n = 2 ∨ r15n = 3 ∨ r15n = 4 ∨ r15n = 5 ∨ r15n = 6 ∨ r15n = 7 ∨ r15n = 8 by omega) with rfl | rfl | rfl | rfl | rfl | rfl | rfl | rfl | rfl
          all_goals exact ⟨_, by decide +kernel, rfl⟩
        have hLp : L14 ≠ p := S13.pool.ne n14.free
        refine ⟨L14, _, ((r15n : Nat) : Int), .str sg, rfl, rfl, SqL.of (o15 _ _ hLp n14.at_), atI_nat esg, ?_⟩
        have lapp : ∀ u v : Str, (u ++ v).length = u.length + v.length := fun u v => by
          show (u.cps ++ v.cps).size = _
          rw [Array.size_append]; rfl
        have hc1 := cutS_length z none (some ((r13n : Nat) : Int))
        have hc2 := cutS_length z (some ((r13n : Nat) : Int)) none
        refine ⟨_, rfl, _, rfl, _, rfl, _, rfl, _, rfl, _, rfl, nopart_of ⟨_, rfl, _, rfl, z, rfl, hzl, ?_⟩⟩
        refine ⟨_, rfl, _, sg, rfl, rfl, Nat.le_trans (show _ ≤ 30 by omega) (by decide), ?_⟩
        refine ⟨_, rfl, _, rfl, _, rfl, nopart_of ⟨z, rfl, hzl, ?_⟩⟩
        refine ⟨_, _, rfl, rfl, by rw [lapp]; exact Nat.le_trans (show _ ≤ 60 by omega) (by decide), ?_⟩
        refine ⟨y, lv, .ref tr, x, tb, _, lt, ⟨cc, ss, pl⟩, ba, bb, rfl, by rw [lapp, lapp]; omega, S15.R, S15.L, fun H16 s16 => ?_⟩
        refine ⟨_, rfl, iteF' (by simp) ?_⟩
        have S16 := S15.same s16
        refine ⟨_, rfl, _, rfl, _, rfl, _, rfl, _, rfl, _, rfl, _, rfl, _, rfl, nopart_of ⟨z, rfl, hzl, ?_⟩⟩
        refine ⟨y, lv, .ref tr, x, tb, _, lt, ⟨cc, ss, pl⟩, ba, bb, rfl, by omega, S16.R, S16.L, fun H17 s17 => ?_⟩
        exact ⟨_, rfl, iteF' (by simp) ⟨_, _, _, _, _, rfl, S16.same s17⟩⟩
    · rintro σ H8 ⟨o7, o8, o9, o10, o11, rfl, S8⟩
      refine ⟨_, rfl, _, rfl, _, rfl, _, rfl, _, rfl, y, lv, .ref tr, x, tb, "", lt, ⟨cc, ss, pl⟩, ba, bb, rfl, by decide +kernel, S8.R, S8.L, fun H9 s9 => ?_⟩
      refine ⟨_, rfl, iteT' rfl ?_⟩
      have S9 := S8.same s9
      refine ⟨_, rfl, _, rfl, 3, by decide, lv, lt, rfl, S9.L.1, by omega, by decide, fun y2 H10 s10 hLv2 => ?_⟩
      have S10 := S9.same s10
      have hd : lt.dep ≤ 60 := by have := dep_le_cnt lt; omega
      exact ⟨true, lvQ_same S10.R.1 hLv2 hd, fun H11 e11 => k H11⟩
end
theorem fnd4 {K : PySem.W.Frag} {a : Addr} {es : Array DictEntry} {n : Nat} {h1 h2 h3 h4 : Int} {k1 k2 k3 k4 : Str} {t1 t2 t3 t4 : Tok} {v1 v2 v3 v4 : Value} (l : K.lookup a = some ⟨.type "dict", none, .dict es n, #[]⟩)
    (he : es.toList = [⟨h1, .str k1 t1, v1⟩, ⟨h2, .str k2 t2, v2⟩, ⟨h3, .str k3 t3, v3⟩, ⟨h4, .str k4 t4, v4⟩]) (z : Str) :
    PySem.W.nsIn K a z = some (if z = k1 then some v1 else if z = k2 then some v2 else if z = k3 then some v3 else if z = k4 then some v4 else none) := by
  unfold PySem.W.nsIn
  rw [l]
  dsimp only
  rw [he]
  have e : ∀ (a : Str) (t : Tok), (Value.str a t).isStr z = decide (z = a) := fun a t => by
    show (a == z) = _
    by_cases q : z = a
    · simp [q]
    · have : ¬ a = z := fun h => q h.symm
      simp [q, this]
  by_cases q1 : z = k1
  · subst q1
    simp [List.find?, e, DictEntry.refKey]
  by_cases q2 : z = k2
  · simp [List.find?, e, q1, q2, DictEntry.refKey]
    try simp_all
  by_cases q3 : z = k3
  · simp [List.find?, e, q1, q2, q3, DictEntry.refKey]
    try simp_all
  by_cases q4 : z = k4
  · simp [List.find?, e, q1, q2, q3, q4, DictEntry.refKey]
    try simp_all
  simp [List.find?, e, q1, q2, q3, q4, DictEntry.refKey]
theorem bk_mk {w : World} {K : PySem.W.Frag} {a : Addr} {es : Array DictEntry} {n : Nat} {h1 h2 h3 h4 : Int} {t1 t2 t3 t4 u1 u2 u3 u4 : Tok} (l : K.lookup a = some ⟨.type "dict", none, .dict es n, #[]⟩) (lit : PySem.W.KeysLit w.params es.toList) (low : (a == sysModules) = false)
    (he : es.toList = [⟨h1, .str "u" t1, .str "d" u1⟩, ⟨h2, .str "d" t2, .str "u" u2⟩, ⟨h3, .str "l" t3, .str "r" u3⟩, ⟨h4, .str "r" t4, .str "l" u4⟩]) : ∀ v : Way, ∃ u, KD K w a v.sign (some u) ∧ RelV (.str v.back.sign) u := by
  have f := fnd4 l he
  intro v
  cases v with
  | u => exact ⟨_, ⟨_, _, l, lit, low, (f "u").trans (by rw [if_pos rfl]; rfl)⟩, u1, rfl⟩
  | d => exact ⟨_, ⟨_, _, l, lit, low, (f "d").trans (by rw [if_neg (by decide +kernel), if_pos rfl]; rfl)⟩, u2, rfl⟩
  | l => exact ⟨_, ⟨_, _, l, lit, low, (f "l").trans (by rw [if_neg (by decide +kernel), if_neg (by decide +kernel), if_pos rfl]; rfl)⟩, u3, rfl⟩
  | r => exact ⟨_, ⟨_, _, l, lit, low, (f "r").trans (by rw [if_neg (by decide +kernel), if_neg (by decide +kernel), if_neg (by decide +kernel), if_pos rfl]; rfl)⟩, u4, rfl⟩
theorem ow_mk {w : World} {K : PySem.W.Frag} {a : Addr} {es : Array DictEntry} {n : Nat} {h1 h2 h3 h4 : Int} {t1 t2 t3 t4 u1 u2 u3 u4 : Tok} (l : K.lookup a = some ⟨.type "dict", none, .dict es n, #[]⟩) (lit : PySem.W.KeysLit w.params es.toList) (low : (a == sysModules) = false)
    (he : es.toList = [⟨h1, .str "^" t1, .str "u" u1⟩, ⟨h2, .str "v" t2, .str "d" u2⟩, ⟨h3, .str "<" t3, .str "l" u3⟩, ⟨h4, .str ">" t4, .str "r" u4⟩]) :
    ∀ m : Nat, ∃ r, KD K w a ⟨#[m]⟩ r ∧ (oneWay m = none → r = none) ∧ ∀ v, oneWay m = some v → ∃ u, r = some u ∧ RelV (.str v.sign) u := by
  have f := fnd4 l he
  intro m
  refine ⟨_, ⟨_, _, l, lit, low, f ⟨#[m]⟩⟩, ?_⟩
  have q : ∀ (z : Str) (c : Nat), z = ⟨#[c]⟩ → (((⟨#[m]⟩ : Str) = z) ↔ m = c) := fun z c hz => by rw [hz]; simp
  have q1 := q "^" 94 (by decide +kernel)
  have q2 := q "v" 118 (by decide +kernel)
  have q3 := q "<" 60 (by decide +kernel)
  have q4 := q ">" 62 (by decide +kernel)
  unfold oneWay
  by_cases e1 : m = 94
  · rw [if_pos (q1.mpr e1), if_pos e1]
    exact ⟨fun z => (by cases z), fun v z => (by cases z; exact ⟨_, rfl, u1, rfl⟩)⟩
  rw [if_neg (fun z => e1 (q1.mp z)), if_neg e1]
  by_cases e2 : m = 118
  · rw [if_pos (q2.mpr e2), if_pos e2]
    exact ⟨fun z => (by cases z), fun v z => (by cases z; exact ⟨_, rfl, u2, rfl⟩)⟩
  rw [if_neg (fun z => e2 (q2.mp z)), if_neg e2]
  by_cases e3 : m = 60
  · rw [if_pos (q3.mpr e3), if_pos e3]
    exact ⟨fun z => (by cases z), fun v z => (by cases z; exact ⟨_, rfl, u3, rfl⟩)⟩
  rw [if_neg (fun z => e3 (q3.mp z)), if_neg e3]
  by_cases e4 : m = 62
  · rw [if_pos (q4.mpr e4), if_pos e4]
    exact ⟨fun z => (by cases z), fun v z => (by cases z; exact ⟨_, rfl, u4, rfl⟩)⟩
  rw [if_neg (fun z => e4 (q4.mp z)), if_neg e4]
  exact ⟨fun _ => rfl, fun v z => (by cases z)⟩
end K16M
end
section
set_option Elab.async false
set_option linter.all false
set_option maxRecDepth 100000
set_option maxHeartbeats 2000000
namespace K16M
open PySem L2 PyProof.Rows K16
/-- what the top has left, and the law's promise over it -/
theorem all_mk {P : Program} {w : World} {K : PySem.W.Frag} {h : Heap} {mg : Str → Option Value} {fa CR CV CL CW f_is_whole f_is_row f__is_line f__need_lines f__many f__is_whole_room f__places f__neighbours f_Room_init f_need_room f_Level_init f_need_level f_Room_eq f_Level_eq f__law_pool f__law_draw f__law_pick f__law_mark f__law_room_of f__law_room_drawn f__law_small f__law_tree f__law_level_drawn f__law_level f__with_one f_can_lie f__is_gate_open f__changed_bag f__entered f__pushed f__pulled f_moved f_Rules_init f_first_state f_mouth_here f_come_back f_Walker_init f_Walkerstep f_Walkergo_in f_Walkergo_out f_Walkerdo f_Walker_walk_on f_Walker_place f_need_rules f_is_bag f_need_bag f__need_start f_walked f_walk f_is_play f__law_next f__law_sign f__law_lies f__law_pushed f__law_is_shut f__law_step f__law_begin f__law_inside f__law_move f__law_outcome f__law_walked f__law_told f__law_right f__law_rules f__law_rules_drawn f__law_bag_drawn f__law_play f_law CB fB CE fE EL FL GB GF PB PF CT aD aB aO aW : Addr} {d_is_whole d_is_row d__is_line d__need_lines d__many d__is_whole_room d__places d__neighbours d_Room_init d_need_room d_Level_init d_need_level d_Room_eq d_Level_eq d__law_pool d__law_draw d__law_pick d__law_mark d__law_room_of d__law_room_drawn d__law_small d__law_tree d__law_level_drawn d__law_level d__with_one d_can_lie d__is_gate_open d__changed_bag d__entered d__pushed d__pulled d_moved d_Rules_init d_first_state d_mouth_here d_come_back d_Walker_init d_Walkerstep d_Walkergo_in d_Walkergo_out d_Walkerdo d_Walker_walk_on d_Walker_place d_need_rules d_is_bag d_need_bag d__need_start d_walked d_walk d_is_play d__law_next d__law_sign d__law_lies d__law_pushed d__law_is_shut d__law_step d__law_begin d__law_inside d__law_move d__law_outcome d__law_walked d__law_told d__law_right d__law_rules d__law_rules_drawn d__law_bag_drawn d__law_play d_law : FuncData} {t_MARKS t_MOST_LINES t_MOST_ACROSS t_MOST_CELLS t_MOST_CRATES t_MOST_KEYS_AND_DOORS t_MOST_ROOMS t_STEPS_WITH_PULLING tb1 tb2 tb3 tb4 ub1 ub2 ub3 ub4 to1 to2 to3 to4 uo1 uo2 uo3 uo4 tw : Tok} {esB esO : Array DictEntry} {nB nO : Nat} {hb1 hb2 hb3 hb4 ho1 ho2 ho3 ho4 : Int} {oW : Option Addr} {usW : Array Value} {nW : Nat} {slW : Array (Option Value)}
    (X : K.In h) (G : h.Ns mainGlobals mg) (hfa : mg "law" = some (.ref fa))
    (aC_Room : PySem.W.nsIn K mainGlobals "Room" = some (some (.ref CR))) (cC_Room : Cls K CR)
    (n_Room_rows : NoAttr K CR "rows")
    (n_Room_cells : NoAttr K CR "cells")
    (n_Room_entry : NoAttr K CR "entry")
    (n_Room_mouths : NoAttr K CR "mouths")
    (n_Room_crates : NoAttr K CR "crates")
    (n_Room_plates : NoAttr K CR "plates")
    (n_Room_near : NoAttr K CR "near")
    (aC_Level : PySem.W.nsIn K mainGlobals "Level" = some (some (.ref CV))) (cC_Level : Cls K CV)
    (n_Level_room : NoAttr K CV "room")
    (n_Level_children : NoAttr K CV "children")
    (n_Level_rooms : NoAttr K CV "rooms")
    (n_Level_depth : NoAttr K CV "depth")
    (aC_Rules : PySem.W.nsIn K mainGlobals "Rules" = some (some (.ref CL))) (cC_Rules : Cls K CL)
    (n_Rules_cap : NoAttr K CL "cap")
    (n_Rules_strong : NoAttr K CL "strong")
    (n_Rules_pull : NoAttr K CL "pull")
    (aC_Walker : PySem.W.nsIn K mainGlobals "Walker" = some (some (.ref CW))) (cC_Walker : Cls K CW)
    (n_Walker_rules : NoAttr K CW "rules")
    (n_Walker_levels : NoAttr K CW "levels")
    (n_Walker_states : NoAttr K CW "states")
    (n_Walker_end : NoAttr K CW "end")
    (a_is_whole : PySem.W.nsIn K mainGlobals "is_whole" = some (some (.ref f_is_whole))) (F_is_whole : Fun K "is_whole" "is_whole" s_is_whole f_is_whole d_is_whole)
    (a_is_row : PySem.W.nsIn K mainGlobals "is_row" = some (some (.ref f_is_row))) (F_is_row : Fun K "is_row" "is_row" s_is_row f_is_row d_is_row)
    (a__is_line : PySem.W.nsIn K mainGlobals "_is_line" = some (some (.ref f__is_line))) (F__is_line : Fun K "_is_line" "_is_line" s__is_line f__is_line d__is_line)
    (a__need_lines : PySem.W.nsIn K mainGlobals "_need_lines" = some (some (.ref f__need_lines))) (F__need_lines : Fun K "_need_lines" "_need_lines" s__need_lines f__need_lines d__need_lines)
    (a__many : PySem.W.nsIn K mainGlobals "_many" = some (some (.ref f__many))) (F__many : Fun K "_many" "_many" s__many f__many d__many)
    (a__is_whole_room : PySem.W.nsIn K mainGlobals "_is_whole_room" = some (some (.ref f__is_whole_room))) (F__is_whole_room : Fun K "_is_whole_room" "_is_whole_room" s__is_whole_room f__is_whole_room d__is_whole_room)
    (a__places : PySem.W.nsIn K mainGlobals "_places" = some (some (.ref f__places))) (F__places : Fun K "_places" "_places" s__places f__places d__places)
    (a__neighbours : PySem.W.nsIn K mainGlobals "_neighbours" = some (some (.ref f__neighbours))) (F__neighbours : Fun K "_neighbours" "_neighbours" s__neighbours f__neighbours d__neighbours)
    (mC_Room : L2.Mk K CR f_Room_init)
    (F_Room_init : Fun K "__init__" "Room.__init__" s_Room_init f_Room_init d_Room_init)
    (a_need_room : PySem.W.nsIn K mainGlobals "need_room" = some (some (.ref f_need_room))) (F_need_room : Fun K "need_room" "need_room" s_need_room f_need_room d_need_room)
    (mC_Level : L2.Mk K CV f_Level_init)
    (F_Level_init : FunD K "__init__" "Level.__init__" (defArgs s_Level_init) (defBody s_Level_init) (defScope s_Level_init) [.ref aD] [] f_Level_init d_Level_init)
    (a_need_level : PySem.W.nsIn K mainGlobals "need_level" = some (some (.ref f_need_level))) (F_need_level : Fun K "need_level" "need_level" s_need_level f_need_level d_need_level)
    (qC_Room : EqC K CR f_Room_eq)
    (F_Room_eq : Fun K "__eq__" "Room.__eq__" s_Room_eq f_Room_eq d_Room_eq)
    (qC_Level : EqC K CV f_Level_eq)
    (F_Level_eq : Fun K "__eq__" "Level.__eq__" s_Level_eq f_Level_eq d_Level_eq)
    (a__law_pool : PySem.W.nsIn K mainGlobals "_law_pool" = some (some (.ref f__law_pool))) (F__law_pool : Fun K "_law_pool" "_law_pool" s__law_pool f__law_pool d__law_pool)
    (a__law_draw : PySem.W.nsIn K mainGlobals "_law_draw" = some (some (.ref f__law_draw))) (F__law_draw : Fun K "_law_draw" "_law_draw" s__law_draw f__law_draw d__law_draw)
    (a__law_pick : PySem.W.nsIn K mainGlobals "_law_pick" = some (some (.ref f__law_pick))) (F__law_pick : Fun K "_law_pick" "_law_pick" s__law_pick f__law_pick d__law_pick)
    (a__law_mark : PySem.W.nsIn K mainGlobals "_law_mark" = some (some (.ref f__law_mark))) (F__law_mark : Fun K "_law_mark" "_law_mark" s__law_mark f__law_mark d__law_mark)
    (a__law_room_of : PySem.W.nsIn K mainGlobals "_law_room_of" = some (some (.ref f__law_room_of))) (F__law_room_of : Fun K "_law_room_of" "_law_room_of" s__law_room_of f__law_room_of d__law_room_of)
    (a__law_room_drawn : PySem.W.nsIn K mainGlobals "_law_room_drawn" = some (some (.ref f__law_room_drawn))) (F__law_room_drawn : Fun K "_law_room_drawn" "_law_room_drawn" s__law_room_drawn f__law_room_drawn d__law_room_drawn)
    (a__law_small : PySem.W.nsIn K mainGlobals "_law_small" = some (some (.ref f__law_small))) (F__law_small : Fun K "_law_small" "_law_small" s__law_small f__law_small d__law_small)
    (a__law_tree : PySem.W.nsIn K mainGlobals "_law_tree" = some (some (.ref f__law_tree))) (F__law_tree : Fun K "_law_tree" "_law_tree" s__law_tree f__law_tree d__law_tree)
    (a__law_level_drawn : PySem.W.nsIn K mainGlobals "_law_level_drawn" = some (some (.ref f__law_level_drawn))) (F__law_level_drawn : Fun K "_law_level_drawn" "_law_level_drawn" s__law_level_drawn f__law_level_drawn d__law_level_drawn)
    (a__law_level : PySem.W.nsIn K mainGlobals "_law_level" = some (some (.ref f__law_level))) (F__law_level : Fun K "_law_level" "_law_level" s__law_level f__law_level d__law_level)
    (a__with_one : PySem.W.nsIn K mainGlobals "_with_one" = some (some (.ref f__with_one))) (F__with_one : Fun K "_with_one" "_with_one" s__with_one f__with_one d__with_one)
    (a_can_lie : PySem.W.nsIn K mainGlobals "can_lie" = some (some (.ref f_can_lie))) (F_can_lie : Fun K "can_lie" "can_lie" s_can_lie f_can_lie d_can_lie)
    (a__is_gate_open : PySem.W.nsIn K mainGlobals "_is_gate_open" = some (some (.ref f__is_gate_open))) (F__is_gate_open : Fun K "_is_gate_open" "_is_gate_open" s__is_gate_open f__is_gate_open d__is_gate_open)
    (a__changed_bag : PySem.W.nsIn K mainGlobals "_changed_bag" = some (some (.ref f__changed_bag))) (F__changed_bag : Fun K "_changed_bag" "_changed_bag" s__changed_bag f__changed_bag d__changed_bag)
    (a__entered : PySem.W.nsIn K mainGlobals "_entered" = some (some (.ref f__entered))) (F__entered : Fun K "_entered" "_entered" s__entered f__entered d__entered)
    (a__pushed : PySem.W.nsIn K mainGlobals "_pushed" = some (some (.ref f__pushed))) (F__pushed : Fun K "_pushed" "_pushed" s__pushed f__pushed d__pushed)
    (a__pulled : PySem.W.nsIn K mainGlobals "_pulled" = some (some (.ref f__pulled))) (F__pulled : Fun K "_pulled" "_pulled" s__pulled f__pulled d__pulled)
    (a_moved : PySem.W.nsIn K mainGlobals "moved" = some (some (.ref f_moved))) (F_moved : Fun K "moved" "moved" s_moved f_moved d_moved)
    (mC_Rules : L2.Mk K CL f_Rules_init)
    (F_Rules_init : FunD K "__init__" "Rules.__init__" (defArgs s_Rules_init) (defBody s_Rules_init) (defScope s_Rules_init) [.int 1, .bl false, .bl false] [] f_Rules_init d_Rules_init)
    (a_first_state : PySem.W.nsIn K mainGlobals "first_state" = some (some (.ref f_first_state))) (F_first_state : Fun K "first_state" "first_state" s_first_state f_first_state d_first_state)
    (a_mouth_here : PySem.W.nsIn K mainGlobals "mouth_here" = some (some (.ref f_mouth_here))) (F_mouth_here : Fun K "mouth_here" "mouth_here" s_mouth_here f_mouth_here d_mouth_here)
    (a_come_back : PySem.W.nsIn K mainGlobals "come_back" = some (some (.ref f_come_back))) (F_come_back : Fun K "come_back" "come_back" s_come_back f_come_back d_come_back)
    (mC_Walker : L2.Mk K CW f_Walker_init)
    (F_Walker_init : Fun K "__init__" "Walker.__init__" s_Walker_init f_Walker_init d_Walker_init)
    (a_Walkerstep : PySem.W.findIn K (.ref CW) "_step" = some (some (.ref f_Walkerstep))) (i_Walkerstep : PySem.W.isFn K (.ref f_Walkerstep) = true)
    (F_Walkerstep : Fun K "_step" "Walker._step" s_Walkerstep f_Walkerstep d_Walkerstep)
    (a_Walkergo_in : PySem.W.findIn K (.ref CW) "_go_in" = some (some (.ref f_Walkergo_in))) (i_Walkergo_in : PySem.W.isFn K (.ref f_Walkergo_in) = true)
    (F_Walkergo_in : Fun K "_go_in" "Walker._go_in" s_Walkergo_in f_Walkergo_in d_Walkergo_in)
    (a_Walkergo_out : PySem.W.findIn K (.ref CW) "_go_out" = some (some (.ref f_Walkergo_out))) (i_Walkergo_out : PySem.W.isFn K (.ref f_Walkergo_out) = true)
    (F_Walkergo_out : Fun K "_go_out" "Walker._go_out" s_Walkergo_out f_Walkergo_out d_Walkergo_out)
    (a_Walkerdo : PySem.W.findIn K (.ref CW) "_do" = some (some (.ref f_Walkerdo))) (i_Walkerdo : PySem.W.isFn K (.ref f_Walkerdo) = true)
    (F_Walkerdo : Fun K "_do" "Walker._do" s_Walkerdo f_Walkerdo d_Walkerdo)
    (a_Walker_walk_on : PySem.W.findIn K (.ref CW) "walk_on" = some (some (.ref f_Walker_walk_on))) (i_Walker_walk_on : PySem.W.isFn K (.ref f_Walker_walk_on) = true)
    (F_Walker_walk_on : Fun K "walk_on" "Walker.walk_on" s_Walker_walk_on f_Walker_walk_on d_Walker_walk_on)
    (a_Walker_place : PySem.W.findIn K (.ref CW) "place" = some (some (.ref f_Walker_place))) (i_Walker_place : PySem.W.isFn K (.ref f_Walker_place) = true)
    (F_Walker_place : Fun K "place" "Walker.place" s_Walker_place f_Walker_place d_Walker_place)
    (a_need_rules : PySem.W.nsIn K mainGlobals "need_rules" = some (some (.ref f_need_rules))) (F_need_rules : Fun K "need_rules" "need_rules" s_need_rules f_need_rules d_need_rules)
    (a_is_bag : PySem.W.nsIn K mainGlobals "is_bag" = some (some (.ref f_is_bag))) (F_is_bag : Fun K "is_bag" "is_bag" s_is_bag f_is_bag d_is_bag)
    (a_need_bag : PySem.W.nsIn K mainGlobals "need_bag" = some (some (.ref f_need_bag))) (F_need_bag : Fun K "need_bag" "need_bag" s_need_bag f_need_bag d_need_bag)
    (a__need_start : PySem.W.nsIn K mainGlobals "_need_start" = some (some (.ref f__need_start))) (F__need_start : Fun K "_need_start" "_need_start" s__need_start f__need_start d__need_start)
    (a_walked : PySem.W.nsIn K mainGlobals "walked" = some (some (.ref f_walked))) (F_walked : Fun K "walked" "walked" s_walked f_walked d_walked)
    (a_walk : PySem.W.nsIn K mainGlobals "walk" = some (some (.ref f_walk))) (F_walk : Fun K "walk" "walk" s_walk f_walk d_walk)
    (a_is_play : PySem.W.nsIn K mainGlobals "is_play" = some (some (.ref f_is_play))) (F_is_play : Fun K "is_play" "is_play" s_is_play f_is_play d_is_play)
    (a__law_next : PySem.W.nsIn K mainGlobals "_law_next" = some (some (.ref f__law_next))) (F__law_next : Fun K "_law_next" "_law_next" s__law_next f__law_next d__law_next)
    (a__law_sign : PySem.W.nsIn K mainGlobals "_law_sign" = some (some (.ref f__law_sign))) (F__law_sign : Fun K "_law_sign" "_law_sign" s__law_sign f__law_sign d__law_sign)
    (a__law_lies : PySem.W.nsIn K mainGlobals "_law_lies" = some (some (.ref f__law_lies))) (F__law_lies : Fun K "_law_lies" "_law_lies" s__law_lies f__law_lies d__law_lies)
    (a__law_pushed : PySem.W.nsIn K mainGlobals "_law_pushed" = some (some (.ref f__law_pushed))) (F__law_pushed : Fun K "_law_pushed" "_law_pushed" s__law_pushed f__law_pushed d__law_pushed)
    (a__law_is_shut : PySem.W.nsIn K mainGlobals "_law_is_shut" = some (some (.ref f__law_is_shut))) (F__law_is_shut : Fun K "_law_is_shut" "_law_is_shut" s__law_is_shut f__law_is_shut d__law_is_shut)
    (a__law_step : PySem.W.nsIn K mainGlobals "_law_step" = some (some (.ref f__law_step))) (F__law_step : Fun K "_law_step" "_law_step" s__law_step f__law_step d__law_step)
    (a__law_begin : PySem.W.nsIn K mainGlobals "_law_begin" = some (some (.ref f__law_begin))) (F__law_begin : Fun K "_law_begin" "_law_begin" s__law_begin f__law_begin d__law_begin)
    (a__law_inside : PySem.W.nsIn K mainGlobals "_law_inside" = some (some (.ref f__law_inside))) (F__law_inside : Fun K "_law_inside" "_law_inside" s__law_inside f__law_inside d__law_inside)
    (a__law_move : PySem.W.nsIn K mainGlobals "_law_move" = some (some (.ref f__law_move))) (F__law_move : Fun K "_law_move" "_law_move" s__law_move f__law_move d__law_move)
    (a__law_outcome : PySem.W.nsIn K mainGlobals "_law_outcome" = some (some (.ref f__law_outcome))) (F__law_outcome : Fun K "_law_outcome" "_law_outcome" s__law_outcome f__law_outcome d__law_outcome)
    (a__law_walked : PySem.W.nsIn K mainGlobals "_law_walked" = some (some (.ref f__law_walked))) (F__law_walked : Fun K "_law_walked" "_law_walked" s__law_walked f__law_walked d__law_walked)
    (a__law_told : PySem.W.nsIn K mainGlobals "_law_told" = some (some (.ref f__law_told))) (F__law_told : Fun K "_law_told" "_law_told" s__law_told f__law_told d__law_told)
    (a__law_right : PySem.W.nsIn K mainGlobals "_law_right" = some (some (.ref f__law_right))) (F__law_right : Fun K "_law_right" "_law_right" s__law_right f__law_right d__law_right)
    (a__law_rules : PySem.W.nsIn K mainGlobals "_law_rules" = some (some (.ref f__law_rules))) (F__law_rules : Fun K "_law_rules" "_law_rules" s__law_rules f__law_rules d__law_rules)
    (a__law_rules_drawn : PySem.W.nsIn K mainGlobals "_law_rules_drawn" = some (some (.ref f__law_rules_drawn))) (F__law_rules_drawn : Fun K "_law_rules_drawn" "_law_rules_drawn" s__law_rules_drawn f__law_rules_drawn d__law_rules_drawn)
    (a__law_bag_drawn : PySem.W.nsIn K mainGlobals "_law_bag_drawn" = some (some (.ref f__law_bag_drawn))) (F__law_bag_drawn : Fun K "_law_bag_drawn" "_law_bag_drawn" s__law_bag_drawn f__law_bag_drawn d__law_bag_drawn)
    (a__law_play : PySem.W.nsIn K mainGlobals "_law_play" = some (some (.ref f__law_play))) (F__law_play : Fun K "_law_play" "_law_play" s__law_play f__law_play d__law_play)
    (a_law : PySem.W.nsIn K mainGlobals "law" = some (some (.ref f_law))) (F_law : Fun K "law" "law" s_law f_law d_law)
    (x_BadRoom : RX.ErrT P K mg "BadRoom" "value" CB fB)
    (x_BadLevel : RX.ErrT P K mg "BadLevel" "value" CE fE)
    (x_BadRules : RX.ErrT P K mg "BadRules" "value" EL FL)
    (x_BadBag : RX.ErrT P K mg "BadBag" "value" GB GF)
    (x_BadPlay : RX.ErrT P K mg "BadPlay" "at" PB PF)
    (z_isinstance : PySem.W.nsIn K mainGlobals "isinstance" = some none)
    (z_int : PySem.W.nsIn K mainGlobals "int" = some none)
    (z_bool : PySem.W.nsIn K mainGlobals "bool" = some none)
    (z_list : PySem.W.nsIn K mainGlobals "list" = some none)
    (z_len : PySem.W.nsIn K mainGlobals "len" = some none)
    (z_range : PySem.W.nsIn K mainGlobals "range" = some none)
    (z_abs : PySem.W.nsIn K mainGlobals "abs" = some none)
    (z_tuple : PySem.W.nsIn K mainGlobals "tuple" = some none)
    (z_str : PySem.W.nsIn K mainGlobals "str" = some none)
    (z_repr : PySem.W.nsIn K mainGlobals "repr" = some none)
    (z_max : PySem.W.nsIn K mainGlobals "max" = some none)
    (z_sum : PySem.W.nsIn K mainGlobals "sum" = some none)
    (z_enumerate : PySem.W.nsIn K mainGlobals "enumerate" = some none)
    (z_min : PySem.W.nsIn K mainGlobals "min" = some none)
    (z_sorted : PySem.W.nsIn K mainGlobals "sorted" = some none)
    (k_MARKS : PySem.W.nsIn K mainGlobals "MARKS" = some (some (.str "#.^v<>abABoxpg*@12" t_MARKS)))
    (k_MOST_LINES : PySem.W.nsIn K mainGlobals "MOST_LINES" = some (some (.int 5 t_MOST_LINES)))
    (k_MOST_ACROSS : PySem.W.nsIn K mainGlobals "MOST_ACROSS" = some (some (.int 6 t_MOST_ACROSS)))
    (k_MOST_CELLS : PySem.W.nsIn K mainGlobals "MOST_CELLS" = some (some (.int 24 t_MOST_CELLS)))
    (k_MOST_CRATES : PySem.W.nsIn K mainGlobals "MOST_CRATES" = some (some (.int 3 t_MOST_CRATES)))
    (k_MOST_KEYS_AND_DOORS : PySem.W.nsIn K mainGlobals "MOST_KEYS_AND_DOORS" = some (some (.int 4 t_MOST_KEYS_AND_DOORS)))
    (k_MOST_ROOMS : PySem.W.nsIn K mainGlobals "MOST_ROOMS" = some (some (.int 60 t_MOST_ROOMS)))
    (k_STEPS_WITH_PULLING : PySem.W.nsIn K mainGlobals "STEPS_WITH_PULLING" = some (some (.str "udlrUDLR" t_STEPS_WITH_PULLING)))
    (x_TooMany : L2.ErrN K mg "TooMany" CT)
    (ic_Room : C8.InsC K CR)
    (ic_Level : C8.InsC K CV)
    (kn_Room : L2.KitNo K CR)
    (kn_Level : L2.KitNo K CV)
    (ko_Level_Room : PySem.W.kitOne K (.ref CV) (.ref CR) = some false)
    (ks_Level_Room : PySem.W.subIn K (.ref CV) (.ref CR) = some false)
    (ko_Room_Level : PySem.W.kitOne K (.ref CR) (.ref CV) = some false)
    (ks_Room_Level : PySem.W.subIn K (.ref CR) (.ref CV) = some false)
    (g_BACK : PySem.W.nsIn K mainGlobals "BACK" = some (some (.ref aB)))
    (l_BACK : K.lookup aB = some ⟨.type "dict", none, .dict esB nB, #[]⟩)
    (lit_BACK : PySem.W.KeysLit w.params esB.toList)
    (low_BACK : (aB == sysModules) = false)
    (he_BACK : esB.toList = [⟨hb1, .str "u" tb1, .str "d" ub1⟩, ⟨hb2, .str "d" tb2, .str "u" ub2⟩, ⟨hb3, .str "l" tb3, .str "r" ub3⟩, ⟨hb4, .str "r" tb4, .str "l" ub4⟩])
    (g_ONE_WAY : PySem.W.nsIn K mainGlobals "ONE_WAY" = some (some (.ref aO)))
    (l_ONE_WAY : K.lookup aO = some ⟨.type "dict", none, .dict esO nO, #[]⟩)
    (lit_ONE_WAY : PySem.W.KeysLit w.params esO.toList)
    (low_ONE_WAY : (aO == sysModules) = false)
    (he_ONE_WAY : esO.toList = [⟨ho1, .str "^" to1, .str "u" uo1⟩, ⟨ho2, .str "v" to2, .str "d" uo2⟩, ⟨ho3, .str "<" to3, .str "l" uo3⟩, ⟨ho4, .str ">" to4, .str "r" uo4⟩])
    (ic_Rules : C8.InsC K CL)
    (g_WON : PySem.W.nsIn K mainGlobals "WON" = some (some (.ref aW)))
    (l_WON : K.lookup aW = some ⟨.type "tuple", oW, .seq usW nW, slW⟩)
    (he_WON : usW.toList = [.str "won" tw])
    (ne_r : CR ≠ CW)
    (ne_l : CL ≠ CW)
    (ne_v : CV ≠ CW) :
    ∃ fd : FuncData, (∀ (s : Shared) (u : Value), BindsTo s fd ⟨[u], []⟩ [("script", u)]) ∧ ∀ base : Heap, K.In base → base.Ns mainGlobals mg → FnG P w K mg base (CXe P w) 190 fa fd ["script"] (spLaw K) := by
  have e := hfa.symm.trans (PySem.W.mg_of X G a_law)
  cases e
  have B0 : Blt mg := ⟨PySem.W.mg_none_of X G z_isinstance, PySem.W.mg_none_of X G z_int, PySem.W.mg_none_of X G z_bool, PySem.W.mg_none_of X G z_list, PySem.W.mg_none_of X G z_len, PySem.W.mg_none_of X G z_range, PySem.W.mg_none_of X G z_abs, PySem.W.mg_none_of X G z_tuple, PySem.W.mg_none_of X G z_str, PySem.W.mg_none_of X G z_repr⟩
  have B : Rb mg := { toBlt := B0, n_max := PySem.W.mg_none_of X G z_max, n_sum := PySem.W.mg_none_of X G z_sum, n_enumerate := PySem.W.mg_none_of X G z_enumerate, k_MARKS := ⟨_, PySem.W.mg_of X G k_MARKS⟩, k_MOST_LINES := ⟨_, PySem.W.mg_of X G k_MOST_LINES⟩, k_MOST_ACROSS := ⟨_, PySem.W.mg_of X G k_MOST_ACROSS⟩, k_MOST_CELLS := ⟨_, PySem.W.mg_of X G k_MOST_CELLS⟩, k_MOST_CRATES := ⟨_, PySem.W.mg_of X G k_MOST_CRATES⟩, k_MOST_KEYS_AND_DOORS := ⟨_, PySem.W.mg_of X G k_MOST_KEYS_AND_DOORS⟩ }
  have LB : LvB mg := { n_len := PySem.W.mg_none_of X G z_len, n_range := PySem.W.mg_none_of X G z_range, n_tuple := PySem.W.mg_none_of X G z_tuple, n_list := PySem.W.mg_none_of X G z_list, n_min := PySem.W.mg_none_of X G z_min, n_sum := PySem.W.mg_none_of X G z_sum, n_max := PySem.W.mg_none_of X G z_max, n_isinstance := PySem.W.mg_none_of X G z_isinstance, n_enumerate := PySem.W.mg_none_of X G z_enumerate }
  have RT : RoomT P K mg CB fB := { toRb := B, x_BadRoom := x_BadRoom }
  have LT : LevT P w K mg CR CV CB fB CE fE CT := { toRoomT := RT, n_min := PySem.W.mg_none_of X G z_min, icR := ic_Room, icV := ic_Level, clR := cC_Room, clV := cC_Level, g_Room := PySem.W.mg_of X G aC_Room, g_Level := PySem.W.mg_of X G aC_Level, x_BadLevel := x_BadLevel, x_TooMany := x_TooMany, n_mouths := n_Room_mouths, n_room := n_Level_room, n_children := n_Level_children, n_rooms := n_Level_rooms, n_depth := n_Level_depth, k_MOST_ROOMS := ⟨_, PySem.W.mg_of X G k_MOST_ROOMS⟩ }
  have TR : RulT P K mg CL EL FL := { toBlt := B0, cl := cC_Rules, a_cap := n_Rules_cap, a_strong := n_Rules_strong, a_pull := n_Rules_pull, g_Rules := PySem.W.mg_of X G aC_Rules, x_BadRules := x_BadRules }
  have TM : MovT P w K mg CR CL aB aO := { toRb := B, clR := cC_Room, r_rows := n_Room_rows, r_cells := n_Room_cells, r_near := n_Room_near, r_plates := n_Room_plates, clL := cC_Rules, l_cap := n_Rules_cap, l_strong := n_Rules_strong, l_pull := n_Rules_pull, k_STEPS_WITH_PULLING := ⟨_, PySem.W.mg_of X G k_STEPS_WITH_PULLING⟩, g_BACK := PySem.W.mg_of X G g_BACK, g_ONE_WAY := PySem.W.mg_of X G g_ONE_WAY, bk := bk_mk l_BACK lit_BACK low_BACK he_BACK, ow := ow_mk l_ONE_WAY lit_ONE_WAY low_ONE_WAY he_ONE_WAY, n_sorted := PySem.W.mg_none_of X G z_sorted, n_min := PySem.W.mg_none_of X G z_min }
  have WO_ : WonK K aW := fun H => .inr ⟨_, usW, nW, l_WON, rfl, rfl, by have e : usW.size = 1 := (by rw [← Array.length_toList, he_WON]; rfl); rw [e]; decide, by rw [he_WON]; exact .cons ⟨_, rfl⟩ .nil⟩
  have WT : WkT P w K mg CR CL CV CW aB aO aW := { toMovT := TM, r_entry := n_Room_entry, r_crates := n_Room_crates, clV := cC_Level, v_room := n_Level_room, v_children := n_Level_children, clW := cC_Walker, w_rules := n_Walker_rules, w_levels := n_Walker_levels, w_states := n_Walker_states, w_end := n_Walker_end, g_WON := PySem.W.mg_of X G g_WON, won := WO_ }
  have NT : NeT CR CL CV CW := ⟨ne_r, ne_l, ne_v⟩
  have PT : PlT P w K mg CR CL CV CW aB aO aW EL FL GB GF PB PF CE := { toWkT := WT, g_Rules := PySem.W.mg_of X G aC_Rules, g_Walker := PySem.W.mg_of X G aC_Walker, x_BadRules := x_BadRules, x_BadBag := x_BadBag, x_BadPlay := x_BadPlay, icL := ic_Rules, icV := ic_Level, ne := NT }
  have LW : LawT mg := { toRb := B, n_sorted := PySem.W.mg_none_of X G z_sorted, n_min := PySem.W.mg_none_of X G z_min }
  refine ⟨d_law, ?_, fun base _ _ => ?_⟩
  · obtain ⟨oc, od, kV, doc, pm, an, cdv, ct, osl, rfl, lk, hcd⟩ := F_law.ex
    exact fun s v => .of_eq rfl
  have b_is_whole := F_is_whole.binds (ps := ["thing"]) fun _ _ _ _ _ _ us hl => match us, hl with | [_], _ => rfl
  have b_is_row := F_is_row.binds (ps := ["thing"]) fun _ _ _ _ _ _ us hl => match us, hl with | [_], _ => rfl
  have b__is_line := F__is_line.binds (ps := ["thing"]) fun _ _ _ _ _ _ us hl => match us, hl with | [_], _ => rfl
  have b__need_lines := F__need_lines.binds (ps := ["rows"]) fun _ _ _ _ _ _ us hl => match us, hl with | [_], _ => rfl
  have b__many := F__many.binds (ps := ["cells", "marks"]) fun _ _ _ _ _ _ us hl => match us, hl with | [_, _], _ => rfl
  have b__is_whole_room := F__is_whole_room.binds (ps := ["cells"]) fun _ _ _ _ _ _ us hl => match us, hl with | [_], _ => rfl
  have b__places := F__places.binds (ps := ["cells", "mark"]) fun _ _ _ _ _ _ us hl => match us, hl with | [_, _], _ => rfl
  have b__neighbours := F__neighbours.binds (ps := ["rows", "down", "across"]) fun _ _ _ _ _ _ us hl => match us, hl with | [_, _, _], _ => rfl
  have b_Room_init := F_Room_init.binds (ps := ["self", "rows"]) fun _ _ _ _ _ _ us hl => match us, hl with | [_, _], _ => rfl
  have b_need_room := F_need_room.binds (ps := ["room"]) fun _ _ _ _ _ _ us hl => match us, hl with | [_], _ => rfl
  obtain ⟨ds0_Level_init, v0_Level_init, b0_Level_init⟩ := F_Level_init.binds1 (ps := ["self", "room", "children"]) 3 1 (by simp) rfl fun T kV doc pm an cdv ct us its h1 h2 => match us, its, h1, h2 with | [_, _, _], [_], _, _ => ⟨_, rfl, rfl⟩
  have b_need_level := F_need_level.binds (ps := ["level"]) fun _ _ _ _ _ _ us hl => match us, hl with | [_], _ => rfl
  have b_Room_eq := F_Room_eq.binds (ps := ["self", "other"]) fun _ _ _ _ _ _ us hl => match us, hl with | [_, _], _ => rfl
  have b_Level_eq := F_Level_eq.binds (ps := ["self", "other"]) fun _ _ _ _ _ _ us hl => match us, hl with | [_, _], _ => rfl
  have b__law_pool := F__law_pool.binds (ps := ["script"]) fun _ _ _ _ _ _ us hl => match us, hl with | [_], _ => rfl
  have b__law_draw := F__law_draw.binds (ps := ["pool", "many"]) fun _ _ _ _ _ _ us hl => match us, hl with | [_, _], _ => rfl
  have b__law_pick := F__law_pick.binds (ps := ["pool", "items"]) fun _ _ _ _ _ _ us hl => match us, hl with | [_, _], _ => rfl
  have b__law_mark := F__law_mark.binds (ps := ["pool", "marks", "crates", "keys"]) fun _ _ _ _ _ _ us hl => match us, hl with | [_, _, _, _], _ => rfl
  have b__law_room_of := F__law_room_of.binds (ps := ["pool", "high", "wide", "mouths"]) fun _ _ _ _ _ _ us hl => match us, hl with | [_, _, _, _], _ => rfl
  have b__law_room_drawn := F__law_room_drawn.binds (ps := ["pool", "mouths"]) fun _ _ _ _ _ _ us hl => match us, hl with | [_, _], _ => rfl
  have b__law_small := F__law_small.binds (ps := ["pool", "mouths"]) fun _ _ _ _ _ _ us hl => match us, hl with | [_, _], _ => rfl
  have b__law_tree := F__law_tree.binds (ps := ["pool", "most", "is_small"]) fun _ _ _ _ _ _ us hl => match us, hl with | [_, _, _], _ => rfl
  have b__law_level_drawn := F__law_level_drawn.binds (ps := ["pool", "most"]) fun _ _ _ _ _ _ us hl => match us, hl with | [_, _], _ => rfl
  have b__law_level := F__law_level.binds (ps := ["level"]) fun _ _ _ _ _ _ us hl => match us, hl with | [_], _ => rfl
  have b__with_one := F__with_one.binds (ps := ["numbers", "number"]) fun _ _ _ _ _ _ us hl => match us, hl with | [_, _], _ => rfl
  have b_can_lie := F_can_lie.binds (ps := ["room", "gone", "cell"]) fun _ _ _ _ _ _ us hl => match us, hl with | [_, _, _], _ => rfl
  have b__is_gate_open := F__is_gate_open.binds (ps := ["room", "crates"]) fun _ _ _ _ _ _ us hl => match us, hl with | [_, _], _ => rfl
  have b__changed_bag := F__changed_bag.binds (ps := ["rules", "bag", "mark"]) fun _ _ _ _ _ _ us hl => match us, hl with | [_, _, _], _ => rfl
  have b__entered := F__entered.binds (ps := ["room", "rules", "state", "goal"]) fun _ _ _ _ _ _ us hl => match us, hl with | [_, _, _, _], _ => rfl
  have b__pushed := F__pushed.binds (ps := ["room", "rules", "state", "way"]) fun _ _ _ _ _ _ us hl => match us, hl with | [_, _, _, _], _ => rfl
  have b__pulled := F__pulled.binds (ps := ["room", "rules", "state", "way"]) fun _ _ _ _ _ _ us hl => match us, hl with | [_, _, _, _], _ => rfl
  have b_moved := F_moved.binds (ps := ["room", "rules", "state", "letter"]) fun _ _ _ _ _ _ us hl => match us, hl with | [_, _, _, _], _ => rfl
  obtain ⟨ds0_Rules_init, v0_Rules_init, b0_Rules_init⟩ := F_Rules_init.binds1 (ps := ["self", "cap", "strong", "pull"]) 4 3 (by simp) rfl fun T kV doc pm an cdv ct us its h1 h2 => match us, its, h1, h2 with | [_, _, _, _], [_, _, _], _, _ => ⟨_, rfl, rfl⟩
  have b_first_state := F_first_state.binds (ps := ["room", "bag"]) fun _ _ _ _ _ _ us hl => match us, hl with | [_, _], _ => rfl
  have b_mouth_here := F_mouth_here.binds (ps := ["room", "state"]) fun _ _ _ _ _ _ us hl => match us, hl with | [_, _], _ => rfl
  have b_come_back := F_come_back.binds (ps := ["state", "number", "bag"]) fun _ _ _ _ _ _ us hl => match us, hl with | [_, _, _], _ => rfl
  have b_Walker_init := F_Walker_init.binds (ps := ["self", "level", "rules", "bag"]) fun _ _ _ _ _ _ us hl => match us, hl with | [_, _, _, _], _ => rfl
  have b_Walkerstep := F_Walkerstep.binds (ps := ["self", "letter"]) fun _ _ _ _ _ _ us hl => match us, hl with | [_, _], _ => rfl
  have b_Walkergo_in := F_Walkergo_in.binds (ps := ["self"]) fun _ _ _ _ _ _ us hl => match us, hl with | [_], _ => rfl
  have b_Walkergo_out := F_Walkergo_out.binds (ps := ["self"]) fun _ _ _ _ _ _ us hl => match us, hl with | [_], _ => rfl
  have b_Walkerdo := F_Walkerdo.binds (ps := ["self", "letter"]) fun _ _ _ _ _ _ us hl => match us, hl with | [_, _], _ => rfl
  have b_Walker_walk_on := F_Walker_walk_on.binds (ps := ["self", "play"]) fun _ _ _ _ _ _ us hl => match us, hl with | [_, _], _ => rfl
  have b_Walker_place := F_Walker_place.binds (ps := ["self"]) fun _ _ _ _ _ _ us hl => match us, hl with | [_], _ => rfl
  have b_need_rules := F_need_rules.binds (ps := ["rules"]) fun _ _ _ _ _ _ us hl => match us, hl with | [_], _ => rfl
  have b_is_bag := F_is_bag.binds (ps := ["rules", "thing"]) fun _ _ _ _ _ _ us hl => match us, hl with | [_, _], _ => rfl
  have b_need_bag := F_need_bag.binds (ps := ["rules", "bag"]) fun _ _ _ _ _ _ us hl => match us, hl with | [_, _], _ => rfl
  have b__need_start := F__need_start.binds (ps := ["level", "rules", "bag"]) fun _ _ _ _ _ _ us hl => match us, hl with | [_, _, _], _ => rfl
  have b_walked := F_walked.binds (ps := ["level", "rules", "bag", "play"]) fun _ _ _ _ _ _ us hl => match us, hl with | [_, _, _, _], _ => rfl
  have b_walk := F_walk.binds (ps := ["level", "rules", "bag", "play"]) fun _ _ _ _ _ _ us hl => match us, hl with | [_, _, _, _], _ => rfl
  have b_is_play := F_is_play.binds (ps := ["level", "rules", "bag", "thing"]) fun _ _ _ _ _ _ us hl => match us, hl with | [_, _, _, _], _ => rfl
  have b__law_next := F__law_next.binds (ps := ["rows", "at", "letter"]) fun _ _ _ _ _ _ us hl => match us, hl with | [_, _, _], _ => rfl
  have b__law_sign := F__law_sign.binds (ps := ["rows", "gone", "at"]) fun _ _ _ _ _ _ us hl => match us, hl with | [_, _, _], _ => rfl
  have b__law_lies := F__law_lies.binds (ps := ["rows", "crates", "gone", "at"]) fun _ _ _ _ _ _ us hl => match us, hl with | [_, _, _, _], _ => rfl
  have b__law_pushed := F__law_pushed.binds (ps := ["rows", "crates", "gone", "at", "letter", "more"]) fun _ _ _ _ _ _ us hl => match us, hl with | [_, _, _, _, _, _], _ => rfl
  have b__law_is_shut := F__law_is_shut.binds (ps := ["rows", "state", "letter", "goal"]) fun _ _ _ _ _ _ us hl => match us, hl with | [_, _, _, _], _ => rfl
  have b__law_step := F__law_step.binds (ps := ["rows", "rules", "state", "letter"]) fun _ _ _ _ _ _ us hl => match us, hl with | [_, _, _, _], _ => rfl
  have b__law_begin := F__law_begin.binds (ps := ["rows", "bag"]) fun _ _ _ _ _ _ us hl => match us, hl with | [_, _], _ => rfl
  have b__law_inside := F__law_inside.binds (ps := ["level", "position"]) fun _ _ _ _ _ _ us hl => match us, hl with | [_, _], _ => rfl
  have b__law_move := F__law_move.binds (ps := ["level", "rules", "position", "letter"]) fun _ _ _ _ _ _ us hl => match us, hl with | [_, _, _, _], _ => rfl
  have b__law_outcome := F__law_outcome.binds (ps := ["ending"]) fun _ _ _ _ _ _ us hl => match us, hl with | [_], _ => rfl
  have b__law_walked := F__law_walked.binds (ps := ["level", "rules", "bag", "play"]) fun _ _ _ _ _ _ us hl => match us, hl with | [_, _, _, _], _ => rfl
  have b__law_told := F__law_told.binds (ps := ["made", "rules", "bag", "play"]) fun _ _ _ _ _ _ us hl => match us, hl with | [_, _, _, _], _ => rfl
  have b__law_right := F__law_right.binds (ps := ["made", "book", "level", "rules", "bag", "play"]) fun _ _ _ _ _ _ us hl => match us, hl with | [_, _, _, _, _, _], _ => rfl
  have b__law_rules := F__law_rules.binds (ps := ["rules"]) fun _ _ _ _ _ _ us hl => match us, hl with | [_], _ => rfl
  have b__law_rules_drawn := F__law_rules_drawn.binds (ps := ["pool"]) fun _ _ _ _ _ _ us hl => match us, hl with | [_], _ => rfl
  have b__law_bag_drawn := F__law_bag_drawn.binds (ps := ["pool", "rules"]) fun _ _ _ _ _ _ us hl => match us, hl with | [_, _], _ => rfl
  have b__law_play := F__law_play.binds (ps := ["pool", "level", "rules", "bag", "many"]) fun _ _ _ _ _ _ us hl => match us, hl with | [_, _, _, _, _], _ => rfl
  have c_is_whole : CalG P w K mg base 1 "is_whole" (spWhole K) := ⟨f_is_whole, d_is_whole, _, ok_whole F_is_whole B0, PySem.W.mg_of X G a_is_whole, F_is_whole.kp, b_is_whole⟩
  have c_is_row : CalG P w K mg base 1 "is_row" (spIsRow K) := ⟨f_is_row, d_is_row, _, ok_is_row F_is_row B, PySem.W.mg_of X G a_is_row, F_is_row.kp, b_is_row⟩
  have c__is_line : CalG P w K mg base 1 "_is_line" (spIsLine K) := ⟨f__is_line, d__is_line, _, ok_is_line F__is_line B, PySem.W.mg_of X G a__is_line, F__is_line.kp, b__is_line⟩
  have c__need_lines : CalG P w K mg base 3 "_need_lines" (spNeed K CB) := ⟨f__need_lines, d__need_lines, _, ok_need F__need_lines RT c_is_row c__is_line, PySem.W.mg_of X G a__need_lines, F__need_lines.kp, b__need_lines⟩
  have c__many : CalG P w K mg base 1 "_many" (spMany) := ⟨f__many, d__many, _, ok_many F__many B, PySem.W.mg_of X G a__many, F__many.kp, b__many⟩
  have c__is_whole_room : CalG P w K mg base 2 "_is_whole_room" (spWR) := ⟨f__is_whole_room, d__is_whole_room, _, ok_whole_room F__is_whole_room B c__many, PySem.W.mg_of X G a__is_whole_room, F__is_whole_room.kp, b__is_whole_room⟩
  have c__places : CalG P w K mg base 1 "_places" (spPlaces) := ⟨f__places, d__places, _, ok_places F__places B, PySem.W.mg_of X G a__places, F__places.kp, b__places⟩
  have c__neighbours : CalG P w K mg base 1 "_neighbours" (spNeigh K) := ⟨f__neighbours, d__neighbours, _, ok_neigh F__neighbours B, PySem.W.mg_of X G a__neighbours, F__neighbours.kp, b__neighbours⟩
  have hI_Room := ok_room_init (w := w) (base := base) F_Room_init RT cC_Room n_Room_rows n_Room_cells n_Room_entry n_Room_mouths n_Room_crates n_Room_plates n_Room_near c__need_lines c__is_whole_room c__many c__places c__neighbours
  have m_Room : MakG P w K mg base 4 "Room" CR (spRoomInit K CR CB) [] := ⟨f_Room_init, d_Room_init, _, [], hI_Room, mC_Room, PySem.W.mg_of X G aC_Room, b_Room_init, .nil⟩
  have c_need_room : CalG P w K mg base 3 "need_room" (spNeedC K CR CB) := ⟨f_need_room, d_need_room, _, ok_needM F_need_room LT, PySem.W.mg_of X G a_need_room, F_need_room.kp, b_need_room⟩
  have hI_Level := ok_linit (w := w) (base := base) F_Level_init LT c_need_room c_is_row
  have m_Level : MakG P w K mg base 4 "Level" CV (spLInit K CR CV CT) [] := ⟨f_Level_init, d_Level_init, _, ds0_Level_init, hI_Level, mC_Level, PySem.W.mg_of X G aC_Level, b0_Level_init, v0_Level_init⟩
  have c_need_level : CalG P w K mg base 3 "need_level" (K16.spNeedC K CV CE) := ⟨f_need_level, d_need_level, _, ok_needL F_need_level LT, PySem.W.mg_of X G a_need_level, F_need_level.kp, b_need_level⟩
  have q_Room : FnG P w K mg base (CXe P w) 1 f_Room_eq d_Room_eq ["self", "other"] (spEqB (RmB K CR)) := ok_reqB F_Room_eq LT n_Room_rows
  have q_Level : FnG P w K mg base (CXe P w) 182 f_Level_eq d_Level_eq ["self", "other"] (spEqB (LvQ K CR CV 60)) := okB_levels F_Level_eq LT ⟨qC_Room, b_Room_eq, q_Room, qC_Level, b_Level_eq⟩ 60
  have c__law_pool : CalG P w K mg base 1 "_law_pool" (spPool K) := ⟨f__law_pool, d__law_pool, _, ok_pool F__law_pool B0, PySem.W.mg_of X G a__law_pool, F__law_pool.kp, b__law_pool⟩
  have c__law_draw : CalG P w K mg base 1 "_law_draw" (spDraw K) := ⟨f__law_draw, d__law_draw, _, ok_draw F__law_draw B0, PySem.W.mg_of X G a__law_draw, F__law_draw.kp, b__law_draw⟩
  have c__law_pick : CalG P w K mg base 2 "_law_pick" (spPk K) := ⟨f__law_pick, d__law_pick, _, ok_pk F__law_pick B0 c__law_draw, PySem.W.mg_of X G a__law_pick, F__law_pick.kp, b__law_pick⟩
  have c__law_mark : CalG P w K mg base 3 "_law_mark" (spMark K) := ⟨f__law_mark, d__law_mark, _, ok_mark F__law_mark B c__law_pick, PySem.W.mg_of X G a__law_mark, F__law_mark.kp, b__law_mark⟩
  have c__law_room_of : CalG P w K mg base 4 "_law_room_of" (spRoomOf K) := ⟨f__law_room_of, d__law_room_of, _, ok_room_of F__law_room_of B c__law_draw c__law_pick c__law_mark, PySem.W.mg_of X G a__law_room_of, F__law_room_of.kp, b__law_room_of⟩
  have c__law_room_drawn : CalG P w K mg base 5 "_law_room_drawn" (spRD K) := ⟨f__law_room_drawn, d__law_room_drawn, _, ok_rd F__law_room_drawn B c__law_pick c__law_room_of, PySem.W.mg_of X G a__law_room_drawn, F__law_room_drawn.kp, b__law_room_drawn⟩
  have c__law_small : CalG P w K mg base 5 "_law_small" (spRD K) := ⟨f__law_small, d__law_small, _, ok_small F__law_small B c__law_pick c__law_room_of, PySem.W.mg_of X G a__law_small, F__law_small.kp, b__law_small⟩
  have c__law_tree : CalG P w K mg base 12 "_law_tree" (atMost 6 (spTree K)) := cal_most (r := 5) (N := 6) (PySem.W.mg_of X G a__law_tree) F__law_tree.kp b__law_tree (fun n c_self => ok_tree F__law_tree LB c__law_draw c__law_pick c__law_small c__law_room_drawn c_self)
  have c__law_level_drawn : CalG P w K mg base 13 "_law_level_drawn" (spLD K 6) := ⟨f__law_level_drawn, d__law_level_drawn, _, ok_ld (N := 6) F__law_level_drawn c__law_tree, PySem.W.mg_of X G a__law_level_drawn, F__law_level_drawn.kp, b__law_level_drawn⟩
  have c__law_level : CalG P w K mg base 12 "_law_level" (atMost 6 (spLL K CR CV)) := cal_most (r := 5) (N := 6) (PySem.W.mg_of X G a__law_level) F__law_level.kp b__law_level (fun n c_self => ok_ll F__law_level LT (m_Room) m_Level c_self)
  have c__with_one : CalG P w K mg base 1 "_with_one" (K16M.spWith K) := ⟨f__with_one, d__with_one, _, K16M.ok_with F__with_one TM, PySem.W.mg_of X G a__with_one, F__with_one.kp, b__with_one⟩
  have c_can_lie : CalG P w K mg base 1 "can_lie" (spLie CR) := ⟨f_can_lie, d_can_lie, _, ok_lie F_can_lie TM, PySem.W.mg_of X G a_can_lie, F_can_lie.kp, b_can_lie⟩
  have c__is_gate_open : CalG P w K mg base 1 "_is_gate_open" (spGate CR) := ⟨f__is_gate_open, d__is_gate_open, _, ok_gate F__is_gate_open TM, PySem.W.mg_of X G a__is_gate_open, F__is_gate_open.kp, b__is_gate_open⟩
  have c__changed_bag : CalG P w K mg base 1 "_changed_bag" (spChg CL) := ⟨f__changed_bag, d__changed_bag, _, ok_chg F__changed_bag TM, PySem.W.mg_of X G a__changed_bag, F__changed_bag.kp, b__changed_bag⟩
  have c__entered : CalG P w K mg base 2 "_entered" (spEnt CR CL) := ⟨f__entered, d__entered, _, ok_ent F__entered TM c__is_gate_open c__changed_bag c__with_one, PySem.W.mg_of X G a__entered, F__entered.kp, b__entered⟩
  have c__pushed : CalG P w K mg base 2 "_pushed" (spPsh CR CL) := ⟨f__pushed, d__pushed, _, ok_psh F__pushed TM c_can_lie c__with_one, PySem.W.mg_of X G a__pushed, F__pushed.kp, b__pushed⟩
  have c__pulled : CalG P w K mg base 2 "_pulled" (spPul CR CL) := ⟨f__pulled, d__pulled, _, ok_pul F__pulled TM c_can_lie c__with_one, PySem.W.mg_of X G a__pulled, F__pulled.kp, b__pulled⟩
  have c_moved : CalG P w K mg base 3 "moved" (spMov CR CL) := ⟨f_moved, d_moved, _, ok_mov F_moved TM c__entered c__pushed c__pulled, PySem.W.mg_of X G a_moved, F_moved.kp, b_moved⟩
  have hI_Rules := ok_rinit (w := w) (base := base) F_Rules_init TR c_is_whole
  have m_Rules : MakG P w K mg base 4 "Rules" CL (spRInit K CL EL) [] := ⟨f_Rules_init, d_Rules_init, _, ds0_Rules_init, hI_Rules, mC_Rules, PySem.W.mg_of X G aC_Rules, b0_Rules_init, v0_Rules_init⟩
  have c_first_state : CalG P w K mg base 1 "first_state" (spFirst CR) := ⟨f_first_state, d_first_state, _, ok_first F_first_state WT, PySem.W.mg_of X G a_first_state, F_first_state.kp, b_first_state⟩
  have c_mouth_here : CalG P w K mg base 1 "mouth_here" (spMouth CR) := ⟨f_mouth_here, d_mouth_here, _, ok_mouth F_mouth_here WT, PySem.W.mg_of X G a_mouth_here, F_mouth_here.kp, b_mouth_here⟩
  have c_come_back : CalG P w K mg base 2 "come_back" (spCome K) := ⟨f_come_back, d_come_back, _, ok_come F_come_back WT c__with_one, PySem.W.mg_of X G a_come_back, F_come_back.kp, b_come_back⟩
  have hI_Walker := ok_winit (w := w) (base := base) F_Walker_init WT NT c_first_state
  have m_Walker : MakG P w K mg base 2 "Walker" CW (spWInit K CR CL CV CW aW) [] := ⟨f_Walker_init, d_Walker_init, _, [], hI_Walker, mC_Walker, PySem.W.mg_of X G aC_Walker, b_Walker_init, .nil⟩
  have t_Walkerstep : MetG P w K mg base 4 CW "_step" (spWStep K CR CL CV CW aW) := ⟨f_Walkerstep, d_Walkerstep, _, ok_wstep F_Walkerstep WT NT c_moved, cC_Walker, ⟨a_Walkerstep, i_Walkerstep, F_Walkerstep.kp⟩, b_Walkerstep⟩
  have t_Walkergo_in : MetG P w K mg base 3 CW "_go_in" (spWIn K CR CL CV CW aW) := ⟨f_Walkergo_in, d_Walkergo_in, _, ok_win F_Walkergo_in WT NT c_mouth_here c_come_back c_first_state, cC_Walker, ⟨a_Walkergo_in, i_Walkergo_in, F_Walkergo_in.kp⟩, b_Walkergo_in⟩
  have t_Walkergo_out : MetG P w K mg base 1 CW "_go_out" (spWOut K CR CL CV CW aW) := ⟨f_Walkergo_out, d_Walkergo_out, _, ok_wout F_Walkergo_out WT NT, cC_Walker, ⟨a_Walkergo_out, i_Walkergo_out, F_Walkergo_out.kp⟩, b_Walkergo_out⟩
  have t_Walkerdo : MetG P w K mg base 5 CW "_do" (spWDo K CR CL CV CW aW) := ⟨f_Walkerdo, d_Walkerdo, _, ok_wdo F_Walkerdo WT NT t_Walkerstep t_Walkergo_in t_Walkergo_out, cC_Walker, ⟨a_Walkerdo, i_Walkerdo, F_Walkerdo.kp⟩, b_Walkerdo⟩
  have t_Walker_walk_on : MetG P w K mg base 6 CW "walk_on" (spWOn K CR CL CV CW aW) := ⟨f_Walker_walk_on, d_Walker_walk_on, _, ok_won F_Walker_walk_on WT NT (PySem.W.mg_none_of X G z_enumerate) t_Walkerdo, cC_Walker, ⟨a_Walker_walk_on, i_Walker_walk_on, F_Walker_walk_on.kp⟩, b_Walker_walk_on⟩
  have t_Walker_place : MetG P w K mg base 1 CW "place" (spPlace K CR CL CV CW aW) := ⟨f_Walker_place, d_Walker_place, _, ok_place F_Walker_place WT, cC_Walker, ⟨a_Walker_place, i_Walker_place, F_Walker_place.kp⟩, b_Walker_place⟩
  have c_need_rules : CalG P w K mg base 3 "need_rules" (K16.spNeedC K CL EL) := ⟨f_need_rules, d_need_rules, _, ok_nrul F_need_rules PT, PySem.W.mg_of X G a_need_rules, F_need_rules.kp, b_need_rules⟩
  have c_is_bag : CalG P w K mg base 2 "is_bag" (spBag1 CL) := ⟨f_is_bag, d_is_bag, _, ok_bag1 F_is_bag PT c_is_whole, PySem.W.mg_of X G a_is_bag, F_is_bag.kp, b_is_bag⟩
  have c_need_bag : CalG P w K mg base 4 "need_bag" (spNBag CL) := ⟨f_need_bag, d_need_bag, _, ok_nbag F_need_bag PT c_is_bag, PySem.W.mg_of X G a_need_bag, F_need_bag.kp, b_need_bag⟩
  have c__need_start : CalG P w K mg base 5 "_need_start" (spStart K CR CL CV) := ⟨f__need_start, d__need_start, _, ok_start F__need_start PT c_need_level c_need_rules c_need_bag, PySem.W.mg_of X G a__need_start, F__need_start.kp, b__need_start⟩
  have c_walked : CalG P w K mg base 7 "walked" (spWalked K CR CL CV CW aW PB) := ⟨f_walked, d_walked, _, ok_walked F_walked PT c__need_start m_Walker t_Walker_walk_on, PySem.W.mg_of X G a_walked, F_walked.kp, b_walked⟩
  have c_walk : CalG P w K mg base 8 "walk" (spWalk K CR CL CV aW PB) := ⟨f_walk, d_walk, _, ok_walk F_walk PT c_walked t_Walker_place, PySem.W.mg_of X G a_walk, F_walk.kp, b_walk⟩
  have c_is_play : CalG P w K mg base 7 "is_play" (spIsPlay K CR CL CV) := ⟨f_is_play, d_is_play, _, ok_isplay F_is_play PT c__need_start m_Walker t_Walker_walk_on, PySem.W.mg_of X G a_is_play, F_is_play.kp, b_is_play⟩
  have c__law_next : CalG P w K mg base 1 "_law_next" (spNext) := ⟨f__law_next, d__law_next, _, ok_next F__law_next B, PySem.W.mg_of X G a__law_next, F__law_next.kp, b__law_next⟩
  have c__law_sign : CalG P w K mg base 1 "_law_sign" (spSign) := ⟨f__law_sign, d__law_sign, _, ok_sign F__law_sign B, PySem.W.mg_of X G a__law_sign, F__law_sign.kp, b__law_sign⟩
  have c__law_lies : CalG P w K mg base 2 "_law_lies" (spLies) := ⟨f__law_lies, d__law_lies, _, ok_lies F__law_lies B c__law_sign, PySem.W.mg_of X G a__law_lies, F__law_lies.kp, b__law_lies⟩
  have c__law_pushed : CalG P w K mg base 4 "_law_pushed" (atMost 1 (spPush)) := cal_most (r := 2) (N := 1) (PySem.W.mg_of X G a__law_pushed) F__law_pushed.kp b__law_pushed (fun n c_self => ok_push F__law_pushed LW c__law_next c__law_sign c__law_lies c_self)
  have c__law_is_shut : CalG P w K mg base 2 "_law_is_shut" (spShut) := ⟨f__law_is_shut, d__law_is_shut, _, ok_shut F__law_is_shut LW c__law_sign, PySem.W.mg_of X G a__law_is_shut, F__law_is_shut.kp, b__law_is_shut⟩
  have c__law_step : CalG P w K mg base 5 "_law_step" (spLStep) := ⟨f__law_step, d__law_step, _, ok_lstep F__law_step LW c__law_next c__law_sign c__law_lies c__law_pushed c__law_is_shut, PySem.W.mg_of X G a__law_step, F__law_step.kp, b__law_step⟩
  have c__law_begin : CalG P w K mg base 1 "_law_begin" (spLBeg) := ⟨f__law_begin, d__law_begin, _, ok_lbeg F__law_begin LW, PySem.W.mg_of X G a__law_begin, F__law_begin.kp, b__law_begin⟩
  have c__law_inside : CalG P w K mg base 1 "_law_inside" (spInside) := ⟨f__law_inside, d__law_inside, _, ok_inside F__law_inside LW, PySem.W.mg_of X G a__law_inside, F__law_inside.kp, b__law_inside⟩
  have c__law_move : CalG P w K mg base 6 "_law_move" (spMove) := ⟨f__law_move, d__law_move, _, ok_move F__law_move LW c__law_inside c__law_begin c__law_step, PySem.W.mg_of X G a__law_move, F__law_move.kp, b__law_move⟩
  have c__law_outcome : CalG P w K mg base 1 "_law_outcome" (spOutc) := ⟨f__law_outcome, d__law_outcome, _, ok_outc F__law_outcome LW, PySem.W.mg_of X G a__law_outcome, F__law_outcome.kp, b__law_outcome⟩
  have c__law_walked : CalG P w K mg base 7 "_law_walked" (spLW) := ⟨f__law_walked, d__law_walked, _, ok_lw F__law_walked LW c__law_begin c__law_outcome c__law_move, PySem.W.mg_of X G a__law_walked, F__law_walked.kp, b__law_walked⟩
  have c__law_told : CalG P w K mg base 9 "_law_told" (spTold K CR CL CV aW) := ⟨f__law_told, d__law_told, _, ok_told F__law_told PT c_walk, PySem.W.mg_of X G a__law_told, F__law_told.kp, b__law_told⟩
  have c__law_right : CalG P w K mg base 10 "_law_right" (spRgt K CR CL CV) := ⟨f__law_right, d__law_right, _, ok_right F__law_right PT c__law_walked c__law_told c_is_play, PySem.W.mg_of X G a__law_right, F__law_right.kp, b__law_right⟩
  have c__law_rules : CalG P w K mg base 6 "_law_rules" (spLRul CL) := ⟨f__law_rules, d__law_rules, _, ok_lrules F__law_rules m_Rules, PySem.W.mg_of X G a__law_rules, F__law_rules.kp, b__law_rules⟩
  have c__law_rules_drawn : CalG P w K mg base 2 "_law_rules_drawn" (spRD2 K) := ⟨f__law_rules_drawn, d__law_rules_drawn, _, ok_rd2 F__law_rules_drawn B c__law_draw, PySem.W.mg_of X G a__law_rules_drawn, F__law_rules_drawn.kp, b__law_rules_drawn⟩
  have c__law_bag_drawn : CalG P w K mg base 2 "_law_bag_drawn" (spBD2 K) := ⟨f__law_bag_drawn, d__law_bag_drawn, _, ok_bd2 F__law_bag_drawn c__law_draw, PySem.W.mg_of X G a__law_bag_drawn, F__law_bag_drawn.kp, b__law_bag_drawn⟩
  have c__law_play : CalG P w K mg base 7 "_law_play" (spPlay K) := ⟨f__law_play, d__law_play, _, ok_play F__law_play LW c__law_draw c__law_begin c__law_outcome c__law_move, PySem.W.mg_of X G a__law_play, F__law_play.kp, b__law_play⟩
  exact ok_law F_law LW LT q_Level qC_Level b_Level_eq c__law_pool c__law_draw c__law_level_drawn c__law_rules_drawn c__law_bag_drawn c__law_level c__law_rules c__law_play c__law_right
theorem walk {l : PySem.W.OpenLaw} {q : Program} {loose : List Str} {XP : (Str → Option Value) → Heap → Prop} {YP : World → Heap → Prop} {d : DefRec} {K : Params → PySem.W.Frag} (hn : l.most = some 63) (hdf : d.params.defaults = [])
    (hY : ∀ (w : World) (h : Heap), YP w h → (K w.params).In h)
    (F : ∀ (w : World) (mg : Str → Option Value) (fa : Addr) (h : Heap), (K w.params).In h → h.Ns mainGlobals mg → mg d.name = some (.ref fa) →
      ∃ fd : FuncData, (∀ (s : Shared) (u : Value), BindsTo s fd ⟨[u], []⟩ [("script", u)]) ∧ ∀ base : Heap, (K w.params).In base → base.Ns mainGlobals mg → FnG l.prog w (K w.params) mg base (CXe l.prog w) 190 fa fd ["script"] (spLaw (K w.params))) :
    PySem.W.WalkO q loose XP YP l.row.toRowW d [] (fun f vs => PySem.call f vs) :=
  L2.walk_ofG (n := 63) (k := 190) (x := "script") (CX := fun w => CXe l.prog w) (sp := fun w => spLaw (K w.params)) hn (by decide) hdf ⟨rfl, by decide, by decide⟩ hY F (fun _ _ a ns hl _ hS => ⟨a, ns, rfl, hS, hl, fun _ => rfl⟩) fun w H s e s' z => by
    obtain ⟨_, _, _, _, _, _, _, _, _, _, _, _, hE⟩ := z
    exact hE
end K16M
end
section
set_option Elab.async false
set_option maxRecDepth 100000
open PySem PySem.W PyProof.Rows
set_option maxRecDepth 100000 in
set_option maxHeartbeats 0 in
theorem PySem.Challenge.cw_roomsthrough_k16_plays_walked_letter_by_holds : PySem.Challenge.rw_roomsthrough_k16_plays_walked_letter_by.Holds := by
  w_on; o_law; k_head; (case hw => w_witness2)
  k_fill
  refine K16M.walk (l := PySem.Challenge.rw_roomsthrough_k16_plays_walked_letter_by) rfl rfl (fun w h Y => PySem.W.kIn_of Y) ?F
  case F =>
    intro w mg fa h KX G hmg
    refine' K16M.all_mk KX G hmg ?aC_Room ?cC_Room ?n_Room_rows ?n_Room_cells ?n_Room_entry ?n_Room_mouths ?n_Room_crates ?n_Room_plates ?n_Room_near ?aC_Level ?cC_Level ?n_Level_room ?n_Level_children ?n_Level_rooms ?n_Level_depth ?aC_Rules ?cC_Rules ?n_Rules_cap ?n_Rules_strong ?n_Rules_pull ?aC_Walker ?cC_Walker ?n_Walker_rules ?n_Walker_levels ?n_Walker_states ?n_Walker_end ?a_is_whole ?F_is_whole ?a_is_row ?F_is_row ?a__is_line ?F__is_line ?a__need_lines ?F__need_lines ?a__many ?F__many ?a__is_whole_room ?F__is_whole_room ?a__places ?F__places ?a__neighbours ?F__neighbours ?mC_Room ?F_Room_init ?a_need_room ?F_need_room ?mC_Level ?F_Level_init ?a_need_level ?F_need_level ?qC_Room ?F_Room_eq ?qC_Level ?F_Level_eq ?a__law_pool ?F__law_pool ?a__law_draw ?F__law_draw ?a__law_pick ?F__law_pick ?a__law_mark ?F__law_mark ?a__law_room_of ?F__law_room_of ?a__law_room_drawn ?F__law_room_drawn ?a__law_small ?F__law_small ?a__law_tree ?F__law_tree ?a__law_level_drawn ?F__law_level_drawn ?a__law_level ?F__law_level ?a__with_one ?F__with_one ?a_can_lie ?F_can_lie ?a__is_gate_open ?F__is_gate_open ?a__changed_bag ?F__changed_bag ?a__entered ?F__entered ?a__pushed ?F__pushed ?a__pulled ?F__pulled ?a_moved ?F_moved ?mC_Rules ?F_Rules_init ?a_first_state ?F_first_state ?a_mouth_here ?F_mouth_here ?a_come_back ?F_come_back ?mC_Walker ?F_Walker_init ?a_Walkerstep ?i_Walkerstep ?F_Walkerstep ?a_Walkergo_in ?i_Walkergo_in ?F_Walkergo_in ?a_Walkergo_out ?i_Walkergo_out ?F_Walkergo_out ?a_Walkerdo ?i_Walkerdo ?F_Walkerdo ?a_Walker_walk_on ?i_Walker_walk_on ?F_Walker_walk_on ?a_Walker_place ?i_Walker_place ?F_Walker_place ?a_need_rules ?F_need_rules ?a_is_bag ?F_is_bag ?a_need_bag ?F_need_bag ?a__need_start ?F__need_start ?a_walked ?F_walked ?a_walk ?F_walk ?a_is_play ?F_is_play ?a__law_next ?F__law_next ?a__law_sign ?F__law_sign ?a__law_lies ?F__law_lies ?a__law_pushed ?F__law_pushed ?a__law_is_shut ?F__law_is_shut ?a__law_step ?F__law_step ?a__law_begin ?F__law_begin ?a__law_inside ?F__law_inside ?a__law_move ?F__law_move ?a__law_outcome ?F__law_outcome ?a__law_walked ?F__law_walked ?a__law_told ?F__law_told ?a__law_right ?F__law_right ?a__law_rules ?F__law_rules ?a__law_rules_drawn ?F__law_rules_drawn ?a__law_bag_drawn ?F__law_bag_drawn ?a__law_play ?F__law_play ?a_law ?F_law ?x_BadRoom ?x_BadLevel ?x_BadRules ?x_BadBag ?x_BadPlay ?z_isinstance ?z_int ?z_bool ?z_list ?z_len ?z_range ?z_abs ?z_tuple ?z_str ?z_repr ?z_max ?z_sum ?z_enumerate ?z_min ?z_sorted ?k_MARKS ?k_MOST_LINES ?k_MOST_ACROSS ?k_MOST_CELLS ?k_MOST_CRATES ?k_MOST_KEYS_AND_DOORS ?k_MOST_ROOMS ?k_STEPS_WITH_PULLING ?x_TooMany ?ic_Room ?ic_Level ?kn_Room ?kn_Level ?ko_Level_Room ?ks_Level_Room ?ko_Room_Level ?ks_Room_Level ?g_BACK ?l_BACK ?lit_BACK ?low_BACK ?he_BACK ?g_ONE_WAY ?l_ONE_WAY ?lit_ONE_WAY ?low_ONE_WAY ?he_ONE_WAY ?ic_Rules ?g_WON ?l_WON ?he_WON ?ne_r ?ne_l ?ne_v
    (case aC_Room => k_is)
    (case cC_Room => exact ⟨by k_is, by k_is, by k_is, by k_is⟩)
    (case n_Room_rows => unfold L2.NoAttr; k_is)
    (case n_Room_cells => unfold L2.NoAttr; k_is)
    (case n_Room_entry => unfold L2.NoAttr; k_is)
    (case n_Room_mouths => unfold L2.NoAttr; k_is)
    (case n_Room_crates => unfold L2.NoAttr; k_is)
    (case n_Room_plates => unfold L2.NoAttr; k_is)
    (case n_Room_near => unfold L2.NoAttr; k_is)
    (case aC_Level => k_is)
    (case cC_Level => exact ⟨by k_is, by k_is, by k_is, by k_is⟩)
    (case n_Level_room => unfold L2.NoAttr; k_is)
    (case n_Level_children => unfold L2.NoAttr; k_is)
    (case n_Level_rooms => unfold L2.NoAttr; k_is)
    (case n_Level_depth => unfold L2.NoAttr; k_is)
    (case aC_Rules => k_is)
    (case cC_Rules => exact ⟨by k_is, by k_is, by k_is, by k_is⟩)
    (case n_Rules_cap => unfold L2.NoAttr; k_is)
    (case n_Rules_strong => unfold L2.NoAttr; k_is)
    (case n_Rules_pull => unfold L2.NoAttr; k_is)
    (case aC_Walker => k_is)
    (case cC_Walker => exact ⟨by k_is, by k_is, by k_is, by k_is⟩)
    (case n_Walker_rules => unfold L2.NoAttr; k_is)
    (case n_Walker_levels => unfold L2.NoAttr; k_is)
    (case n_Walker_states => unfold L2.NoAttr; k_is)
    (case n_Walker_end => unfold L2.NoAttr; k_is)
    (case a_is_whole => k_is)
    (case F_is_whole => (refine' L2.fun_mk ?l_is_whole ?c_is_whole ?q_is_whole; (case l_is_whole => k_is); (case c_is_whole => k_is); (case q_is_whole => k_is)))
    (case a_is_row => k_is)
    (case F_is_row => (refine' L2.fun_mk ?l_is_row ?c_is_row ?q_is_row; (case l_is_row => k_is); (case c_is_row => k_is); (case q_is_row => k_is)))
    (case a__is_line => k_is)
    (case F__is_line => (refine' L2.fun_mk ?l__is_line ?c__is_line ?q__is_line; (case l__is_line => k_is); (case c__is_line => k_is); (case q__is_line => k_is)))
    (case a__need_lines => k_is)
    (case F__need_lines => (refine' L2.fun_mk ?l__need_lines ?c__need_lines ?q__need_lines; (case l__need_lines => k_is); (case c__need_lines => k_is); (case q__need_lines => k_is)))
    (case a__many => k_is)
    (case F__many => (refine' L2.fun_mk ?l__many ?c__many ?q__many; (case l__many => k_is); (case c__many => k_is); (case q__many => k_is)))
    (case a__is_whole_room => k_is)
    (case F__is_whole_room => (refine' L2.fun_mk ?l__is_whole_room ?c__is_whole_room ?q__is_whole_room; (case l__is_whole_room => k_is); (case c__is_whole_room => k_is); (case q__is_whole_room => k_is)))
    (case a__places => k_is)
    (case F__places => (refine' L2.fun_mk ?l__places ?c__places ?q__places; (case l__places => k_is); (case c__places => k_is); (case q__places => k_is)))
    (case a__neighbours => k_is)
    (case F__neighbours => (refine' L2.fun_mk ?l__neighbours ?c__neighbours ?q__neighbours; (case l__neighbours => k_is); (case c__neighbours => k_is); (case q__neighbours => k_is)))
    (case mC_Room => refine' ⟨?a_Room, ?b_Room, ?c2_Room, ?d_Room⟩; (case a_Room => k_is); (case b_Room => k_is); (case c2_Room => k_is); (case d_Room => k_is))
    (case F_Room_init => (refine' L2.fun_mk ?l_Room_init ?c_Room_init ?q_Room_init; (case l_Room_init => k_is); (case c_Room_init => k_is); (case q_Room_init => k_is)))
    (case a_need_room => k_is)
    (case F_need_room => (refine' L2.fun_mk ?l_need_room ?c_need_room ?q_need_room; (case l_need_room => k_is); (case c_need_room => k_is); (case q_need_room => k_is)))
    (case mC_Level => refine' ⟨?a_Level, ?b_Level, ?c2_Level, ?d_Level⟩; (case a_Level => k_is); (case b_Level => k_is); (case c2_Level => k_is); (case d_Level => k_is))
    (case F_Level_init => refine' L2.funD_mk ?l_Level_init ?c_Level_init ?k_Level_init ?t_Level_init ?u_Level_init ?v_Level_init ?ne_Level_init; (case l_Level_init => k_is); (case c_Level_init => k_is); (case k_Level_init => k_is); (case t_Level_init => k_is); (case u_Level_init => rfl); (case v_Level_init => exact .cons rfl .nil); (case ne_Level_init => exact List.cons_ne_nil _ _))
    (case a_need_level => k_is)
    (case F_need_level => (refine' L2.fun_mk ?l_need_level ?c_need_level ?q_need_level; (case l_need_level => k_is); (case c_need_level => k_is); (case q_need_level => k_is)))
    (case qC_Room =>
      refine' ⟨?qqa_Room, ?qqb_Room, ?qqc_Room, ?qqd_Room⟩
      (case qqa_Room => k_is); (case qqb_Room => k_is); (case qqc_Room => k_is); (case qqd_Room => k_is))
    (case F_Room_eq => (refine' L2.fun_mk ?l_Room_eq ?c_Room_eq ?q_Room_eq; (case l_Room_eq => k_is); (case c_Room_eq => k_is); (case q_Room_eq => k_is)))
    (case qC_Level =>
      refine' ⟨?qqa_Level, ?qqb_Level, ?qqc_Level, ?qqd_Level⟩
      (case qqa_Level => k_is); (case qqb_Level => k_is); (case qqc_Level => k_is); (case qqd_Level => k_is))
    (case F_Level_eq => (refine' L2.fun_mk ?l_Level_eq ?c_Level_eq ?q_Level_eq; (case l_Level_eq => k_is); (case c_Level_eq => k_is); (case q_Level_eq => k_is)))
    (case a__law_pool => k_is)
    (case F__law_pool => (refine' L2.fun_mk ?l__law_pool ?c__law_pool ?q__law_pool; (case l__law_pool => k_is); (case c__law_pool => k_is); (case q__law_pool => k_is)))
    (case a__law_draw => k_is)
    (case F__law_draw => (refine' L2.fun_mk ?l__law_draw ?c__law_draw ?q__law_draw; (case l__law_draw => k_is); (case c__law_draw => k_is); (case q__law_draw => k_is)))
    (case a__law_pick => k_is)
    (case F__law_pick => (refine' L2.fun_mk ?l__law_pick ?c__law_pick ?q__law_pick; (case l__law_pick => k_is); (case c__law_pick => k_is); (case q__law_pick => k_is)))
    (case a__law_mark => k_is)
    (case F__law_mark => (refine' L2.fun_mk ?l__law_mark ?c__law_mark ?q__law_mark; (case l__law_mark => k_is); (case c__law_mark => k_is); (case q__law_mark => k_is)))
    (case a__law_room_of => k_is)
    (case F__law_room_of => (refine' L2.fun_mk ?l__law_room_of ?c__law_room_of ?q__law_room_of; (case l__law_room_of => k_is); (case c__law_room_of => k_is); (case q__law_room_of => k_is)))
    (case a__law_room_drawn => k_is)
    (case F__law_room_drawn => (refine' L2.fun_mk ?l__law_room_drawn ?c__law_room_drawn ?q__law_room_drawn; (case l__law_room_drawn => k_is); (case c__law_room_drawn => k_is); (case q__law_room_drawn => k_is)))
    (case a__law_small => k_is)
    (case F__law_small => (refine' L2.fun_mk ?l__law_small ?c__law_small ?q__law_small; (case l__law_small => k_is); (case c__law_small => k_is); (case q__law_small => k_is)))
    (case a__law_tree => k_is)
    (case F__law_tree => (refine' L2.fun_mk ?l__law_tree ?c__law_tree ?q__law_tree; (case l__law_tree => k_is); (case c__law_tree => k_is); (case q__law_tree => k_is)))
    (case a__law_level_drawn => k_is)
    (case F__law_level_drawn => (refine' L2.fun_mk ?l__law_level_drawn ?c__law_level_drawn ?q__law_level_drawn; (case l__law_level_drawn => k_is); (case c__law_level_drawn => k_is); (case q__law_level_drawn => k_is)))
    (case a__law_level => k_is)
    (case F__law_level => (refine' L2.fun_mk ?l__law_level ?c__law_level ?q__law_level; (case l__law_level => k_is); (case c__law_level => k_is); (case q__law_level => k_is)))
    (case a__with_one => k_is)
    (case F__with_one => (refine' L2.fun_mk ?l__with_one ?c__with_one ?q__with_one; (case l__with_one => k_is); (case c__with_one => k_is); (case q__with_one => k_is)))
    (case a_can_lie => k_is)
    (case F_can_lie => (refine' L2.fun_mk ?l_can_lie ?c_can_lie ?q_can_lie; (case l_can_lie => k_is); (case c_can_lie => k_is); (case q_can_lie => k_is)))
    (case a__is_gate_open => k_is)
    (case F__is_gate_open => (refine' L2.fun_mk ?l__is_gate_open ?c__is_gate_open ?q__is_gate_open; (case l__is_gate_open => k_is); (case c__is_gate_open => k_is); (case q__is_gate_open => k_is)))
    (case a__changed_bag => k_is)
    (case F__changed_bag => (refine' L2.fun_mk ?l__changed_bag ?c__changed_bag ?q__changed_bag; (case l__changed_bag => k_is); (case c__changed_bag => k_is); (case q__changed_bag => k_is)))
    (case a__entered => k_is)
    (case F__entered => (refine' L2.fun_mk ?l__entered ?c__entered ?q__entered; (case l__entered => k_is); (case c__entered => k_is); (case q__entered => k_is)))
    (case a__pushed => k_is)
    (case F__pushed => (refine' L2.fun_mk ?l__pushed ?c__pushed ?q__pushed; (case l__pushed => k_is); (case c__pushed => k_is); (case q__pushed => k_is)))
    (case a__pulled => k_is)
    (case F__pulled => (refine' L2.fun_mk ?l__pulled ?c__pulled ?q__pulled; (case l__pulled => k_is); (case c__pulled => k_is); (case q__pulled => k_is)))
    (case a_moved => k_is)
    (case F_moved => (refine' L2.fun_mk ?l_moved ?c_moved ?q_moved; (case l_moved => k_is); (case c_moved => k_is); (case q_moved => k_is)))
    (case mC_Rules => refine' ⟨?a_Rules, ?b_Rules, ?c2_Rules, ?d_Rules⟩; (case a_Rules => k_is); (case b_Rules => k_is); (case c2_Rules => k_is); (case d_Rules => k_is))
    (case F_Rules_init => refine' L2.funD_mk ?l_Rules_init ?c_Rules_init ?k_Rules_init ?t_Rules_init ?u_Rules_init ?v_Rules_init ?ne_Rules_init; (case l_Rules_init => k_is); (case c_Rules_init => k_is); (case k_Rules_init => k_is); (case t_Rules_init => k_is); (case u_Rules_init => rfl); (case v_Rules_init => exact .cons ⟨_, rfl⟩ (.cons rfl (.cons rfl .nil))); (case ne_Rules_init => exact List.cons_ne_nil _ _))
    (case a_first_state => k_is)
    (case F_first_state => (refine' L2.fun_mk ?l_first_state ?c_first_state ?q_first_state; (case l_first_state => k_is); (case c_first_state => k_is); (case q_first_state => k_is)))
    (case a_mouth_here => k_is)
    (case F_mouth_here => (refine' L2.fun_mk ?l_mouth_here ?c_mouth_here ?q_mouth_here; (case l_mouth_here => k_is); (case c_mouth_here => k_is); (case q_mouth_here => k_is)))
    (case a_come_back => k_is)
    (case F_come_back => (refine' L2.fun_mk ?l_come_back ?c_come_back ?q_come_back; (case l_come_back => k_is); (case c_come_back => k_is); (case q_come_back => k_is)))
    (case mC_Walker => refine' ⟨?a_Walker, ?b_Walker, ?c2_Walker, ?d_Walker⟩; (case a_Walker => k_is); (case b_Walker => k_is); (case c2_Walker => k_is); (case d_Walker => k_is))
    (case F_Walker_init => (refine' L2.fun_mk ?l_Walker_init ?c_Walker_init ?q_Walker_init; (case l_Walker_init => k_is); (case c_Walker_init => k_is); (case q_Walker_init => k_is)))
    (case a_Walkerstep => k_is)
    (case i_Walkerstep => k_is)
    (case F_Walkerstep => (refine' L2.fun_mk ?l_Walkerstep ?c_Walkerstep ?q_Walkerstep; (case l_Walkerstep => k_is); (case c_Walkerstep => k_is); (case q_Walkerstep => k_is)))
    (case a_Walkergo_in => k_is)
    (case i_Walkergo_in => k_is)
    (case F_Walkergo_in => (refine' L2.fun_mk ?l_Walkergo_in ?c_Walkergo_in ?q_Walkergo_in; (case l_Walkergo_in => k_is); (case c_Walkergo_in => k_is); (case q_Walkergo_in => k_is)))
    (case a_Walkergo_out => k_is)
    (case i_Walkergo_out => k_is)
    (case F_Walkergo_out => (refine' L2.fun_mk ?l_Walkergo_out ?c_Walkergo_out ?q_Walkergo_out; (case l_Walkergo_out => k_is); (case c_Walkergo_out => k_is); (case q_Walkergo_out => k_is)))
    (case a_Walkerdo => k_is)
    (case i_Walkerdo => k_is)
    (case F_Walkerdo => (refine' L2.fun_mk ?l_Walkerdo ?c_Walkerdo ?q_Walkerdo; (case l_Walkerdo => k_is); (case c_Walkerdo => k_is); (case q_Walkerdo => k_is)))
    (case a_Walker_walk_on => k_is)
    (case i_Walker_walk_on => k_is)
    (case F_Walker_walk_on => (refine' L2.fun_mk ?l_Walker_walk_on ?c_Walker_walk_on ?q_Walker_walk_on; (case l_Walker_walk_on => k_is); (case c_Walker_walk_on => k_is); (case q_Walker_walk_on => k_is)))
    (case a_Walker_place => k_is)
    (case i_Walker_place => k_is)
    (case F_Walker_place => (refine' L2.fun_mk ?l_Walker_place ?c_Walker_place ?q_Walker_place; (case l_Walker_place => k_is); (case c_Walker_place => k_is); (case q_Walker_place => k_is)))
    (case a_need_rules => k_is)
    (case F_need_rules => (refine' L2.fun_mk ?l_need_rules ?c_need_rules ?q_need_rules; (case l_need_rules => k_is); (case c_need_rules => k_is); (case q_need_rules => k_is)))
    (case a_is_bag => k_is)
    (case F_is_bag => (refine' L2.fun_mk ?l_is_bag ?c_is_bag ?q_is_bag; (case l_is_bag => k_is); (case c_is_bag => k_is); (case q_is_bag => k_is)))
    (case a_need_bag => k_is)
    (case F_need_bag => (refine' L2.fun_mk ?l_need_bag ?c_need_bag ?q_need_bag; (case l_need_bag => k_is); (case c_need_bag => k_is); (case q_need_bag => k_is)))
    (case a__need_start => k_is)
    (case F__need_start => (refine' L2.fun_mk ?l__need_start ?c__need_start ?q__need_start; (case l__need_start => k_is); (case c__need_start => k_is); (case q__need_start => k_is)))
    (case a_walked => k_is)
    (case F_walked => (refine' L2.fun_mk ?l_walked ?c_walked ?q_walked; (case l_walked => k_is); (case c_walked => k_is); (case q_walked => k_is)))
    (case a_walk => k_is)
    (case F_walk => (refine' L2.fun_mk ?l_walk ?c_walk ?q_walk; (case l_walk => k_is); (case c_walk => k_is); (case q_walk => k_is)))
    (case a_is_play => k_is)
    (case F_is_play => (refine' L2.fun_mk ?l_is_play ?c_is_play ?q_is_play; (case l_is_play => k_is); (case c_is_play => k_is); (case q_is_play => k_is)))
    (case a__law_next => k_is)
    (case F__law_next => (refine' L2.fun_mk ?l__law_next ?c__law_next ?q__law_next; (case l__law_next => k_is); (case c__law_next => k_is); (case q__law_next => k_is)))
    (case a__law_sign => k_is)
    (case F__law_sign => (refine' L2.fun_mk ?l__law_sign ?c__law_sign ?q__law_sign; (case l__law_sign => k_is); (case c__law_sign => k_is); (case q__law_sign => k_is)))
    (case a__law_lies => k_is)
    (case F__law_lies => (refine' L2.fun_mk ?l__law_lies ?c__law_lies ?q__law_lies; (case l__law_lies => k_is); (case c__law_lies => k_is); (case q__law_lies => k_is)))
    (case a__law_pushed => k_is)
    (case F__law_pushed => (refine' L2.fun_mk ?l__law_pushed ?c__law_pushed ?q__law_pushed; (case l__law_pushed => k_is); (case c__law_pushed => k_is); (case q__law_pushed => k_is)))
    (case a__law_is_shut => k_is)
    (case F__law_is_shut => (refine' L2.fun_mk ?l__law_is_shut ?c__law_is_shut ?q__law_is_shut; (case l__law_is_shut => k_is); (case c__law_is_shut => k_is); (case q__law_is_shut => k_is)))
    (case a__law_step => k_is)
    (case F__law_step => (refine' L2.fun_mk ?l__law_step ?c__law_step ?q__law_step; (case l__law_step => k_is); (case c__law_step => k_is); (case q__law_step => k_is)))
    (case a__law_begin => k_is)
    (case F__law_begin => (refine' L2.fun_mk ?l__law_begin ?c__law_begin ?q__law_begin; (case l__law_begin => k_is); (case c__law_begin => k_is); (case q__law_begin => k_is)))
    (case a__law_inside => k_is)
    (case F__law_inside => (refine' L2.fun_mk ?l__law_inside ?c__law_inside ?q__law_inside; (case l__law_inside => k_is); (case c__law_inside => k_is); (case q__law_inside => k_is)))
    (case a__law_move => k_is)
    (case F__law_move => (refine' L2.fun_mk ?l__law_move ?c__law_move ?q__law_move; (case l__law_move => k_is); (case c__law_move => k_is); (case q__law_move => k_is)))
    (case a__law_outcome => k_is)
    (case F__law_outcome => (refine' L2.fun_mk ?l__law_outcome ?c__law_outcome ?q__law_outcome; (case l__law_outcome => k_is); (case c__law_outcome => k_is); (case q__law_outcome => k_is)))
    (case a__law_walked => k_is)
    (case F__law_walked => (refine' L2.fun_mk ?l__law_walked ?c__law_walked ?q__law_walked; (case l__law_walked => k_is); (case c__law_walked => k_is); (case q__law_walked => k_is)))
    (case a__law_told => k_is)
    (case F__law_told => (refine' L2.fun_mk ?l__law_told ?c__law_told ?q__law_told; (case l__law_told => k_is); (case c__law_told => k_is); (case q__law_told => k_is)))
    (case a__law_right => k_is)
    (case F__law_right => (refine' L2.fun_mk ?l__law_right ?c__law_right ?q__law_right; (case l__law_right => k_is); (case c__law_right => k_is); (case q__law_right => k_is)))
    (case a__law_rules => k_is)
    (case F__law_rules => (refine' L2.fun_mk ?l__law_rules ?c__law_rules ?q__law_rules; (case l__law_rules => k_is); (case c__law_rules => k_is); (case q__law_rules => k_is)))
    (case a__law_rules_drawn => k_is)
    (case F__law_rules_drawn => (refine' L2.fun_mk ?l__law_rules_drawn ?c__law_rules_drawn ?q__law_rules_drawn; (case l__law_rules_drawn => k_is); (case c__law_rules_drawn => k_is); (case q__law_rules_drawn => k_is)))
    (case a__law_bag_drawn => k_is)
    (case F__law_bag_drawn => (refine' L2.fun_mk ?l__law_bag_drawn ?c__law_bag_drawn ?q__law_bag_drawn; (case l__law_bag_drawn => k_is); (case c__law_bag_drawn => k_is); (case q__law_bag_drawn => k_is)))
    (case a__law_play => k_is)
    (case F__law_play => (refine' L2.fun_mk ?l__law_play ?c__law_play ?q__law_play; (case l__law_play => k_is); (case c__law_play => k_is); (case q__law_play => k_is)))
    (case a_law => k_is)
    (case F_law => (refine' L2.fun_mk ?l_law ?c_law ?q_law; (case l_law => k_is); (case c_law => k_is); (case q_law => k_is)))
    (case x_BadRoom =>
      refine' RX.errT_mk KX G ?y_BadRoom_gC ?y_BadRoom_cls ?y_BadRoom_rv ?y_BadRoom_sa ?y_BadRoom_ga ?y_BadRoom_gg ?y_BadRoom_noN ?y_BadRoom_iC ?y_BadRoom_tC ?y_BadRoom_kC ?y_BadRoom_exC ?y_BadRoom_tyC ?y_BadRoom_hdC ?y_BadRoom_icC ?y_BadRoom_sC ?y_BadRoom_veC ?y_BadRoom_selfM ?y_BadRoom_up ?y_BadRoom_third ?y_BadRoom_noS ?y_BadRoom_top ?y_BadRoom_fl ?y_BadRoom_bd ?y_BadRoom_l ?y_BadRoom_cd ?y_BadRoom_lc ?y_BadRoom_v2 ?y_BadRoom_vf ?y_BadRoom_lcc ?y_BadRoom_ln
      (case y_BadRoom_gC => k_is); (case y_BadRoom_cls => k_is); (case y_BadRoom_rv => decide +kernel); (case y_BadRoom_sa => k_is); (case y_BadRoom_ga => k_is); (case y_BadRoom_gg => k_is); (case y_BadRoom_noN => k_is); (case y_BadRoom_iC => k_is); (case y_BadRoom_tC => k_is); (case y_BadRoom_kC => k_is); (case y_BadRoom_exC => k_is); (case y_BadRoom_tyC => k_is); (case y_BadRoom_hdC => k_is); (case y_BadRoom_icC => k_is); (case y_BadRoom_sC => first | rfl | k_is); (case y_BadRoom_veC => k_is); (case y_BadRoom_selfM => k_is); (case y_BadRoom_up => ks_is); (case y_BadRoom_third => k_is); (case y_BadRoom_noS => k_is); (case y_BadRoom_top => decide +kernel); (case y_BadRoom_fl => decide +kernel); (case y_BadRoom_bd => intros; rfl); (case y_BadRoom_l => k_is); (case y_BadRoom_cd => k_is); (case y_BadRoom_lc => k_is); (case y_BadRoom_v2 => rfl); (case y_BadRoom_vf => decide +kernel); (case y_BadRoom_lcc => k_is); (case y_BadRoom_ln => rfl))
    (case x_BadLevel =>
      refine' RX.errT_mk KX G ?y_BadLevel_gC ?y_BadLevel_cls ?y_BadLevel_rv ?y_BadLevel_sa ?y_BadLevel_ga ?y_BadLevel_gg ?y_BadLevel_noN ?y_BadLevel_iC ?y_BadLevel_tC ?y_BadLevel_kC ?y_BadLevel_exC ?y_BadLevel_tyC ?y_BadLevel_hdC ?y_BadLevel_icC ?y_BadLevel_sC ?y_BadLevel_veC ?y_BadLevel_selfM ?y_BadLevel_up ?y_BadLevel_third ?y_BadLevel_noS ?y_BadLevel_top ?y_BadLevel_fl ?y_BadLevel_bd ?y_BadLevel_l ?y_BadLevel_cd ?y_BadLevel_lc ?y_BadLevel_v2 ?y_BadLevel_vf ?y_BadLevel_lcc ?y_BadLevel_ln
      (case y_BadLevel_gC => k_is); (case y_BadLevel_cls => k_is); (case y_BadLevel_rv => decide +kernel); (case y_BadLevel_sa => k_is); (case y_BadLevel_ga => k_is); (case y_BadLevel_gg => k_is); (case y_BadLevel_noN => k_is); (case y_BadLevel_iC => k_is); (case y_BadLevel_tC => k_is); (case y_BadLevel_kC => k_is); (case y_BadLevel_exC => k_is); (case y_BadLevel_tyC => k_is); (case y_BadLevel_hdC => k_is); (case y_BadLevel_icC => k_is); (case y_BadLevel_sC => first | rfl | k_is); (case y_BadLevel_veC => k_is); (case y_BadLevel_selfM => k_is); (case y_BadLevel_up => ks_is); (case y_BadLevel_third => k_is); (case y_BadLevel_noS => k_is); (case y_BadLevel_top => decide +kernel); (case y_BadLevel_fl => decide +kernel); (case y_BadLevel_bd => intros; rfl); (case y_BadLevel_l => k_is); (case y_BadLevel_cd => k_is); (case y_BadLevel_lc => k_is); (case y_BadLevel_v2 => rfl); (case y_BadLevel_vf => decide +kernel); (case y_BadLevel_lcc => k_is); (case y_BadLevel_ln => rfl))
    (case x_BadRules =>
      refine' RX.errT_mk KX G ?y_BadRules_gC ?y_BadRules_cls ?y_BadRules_rv ?y_BadRules_sa ?y_BadRules_ga ?y_BadRules_gg ?y_BadRules_noN ?y_BadRules_iC ?y_BadRules_tC ?y_BadRules_kC ?y_BadRules_exC ?y_BadRules_tyC ?y_BadRules_hdC ?y_BadRules_icC ?y_BadRules_sC ?y_BadRules_veC ?y_BadRules_selfM ?y_BadRules_up ?y_BadRules_third ?y_BadRules_noS ?y_BadRules_top ?y_BadRules_fl ?y_BadRules_bd ?y_BadRules_l ?y_BadRules_cd ?y_BadRules_lc ?y_BadRules_v2 ?y_BadRules_vf ?y_BadRules_lcc ?y_BadRules_ln
      (case y_BadRules_gC => k_is); (case y_BadRules_cls => k_is); (case y_BadRules_rv => decide +kernel); (case y_BadRules_sa => k_is); (case y_BadRules_ga => k_is); (case y_BadRules_gg => k_is); (case y_BadRules_noN => k_is); (case y_BadRules_iC => k_is); (case y_BadRules_tC => k_is); (case y_BadRules_kC => k_is); (case y_BadRules_exC => k_is); (case y_BadRules_tyC => k_is); (case y_BadRules_hdC => k_is); (case y_BadRules_icC => k_is); (case y_BadRules_sC => first | rfl | k_is); (case y_BadRules_veC => k_is); (case y_BadRules_selfM => k_is); (case y_BadRules_up => ks_is); (case y_BadRules_third => k_is); (case y_BadRules_noS => k_is); (case y_BadRules_top => decide +kernel); (case y_BadRules_fl => decide +kernel); (case y_BadRules_bd => intros; rfl); (case y_BadRules_l => k_is); (case y_BadRules_cd => k_is); (case y_BadRules_lc => k_is); (case y_BadRules_v2 => rfl); (case y_BadRules_vf => decide +kernel); (case y_BadRules_lcc => k_is); (case y_BadRules_ln => rfl))
    (case x_BadBag =>
      refine' RX.errT_mk KX G ?y_BadBag_gC ?y_BadBag_cls ?y_BadBag_rv ?y_BadBag_sa ?y_BadBag_ga ?y_BadBag_gg ?y_BadBag_noN ?y_BadBag_iC ?y_BadBag_tC ?y_BadBag_kC ?y_BadBag_exC ?y_BadBag_tyC ?y_BadBag_hdC ?y_BadBag_icC ?y_BadBag_sC ?y_BadBag_veC ?y_BadBag_selfM ?y_BadBag_up ?y_BadBag_third ?y_BadBag_noS ?y_BadBag_top ?y_BadBag_fl ?y_BadBag_bd ?y_BadBag_l ?y_BadBag_cd ?y_BadBag_lc ?y_BadBag_v2 ?y_BadBag_vf ?y_BadBag_lcc ?y_BadBag_ln
      (case y_BadBag_gC => k_is); (case y_BadBag_cls => k_is); (case y_BadBag_rv => decide +kernel); (case y_BadBag_sa => k_is); (case y_BadBag_ga => k_is); (case y_BadBag_gg => k_is); (case y_BadBag_noN => k_is); (case y_BadBag_iC => k_is); (case y_BadBag_tC => k_is); (case y_BadBag_kC => k_is); (case y_BadBag_exC => k_is); (case y_BadBag_tyC => k_is); (case y_BadBag_hdC => k_is); (case y_BadBag_icC => k_is); (case y_BadBag_sC => first | rfl | k_is); (case y_BadBag_veC => k_is); (case y_BadBag_selfM => k_is); (case y_BadBag_up => ks_is); (case y_BadBag_third => k_is); (case y_BadBag_noS => k_is); (case y_BadBag_top => decide +kernel); (case y_BadBag_fl => decide +kernel); (case y_BadBag_bd => intros; rfl); (case y_BadBag_l => k_is); (case y_BadBag_cd => k_is); (case y_BadBag_lc => k_is); (case y_BadBag_v2 => rfl); (case y_BadBag_vf => decide +kernel); (case y_BadBag_lcc => k_is); (case y_BadBag_ln => rfl))
    (case x_BadPlay =>
      refine' RX.errT_mk KX G ?y_BadPlay_gC ?y_BadPlay_cls ?y_BadPlay_rv ?y_BadPlay_sa ?y_BadPlay_ga ?y_BadPlay_gg ?y_BadPlay_noN ?y_BadPlay_iC ?y_BadPlay_tC ?y_BadPlay_kC ?y_BadPlay_exC ?y_BadPlay_tyC ?y_BadPlay_hdC ?y_BadPlay_icC ?y_BadPlay_sC ?y_BadPlay_veC ?y_BadPlay_selfM ?y_BadPlay_up ?y_BadPlay_third ?y_BadPlay_noS ?y_BadPlay_top ?y_BadPlay_fl ?y_BadPlay_bd ?y_BadPlay_l ?y_BadPlay_cd ?y_BadPlay_lc ?y_BadPlay_v2 ?y_BadPlay_vf ?y_BadPlay_lcc ?y_BadPlay_ln
      (case y_BadPlay_gC => k_is); (case y_BadPlay_cls => k_is); (case y_BadPlay_rv => decide +kernel); (case y_BadPlay_sa => k_is); (case y_BadPlay_ga => k_is); (case y_BadPlay_gg => k_is); (case y_BadPlay_noN => k_is); (case y_BadPlay_iC => k_is); (case y_BadPlay_tC => k_is); (case y_BadPlay_kC => k_is); (case y_BadPlay_exC => k_is); (case y_BadPlay_tyC => k_is); (case y_BadPlay_hdC => k_is); (case y_BadPlay_icC => k_is); (case y_BadPlay_sC => first | rfl | k_is); (case y_BadPlay_veC => k_is); (case y_BadPlay_selfM => k_is); (case y_BadPlay_up => ks_is); (case y_BadPlay_third => k_is); (case y_BadPlay_noS => k_is); (case y_BadPlay_top => decide +kernel); (case y_BadPlay_fl => decide +kernel); (case y_BadPlay_bd => intros; rfl); (case y_BadPlay_l => k_is); (case y_BadPlay_cd => k_is); (case y_BadPlay_lc => k_is); (case y_BadPlay_v2 => rfl); (case y_BadPlay_vf => decide +kernel); (case y_BadPlay_lcc => k_is); (case y_BadPlay_ln => rfl))
    (case z_isinstance => k_is)
    (case z_int => k_is)
    (case z_bool => k_is)
    (case z_list => k_is)
    (case z_len => k_is)
    (case z_range => k_is)
    (case z_abs => k_is)
    (case z_tuple => k_is)
    (case z_str => k_is)
    (case z_repr => k_is)
    (case z_max => k_is)
    (case z_sum => k_is)
    (case z_enumerate => k_is)
    (case z_min => k_is)
    (case z_sorted => k_is)
    (case k_MARKS => k_is)
    (case k_MOST_LINES => k_is)
    (case k_MOST_ACROSS => k_is)
    (case k_MOST_CELLS => k_is)
    (case k_MOST_CRATES => k_is)
    (case k_MOST_KEYS_AND_DOORS => k_is)
    (case k_MOST_ROOMS => k_is)
    (case k_STEPS_WITH_PULLING => k_is)
    (case x_TooMany =>
      refine' L2.errN_mk KX G ?en1_TooMany ?en2_TooMany ?en3_TooMany ?en4_TooMany ?en5_TooMany ?en6_TooMany ?en7_TooMany
      (case en1_TooMany => k_is); (case en2_TooMany => k_exc); (case en3_TooMany => k_is); (case en4_TooMany => k_is); (case en5_TooMany => k_is); (case en6_TooMany => k_is); (case en7_TooMany => k_is))
    (case ic_Room =>
      refine' ⟨⟨?qa1_Room, ?qa2_Room, ?qa3_Room, ?qa4_Room⟩, ?qe_Room, ?qf_Room, ?qg_Room, ?qh_Room, ?qi_Room⟩
      (case qa1_Room => k_is); (case qa2_Room => k_is); (case qa3_Room => k_is); (case qa4_Room => k_is); (case qe_Room => k_is); (case qf_Room => k_is); (case qg_Room => k_is); (case qh_Room => k_is); (case qi_Room => first | k_is | kit_is | (unfold PySem.W.kitOne; simp)))
    (case ic_Level =>
      refine' ⟨⟨?qa1_Level, ?qa2_Level, ?qa3_Level, ?qa4_Level⟩, ?qe_Level, ?qf_Level, ?qg_Level, ?qh_Level, ?qi_Level⟩
      (case qa1_Level => k_is); (case qa2_Level => k_is); (case qa3_Level => k_is); (case qa4_Level => k_is); (case qe_Level => k_is); (case qf_Level => k_is); (case qg_Level => k_is); (case qh_Level => k_is); (case qi_Level => first | k_is | kit_is | (unfold PySem.W.kitOne; simp)))
    (case kn_Room =>
      refine' ⟨?kn0_Room, ?kn1_Room, ?kn2_Room, ?kn3_Room, ?kn4_Room, ?kn5_Room, ?kn6_Room, ?kn7_Room, ?kn8_Room, ?kn9_Room, ?kn10_Room, ?kn11_Room, ?kn12_Room, ?kn13_Room⟩
      (case kn0_Room => first | k_is | kit_is); (case kn1_Room => first | k_is | kit_is); (case kn2_Room => first | k_is | kit_is); (case kn3_Room => first | k_is | kit_is); (case kn4_Room => first | k_is | kit_is); (case kn5_Room => first | k_is | kit_is); (case kn6_Room => first | k_is | kit_is); (case kn7_Room => first | k_is | kit_is); (case kn8_Room => first | k_is | kit_is); (case kn9_Room => first | k_is | kit_is); (case kn10_Room => first | k_is | kit_is); (case kn11_Room => first | k_is | kit_is); (case kn12_Room => first | k_is | kit_is); (case kn13_Room => first | k_is | kit_is))
    (case kn_Level =>
      refine' ⟨?kn0_Level, ?kn1_Level, ?kn2_Level, ?kn3_Level, ?kn4_Level, ?kn5_Level, ?kn6_Level, ?kn7_Level, ?kn8_Level, ?kn9_Level, ?kn10_Level, ?kn11_Level, ?kn12_Level, ?kn13_Level⟩
      (case kn0_Level => first | k_is | kit_is); (case kn1_Level => first | k_is | kit_is); (case kn2_Level => first | k_is | kit_is); (case kn3_Level => first | k_is | kit_is); (case kn4_Level => first | k_is | kit_is); (case kn5_Level => first | k_is | kit_is); (case kn6_Level => first | k_is | kit_is); (case kn7_Level => first | k_is | kit_is); (case kn8_Level => first | k_is | kit_is); (case kn9_Level => first | k_is | kit_is); (case kn10_Level => first | k_is | kit_is); (case kn11_Level => first | k_is | kit_is); (case kn12_Level => first | k_is | kit_is); (case kn13_Level => first | k_is | kit_is))
    (case ko_Level_Room => first | k_is | kit_is | (unfold PySem.W.kitOne; simp))
    (case ks_Level_Room => k_is)
    (case ko_Room_Level => first | k_is | kit_is | (unfold PySem.W.kitOne; simp))
    (case ks_Room_Level => k_is)
    (case g_BACK => k_is)
    (case l_BACK => k_is)
    (case lit_BACK => k_keys)
    (case low_BACK => decide)
    (case he_BACK => rfl)
    (case g_ONE_WAY => k_is)
    (case l_ONE_WAY => k_is)
    (case lit_ONE_WAY => k_keys)
    (case low_ONE_WAY => decide)
    (case he_ONE_WAY => rfl)
    (case ic_Rules =>
      refine' ⟨⟨?qa1_Rules, ?qa2_Rules, ?qa3_Rules, ?qa4_Rules⟩, ?qe_Rules, ?qf_Rules, ?qg_Rules, ?qh_Rules, ?qi_Rules⟩
      (case qa1_Rules => k_is); (case qa2_Rules => k_is); (case qa3_Rules => k_is); (case qa4_Rules => k_is); (case qe_Rules => k_is); (case qf_Rules => k_is); (case qg_Rules => k_is); (case qh_Rules => k_is); (case qi_Rules => first | k_is | kit_is | (unfold PySem.W.kitOne; simp)))
    (case g_WON => k_is)
    (case l_WON => k_is)
    (case he_WON => rfl)
    (case ne_r => decide)
    (case ne_l => decide)
    (case ne_v => decide)
end
