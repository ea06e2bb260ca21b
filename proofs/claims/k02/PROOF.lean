import PyProof.Rows.All
import Wide.All
import OpenK.AllK
import Wide.FinOn
import KE.KExcSuper
import HandS.Base
import HandS.Call
import PyProof.FString
import PyProof.FitsInt
import HandS.Exc
import HandS.ExcInit
import HandS.ExcCtx
import HandS.ForExc
import HandS.Evl
import HandS.Wide
import HandS.Gcd
import HandS.IsInst
import HandS.Walk
import HandS.Iter
import HandS.ExcIs
import HandS.Ends
import HandS.List
import KE.KMathG
import KE.KMathGC
import HandS.HotCalls
import PySem.Challenge.RW_untoldgaps_k02_things_that_are_no_ratios
set_option Elab.async false
set_option linter.all false
set_option maxRecDepth 100000
set_option maxHeartbeats 4000000
/-! ## an own error over an own base over ValueError: super().__init__(text), then fields -/
namespace PySem
namespace USup
open PySem.W PySem.Calls PyProof.Rows PySem.HandSPX
abbrev cRec (C t : Addr) (d : Option Addr) : Obj := { cls := .ref C, dict := d, data := .fields #[.ref t, .none, .none, .none, .bool false, .none] }
/-- what the written part says of an error class at C and its __init__ at fI -/
structure SupCls (prog : Program) (K : Frag) (C fI cc cda : Addr) (fd : FuncData) : Prop where
  cls : ∃ nm q N bs bm sn sub ab col dd k0 k1 k2 k3 k5, K.lookup C = some (excClassObj nm q C N bs bm true sn sub ab col dd k0 k1 k2 k3 k5 "ValueError.__new__") ∧ refsVE bm = true
  sa : findIn K (.ref C) "__setattr__" = some (some (.builtin "object.__setattr__"))
  iC : findIn K (.ref C) "__init__" = some (some (.ref fI))
  tC : typeIn K (.ref fI) = some (.type "function")
  fn : ∃ oc od osl, K.lookup fI = some ⟨oc, od, .func fd, osl⟩
  clo : fd.closure = [(("__class__" : Str), cc)]
  gl : fd.globals = mainGlobals
  bl : fd.builtins = builtinsNs
  cdv : fd.code = .ref cda
  hcd : codeIn K (.ref cda) fd.qualname = true
  cell : ∃ cl cld csl, K.lookup cc = some ⟨cl, cld, .cell (some (.ref C)), csl⟩
  code : ∃ ccl cdd vs ccs file tf, K.lookup cda = some ⟨ccl, cdd, .fields vs, ccs⟩ ∧ vs[2]? = some (.str file tf) ∧ ((prog.main.file : Str) == file) = true
  third : nsIn K cStatics "thirdparty.any" = some none
  hm : ks_superIn K C C "__init__" = some (some (.builtin "ValueError.__init__"))
  hB : subIn K (.ref C) (.type "ValueError") = some true
  hsub : mroIn K C (.ref C) = some true
  top : (prog.main.scope.names.lookup ("super" : Str)).isSome = false
section
variable {prog : Program} {w : World} {A : Around} {E : Value → Shared → Prop} {R : Result → Shared → Prop} {s : Shared} {K : Frag} {C fI cc cda : Addr} {fd : FuncData}
/-- super().__init__(e): the statement -/
theorem sup_stmt (T : SupCls prog K C fI cc cda fd) {env : Env} {x t0 : Addr} {m mb mg : Str → Option Value} {e : Expr} {p0 p1 p2 pos pos' : Pos} {first : Str} {Q : Flow → Shared → Prop} {body : List Stmt}
    (X : K.In s.heap) (hx : s.heap.get? x = some (cRec C t0 none)) (hn : s.heap.Ns env.locals m) (hmx : m first = some (.ref x))
    (hG : s.heap.Ns mainGlobals mg) (hgs : mg "super" = none) (hBn : s.heap.Ns builtinsNs mb) (hbs : mb "super" = bootBuiltins "super")
    (hk : env.scope.kind = .function) (hks : env.kindOf "super" = some .globalImplicit) (hkc : env.kindOf "__class__" = some .free) (hkf : env.kindOf first = some .local)
    (hcl : env.cells.lookup ("__class__" : Str) = some cc) (hfu : env.func = some fI) (hco : env.code = .ref cda) (hgl : env.globals = mainGlobals) (hbl : env.builtins = builtinsNs)
    (hp : ∃ an, (fd.params.posonlyargs ++ fd.params.args).head? = some an ∧ an.arg = first)
    (hi : interactive env = false)
    (he : ∀ s' : Shared, s'.heap.Ns env.locals m → s'.os = s.os → (∀ Q' : Value → Shared → Prop, (∀ v tk, Q' v { s' with toks := tk }) → wpAny (model prog w) A (eval e env) Q' E s'))
    (hq : ∀ h' tk t1, (∀ b o, b ≠ x → s.heap.get? b = some o → h'.get? b = some o) → h'.get? x = some (cRec C t1 none) → s.heap.objs.size ≤ h'.objs.size → Q .next { s with heap := h', toks := tk })
    (hs1 : swapsWith (.Call (.Attribute (.Call (.Name "super" p0) [] [] p1) "__init__" p2) [e] [] pos) none pos'.line env = pure false)
    (hmc : ∃ pl, eval (.Call (.Attribute (.Call (.Name "super" p0) [] [] p1) "__init__" p2) [e] [] pos) env = (do
      let ov ← attributeBase (.Call (.Name "super" p0) [] [] p1) "__init__" env (eval (.Call (.Name "super" p0) [] [] p1) env)
      standAt p2.atName
      let (f, fst) ← holding [ov] (getMethod ov "__init__" pl)
      callWith pos f fst (backTo pos (starEach [e] env)) []))
    (hst : starEach [e] env = (false, eval e env) :: starEach [] env) (hpl : (backTo pos (starEach [] env)).any (·.1) = false) :
    _root_.PySem.wpAt (model prog w) A (.func body env) (exec (.Expr (.Call (.Attribute (.Call (.Name "super" p0) [] [] p1) "__init__" p2) [e] [] pos) pos') env) Q E s := by
  obtain ⟨nm, q, N, bs, bm, sn, sub, ab, col, dd, k0, k1, k2, k3, k5, hC, hbm⟩ := T.cls
  obtain ⟨oc, od, osl, ho⟩ := T.fn
  obtain ⟨cl, cld, csl, hcell⟩ := T.cell
  obtain ⟨ccl, cdd, vs, ccs, file, tf, hcode, hvs, hfile⟩ := T.code
  obtain ⟨an, han, hanx⟩ := hp
  obtain ⟨pl, hmc⟩ := hmc
  subst hanx
  have hCc : clsIn K C = some { name := nm, bases := bs, mro := .ref C :: bm, ns := N, qualname := q, hasDict := true, slotNames := sn, subclasses := sub, abstract := ab, collection := col, hasDel := false } := by unfold clsIn; rw [hC] <;> rfl
  have I : InstAt s.heap x (cRec C t0 none) C none := ⟨hx, rfl, rfl, trivial⟩
  refine ks_wpAt_Expr_any ?_ hi hs1
  refine ks_wpAt_MethodCall ?_ hmc
  refine ks_wpAt_super_base hks hkc (by decide) hfu (X _ _ ho) rfl han hco (X _ _ hcode) rfl hvs hfile T.top ?_
  refine ks_loadName_global hk hks (loadGlobal_builtin (env := env) (by rw [hgl]; exact hG) hgs (by rw [hbl]; exact hBn) (hbs.trans (by first | boot_by_name | rfl | kernel_rfl)) ⟨rfl, ?_⟩)
  refine wpAny_loadName_free hk hkc hcl ⟨_, X _ _ hcell, rfl⟩ ?_
  refine wpAny_loadName_local hk hkf hn hmx ?_
  refine ks_wpAny_isType_cls (X _ _ hC) rfl ⟨rfl, ?_⟩
  obtain ⟨hh, g, d, t, os⟩ := s
  refine ks_wpAny_call_super (X _ _ hC) rfl hx rfl (fun c z => by cases z) (looks_mroIn X T.hsub) (fun h1 e1 k1' => ?_)
  have X1 : K.In h1 := X.keeps k1'
  have hx1 := k1' _ _ hx
  have I1 : InstAt h1 x (cRec C t0 none) C none := ⟨hx1, rfl, rfl, trivial⟩
  have hm := T.hm
  unfold ks_superIn at hm
  rw [hCc] at hm
  refine kxs_getMethod kxs_ValueError e1 (looks_opaque X1 T.third) (l₀ := .ref C :: bm) ?_ rfl X1 hm (I1.type.andThen (looks_subIn X1 T.hB)) (ks_ne X1 I1 hCc) (by decide) ?_
  · exact fun A Q E s k q => wpAny_bind ((looks_clsIn X1 hCc) A _ E s k (wpAny_pure q))
  show wpAny _ _ (callWith pos (.ref h1.objs.size) [] (backTo pos (starEach [e] env)) []) _ _ _
  have k2' : ∀ b o, hh.get? b = some o → (h1.push (kxs_mw "ValueError.__init__" x)).get? b = some o := fun b o z => Heap.get?_push_of_some _ (k1' b o z)
  have hu : (h1.push (kxs_mw "ValueError.__init__" x)).get? h1.objs.size = some (kxs_mw "ValueError.__init__" x) := Heap.get?_push_at rfl rfl
  have hx2 := k2' _ _ hx
  have key : wpAny (model prog w) A (spliced (backTo pos (starEach [e] env))) (fun vs s₁ => KxsAt "ValueError.__init__" h1.objs.size x s₁.heap ∧ wpAny (model prog w) A (call (.ref h1.objs.size) vs) (fun _ => Q Flow.next) E s₁) E
      ⟨h1.push (kxs_mw "ValueError.__init__" x), g, d, t + 1, os⟩ := by
    refine spliced_more ?_ hst
    refine he ⟨h1.push (kxs_mw "ValueError.__init__" x), g, d, t + 1, os⟩ (hn.keeps k2') rfl _ fun v tk => ?_
    refine spliced_none ?_
    refine ⟨hu, ?_⟩
    show wpAny _ _ (call (.ref h1.objs.size) [v]) _ _ _
    refine wpAny_call (codeAny_of_tree ?_)
    show wpAny _ A.in1 (callAny (.ref h1.objs.size) ⟨[v], []⟩) _ _ _
    simp only [callAny]
    refine wpAny_bind (wpAny_load hu ?_)
    simp only [kxs_mw, show (Value.type "method-wrapper" == Value.type "method" || Value.type "method-wrapper" == Value.type "builtin_function_or_method" || Value.type "method-wrapper" == Value.type "method-wrapper") = true by decide, if_true]
    refine KFB.if_so (by decide) ?_
    refine wpAny_bind (check_bound_init F.excBase_ValueError.toExcCallFacts (k2' _ _ (X _ _ hC)) hx2 rfl ?_)
    refine wpAny_bind (wpAny_pure (wpAny_pure ?_))
    refine ⟨plainId_quiet F.excBase_ValueError.init.plain _, codeAny_builtin F.excBase_ValueError.initEntry ?_⟩
    refine exc_init_tree (cls := .ref C) (t0 := t0) (dv := none) (c2 := .none) (c3 := .none) (b4 := .bool false) hx2 (by show 1 ≤ sizeLine; rw [sizeLine_eq]; decide) (fun h' k3 e3 e4 => ?_)
    exact hq h' tk _ (fun b o hb z => k3 b o hb (k2' b o z)) e3 (Nat.le_of_lt (Nat.lt_trans (Nat.lt_trans (Heap.lt_size e1) (Heap.lt_size hu)) (Heap.lt_size e4)))
  rw [hst] at key ⊢
  refine kxs_callWith (i := "ValueError.__init__") (x := x) (by show (false || (backTo pos (starEach [] env)).any (·.1)) = false; rw [hpl]; rfl) ?_
  exact evalArgs_plain key

/-! ### self.f = p, one after another -/
inductive FS (env : Env) (first : Str) : List Stmt → List (Str × Str) → Prop
  | nil : FS env first [] []
  | cons {q1 q2 q3 q4 : Pos} {f p : Str} {rest : List Stmt} {fs : List (Str × Str)} (hk : env.kindOf p = some .local) (hd : (p == ("__debug__" : Str)) = false)
      (hs : swapsWith (.Name p q3) (some (.Attribute (.Name first q1) f q2)) q4.line env = pure false) (r : FS env first rest fs) :
      FS env first (.Assign [.Attribute (.Name first q1) f q2] (.Name p q3) q4 :: rest) ((f, p) :: fs)
/-- the exception at x with the fields acc so far, its dict d -/
def ExcSt (h0 h : Heap) (x C t : Addr) (acc : List (Str × Value)) : Option Addr → Prop
  | none => acc = [] ∧ h.get? x = some (cRec C t none) ∧ h0.objs.size ≤ h.objs.size
  | some dx => h0.objs.size ≤ dx ∧ dx ≠ x ∧ h.get? x = some (cRec C t (some dx)) ∧ h.Ns1 dx (fun y => acc.lookup y)
def Kp (h0 h : Heap) (x : Addr) : Prop := ∀ b o, b ≠ x → h0.get? b = some o → h.get? b = some o
theorem look_cons (f : Str) (v : Value) (acc : List (Str × Value)) : (fun y => if y = f then some v else acc.lookup y) = fun y => ((f, v) :: acc).lookup y := by
  funext y
  by_cases e : y = f
  · subst e; simp [List.lookup]
  · have e' : (y == f) = false := by simpa using e
    rw [if_neg e]; simp [List.lookup, e']
theorem within_look : ∀ (acc : List (Str × Value)), Within (fun y => acc.lookup y) (acc.map (·.1)) := fun acc y hy => by
  induction acc with
  | nil => exact absurd rfl hy
  | cons a r ih =>
    obtain ⟨f, v⟩ := a
    by_cases e : y = f
    · subst e; exact List.mem_cons_self
    · have e' : (y == f) = false := by simpa using e
      have h2 : List.lookup y r ≠ none := by
        intro z; apply hy; show List.lookup y ((f, v) :: r) = none; simp [List.lookup, e', z]
      exact List.mem_cons_of_mem _ (ih h2)
theorem kIn_but {h0 h : Heap} {x : Addr} (X : K.In h0) (hx : K.lookup x = none) (k : Kp h0 h x) : K.In h := fun a o e => k a o (fun z => by rw [z, hx] at e; cases e) (X a o e)
theorem fields_run (T : SupCls prog K C fI cc cda fd) {env : Env} {x t : Addr} {m : Str → Option Value} {first : Str} {h0 : Heap}
    (X0 : K.In h0) (hxK : K.lookup x = none) (hn0 : h0.Ns env.locals m) (hLx : env.locals ≠ x) (hx0 : x < h0.objs.size) (hmx : m first = some (.ref x)) (hkf : env.kindOf first = some .local) (hdf : (first == ("__debug__" : Str)) = false) (hk : env.scope.kind = .function) :
    ∀ {rest : List Stmt} {fs : List (Str × Str)}, FS env first rest fs → ∀ (acc : List (Str × Value)) (d : Option Addr) (s : Shared) (Q : Flow → Shared → Prop), (∀ fp ∈ fs, findIn K (.ref C) fp.1 = some none ∧ ∃ v, m fp.2 = some v) → acc.length + fs.length ≤ 100 →
      Kp h0 s.heap x → ExcSt h0 s.heap x C t acc d →
      (∀ h' tk d', Kp h0 h' x → ExcSt h0 h' x C t ((fs.map fun fp => (fp.1, (m fp.2).getD .none)).reverse ++ acc) d' → ((fs ≠ [] ∨ d ≠ none) ↔ d' ≠ none) → Q .next { s with heap := h', toks := tk }) →
      wpAny (model prog w) A (execs rest env) Q E s := by
  obtain ⟨nm, q, N, bs, bm, sn, sub, ab, col, dd, k0, k1, k2, k3, k5, hC, hbm⟩ := T.cls
  have hCc : clsIn K C = some { name := nm, bases := bs, mro := .ref C :: bm, ns := N, qualname := q, hasDict := true, slotNames := sn, subclasses := sub, abstract := ab, collection := col, hasDel := false } := by unfold clsIn; rw [hC] <;> rfl
  have hmro : refsVE (.ref C :: bm) = true := hbm
  intro rest fs F
  induction F with
  | nil =>
    intro acc d s Q _ _ kp st hq
    refine wpAny_execs_nil ?_
    have := hq s.heap s.toks d kp (by simpa using st) ⟨fun z => z.elim (fun y => absurd rfl y) id, .inr⟩
    exact this
  | @cons q1 q2 q3 q4 f p rest fs hkp hdp hs r ih =>
    intro acc d s Q hf hl kp st hq
    obtain ⟨hno, v, hv⟩ := hf (f, p) List.mem_cons_self
    have X : K.In s.heap := kIn_but X0 hxK kp
    have hn : s.heap.Ns env.locals m := by
      obtain ⟨o, es, ep, e, r⟩ := hn0
      exact ⟨o, es, ep, kp _ _ hLx e, r⟩
    refine wpAny_execs_cons (plainObj_wpAny_Assign_Attribute ?_ hs)
    refine wpAny_Name (wpAny_loadName_local hk hkp hn hv ?_) hdp
    refine wpAny_Name (wpAny_loadName_local hk hkf hn hmx ?_) hdf
    have hl' : ((f, v) :: acc).length + fs.length ≤ 100 := by simp only [List.length_cons] at hl ⊢; omega
    have fin : ∀ (h3 : Heap) (tk3 : Nat) (d3 : Addr), Kp h0 h3 x → ExcSt h0 h3 x C t ((f, v) :: acc) (some d3) → wpAny (model prog w) A (execs rest env) Q E { s with heap := h3, toks := tk3 } := fun h3 tk3 d3 kp3 st3 => by
      refine ih ((f, v) :: acc) (some d3) _ Q (fun fp h => hf fp (List.mem_cons_of_mem _ h)) hl' kp3 st3 fun h' tk d' kp' st' hd' => ?_
      refine hq h' tk d' kp' ?_ ⟨fun _ => hd'.mp (.inr (fun z => by cases z)), fun _ => .inl (fun z => by cases z)⟩
      have e : (List.map (fun fp : Str × Str => (fp.1, (m fp.2).getD .none)) ((f, p) :: fs)).reverse ++ acc = (List.map (fun fp : Str × Str => (fp.1, (m fp.2).getD .none)) fs).reverse ++ (f, v) :: acc := by
        rw [List.map_cons, List.reverse_cons, List.append_assoc]
        show _ ++ ((f, (m p).getD .none) :: acc) = _
        rw [hv]
        rfl
      rw [e]
      exact st'
    cases d with
    | none =>
      obtain ⟨ea, hx, hsz⟩ := st
      subst ea
      refine set_plain X (ox := cRec C t none) (od := none) ⟨hx, rfl, rfl, trivial⟩ T.sa ?_
      obtain ⟨hh, g, dr, tk, os⟩ := s
      refine exc_osa X hx hCc hmro rfl hno (fun h3 tk3 dx k3 dn dne hx3 hn3 => ?_)
      have sz : h0.objs.size ≤ dx := Nat.le_trans hsz dn
      refine fin h3 tk3 dx (fun b o hb z => k3 b o hb (kp b o hb z)) ⟨sz, dne, hx3, ?_⟩
      rw [← look_cons]
      exact hn3
    | some dx =>
      obtain ⟨sz, dne, hx, hns⟩ := st
      obtain ⟨oD, esD, epD, hoD, hdD, _⟩ := hns.count (within_look acc)
      refine set_plain X (ox := cRec C t (some dx)) (od := some oD) ⟨hx, rfl, rfl, hoD⟩ T.sa ?_
      obtain ⟨hh, g, dr, tk, os⟩ := s
      refine OEX.osa_old X hx hns (within_look acc) (by rw [List.length_map]; omega) hCc hmro rfl hno (fun h3 tk3 k3 hn3 => ?_)
      refine fin h3 tk3 dx (fun b o hb z => k3 b o (fun y => ?_) (kp b o hb z)) ⟨sz, dne, k3 x _ (Ne.symm dne) hx, ?_⟩
      · rw [y] at z
        exact absurd (Heap.lt_size z) (Nat.not_lt.mpr sz)
      · rw [← look_cons]
        exact hn3
end

/-! ### the text of the message -/
section
variable {prog : Program} {w : World}
def PartOk (prog : Program) (w : World) (env : Env) (m : Str → Option Value) (e : Expr) (n : Nat) : Prop :=
  ∀ (A : Around) (E : Value → Shared → Prop) (s : Shared) (Q : Value → Shared → Prop), s.heap.Ns env.locals m → (∀ (x : Str) (t : Tok) (tk : Nat), x.length ≤ n → Q (.str x t) { s with toks := tk }) → wpAny (model prog w) A (eval e env) Q E s
theorem part_const {env : Env} {m : Str → Option Value} {x : Str} {j : Nat} {p : Pos} {n : Nat} (hx : x.length ≤ n) : PartOk prog w env m (.Constant (.str x) j p) n := fun A E s Q _ h => Calls.Constant_str (h x _ _ hx)
theorem part_str {env : Env} {m : Str → Option Value} {y x : Str} {t : Tok} {p p2 : Pos} {n : Nat} (hk : env.scope.kind = .function) (hl : env.kindOf y = some .local) (hd : (y == ("__debug__" : Str)) = false) (hm : m y = some (.str x t)) (hx : x.length ≤ n) (hn : n ≤ 100000) :
    PartOk prog w env m (.FormattedValue (.Name y p) (-1) none p2) n := fun A E s Q ns h => by
  refine wpAny_FormattedValue_plain (wpAny_Name (wpAny_loadName_local hk hl ns hm ?_) hd)
  exact wpAny_formatField_str (h x t s.toks hx) (h x _ _ hx) (by rw [sizeLine_eq]; omega)
theorem part_int {env : Env} {m : Str → Option Value} {y : Str} {i : Int} {t : Tok} {p p2 : Pos} (hk : env.scope.kind = .function) (hl : env.kindOf y = some .local) (hd : (y == ("__debug__" : Str)) = false) (hm : m y = some (.int i t)) (hx : i.natAbs < 10 ^ 100) :
    PartOk prog w env m (.FormattedValue (.Name y p) (-1) none p2) 1000 := fun A E s Q ns h => by
  have h2 : i.natAbs.log2 < 1920 := by
    rcases Nat.eq_zero_or_pos i.natAbs with z | z
    · rw [z]; decide
    · exact (Nat.log2_lt (Nat.ne_of_gt z)).mpr (Nat.lt_trans hx (by decide))
  refine wpAny_FormattedValue_plain (wpAny_Name (wpAny_loadName_local hk hl ns hm ?_) hd)
  refine wpAny_formatField_int h2 (h _ _ _ ?_)
  rw [ofString_length]
  have := int_text_length_le10 (k := 100) (by decide) hx
  omega
inductive PartsOk (prog : Program) (w : World) (env : Env) (m : Str → Option Value) : List Expr → Prop
  | nil : PartsOk prog w env m []
  | cons {e : Expr} {es : List Expr} {n : Nat} (h : PartOk prog w env m e n) (hn : n ≤ 1000) (r : PartsOk prog w env m es) : PartsOk prog w env m (e :: es)
def MsgOk (prog : Program) (w : World) (env : Env) (m : Str → Option Value) (e : Expr) : Prop :=
  ∀ (A : Around) (E : Value → Shared → Prop) (s : Shared) (Q : Value → Shared → Prop), s.heap.Ns env.locals m → (∀ v tk, Q v { s with toks := tk }) → wpAny (model prog w) A (eval e env) Q E s
theorem msg_const {env : Env} {m : Str → Option Value} {x : Str} {j : Nat} {p : Pos} : MsgOk prog w env m (.Constant (.str x) j p) := fun A E s Q _ h => Calls.Constant_str (h _ _)
theorem joins_ok {env : Env} {m : Str → Option Value} {A : Around} {E : Value → Shared → Prop} : ∀ {es : List Expr}, PartsOk prog w env m es → ∀ (acc : Str) (s : Shared) (R : Str → Shared → Prop), s.heap.Ns env.locals m → acc.length + 1000 * es.length ≤ 100000 →
    (∀ out tk, out.length ≤ 100000 → R out { s with toks := tk }) → Joins (model prog w) A E (evalEach es env) acc R s := by
  intro es h
  induction h with
  | nil =>
    intro acc s R ns hl k
    have e0 : evalEach [] env = [] := by first | rfl | simp [evalEach]
    rw [e0]
    exact k acc s.toks (by simpa using hl)
  | @cons e es n he hn r ih =>
    intro acc s R ns hl k
    have e0 : evalEach (e :: es) env = eval e env :: evalEach es env := by first | rfl | simp [evalEach]
    rw [e0]
    rw [List.length_cons] at hl
    refine he A E s _ ns fun x t tk hx => ⟨x, t, rfl, ?_, ?_⟩
    · rw [strLen_append, sizeLine_eq]; omega
    · exact ih (acc ++ x) _ R ns (by rw [strLen_append]; omega) fun out tk' ho => k out tk' ho
theorem msg_join {env : Env} {m : Str → Option Value} {e1 e2 : Expr} {es : List Expr} {p : Pos} (h : PartsOk prog w env m (e1 :: e2 :: es)) (hl : es.length ≤ 50) : MsgOk prog w env m (.JoinedStr (e1 :: e2 :: es) p) := fun A E s Q ns q => by
  refine wpAny_JoinedStr (joins_ok h Str.empty s _ ns (by show 0 + 1000 * (es.length + 1 + 1) ≤ 100000; omega) fun out tk ho => ⟨by rw [sizeLine_eq]; omega, q _ _⟩)
end

/-! ### the whole __init__, the making -/
/-- the text of an __init__: super().__init__(e), then the fields -/
structure InitText (fd : FuncData) (fI : Addr) (ps : List Str) (e : Expr) (fs : List (Str × Str)) : Prop where
  body : ∃ p0 p1 p2 pos pos' rest, fd.body = .stmts (.Expr (.Call (.Attribute (.Call (.Name "super" p0) [] [] p1) "__init__" p2) [e] [] pos) pos' :: rest) ∧ ∀ L, FS (callEnv fd L fI) "self" rest fs ∧
    swapsWith (.Call (.Attribute (.Call (.Name "super" p0) [] [] p1) "__init__" p2) [e] [] pos) none pos'.line (callEnv fd L fI) = pure false ∧
    (∃ pl, eval (.Call (.Attribute (.Call (.Name "super" p0) [] [] p1) "__init__" p2) [e] [] pos) (callEnv fd L fI) = (do
      let ov ← attributeBase (.Call (.Name "super" p0) [] [] p1) "__init__" (callEnv fd L fI) (eval (.Call (.Name "super" p0) [] [] p1) (callEnv fd L fI))
      standAt p2.atName
      let (f, fst) ← holding [ov] (getMethod ov "__init__" pl)
      callWith pos f fst (backTo pos (starEach [e] (callEnv fd L fI))) [])) ∧
    starEach [e] (callEnv fd L fI) = (false, eval e (callEnv fd L fI)) :: starEach [] (callEnv fd L fI) ∧ (backTo pos (starEach [] (callEnv fd L fI))).any (·.1) = false ∧ interactive (callEnv fd L fI) = false
  kind : fd.scope.kind = .function
  co : fd.scope.isCoroutine = false
  gen : fd.scope.isGenerator = false
  cell : ∀ x ∈ fd.scope.names, x.2 ≠ .cell
  ks : fd.scope.names.lookup ("super" : Str) = some .globalImplicit
  kc : fd.scope.names.lookup ("__class__" : Str) = some .free
  kf : fd.scope.names.lookup ("self" : Str) = some .local
  kp : ∀ x ∈ ps, fd.scope.names.lookup x = some .local
  pp : ∃ an, (fd.params.posonlyargs ++ fd.params.args).head? = some an ∧ an.arg = "self"
  bind : ∀ us : List Value, us.length = ps.length + 1 → bindArgs fd ⟨us, []⟩ = pure ((("self" : Str) :: ps).zip us)
  nself : ("self" : Str) ∉ ps
theorem nskeep {h h' : Heap} {x a : Addr} {m : Str → Option Value} (n : h.Ns a m) (hx : a ≠ x) (k : Kp h h' x) : h'.Ns a m := by
  obtain ⟨o, es, ep, e, r⟩ := n
  exact ⟨o, es, ep, k _ _ hx e, r⟩
section
variable {prog : Program} {w : World} {A : Around} {R : Result → Shared → Prop} {s : Shared} {K : Frag} {C fI cc cda : Addr} {fd : FuncData}
theorem sup_init (T : SupCls prog K C fI cc cda fd) {ps : List Str} {e : Expr} {fs : List (Str × Str)} (I : InitText fd fI ps e fs) {x t0 : Addr} {us : List Value} {mg mb : Str → Option Value}
    (X : K.In s.heap) (hlim : s.heap.NoLimit) (hG : s.heap.Ns mainGlobals mg) (hgs : mg "super" = none) (hBn : s.heap.Ns builtinsNs mb) (hbs : mb "super" = bootBuiltins "super") (hGx : mainGlobals ≠ x) (hBx : builtinsNs ≠ x)
    (hx : s.heap.get? x = some (cRec C t0 none)) (hxK : K.lookup x = none) (hroom : A.depth < recursionLimit) (hlen : us.length = ps.length)
    (hmsg : ∀ L, MsgOk prog w (callEnv fd L fI) (fun y => (((("self" : Str) :: ps).zip (Value.ref x :: us)).reverse).lookup y) e)
    (hf : ∀ fp ∈ fs, findIn K (.ref C) fp.1 = some none ∧ ∃ v, (((("self" : Str) :: ps).zip (Value.ref x :: us)).reverse).lookup fp.2 = some v) (hfl : fs.length ≤ 100)
    (hq : ∀ h' tk t d', Kp s.heap h' x → ExcSt s.heap h' x C t (fs.map fun fp => (fp.1, ((((("self" : Str) :: ps).zip (Value.ref x :: us)).reverse).lookup fp.2).getD .none)).reverse d' → (fs ≠ [] ↔ d' ≠ none) → R (.ok (.ret .none)) { s with heap := h', toks := tk }) :
    codeAny (model prog w) A (.call (.ref fI) ⟨.ref x :: us, []⟩) R s := by
  obtain ⟨oc, od, osl, ho⟩ := T.fn
  obtain ⟨p0, p1, p2, pos, pos', rest, hbody, hL⟩ := I.body
  have hself : (((("self" : Str) :: ps).zip (Value.ref x :: us)).reverse).lookup ("self" : Str) = some (.ref x) := by
    rw [List.zip_cons_cons, List.reverse_cons]
    have : ∀ l : List (Str × Value), (∀ y ∈ l, y.1 ≠ ("self" : Str)) → (l ++ [(("self" : Str), Value.ref x)]).lookup ("self" : Str) = some (.ref x) := by
      intro l
      induction l with
      | nil => intro _; simp [List.lookup]
      | cons a r ih =>
        intro h
        obtain ⟨f, v⟩ := a
        have ne : (("self" : Str) == f) = false := by
          have := h (f, v) List.mem_cons_self
          simpa using fun z => this z.symm
        show List.lookup ("self" : Str) ((f, v) :: (r ++ _)) = _
        simp only [List.lookup, ne]
        exact ih fun y hy => h y (List.mem_cons_of_mem _ hy)
    refine this _ fun y hy => ?_
    rw [List.mem_reverse] at hy
    intro z
    have := (List.of_mem_zip hy).1
    rw [z] at this
    exact I.nself this
  refine ks_codeAny_call_defAt (fd := fd) (binds := (("self" : Str) :: ps).zip (Value.ref x :: us)) hroom (X _ _ ho) rfl hlim (codeRec_of X (by rw [T.cdv]; exact T.hcd)) hbody (.of_eq (I.bind _ (by rw [List.length_cons, hlen]))) I.cell ?_ (fun h1 hns k1 => ?_) I.co I.gen I.kind
  · intro y hy
    have := (List.of_mem_zip hy).1
    rcases List.mem_cons.mp this with z | z
    · rw [z]; exact I.kf
    · exact I.kp _ z
  obtain ⟨hFS, hsw, hmc, hst, hpl, hint⟩ := hL s.heap.objs.size
  have X1 : K.In h1 := X.keeps k1
  have hLx : s.heap.objs.size ≠ x := Nat.ne_of_gt (Heap.lt_size hx)
  refine ks_wpAt_execs_cons ?_
  refine sup_stmt (s := ⟨h1, s.gens, s.drawn, s.toks + _, s.os⟩) T (env := callEnv fd s.heap.objs.size fI) (x := x) (t0 := t0) (m := fun y => (((("self" : Str) :: ps).zip (Value.ref x :: us)).reverse).lookup y) (mg := mg) (mb := mb) (first := "self")
    X1 (k1 _ _ hx) hns hself (hG.keeps k1) hgs (hBn.keeps k1) hbs I.kind I.ks I.kc I.kf ?_ rfl T.cdv T.gl T.bl I.pp hint (fun s' hn' _ Q' hq' => hmsg _ _ _ _ _ hn' hq') (fun h2 tk2 t2 k2 hx2 hsz => ?_) hsw hmc hst hpl
  · show List.lookup ("__class__" : Str) fd.closure = some cc
    rw [T.clo]; simp [List.lookup]
  refine wpAt_of_wpAny ?_
  have sz1 : s.heap.objs.size < h1.objs.size := hns.lt
  refine fields_run T (env := callEnv fd s.heap.objs.size fI) (m := fun y => (((("self" : Str) :: ps).zip (Value.ref x :: us)).reverse).lookup y) (h0 := h1) (x := x) (t := t2) (first := "self") X1 hxK hns hLx (Heap.lt_size (k1 _ _ hx)) hself I.kf (by decide) I.kind hFS [] none _ _ hf (by simpa using hfl) k2 ⟨rfl, hx2, hsz⟩ (fun h' tk d' kp st hd => ?_)
  refine hq h' tk t2 d' (fun b o hb z => kp b o hb (k1 b o z)) ?_ ⟨fun z => hd.mp (.inl z), fun z => (hd.mpr z).elim id fun y => absurd rfl y⟩
  rw [List.append_nil] at st
  cases d' with
  | none => exact ⟨st.1, st.2.1, Nat.le_trans (Nat.le_of_lt sz1) st.2.2⟩
  | some dx => exact ⟨Nat.le_trans (Nat.le_of_lt sz1) st.1, st.2.1, st.2.2.1, st.2.2.2⟩
end
end USup
end PySem
namespace L2
open PySem PySem.Spec PyProof.Rows PySem.USup
abbrev KV1 : List (Str × V) → List (Str × Value) → Prop := Paired fun p q => p.1 = q.1 ∧ RelV p.2 q.2
theorem kv1_zip : ∀ {ps : List Str} {vs : List V} {us : List Value}, Vals vs us → KV1 (ps.zip vs) (ps.zip us)
  | [], _, _, _ => by rw [List.zip_nil_left, List.zip_nil_left]; exact .nil
  | _ :: _, [], _, .nil => .nil
  | p :: ps, v :: vs, _, .cons r t => .cons ⟨rfl, r⟩ (kv1_zip t)
theorem kv1_rev : ∀ {l : List (Str × V)} {l' : List (Str × Value)}, KV1 l l' → KV1 l.reverse l'.reverse
  | _, _, .nil => .nil
  | _, _, .cons r t => by rw [List.reverse_cons, List.reverse_cons]; exact (kv1_rev t).snoc r
theorem kv1_look {x : Str} : ∀ {l : List (Str × V)} {l' : List (Str × Value)}, KV1 l l' → RelO (l.lookup x) (l'.lookup x)
  | _, _, .nil => True.intro
  | (f, v) :: l, (g, u) :: l', .cons ⟨e, r⟩ t => by
    have e' : f = g := e
    subst e'
    by_cases h : x = f
    · subst h; simp only [List.lookup, beq_self_eq_true]; exact r
    · have h' : (x == f) = false := by simpa using h
      simp only [List.lookup, h']
      exact kv1_look t
theorem relO_getD {o : Option V} {o' : Option Value} (r : RelO o o') : RelV (o.getD .non) (o'.getD .none) := by
  cases o <;> cases o' <;> first | exact r | exact r.elim | rfl
theorem look_app_ne {x f : Str} {u : Value} (h : x ≠ f) : ∀ (l : List (Str × Value)), (l ++ [(f, u)]).lookup x = l.lookup x
  | [] => by
    have h' : (x == f) = false := by simpa using h
    show List.lookup x [(f, u)] = none
    simp only [List.lookup, h']
  | (g, w) :: l => by
    by_cases e : x = g
    · subst e; simp only [List.cons_append, List.lookup, beq_self_eq_true]
    · have e' : (x == g) = false := by simpa using e
      simp only [List.cons_append, List.lookup, e']
      exact look_app_ne h l
/-- the fields of a made exception, the last stored first -/
def fldV (ps : List Str) (vs : List V) (fs : List (Str × Str)) : List (Str × V) := (fs.map fun fp => (fp.1, (((ps.zip vs).reverse).lookup fp.2).getD .non)).reverse
/-- C(e, ..): what is asked, and the exception's class, dict, heap -/
def tMkSup (C : Addr) (ps : List Str) (fs : List (Str × Str)) (MV : List V → Prop) (ta : TA) : St → Hp → XK → Prop := fun σ H Q => ta σ H fun vs H1 => vs.length = ps.length ∧ MV vs ∧
  (fs = [] → Q (.ref C) none H1) ∧ (fs ≠ [] → ∀ d, H1 d = none → Q (.ref C) (some d) (upd H1 d (.xd (fldV ps vs fs))))
section
variable {X : Cx} {C fI cc cda : Addr} {fd : FuncData} {x : Str} {p pos : Pos} {e : Expr} {es : List Expr} {ta : TA} {msg : Expr} {ps : List Str} {fs : List (Str × Str)} {MV : List V → Prop} {k : Nat}
theorem made_sup (T : SupCls X.prog X.K C fI cc cda fd) (IT : InitText fd fI ps msg fs) (gS : X.mg "super" = none) (exC : PySem.W.subIn X.K (.ref C) (.type "BaseException") = some true) (tyC : PySem.W.typeIn X.K (.ref C) = some (.type "type")) (hr : Room (k + 1) X.A)
    (hps : ∀ fp ∈ fs, PySem.W.findIn X.K (.ref C) fp.1 = some none ∧ fp.2 ∈ ps) (hfl : fs.length ≤ 100) (hpl : ps.length ≤ 1000)
    (hmsg : ∀ (vs : List V) (us : List Value) (a : Addr) (L : Addr), Vals vs us → vs.length = ps.length → MV vs → MsgOk X.prog X.w (callEnv fd L fI) (fun y => (((("self" : Str) :: ps).zip (Value.ref a :: us)).reverse).lookup y) msg)
    {pins : List (Addr × Obj)} {σ : St} {H : Hp} {s : Shared} {vs : List V} {us : List Value} {Q : XK} (I : Inv X pins σ H s) (r : Vals vs us) (hl : vs.length = ps.length) (hMV : MV vs)
    (q0 : fs = [] → Q (.ref C) none H) (q1 : fs ≠ [] → ∀ d, H d = none → Q (.ref C) (some d) (upd H d (.xd (fldV ps vs fs)))) :
    wpAny (model X.prog X.w) X.A (call (.ref C) us) (L2N.MkP X pins σ Q) X.xe s := by
  obtain ⟨nm, q, N, bs, bm, sn, sub, ab, col, dd, k0, k1, k2, k3, k5, hC, hbm⟩ := T.cls
  have KI := I.kIn
  have hlim := I.nolimit
  have hus : us.length = ps.length := r.length.symm.trans hl
  obtain ⟨mb, hB, hbb⟩ := I.ok.mod.blt
  have hG := I.ok.mod.glob.keeps I.bk
  have hB' := hB.keeps I.bk
  have bk := I.bk
  obtain ⟨hp, g, dr, tk, os⟩ := s
  have kk : ∀ b o, hp.get? b = some o → ((hp.push (PySem.W.kdv_tup us)).push (PySem.HandSPX.excO C hp.objs.size)).get? b = some o := fun b o e => Heap.get?_push_of_some _ (Heap.get?_push_of_some _ e)
  have hget : ((hp.push (PySem.W.kdv_tup us)).push (PySem.HandSPX.excO C hp.objs.size)).get? (hp.objs.size + 1) = some (PySem.HandSPX.excO C hp.objs.size) := by heap_get
  have fresh : ∀ {b : Addr} {o : Obj}, hp.get? b = some o → b ≠ hp.objs.size + 1 := fun {b o} z => Nat.ne_of_lt (Nat.lt_succ_of_lt (Heap.lt_size z))
  have hnx : X.K.lookup (hp.objs.size + 1) = none := by
    cases e : X.K.lookup (hp.objs.size + 1) with
    | none => rfl
    | some o => exact absurd rfl (fresh (KI _ _ e))
  have sz2 : ((hp.push (PySem.W.kdv_tup us)).push (PySem.HandSPX.excO C hp.objs.size)).objs.size = hp.objs.size + 2 := by rw [Heap.size_push, Heap.size_push]
  have zself : ∀ (a : Addr), ((("self" : Str) :: ps).zip (Value.ref a :: us)).reverse = (ps.zip us).reverse ++ [(("self" : Str), Value.ref a)] := fun a => by rw [List.zip_cons_cons, List.reverse_cons]
  have lk : ∀ (a : Addr) (y : Str), y ∈ ps → (((("self" : Str) :: ps).zip (Value.ref a :: us)).reverse).lookup y = ((ps.zip us).reverse).lookup y := fun a y hy => by
    rw [zself]
    exact look_app_ne (fun z => IT.nself (by rw [← z]; exact hy)) _
  have some_of : ∀ y ∈ ps, ∃ v, ((ps.zip us).reverse).lookup y = some v := fun y hy => by
    cases z : ((ps.zip us).reverse).lookup y with
    | some v => exact ⟨v, rfl⟩
    | none =>
      exfalso
      rw [List.lookup_eq_none_iff] at z
      obtain ⟨i, hi, e⟩ := List.getElem_of_mem hy
      have hi2 : i < us.length := by rw [hus]; exact hi
      have := z (y, us[i]) (List.mem_reverse.mpr (by
        rw [List.mem_iff_getElem]
        exact ⟨i, by rw [List.length_zip]; omega, by rw [List.getElem_zip, e]⟩))
      simp at this
  refine wpAny_call (PySem.HandSPX.call_own F.excBase_ValueError (fun Y => PySem.HandSPX.refsVE_contains Y bm hbm) (KI _ _ hC) (PySem.W.looks_findIn KI T.iC) (fun self => PySem.W.bind_fn KI self T.tC) (by rw [sizeLine_eq]; omega) ?_)
  refine sup_init T IT (x := hp.objs.size + 1) (t0 := hp.objs.size) (us := us) (mg := X.mg) (mb := mb) (s := ⟨(hp.push (PySem.W.kdv_tup us)).push (PySem.HandSPX.excO C hp.objs.size), g, dr, tk, os⟩) (KI.keeps kk) (hlim.keeps kk) (hG.keeps kk) gS (hB'.keeps kk) (hbb _ (by decide))
    ?_ ?_ hget hnx (by have := hr.dp; show X.A.depth + 1 < recursionLimit; omega) hus (fun L => hmsg vs us _ L r hl hMV) (fun fp hfp => ⟨(hps fp hfp).1, by rw [lk _ _ (hps fp hfp).2]; exact some_of _ (hps fp hfp).2⟩) hfl (fun h' tk' t d' kp st hd => ?_)
  · obtain ⟨o, es', ep, e, _⟩ := hG
    exact fresh e
  · obtain ⟨o, es', ep, e, _⟩ := hB'
    exact fresh e
  show PySem.W.InitBack _ _ _ _
  have kh : ∀ b o, hp.get? b = some o → h'.get? b = some o := fun b o z => kp b o (fresh z) (kk b o z)
  obtain ⟨G', g1, g2⟩ := restrict h' fun b => decide (b ≠ hp.objs.size + 1)
  have gk : ∀ b, b ≠ hp.objs.size + 1 → G'.get? b = h'.get? b := fun b hb => g1 b (decide_eq_true hb)
  have ge : G'.get? (hp.objs.size + 1) = none := g2 _ (by simp)
  have old : ∀ b o, hp.get? b = some o → G'.get? b = some o := fun b o z => (gk b (fresh z)).trans (kh b o z)
  have back : ∀ b o, G'.get? b = some o → h'.get? b = some o := fun b o z => by
    by_cases hb : b = hp.objs.size + 1
    · rw [hb, ge] at z; cases z
    · exact (gk b hb).symm.trans z
  have hnone : H (hp.objs.size + 1) = none := I.hok.fresh (Nat.le_succ _)
  cases d' with
  | none =>
    have fe : fs = [] := Classical.byContradiction fun z => hd.mp z rfl
    have J : Inv X pins σ H ⟨G', g, dr, tk', os⟩ := I.kept (t' := tk') old
    exact ⟨rfl, hp.objs.size + 1, _, _, ⟨G', g, dr, tk', os⟩, H, .ref C, none, rfl, J, back, ge, st.2.1, ⟨rfl, rfl, fun vs e => by cases e; rfl⟩, rfl, rfl, hnone, rfl, I.bare, raises_own exC tyC, q0 fe⟩
  | some dx =>
    obtain ⟨sz, dne, hx3, hns⟩ := st
    have dn : hp.objs.size ≤ dx := by rw [sz2] at sz; exact Nat.le_trans (Nat.le_add_right _ 2) sz
    have fne : fs ≠ [] := hd.mpr (fun z => by cases z)
    have rel : ∀ f, RelO (List.lookup f (fldV ps vs fs)) (List.lookup f (fs.map fun fp => (fp.1, ((((("self" : Str) :: ps).zip (Value.ref (hp.objs.size + 1) :: us)).reverse).lookup fp.2).getD .none)).reverse) := fun f => by
      refine kv1_look (kv1_rev ?_)
      have : ∀ l : List (Str × Str), (∀ fp ∈ l, fp.2 ∈ ps) → KV1 (l.map fun fp => (fp.1, (((ps.zip vs).reverse).lookup fp.2).getD .non)) (l.map fun fp => (fp.1, ((((("self" : Str) :: ps).zip (Value.ref (hp.objs.size + 1) :: us)).reverse).lookup fp.2).getD .none)) := by
        intro l
        induction l with
        | nil => intro _; exact .nil
        | cons a r' ih =>
          intro h
          refine .cons ⟨rfl, ?_⟩ (ih fun fp hfp => h fp (List.mem_cons_of_mem _ hfp))
          show RelV ((List.lookup a.2 (ps.zip vs).reverse).getD V.non) ((List.lookup a.2 ((("self" : Str) :: ps).zip (Value.ref (hp.objs.size + 1) :: us)).reverse).getD Value.none)
          rw [lk _ _ (h a List.mem_cons_self)]
          exact relO_getD (kv1_look (kv1_rev (kv1_zip r)))
      exact this fs fun fp hfp => (hps fp hfp).2
    have ob : ObjOk X.prog X.w (upd H dx (.xd (fldV ps vs fs))) G' dx (.xd (fldV ps vs fs)) := ⟨_, hns.at (fun o z => (gk dx dne).trans z), rel⟩
    have J : Inv X pins σ (upd H dx (.xd (fldV ps vs fs))) ⟨G', g, dr, tk', os⟩ := I.laid (t' := tk') old dn ob
    refine ⟨rfl, hp.objs.size + 1, _, _, ⟨G', g, dr, tk', os⟩, _, .ref C, some dx, rfl, J, back, ge, hx3, ⟨rfl, rfl, fun vs e => by cases e; rfl⟩, rfl, rfl, ?_, rfl, I.bare, raises_own exC tyC, q1 fne dx (I.hok.fresh dn)⟩
    rw [upd_ne (Ne.symm dne)]
    exact hnone
end
end L2
namespace L2
open PySem PySem.Spec PyProof.Rows PySem.USup
theorem pmk_sup {X : Cx} {C fI cc cda : Addr} {fd : FuncData} {x : Str} {p pos : Pos} {e : Expr} {es : List Expr} {ta : TA} {msg : Expr} {ps : List Str} {fs : List (Str × Str)} {MV : List V → Prop} {k : Nat}
    (T : SupCls X.prog X.K C fI cc cda fd) (IT : InitText fd fI ps msg fs) (gS : X.mg "super" = none) (gC : X.mg x = some (.ref C)) (kC : PySem.W.keepIn X.K (.ref C) = true) (exC : PySem.W.subIn X.K (.ref C) (.type "BaseException") = some true) (tyC : PySem.W.typeIn X.K (.ref C) = some (.type "type")) (hr : Room (k + 1) X.A)
    (hps : ∀ fp ∈ fs, PySem.W.findIn X.K (.ref C) fp.1 = some none ∧ fp.2 ∈ ps) (hfl : fs.length ≤ 100) (hpl : ps.length ≤ 1000)
    (hmsg : ∀ (vs : List V) (us : List Value) (a : Addr) (L : Addr), Vals vs us → vs.length = ps.length → MV vs → MsgOk X.prog X.w (callEnv fd L fI) (fun y => (((("self" : Str) :: ps).zip (Value.ref a :: us)).reverse).lookup y) msg)
    (ha : PA X (e :: es) ta) (hg : Gl X x) (hdb : (x == ("__debug__" : Str)) = false) (he : starEach (e :: es) X.env = (false, eval e X.env) :: starEach es X.env) (hpl2 : (backTo pos (starEach es X.env)).any (·.1) = false) :
    L2N.PMk X (.Call (.Name x p) (e :: es) [] pos) (tMkSup C ps fs MV ta) := by
  intro pins s σ H Q I h
  refine wpAny_Call_Name_kw (ld_glob I hg gC ?_ hdb)
  refine PySem.W.callWith_K (h₀ := X.base) I.ok.mod.kin kC (thn (ha.run pos pins s σ H _ I h) fun us s1 hh => ?_) he hpl2
  obtain ⟨vs, H1, I1, r1, l1, m1, q0, q1⟩ := hh
  exact ⟨I1.kIn, made_sup T IT gS exC tyC hr hps hfl hpl hmsg I1 r1 l1 m1 q0 q1⟩
theorem pmk_sup0 {X : Cx} {C fI cc cda : Addr} {fd : FuncData} {x : Str} {p pos : Pos} {msg : Expr} {ps : List Str} {fs : List (Str × Str)} {MV : List V → Prop} {k : Nat}
    (T : SupCls X.prog X.K C fI cc cda fd) (IT : InitText fd fI ps msg fs) (gS : X.mg "super" = none) (gC : X.mg x = some (.ref C)) (kC : PySem.W.keepIn X.K (.ref C) = true) (exC : PySem.W.subIn X.K (.ref C) (.type "BaseException") = some true) (tyC : PySem.W.typeIn X.K (.ref C) = some (.type "type")) (hr : Room (k + 1) X.A)
    (hps : ∀ fp ∈ fs, PySem.W.findIn X.K (.ref C) fp.1 = some none ∧ fp.2 ∈ ps) (hfl : fs.length ≤ 100) (hpl : ps.length ≤ 1000)
    (hmsg : ∀ (vs : List V) (us : List Value) (a : Addr) (L : Addr), Vals vs us → vs.length = ps.length → MV vs → MsgOk X.prog X.w (callEnv fd L fI) (fun y => (((("self" : Str) :: ps).zip (Value.ref a :: us)).reverse).lookup y) msg)
    (hg : Gl X x) (hdb : (x == ("__debug__" : Str)) = false) : L2N.PMk X (.Call (.Name x p) [] [] pos) (tMkSup C ps fs MV tNil) := by
  intro pins s σ H Q I h
  refine wpAny_Call_Name_kw (ld_glob I hg gC ?_ hdb)
  obtain ⟨l1, m1, q0, q1⟩ := h
  exact PySem.W.callWith_K0 I.kIn kC (made_sup (us := []) T IT gS exC tyC hr hps hfl hpl hmsg I .nil l1 m1 q0 q1)
/-- an error class of the text as the top has made it -/
structure Er (P : Program) (w : World) (K : PySem.W.Frag) (mg : Str → Option Value) (x : Str) (C : Addr) (ps : List Str) (fs : List (Str × Str)) (MV : List V → Prop) : Prop where
  ex : ∃ fI cc cda fd msg, SupCls P K C fI cc cda fd ∧ InitText fd fI ps msg fs ∧
    ∀ (vs : List V) (us : List Value) (a : Addr) (L : Addr), Vals vs us → vs.length = ps.length → MV vs → MsgOk P w (callEnv fd L fI) (fun y => (((("self" : Str) :: ps).zip (Value.ref a :: us)).reverse).lookup y) msg
  gS : mg "super" = none
  gC : mg x = some (.ref C)
  kC : PySem.W.keepIn K (.ref C) = true
  exC : PySem.W.subIn K (.ref C) (.type "BaseException") = some true
  tyC : PySem.W.typeIn K (.ref C) = some (.type "type")
  hdC : PySem.W.hasDictIn K C = true
  hps : ∀ fp ∈ fs, PySem.W.findIn K (.ref C) fp.1 = some none ∧ fp.2 ∈ ps
  hfl : fs.length ≤ 100
  hpl : ps.length ≤ 1000
theorem pmk_er {X : Cx} {C : Addr} {x : Str} {p pos : Pos} {e : Expr} {es : List Expr} {ta : TA} {ps : List Str} {fs : List (Str × Str)} {MV : List V → Prop} (T : Er X.prog X.w X.K X.mg x C ps fs MV) (hr : Room 1 X.A) (ha : PA X (e :: es) ta) (hg : Gl X x := by rfl)
    (hdb : (x == ("__debug__" : Str)) = false := by decide) (he : starEach (e :: es) X.env = (false, eval e X.env) :: starEach es X.env := by rfl) (hpl2 : (backTo pos (starEach es X.env)).any (·.1) = false := by rfl) :
    L2N.PMk X (.Call (.Name x p) (e :: es) [] pos) (tMkSup C ps fs MV ta) := by
  obtain ⟨fI, cc, cda, fd, msg, S, IT, hm⟩ := T.ex
  exact pmk_sup S IT T.gS T.gC T.kC T.exC T.tyC hr T.hps T.hfl T.hpl hm ha hg hdb he hpl2
theorem pmk_er0 {X : Cx} {C : Addr} {x : Str} {p pos : Pos} {ps : List Str} {fs : List (Str × Str)} {MV : List V → Prop} (T : Er X.prog X.w X.K X.mg x C ps fs MV) (hr : Room 1 X.A) (hg : Gl X x := by rfl)
    (hdb : (x == ("__debug__" : Str)) = false := by decide) : L2N.PMk X (.Call (.Name x p) [] [] pos) (tMkSup C ps fs MV tNil) := by
  obtain ⟨fI, cc, cda, fd, msg, S, IT, hm⟩ := T.ex
  exact pmk_sup0 S IT T.gS T.gC T.kC T.exC T.tyC hr T.hps T.hfl T.hpl hm hg hdb
end L2

/-! ## typed readings: every slot bears a predicate that stands while the heap grows -/
namespace U
open PySem PySem.Spec PyProof.Rows L2
abbrev Pr := V → Hp → Prop
abbrev HR := Hp → Hp → Prop
/-- a list that is a draw's hand: it may be written -/
def hs : List V → Bool
  | [.ref _, .int _, .int _, .int _] => true
  | _ => false
/-- a relation of heaps along which what is known stands -/
class PreT (W : HR) : Prop where
  refl : ∀ H, W H H
  trans : ∀ {a b c : Hp}, W a b → W b c → W a c
  ext : ∀ {a b : Hp}, Evl.Ex a b → W a b
  tup : ∀ {H H' : Hp} {a : Addr} {xs : List V}, W H H' → Rd H a (.tup xs) → Rd H' a (.tup xs)
/-- no hand: what a draw never writes -/
def Safe (H : Hp) (xs : List V) : Prop := hs xs = false ∨ ∃ c r ys, xs = .ref c :: r ∧ Rd H c (.tup ys)
theorem Safe.mono {W : HR} [w : PreT W] {H H' : Hp} {xs : List V} (h : Safe H xs) (e : W H H') : Safe H' xs := h.elim .inl fun ⟨c, r, ys, z, t⟩ => .inr ⟨c, r, ys, z, w.tup e t⟩
class Pre (W : HR) : Prop extends PreT W where
  lst : ∀ {K : PySem.W.Frag} {H H' : Hp} {a : Addr} {xs : List V}, W H H' → Safe H xs → SqL K H a xs → SqL K H' a xs
  wrt : ∀ {a b : Hp} {p : Addr} {o : HO}, W a b → a p = none → W a (upd b p o)
  own : ∀ {H H' : Hp} {a : Addr} {xs : List V}, W H H' → Safe H xs → H a = some (.lst xs) → H' a = some (.lst xs)
/-- what may be written: all else stands -/
def wrO : HO → Bool
  | .lst _ => true
  | .dK _ => true
  | .dT _ => true
  | .set _ _ => true
  | _ => false
def WT (H H' : Hp) : Prop := ∀ b o, H b = some o → wrO o = false → H' b = some o
instance preT_wt : PreT WT := ⟨fun _ _ _ h _ => h, fun a b x o h n => b x o (a x o h n) n, fun e b o h _ => e b o h, fun w h => by
  rcases h with h | ⟨o, h⟩
  · exact .inl (w _ _ h rfl)
  · exact .inr ⟨o, w _ _ h rfl⟩⟩
theorem wt_put {H : Hp} {p : Addr} {o o' : HO} (h : H p = some o) (n : wrO o = true) : WT H (upd H p o') := fun b u e m => by
  by_cases z : b = p
  · subst z; rw [h] at e; cases e; rw [n] at m; cases m
  · rw [upd_ne z]; exact e
class Mn (W : HR) (P : Pr) : Prop where
  mn : ∀ v H H', W H H' → P v H → P v H'
abbrev Ctx := List (Option Pr)
def Ty : Ctx → L2.St → Hp → Prop
  | [], [], _ => True
  | none :: G, _ :: s, H => Ty G s H
  | some P :: G, x :: s, H => (∃ v, x = some v ∧ P v H) ∧ Ty G s H
  | _, _, _ => False
class MnC (W : HR) (G : Ctx) : Prop where
  all : ∀ P, some P ∈ G → Mn W P
instance mnc_nil {W : HR} : MnC W [] := ⟨fun _ h => by cases h⟩
instance mnc_none {W : HR} {G : Ctx} [g : MnC W G] : MnC W (none :: G) := ⟨fun P h => by
  rcases List.mem_cons.mp h with e | e
  · cases e
  · exact g.all P e⟩
instance mnc_some {W : HR} {P : Pr} {G : Ctx} [p : Mn W P] [g : MnC W G] : MnC W (some P :: G) := ⟨fun Q h => by
  rcases List.mem_cons.mp h with e | e
  · cases e; exact p
  · exact g.all Q e⟩
instance mnc_set {W : HR} {P : Pr} {G : Ctx} {i : Nat} [p : Mn W P] [g : MnC W G] : MnC W (G.set i (some P)) := ⟨fun Q h => by
  rcases List.mem_or_eq_of_mem_set h with e | e
  · exact g.all Q e
  · cases e; exact p⟩
theorem ty_mn {W : HR} : ∀ {G : Ctx} {s : L2.St} {H H' : Hp}, (∀ P, some P ∈ G → Mn W P) → W H H' → Ty G s H → Ty G s H'
  | [], [], _, _, _, _, h => h
  | [], _ :: _, _, _, _, _, h => h.elim
  | none :: _, [], _, _, _, _, h => h.elim
  | some _ :: _, [], _, _, _, _, h => h.elim
  | none :: G, _ :: s, _, _, g, w, h => ty_mn (G := G) (s := s) (fun P e => g P (List.mem_cons_of_mem _ e)) w h
  | some P :: G, _ :: s, _, _, g, w, h => ⟨let ⟨v, e, p⟩ := h.1; ⟨v, e, (g P List.mem_cons_self).mn v _ _ w p⟩, ty_mn (G := G) (s := s) (fun P e => g P (List.mem_cons_of_mem _ e)) w h.2⟩
theorem MnC.mn {W : HR} {G : Ctx} (g : MnC W G) (s : L2.St) (H H' : Hp) (w : W H H') (h : Ty G s H) : Ty G s H' := ty_mn g.all w h
theorem Ty.get : ∀ {G : Ctx} {s : L2.St} {H : Hp} {i : Nat} {P : Pr}, Ty G s H → G[i]? = some (some P) → ∃ v, s[i]? = some (some v) ∧ P v H
  | [], _, _, _, _, _, e => by simp at e
  | none :: G, [], _, _, _, h, _ => h.elim
  | some _ :: G, [], _, _, _, h, _ => h.elim
  | none :: G, x :: s, H, 0, P, _, e => by simp at e
  | none :: G, x :: s, H, i + 1, P, h, e => by
    obtain ⟨v, a, b⟩ := Ty.get (G := G) (s := s) (i := i) h (by simpa using e)
    exact ⟨v, by simpa using a, b⟩
  | some Q :: G, x :: s, H, 0, P, h, e => by
    obtain ⟨⟨v, a, b⟩, _⟩ := h
    have e' : Q = P := by simpa using e
    subst e'
    exact ⟨v, by simpa using a, b⟩
  | some Q :: G, x :: s, H, i + 1, P, h, e => by
    obtain ⟨v, a, b⟩ := Ty.get (G := G) (s := s) (i := i) h.2 (by simpa using e)
    exact ⟨v, by simpa using a, b⟩
theorem Ty.put : ∀ {G : Ctx} {s : L2.St} {H : Hp} {i : Nat} {P : Pr} {v : V}, Ty G s H → P v H → Ty (G.set i (some P)) (s.set i (some v)) H
  | [], [], _, _, _, _, h, _ => h
  | [], _ :: _, _, _, _, _, h, _ => h.elim
  | none :: G, [], _, _, _, _, h, _ => h.elim
  | some _ :: G, [], _, _, _, _, h, _ => h.elim
  | none :: G, x :: s, H, 0, P, v, h, p => ⟨⟨v, rfl, p⟩, h⟩
  | some _ :: G, x :: s, H, 0, P, v, h, p => ⟨⟨v, rfl, p⟩, h.2⟩
  | none :: G, x :: s, H, i + 1, P, v, h, p => Ty.put (G := G) (s := s) (i := i) h p
  | some _ :: G, x :: s, H, i + 1, P, v, h, p => ⟨h.1, Ty.put (G := G) (s := s) (i := i) h.2 p⟩
/-- what may be raised, and where it goes: W the heaps' relation, E the wish, GX the slots there, X the exception -/
abbrev XP := Value → Option Addr → Hp → Prop
structure Rs where
  W : HR
  E : L2.St → XK
  GX : Ctx
  X : XP
def NoX : XP := fun _ _ _ => False
def Hx (Y : Rs) (H : Hp) : Prop := ∀ s cls d H', Y.W H H' → Ty Y.GX s H' → Y.X cls d H' → Y.E s cls d H'
theorem Hx.mono {Y : Rs} [w : PreT Y.W] {H H' : Hp} (h : Hx Y H) (e : Y.W H H') : Hx Y H' := fun s cls d H2 e2 t x => h s cls d H2 (w.trans e e2) t x
/-- what e evaluates to, wherever the slots are so -/
def Ev (Y : Rs) (G : Ctx) (te : TE) (P : Pr) : Prop := ∀ s H, Ty G s H → Hx Y H → ∀ Q : VK, (∀ v H2, Y.W H H2 → P v H2 → Q v H2) → te s H Q
def EvT (Y : Rs) (G : Ctx) (tt : TT) (b : Bool) : Prop := ∀ s H, Ty G s H → Hx Y H → ∀ Q : Bool → Hp → Prop, (∀ H2, Y.W H H2 → Q b H2) → tt s H Q
def AllP : List Pr → List V → Hp → Prop
  | [], [], _ => True
  | P :: Ps, v :: vs, H => P v H ∧ AllP Ps vs H
  | _, _, _ => False
class MnL (W : HR) (Ps : List Pr) : Prop where
  mn : ∀ vs H H', W H H' → AllP Ps vs H → AllP Ps vs H'
instance mnl_nil {W : HR} : MnL W [] := ⟨fun vs H H' _ h => by cases vs <;> exact h⟩
instance mnl_cons {W : HR} {P : Pr} {Ps : List Pr} [p : Mn W P] [g : MnL W Ps] : MnL W (P :: Ps) := ⟨fun vs H H' w h => by
  cases vs with
  | nil => exact h
  | cons x vs => exact ⟨p.mn x H H' w h.1, g.mn vs H H' w h.2⟩⟩
def EvA (Y : Rs) (G : Ctx) (ta : TA) (Ps : List Pr) : Prop := ∀ s H, Ty G s H → Hx Y H → ∀ Q : List V → Hp → Prop, (∀ vs H2, Y.W H H2 → AllP Ps vs H2 → Q vs H2) → ta s H Q
/-- an operation on values -/
def Op2 (W : HR) (r : R2) (P1 P2 P : Pr) : Prop := ∀ x y H, P1 x H → P2 y H → ∀ Q : VK, (∀ v H2, W H H2 → P v H2 → Q v H2) → r x y H Q
def Op1 (W : HR) (r : V → Hp → VK → Prop) (P1 P : Pr) : Prop := ∀ x H, P1 x H → ∀ Q : VK, (∀ v H2, W H H2 → P v H2 → Q v H2) → r x H Q
def OpA (W : HR) (r : List V → Hp → VK → Prop) (Ps : List Pr) (P : Pr) : Prop := ∀ vs H, AllP Ps vs H → ∀ Q : VK, (∀ v H2, W H H2 → P v H2 → Q v H2) → r vs H Q
/-- a def called: it yields P, or raises X (where one cannot be, it is shown as False) -/
def Cl (W : HR) (sp : Sp) (Ps : List Pr) (P : Pr) (X : XP) : Prop := ∀ vs H, AllP Ps vs H → ∀ (Q : VK) (E : XK), (∀ v H2, W H H2 → P v H2 → Q v H2) → (∀ cls d H2, W H H2 → X cls d H2 → E cls d H2) → sp vs H Q E
/-- just this value -/
def Is (z : V) : Pr := fun v _ => v = z
instance mn_is {W : HR} {z : V} : Mn W (Is z) := ⟨fun _ _ _ _ h => h⟩
def Sub (G G' : Ctx) : Prop := ∀ s H, Ty G s H → Ty G' s H
section
variable {Y : Rs} [w : PreT Y.W] {G : Ctx} {ta tb te : TE} {t u : TT} {P P1 P2 P' : Pr} {r : R2} {K : PySem.W.Frag}
omit w in
theorem Ev.sub (h : Ev Y G te P) (k : ∀ v H, P v H → P' v H) : Ev Y G te P' := fun s H ty hx Q q => h s H ty hx Q fun v H2 w p => q v H2 w (k v H2 p)
theorem ev_var {i : Nat} (h : G[i]? = some (some P)) : Ev Y G (tVar i) P := fun s H ty hx Q q => by
  obtain ⟨v, e, p⟩ := ty.get h
  exact ⟨v, e, q v H (w.refl H) p⟩
theorem ev_c {z : V} : Ev Y G (tC z) (Is z) := fun s H _ _ Q q => q z H (w.refl H) rfl
theorem ev_op [mc : MnC Y.W G] [m1 : Mn Y.W P1] (ha : Ev Y G ta P1) (hb : Ev Y G tb P2) (ho : Op2 Y.W r P1 P2 P) : Ev Y G (tOp r ta tb) P := fun s H ty hx Q q =>
  ha s H ty hx _ fun x H1 w1 p1 => hb s H1 (mc.mn s H H1 w1 ty) (hx.mono w1) _ fun y H2 w2 p2 => ho x y H2 (m1.mn x H1 H2 w2 p1) p2 Q fun v H3 w3 p => q v H3 (w.trans (w.trans w1 w2) w3) p
theorem ev_un {r : V → Hp → VK → Prop} (ha : Ev Y G ta P1) (ho : Op1 Y.W r P1 P) : Ev Y G (tUn r ta) P := fun s H ty hx Q q =>
  ha s H ty hx _ fun x H1 w1 p1 => ho x H1 p1 Q fun v H3 w3 p => q v H3 (w.trans w1 w3) p
theorem ea_nil : EvA Y G tNil [] := fun s H _ _ Q q => q [] H (w.refl H) True.intro
theorem ea_cons [mc : MnC Y.W G] [m1 : Mn Y.W P1] {tr : TA} {Ps : List Pr} (ha : Ev Y G ta P1) (hr : EvA Y G tr Ps) : EvA Y G (tCons ta tr) (P1 :: Ps) := fun s H ty hx Q q =>
  ha s H ty hx _ fun x H1 w1 p1 => hr s H1 (mc.mn s H H1 w1 ty) (hx.mono w1) _ fun vs H2 w2 p2 => q (x :: vs) H2 (w.trans w1 w2) ⟨m1.mn x H1 H2 w2 p1, p2⟩
theorem ev_cb {r : List V → Hp → VK → Prop} {tr : TA} {Ps : List Pr} (ha : EvA Y G tr Ps) (ho : OpA Y.W r Ps P) : Ev Y G (tCB r tr) P := fun s H ty hx Q q =>
  ha s H ty hx _ fun vs H1 w1 p1 => ho vs H1 p1 Q fun v H2 w2 p => q v H2 (w.trans w1 w2) p
theorem ev_call {sp : Sp} {tr : TA} {E : L2.St → XK} {Ps : List Pr} (ha : EvA Y G tr Ps) (ho : Cl Y.W sp Ps P NoX) : Ev Y G (tCallS sp E tr) P := fun s H ty hx Q q =>
  ha s H ty hx _ fun vs H1 w1 p1 => ho vs H1 p1 Q _ (fun v H2 w2 p => q v H2 (w.trans w1 w2) p) fun _ _ _ _ z => z.elim
theorem ev_callX [mc : MnC Y.W G] {sp : Sp} {tr : TA} {Ps : List Pr} (ha : EvA Y G tr Ps) (ho : Cl Y.W sp Ps P Y.X) (sb : Sub G Y.GX) : Ev Y G (tCallS sp Y.E tr) P := fun s H ty hx Q q =>
  ha s H ty hx _ fun vs H1 w1 p1 => ho vs H1 p1 Q _ (fun v H2 w2 p => q v H2 (w.trans w1 w2) p) fun cls d H2 w2 x => hx s cls d H2 (w.trans w1 w2) (sb s H2 (mc.mn s H H2 (w.trans w1 w2) ty)) x
omit w in
theorem et_test {b : Bool} (h : Ev Y G te (Is (.bl b))) : EvT Y G (tTest te) b := fun s H ty hx Q q => h s H ty hx _ fun v H2 w e => ⟨b, e, q H2 w⟩
omit w in
theorem et_B {b : Bool} (h : Ev Y G te (Is (.bl b))) : EvT Y G (tB te) b := fun s H ty hx Q q => h s H ty hx _ fun v H2 w e => ⟨b, e, q H2 w⟩
theorem et_and [mc : MnC Y.W G] {a b : Bool} (h1 : EvT Y G t a) (h2 : a = true → EvT Y G u b) : EvT Y G (tAnd t u) (a && b) := fun s H ty hx Q q => h1 s H ty hx _ fun H1 w1 => by
  cases a with
  | true => exact h2 rfl s H1 (mc.mn s H H1 w1 ty) (hx.mono w1) Q fun H2 w2 => q H2 (w.trans w1 w2)
  | false => exact q H1 w1
theorem et_or [mc : MnC Y.W G] {a b : Bool} (h1 : EvT Y G t a) (h2 : a = false → EvT Y G u b) : EvT Y G (tOr t u) (a || b) := fun s H ty hx Q q => h1 s H ty hx _ fun H1 w1 => by
  cases a with
  | true => exact q H1 w1
  | false => exact h2 rfl s H1 (mc.mn s H H1 w1 ty) (hx.mono w1) Q fun H2 w2 => q H2 (w.trans w1 w2)
omit w in
theorem et_not {a : Bool} (h1 : EvT Y G t a) : EvT Y G (tNot t) (!a) := fun s H ty hx Q q => h1 s H ty hx _ fun H2 w2 => q H2 w2
omit w in
theorem EvT.to {a b : Bool} (h : EvT Y G t a) (e : a = b) : EvT Y G t b := e ▸ h
omit w in
theorem Ev.to {z z' : V} (h : Ev Y G te (Is z)) (e : z = z') : Ev Y G te (Is z') := e ▸ h
theorem ev_andV [mc : MnC Y.W G] {a b : Bool} (h1 : Ev Y G ta (Is (.bl a))) (h2 : a = true → Ev Y G tb (Is (.bl b))) : Ev Y G (tAndV ta tb) (Is (.bl (a && b))) := fun s H ty hx Q q => h1 s H ty hx _ fun v H1 w1 e => ⟨a, e, by
  cases a with
  | true => exact h2 rfl s H1 (mc.mn s H H1 w1 ty) (hx.mono w1) Q fun v2 H2 w2 e2 => q v2 H2 (w.trans w1 w2) e2
  | false => exact q _ H1 w1 rfl⟩
theorem ev_orV [mc : MnC Y.W G] {a b : Bool} (h1 : Ev Y G ta (Is (.bl a))) (h2 : a = false → Ev Y G tb (Is (.bl b))) : Ev Y G (tOrV ta tb) (Is (.bl (a || b))) := fun s H ty hx Q q => h1 s H ty hx _ fun v H1 w1 e => ⟨a, e, by
  cases a with
  | true => exact q _ H1 w1 rfl
  | false => exact h2 rfl s H1 (mc.mn s H H1 w1 ty) (hx.mono w1) Q fun v2 H2 w2 e2 => q v2 H2 (w.trans w1 w2) e2⟩
omit w in
theorem ev_notV {a : Bool} (h1 : Ev Y G ta (Is (.bl a))) : Ev Y G (tNotV ta) (Is (.bl (!a))) := fun s H ty hx Q q => h1 s H ty hx _ fun v H1 w1 e => ⟨a, e, q _ H1 w1 rfl⟩
theorem ev_if [mc : MnC Y.W G] {b : Bool} (h : EvT Y G t b) (h1 : b = true → Ev Y G ta P) (h2 : b = false → Ev Y G tb P) : Ev Y G (tIf t ta tb) P := fun s H ty hx Q q => h s H ty hx _ fun H1 w1 => by
  cases b with
  | true => exact h1 rfl s H1 (mc.mn s H H1 w1 ty) (hx.mono w1) Q fun v2 H2 w2 e2 => q v2 H2 (w.trans w1 w2) e2
  | false => exact h2 rfl s H1 (mc.mn s H H1 w1 ty) (hx.mono w1) Q fun v2 H2 w2 e2 => q v2 H2 (w.trans w1 w2) e2
/-- a tuple, its items -/
def Tup (K : PySem.W.Frag) (Ps : List Pr) : Pr := fun v H => ∃ p xs, v = .ref p ∧ Rd H p (.tup xs) ∧ AllP Ps xs H
instance mn_tup {W : HR} [w : PreT W] {K : PySem.W.Frag} {Ps : List Pr} [ml : MnL W Ps] : Mn W (Tup K Ps) := ⟨fun v H H' h ⟨p, xs, e, hs, hp⟩ => ⟨p, xs, e, w.tup h hs, ml.mn xs H H' h hp⟩⟩
theorem allp_len : ∀ {Ps : List Pr} {vs : List V} {H : Hp}, AllP Ps vs H → vs.length = Ps.length
  | [], [], _, _ => rfl
  | [], _ :: _, _, h => h.elim
  | _ :: _, [], _, h => h.elim
  | _ :: _, _ :: _, _, h => by rw [List.length_cons, List.length_cons, allp_len h.2]
theorem ev_tup {tr : TA} {Ps : List Pr} [ml : MnL Y.W Ps] (ha : EvA Y G tr Ps) (hl : Ps.length ≤ 100000 := by first | decide | (simp only [List.length_cons, List.length_nil]; decide)) : Ev Y G (tTup tr) (Tup K Ps) := fun s H ty hx Q q =>
  ha s H ty hx _ fun vs H1 w1 p1 => ⟨by rw [allp_len p1]; exact Evl.sz_of hl, fun p hp => by
    have w2 : Y.W H1 (upd H1 p (.tup vs)) := w.ext (Evl.Ex.new hp)
    exact q _ _ (w.trans w1 w2) ⟨p, vs, rfl, Rd.of upd_same, ml.mn vs _ _ w2 p1⟩⟩

/-! ### statements -/
/-- from the typed slots: where it goes on (N), what it returns (R) -/
def St (Y : Rs) (G : Ctx) (ts : TS) (N : Ctx) (R : Pr) : Prop := ∀ s H (D : Ends), Ty G s H → Hx Y H → (∀ s' H', Y.W H H' → Ty N s' H' → D.nx s' H') → (∀ v H', Y.W H H' → R v H' → D.rt v H') → ts D s H
variable {ts tu tr : TS} {N M : Ctx} {R : Pr}
theorem st_seq (h1 : St Y G ts M R) (h2 : St Y M tu N R) : St Y G (tSeq ts tu) N R := fun s H D ty hx n r =>
  h1 s H _ ty hx (fun s' H' w1 ty' => h2 s' H' D ty' (hx.mono w1) (fun s2 H2 w2 t2 => n s2 H2 (w.trans w1 w2) t2) fun v H2 w2 p => r v H2 (w.trans w1 w2) p) r
omit w in
theorem st_ret (h : Ev Y G te R) : St Y G (tRet te) N R := fun s H D ty hx _ r => h s H ty hx _ fun v H2 w p => r v H2 w p
theorem st_next : St Y G tNext G R := fun s H D ty hx n _ => n s H (w.refl H) ty
theorem st_set [mc : MnC Y.W G] {i : Nat} (h : Ev Y G te P) : St Y G (tAsg te (gName i)) (G.set i (some P)) R := fun s H D ty hx n _ =>
  h s H ty hx _ fun v H2 w2 p => n _ H2 w2 ((mc.mn s H H2 w2 ty).put p)
theorem st_drop [mc : MnC Y.W G] (h : Ev Y G te P) : St Y G (tDrop te) G R := fun s H D ty hx n _ =>
  h s H ty hx _ fun v H2 w2 p => n _ H2 w2 (mc.mn s H H2 w2 ty)
theorem st_if [mc : MnC Y.W G] {b : Bool} (h : EvT Y G t b) (h1 : b = true → St Y G ts N R) (h2 : b = false → St Y G tu N R) : St Y G (tIfS t ts tu) N R := fun s H D ty hx n r => h s H ty hx _ fun H1 w1 => by
  cases b with
  | true => exact h1 rfl s H1 D (mc.mn s H H1 w1 ty) (hx.mono w1) (fun s2 H2 w2 t2 => n s2 H2 (w.trans w1 w2) t2) fun v H2 w2 p => r v H2 (w.trans w1 w2) p
  | false => exact h2 rfl s H1 D (mc.mn s H H1 w1 ty) (hx.mono w1) (fun s2 H2 w2 t2 => n s2 H2 (w.trans w1 w2) t2) fun v H2 w2 p => r v H2 (w.trans w1 w2) p
/-- a, b = a tuple of two -/
theorem st_un2 [mc : MnC Y.W G] {i j : Nat} (h : Ev Y G te (Tup K [P1, P2])) :
    St Y G (tAsg te (gTup K 2 (gCons (gName i) (gCons (gName j) gNil)))) ((G.set i (some P1)).set j (some P2)) R := fun s H D ty hx n _ =>
  h s H ty hx _ fun v H2 w2 ⟨p, xs, e, hs, hp⟩ => by
    obtain ⟨a, b, rfl⟩ : ∃ a b, xs = [a, b] := by
      have l := allp_len hp
      match xs, l with
      | [a, b], _ => exact ⟨a, b, rfl⟩
    exact ⟨p, [a, b], e, .inl hs, rfl, a, [b], rfl, b, [], rfl, rfl, n _ H2 w2 (((mc.mn s H H2 w2 ty).put hp.1).put hp.2.1)⟩
/-- a, b = x, y -/
theorem st_par [mc : MnC Y.W G] {i j : Nat} {tr : TA} (h : EvA Y G tr [P1, P2]) : St Y G (tPar i j tr) ((G.set i (some P1)).set j (some P2)) R := fun s H D ty hx n _ =>
  h s H ty hx _ fun vs H2 w2 hp => by
    obtain ⟨a, b, rfl⟩ : ∃ a b, vs = [a, b] := by
      have l := allp_len hp
      match vs, l with
      | [a, b], _ => exact ⟨a, b, rfl⟩
    exact ⟨a, b, rfl, n _ H2 w2 (((mc.mn s H H2 w2 ty).put hp.1).put hp.2.1)⟩
/-- raise -/
theorem st_raise {tm : L2.St → Hp → XK → Prop} (sb : Sub G Y.GX) (h : ∀ s H (Q : XK), Ty G s H → (∀ cls d H', Y.W H H' → Ty G s H' → Y.X cls d H' → Q cls d H') → tm s H Q) : St Y G (fun _ s H => tm s H fun cls d H' => Y.E s cls d H') N R := fun s H D ty hx _ _ =>
  h s H _ ty fun cls d H' w2 ty2 x => hx s cls d H' w2 (sb s H' ty2) x
end
/-! ### defs -/
/-- a promise: with arguments so (one of several), such a value, or such an exception -/
structure Way where
  Ps : List Pr
  P : Pr
  X : XP
class LeR (W W' : HR) : Prop where
  le : ∀ a b, W a b → W' a b
instance le_ex {W : HR} [w : PreT W] : LeR Evl.Ex W := ⟨fun _ _ h => w.ext h⟩
instance le_self {W : HR} : LeR W W := ⟨fun _ _ h => h⟩
def SpW (W : HR) {I : Type} (C : I → Prop) (f : I → Way) : Sp := fun vs H Q E => ∃ i, C i ∧ AllP (f i).Ps vs H ∧ (∀ v H', W H H' → (f i).P v H' → Q v H') ∧ ∀ cls d H', W H H' → (f i).X cls d H' → E cls d H'
theorem cl_of {W W' : HR} [l : LeR W W'] {I : Type} {C : I → Prop} {f : I → Way} (i : I) (c : C i) : Cl W' (SpW W C f) (f i).Ps (f i).P (f i).X := fun vs H h Q E q e => ⟨i, c, h, fun v H' x p => q v H' (l.le _ _ x) p, fun cls d H' x p => e cls d H' (l.le _ _ x) p⟩
/-- the def at the global name x -/
structure Df (P : Program) (w : World) (K : PySem.W.Frag) (mg : Str → Option Value) (base : Heap) (k : Nat) (x : Str) (ps : List Str) (sp : Sp) : Prop where
  ex : ∃ f fd, FnOk P w K mg base (L2N.CX P w) k f fd ps sp ∧ mg x = some (.ref f) ∧ PySem.W.keepIn K (.ref f) = true ∧ Binds K fd ps []
theorem pe_df {X : Cx} {k : Nat} {ps : List Str} {sp : Sp} {W : WX} {x : Str} {p pos : Pos} {e : Expr} {es : List Expr} {t : TA} (F : Df X.prog X.w X.K X.mg X.base k x ps sp) (hr : Room k X.A) (tk : L2N.Takes X W) (ha : PA X (e :: es) t) (hg : Gl X x := by rfl)
    (hdb : (x == ("__debug__" : Str)) = false := by decide) (he : starEach (e :: es) X.env = (false, eval e X.env) :: starEach es X.env := by rfl) (hpl : (backTo pos (starEach es X.env)).any (·.1) = false := by rfl) :
    PE X (.Call (.Name x p) (e :: es) [] pos) (tCallS sp (WE W) t) := by
  obtain ⟨f, fd, F1, F2, F3, F4⟩ := F.ex
  exact pe_callS F1 hr hg F2 F3 F4 (fun σ => L2N.passAt tk σ) ha hdb he hpl
/-- the slots at a def's entry -/
def entry (Ps : List Pr) (n : Nat) : Ctx := Ps.map some ++ List.replicate (n - Ps.length) none
theorem ty_none : ∀ (n : Nat) (H : Hp), Ty (List.replicate n none) (List.replicate n none) H
  | 0, _ => True.intro
  | n + 1, H => ty_none n H
theorem ty_entry : ∀ {Ps : List Pr} {vs : List V} {H : Hp} {n : Nat}, AllP Ps vs H → Ty (Ps.map some ++ List.replicate n none) (vs.map some ++ List.replicate n none) H
  | [], [], H, n, _ => ty_none n H
  | [], _ :: _, _, _, h => h.elim
  | _ :: _, [], _, _, h => h.elim
  | P :: Ps, v :: vs, H, n, h => ⟨⟨v, rfl, h.1⟩, ty_entry h.2⟩
/-- never reached -/
def Dead : Ctx := [some fun _ _ => False]
theorem dead {s : L2.St} {H : Hp} (h : Ty Dead s H) : False := by
  cases s with
  | nil => exact h
  | cons x s => obtain ⟨⟨_, _, z⟩, _⟩ := h; exact z
abbrev RsW (W : HR) (E : XK) (X : XP) (n : Nat) : Rs := ⟨W, fun _ => E, List.replicate n none, X⟩
abbrev RsE (E : XK) (X : XP) (n : Nat) : Rs := RsW Evl.Ex E X n
theorem sub_none : ∀ {G : Ctx} {n : Nat}, G.length = n → Sub G (List.replicate n none)
  | [], 0, _, s, H, h => by cases s <;> exact h
  | none :: G, n + 1, l, [], H, h => h
  | some _ :: G, n + 1, l, [], H, h => h
  | none :: G, n + 1, l, _ :: s, H, h => sub_none (G := G) (n := n) (by simpa using l) s H h
  | some _ :: G, n + 1, l, _ :: s, H, h => sub_none (G := G) (n := n) (by simpa using l) s H h.2
instance pre_ex : Pre Evl.Ex where
  refl := Evl.Ex.refl
  trans := fun a b => a.trans b
  ext := fun h => h
  tup := fun w h => Evl.ex_rd w h
  lst := fun w _ h => Evl.ex_l w h
  wrt := fun w h => w.mut h
  own := fun w _ h => w _ _ h
section
variable {P : Program} {w : World} {K : PySem.W.Frag} {mg : Str → Option Value} {base : Heap}
theorem _root_.L2.Fun.okN {x qual : Str} {st : Stmt} {f : Addr} {fd : FuncData} {N ps : List Str} {k : Nat} {sp : Sp} (F : Fun K x qual st f fd) (S : FnScope N ps (defScope st)) (len : ∀ vs H Q E, sp vs H Q E → vs.length = ps.length)
    (body : ∀ (cdv : Value) (A : Around) (outer : List Env) (s : Shared) (H : Hp) (vs : List V) (Q : VK) (E : XK), Room k (A.deeper (envOfC qual (defScope st) s.heap.objs.size f cdv)) → sp vs H Q E →
      ∃ t, PSs (cxOf (L2N.CX P w) P w K mg base N qual (defScope st) f cdv A outer s H E) (defBody st) t ∧ t { nx := fun _ H' => Q .non H', rt := Q } (L2.start N vs) H) : FnOk P w K mg base (L2N.CX P w) (k + 1) f fd ps sp := by
  obtain ⟨oc, od, kV, doc, pm, an, cdv, ct, osl, rfl, lk, hcd⟩ := F.ex
  exact fn_of lk hcd S len fun A outer s H vs Q E hr hsp => body cdv A outer s H vs Q E hr hsp
theorem okW {W : HR} {x qual : Str} {st : Stmt} {f : Addr} {fd : FuncData} {N ps : List Str} {k : Nat} {I : Type} {C : I → Prop} {fw : I → Way} (F : Fun K x qual st f fd) (S : FnScope N ps (defScope st)) (hlen : ∀ i, (fw i).Ps.length = ps.length) (hN : ps.length ≤ N.length)
    (body : ∀ (cdv : Value) (A : Around) (outer : List Env) (s : Shared) (H : Hp) (E : XK), Room k (A.deeper (envOfC qual (defScope st) s.heap.objs.size f cdv)) →
      ∃ t, PSs (cxOf (L2N.CX P w) P w K mg base N qual (defScope st) f cdv A outer s H E) (defBody st) t ∧ ∀ i, C i → ∃ M, St (RsW W E (fw i).X N.length) (entry (fw i).Ps N.length) t M (fw i).P ∧ ∀ s H', Ty M s H' → (fw i).P .non H') :
    FnOk P w K mg base (L2N.CX P w) (k + 1) f fd ps (SpW W C fw) := by
  refine F.okN S (fun vs H Q E h => ?_) (fun cdv A outer s H vs Q E hr h => ?_)
  · obtain ⟨i, _, a, _⟩ := h
    rw [allp_len a, hlen]
  · obtain ⟨i, c, a, q, e⟩ := h
    obtain ⟨t, ht, hb⟩ := body cdv A outer s H E hr
    obtain ⟨M, hs, hm⟩ := hb i c
    refine ⟨t, ht, hs _ H _ ?_ (fun s cls d H' x _ y => e cls d H' x y) (fun s' H' x ty => q _ H' x (hm s' H' ty)) q⟩
    have l1 := allp_len a
    have := ty_entry (n := N.length - (fw i).Ps.length) a
    unfold L2.start entry
    rw [l1]
    exact this
theorem df_of {x qual : Str} {st : Stmt} {f : Addr} {fd : FuncData} {ps : List Str} {k : Nat} {sp : Sp} (h : FnOk P w K mg base (L2N.CX P w) k f fd ps sp) (F : Fun K x qual st f fd) (g : mg x = some (.ref f)) (b : Binds K fd ps []) : Df P w K mg base k x ps sp := ⟨f, fd, h, g, F.kp, b⟩
end
end U

namespace U
open PySem PySem.Spec PyProof.Rows L2
/-! ### operators, whatever their operands are -/
def ror (r r' : R2) : R2 := fun x y H Q => r x y H Q ∨ r' x y H Q
theorem opr_or {X : Cx} {f : Value → Value → Sem Value} {r r' : R2} (h : OpR X f r) (h' : OpR X f r') : OpR X f (ror r r') := fun pins s σ H x y u v Q I rx ry q =>
  q.elim (h pins s σ H x y u v Q I rx ry) (h' pins s σ H x y u v Q I rx ry)
section
variable {W : HR} [w : PreT W] {K : PySem.W.Frag}
theorem op2_l {r r' : R2} {P1 P2 P : Pr} (h : Op2 W r P1 P2 P) : Op2 W (ror r r') P1 P2 P := fun x y H a b Q q => .inl (h x y H a b Q q)
theorem op2_r {r r' : R2} {P1 P2 P : Pr} (h : Op2 W r' P1 P2 P) : Op2 W (ror r r') P1 P2 P := fun x y H a b Q q => .inr (h x y H a b Q q)
theorem op2_I0 {g : Int → Int → V} {i j : Int} : Op2 W (rI0 g) (Is (.int i)) (Is (.int j)) (Is (g i j)) := fun x y H a b Q q => ⟨i, j, a, b, q _ H (w.refl H) rfl⟩
theorem op2_I {C : Int → Int → Prop} {g : Int → Int → V} {i j : Int} (c : C i j) : Op2 W (rI C g) (Is (.int i)) (Is (.int j)) (Is (g i j)) := fun x y H a b Q q => ⟨i, j, a, b, c, q _ H (w.refl H) rfl⟩
theorem op2_eq {x y : V} (h : scal x y = true) : Op2 W rEq (Is x) (Is y) (Is (.bl (decide (x = y)))) := fun x' y' H a b Q q => by
  cases a; cases b
  exact ⟨h, q _ H (w.refl H) rfl⟩
theorem op2_ne {x y : V} (h : scal x y = true) : Op2 W rNe (Is x) (Is y) (Is (.bl (!decide (x = y)))) := fun x' y' H a b Q q => by
  cases a; cases b
  exact ⟨h, q _ H (w.refl H) rfl⟩
theorem op1_neg {i : Int} : Op1 W (rU fun i => .int (-i)) (Is (.int i)) (Is (.int (-i))) := fun x H a Q q => ⟨i, a, q _ H (w.refl H) rfl⟩
/-- an item of a tuple -/
theorem allp_get : ∀ {Ps : List Pr} {xs : List V} {H : Hp} {i : Nat} {P : Pr}, AllP Ps xs H → Ps[i]? = some P → ∃ v, xs[i]? = some v ∧ P v H
  | [], _, _, _, _, _, e => by simp at e
  | Q :: Ps, [], _, _, _, h, _ => h.elim
  | Q :: Ps, x :: xs, H, 0, P, h, e => by
    have e' : Q = P := by simpa using e
    subst e'
    exact ⟨x, by simp, h.1⟩
  | Q :: Ps, x :: xs, H, i + 1, P, h, e => by
    obtain ⟨v, a, b⟩ := allp_get (Ps := Ps) (xs := xs) (i := i) h.2 (by simpa using e)
    exact ⟨v, by simpa using a, b⟩
theorem op2_ixT {Ps : List Pr} {i : Nat} {P : Pr} (h : Ps[i]? = some P) : Op2 W (rIxT K) (Tup K Ps) (Is (.int (i : Int))) P := fun x y H ⟨p, xs, e, hs, hp⟩ b Q q => by
  obtain ⟨v, a, c⟩ := allp_get hp h
  exact ⟨p, xs, _, v, e, b, .inl hs, atI_nat a, q v H (w.refl H) c⟩
end
/-! ### the operators of the text -/
def rFd : R2 := rI (fun _ j => j ≠ 0 ∧ j.natAbs.log2 < 9000) fun i j => .int (i.fdiv j)
theorem op_fd {X : Cx} : OpR X (binaryOp .FloorDiv) rFd := opI fun i j _ _ _ _ _ hc q => floordiv_int hc.1 q (.inl (PyProof.noPylong_of_log2 hc.2))
/-! ### ratios -/
def Big (n : Nat) (i : Int) : Prop := i.natAbs < 2 ^ n
def Sz (n : Nat) (q : Rat) : Prop := Big n q.num ∧ q.den < 2 ^ n
/-- a told ratio -/
def Told (K : PySem.W.Frag) (q : Rat) : Pr := Tup K [Is (.int q.num), Is (.int q.den)]
instance mn_told {W : HR} [w : PreT W] {K : PySem.W.Frag} {q : Rat} : Mn W (Told K q) := mn_tup
/-- what may be passed as the ratio q -/
def IsR (K : PySem.W.Frag) (n : Nat) (q : Rat) : Pr := fun v H => (∃ i : Int, v = .int i ∧ Big n i ∧ (i : Rat) = q) ∨ ∃ a b : Int, Tup K [Is (.int a), Is (.int b)] v H ∧ 0 < b ∧ Big n a ∧ Big n b ∧ Rat.divInt a b = q
instance mn_isR {W : HR} [w : PreT W] {K : PySem.W.Frag} {n : Nat} {q : Rat} : Mn W (IsR K n q) := ⟨fun v H H' h p => p.elim .inl fun ⟨a, b, t, r⟩ => .inr ⟨a, b, mn_tup.mn v H H' h t, r⟩⟩
theorem isR_told {K : PySem.W.Frag} {q : Rat} {v : V} {H : Hp} (h : Told K q v H) : ∃ p, v = .ref p ∧ SqT K H p [.int q.num, .int q.den] := by
  obtain ⟨p, xs, e, hs, hp⟩ := h
  match xs, hp with
  | [a, b], hp =>
    obtain ⟨rfl, rfl, _⟩ := hp
    exact ⟨p, e, .inl hs⟩
theorem told_isR {K : PySem.W.Frag} {n : Nat} {q : Rat} (s : Sz n q) {v : V} {H : Hp} (h : Told K q v H) : IsR K n q v H := .inr ⟨q.num, q.den, h, by have := q.den_pos; omega, s.1, by have := s.2; unfold Big; omega, by simp⟩
theorem big_mono {n m : Nat} {i : Int} (h : Big n i) (l : n ≤ m) : Big m i := Nat.lt_of_lt_of_le h (Nat.pow_le_pow_right (by decide) l)
theorem big_mul {n m : Nat} {i j : Int} (h : Big n i) (k : Big m j) : Big (n + m) (i * j) := by
  unfold Big at *
  rw [Int.natAbs_mul, Nat.pow_add]
  exact Nat.mul_lt_mul'' h k
theorem big_add {n m : Nat} {i j : Int} (h : Big n i) (k : Big n j) : Big (n + 1) (i + j) := by
  unfold Big at *
  have := Int.natAbs_add_le i j
  rw [Nat.pow_succ]; omega
theorem big_neg {n : Nat} {i : Int} (h : Big n i) : Big n (-i) := by unfold Big at *; rw [Int.natAbs_neg]; exact h
theorem big_sub {n m : Nat} {i j : Int} (h : Big n i) (k : Big n j) : Big (n + 1) (i - j) := by rw [Int.sub_eq_add_neg]; exact big_add (m := n) h (big_neg k)
theorem sz_divInt {n : Nat} {a b : Int} (hb : b ≠ 0) (h : Big n a) (k : Big n b) : Sz n (Rat.divInt a b) := by
  constructor
  · unfold Big at *
    rw [Rat.num_divInt]
    refine Nat.lt_of_le_of_lt ?_ h
    rw [Int.natAbs_ediv_of_dvd]
    · rw [Int.natAbs_mul, Int.natAbs_natCast]
      have : b.sign.natAbs = 1 := by rcases Int.lt_trichotomy b 0 with z | z | z <;> simp_all [Int.sign_eq_neg_one_of_neg, Int.sign_eq_one_of_pos]
      rw [this, Nat.one_mul]
      exact Nat.div_le_self _ _
    · exact Int.dvd_trans (Int.gcd_dvd_right ..) (Int.dvd_mul_left ..)
  · unfold Big at k
    rw [Rat.den_divInt, if_neg hb]
    exact Nat.lt_of_le_of_lt (Nat.div_le_self _ _) k
end U

namespace U
open PySem PySem.Spec PyProof.Rows L2
/-! ### operators of several kinds -/
def rAddS : R2 := fun x y H Q => ∃ i j, x = .str i ∧ y = .str j ∧ i.length + j.length ≤ sizeLine ∧ Q (.str (i ++ j)) H
def rAddA (K : PySem.W.Frag) : R2 := ror (rI0 fun i j => .int (i + j)) (ror rAddS (ror rCat (rCatT K)))
theorem op_addA {X : Cx} : OpR X (binaryOp .Add) (rAddA X.K) := opr_or op_add (opr_or op_add_str (opr_or op_cat op_catT))
def rMulI : R2 := rI IntMulOk fun i j => .int (i * j)
theorem op_mulI {X : Cx} : OpR X (binaryOp .Mult) rMulI := opI fun _ _ _ _ _ _ _ hc q => mul_int q hc
def rMulA : R2 := ror rMulI rRep
theorem op_mulA {X : Cx} : OpR X (binaryOp .Mult) rMulA := opr_or op_mulI op_rep
def rEqA (K : PySem.W.Frag) : R2 := ror rEq (rEqD K)
def rNeA (K : PySem.W.Frag) : R2 := ror rNe (rNeD K)
theorem op_eqA {X : Cx} (hu : X.A.units + 64 < cLine) : OpR X (compareOp .Eq) (rEqA X.K) := opr_or op_eq (op_eqD hu)
theorem op_neA {X : Cx} (hu : X.A.units + 64 < cLine) : OpR X (compareOp .NotEq) (rNeA X.K) := opr_or op_ne (op_neD hu)
section
variable {W : HR} [w : PreT W] {K : PySem.W.Frag}
theorem o_add {i j : Int} : Op2 W (rAddA K) (Is (.int i)) (Is (.int j)) (Is (.int (i + j))) := op2_l op2_I0
theorem o_sub {i j : Int} : Op2 W (rI0 fun i j => .int (i - j)) (Is (.int i)) (Is (.int j)) (Is (.int (i - j))) := op2_I0
theorem o_mul {n m : Nat} {i j : Int} (h : Big n i) (k : Big m j) (l : n + m ≤ 900000) : Op2 W rMulA (Is (.int i)) (Is (.int j)) (Is (.int (i * j))) :=
  op2_l (op2_I (wide_mul (a := n + 1) (b := m + 1) (big_mono h (Nat.le_succ n)) (big_mono k (Nat.le_succ m)) (Nat.succ_pos _) (Nat.succ_pos _) (by omega)).ok)
/-- one factor is small -/
theorem o_mulS {i j : Int} (h : -(2 ^ 64) < j ∧ j < 2 ^ 64) : Op2 W rMulA (Is (.int i)) (Is (.int j)) (Is (.int (i * j))) := op2_l (op2_I (IntMulOk.of_right (intBits_le_64 h.1 h.2)))
theorem o_fd {n : Nat} {i j : Int} (h : j ≠ 0) (k : Big n j) (l : n ≤ 8000) : Op2 W rFd (Is (.int i)) (Is (.int j)) (Is (.int (i.fdiv j))) :=
  op2_I ⟨h, Nat.lt_of_lt_of_le (PySem.Flt.log2_lt_of (Nat.succ_pos n) (big_mono k (Nat.le_succ n))) (by omega)⟩
theorem o_mod {i j : Int} (h : 0 < j) : Op2 W (rI (fun _ j => 0 < j) fun i j => .int (i % j)) (Is (.int i)) (Is (.int j)) (Is (.int (i % j))) := op2_I h
theorem o_eqI {i j : Int} : Op2 W (rEqA K) (Is (.int i)) (Is (.int j)) (Is (.bl (decide (i = j)))) := op2_l (by
  have := op2_eq (W := W) (x := .int i) (y := .int j) rfl
  have e : decide (V.int i = V.int j) = decide (i = j) := by by_cases h : i = j <;> simp [h]
  rw [e] at this; exact this)
theorem o_neI {i j : Int} : Op2 W (rNeA K) (Is (.int i)) (Is (.int j)) (Is (.bl (decide (i ≠ j)))) := op2_l (by
  have := op2_ne (W := W) (x := .int i) (y := .int j) rfl
  have e : (!decide (V.int i = V.int j)) = decide (i ≠ j) := by by_cases h : i = j <;> simp [h]
  rw [e] at this; exact this)
theorem o_eqS {i j : Str} : Op2 W (rEqA K) (Is (.str i)) (Is (.str j)) (Is (.bl (decide (i = j)))) := op2_l (by
  have := op2_eq (W := W) (x := .str i) (y := .str j) rfl
  have e : decide (V.str i = V.str j) = decide (i = j) := by by_cases h : i = j <;> simp [h]
  rw [e] at this; exact this)
/-! ### kinds -/
def HasTy (K : PySem.W.Frag) (t : String) (P : Pr) : Prop := ∀ v H, P v H → TyX K H v (.type t)
theorem hasTy_int {i : Int} : HasTy K "int" (Is (.int i)) := fun v H h => by cases h; exact .base (.int i)
theorem hasTy_bool {b : Bool} : HasTy K "bool" (Is (.bl b)) := fun v H h => by cases h; exact .base (.bl b)
theorem hasTy_str {x : Str} : HasTy K "str" (Is (.str x)) := fun v H h => by cases h; exact .base (.str x)
theorem hasTy_none : HasTy K "NoneType" (Is .non) := fun v H h => by cases h; exact .base .non
theorem hasTy_tup {Ps : List Pr} : HasTy K "tuple" (Tup K Ps) := fun v H ⟨p, xs, e, hs, _⟩ => by
  subst e
  rcases hs with h | ⟨o, h⟩
  · exact .base (.tup h)
  · exact .fTuple h
theorem opA_isi {P : Pr} {t T : String} {b : Bool} (h : HasTy K t P) (k : kitB t T = some b) : OpA W (rIsi K) [P, Is (.ty T)] (Is (.bl b)) := fun vs H a Q q => by
  match vs, a with
  | [x, c], ⟨p, e, _⟩ =>
    cases e
    exact ⟨x, .ty T, .type t, .type T, b, rfl, .ty T, h x H p, kit_ty k, q _ H (w.refl H) rfl⟩
def rLenA (K : PySem.W.Frag) : List V → Hp → VK → Prop := fun xs H Q => ∃ x n, xs = [x] ∧ LenV K x H n ∧ Q (.int n) H
theorem call_lenA {X : Cx} : CallR X (.builtin "len") (rLenA X.K) := call_len
theorem lenv_t {p : Addr} {xs : List V} {H : Hp} (hs : SqT K H p xs) : LenV K (.ref p) H xs.length := Or.inr ⟨xs, hs, rfl⟩
theorem rlen_t {p : Addr} {xs : List V} {H : Hp} (lv : LenV K (.ref p) H xs.length) (Q : VK) (z : Q (.int (xs.length : Int)) H) : rLenA K [.ref p] H Q := ⟨V.ref p, xs.length, rfl, lv, z⟩
theorem allp1 {P : Pr} {vs : List V} {H : Hp} (a : AllP [P] vs H) : ∃ x, vs = [x] ∧ P x H := by
  cases vs with
  | nil => exact a.elim
  | cons x vs =>
    cases vs with
    | nil => exact ⟨x, rfl, a.1⟩
    | cons y vs => exact a.2.elim
theorem opA_lenT {Ps : List Pr} : OpA W (rLenA K) [Tup K Ps] (Is (.int (Ps.length : Int))) := fun vs H a Q q => by
  obtain ⟨x, ev, p, xs, e, hs, hp⟩ := allp1 a
  have l := allp_len hp
  have z := q (.int (Ps.length : Int)) H (w.refl H) rfl
  rw [← l] at z
  rw [ev, e]
  exact rlen_t (lenv_t (.inl hs)) Q z
theorem opA_int {i : Int} : OpA W (fun xs H Q => (∃ i, xs = [.int i] ∧ Q (.int i) H) ∨ ∃ k, xs = [.bl k] ∧ Q (.int (if k then 1 else 0)) H) [Is (.int i)] (Is (.int i)) := fun vs H a Q q => by
  match vs, a with
  | [x], ⟨e, _⟩ => cases e; exact .inl ⟨i, rfl, q _ H (w.refl H) rfl⟩
theorem opA_abs {i : Int} : OpA W (fun xs H Q => ∃ i, xs = [.int i] ∧ Q (.int (if i < 0 then -i else i)) H) [Is (.int i)] (Is (.int (i.natAbs : Int))) := fun vs H a Q q => by
  match vs, a with
  | [x], ⟨e, _⟩ =>
    cases e
    refine ⟨i, rfl, ?_⟩
    have : (if i < 0 then -i else i) = (i.natAbs : Int) := by split <;> omega
    rw [this]
    exact q _ H (w.refl H) rfl
theorem opA_gcd {i j : Int} : OpA W rGcd [Is (.int i), Is (.int j)] (Is (.int ((Nat.gcd i.natAbs j.natAbs : Nat) : Int))) := fun vs H a Q q => by
  match vs, a with
  | [x, y], ⟨e, e2, _⟩ => cases e; cases e2; exact ⟨i, j, rfl, q _ H (w.refl H) rfl⟩
theorem o_ixT {Ps : List Pr} {i : Nat} {P : Pr} (h : Ps[i]? = some P) : Op2 W (rIx K) (Tup K Ps) (Is (.int (i : Int))) P := fun x y H a b Q q => .inr (.inl (op2_ixT h x y H a b Q q))
end
/-! ### lowest terms -/
theorem low_terms {t b : Int} (hb : b ≠ 0) : ∀ c : Int, c = (if b < 0 then -((Nat.gcd t.natAbs b.natAbs : Nat) : Int) else ((Nat.gcd t.natAbs b.natAbs : Nat) : Int)) → c ≠ 0 ∧ t.fdiv c = (Rat.divInt t b).num ∧ b.fdiv c = ((Rat.divInt t b).den : Int) := by
  intro c hc
  have g0 : 0 < Nat.gcd t.natAbs b.natAbs := Nat.gcd_pos_of_pos_right _ (by omega)
  have gc : (b.gcd t : Nat) = Nat.gcd t.natAbs b.natAbs := by rw [Int.gcd_comm]; rfl
  have d1 : ((Nat.gcd t.natAbs b.natAbs : Nat) : Int) ∣ t := by rw [← gc]; exact Int.gcd_dvd_right ..
  have d2 : ((Nat.gcd t.natAbs b.natAbs : Nat) : Int) ∣ b := by rw [← gc]; exact Int.gcd_dvd_left ..
  rw [Rat.num_divInt, Rat.den_divInt, if_neg hb, gc]
  by_cases hn : b < 0
  · rw [if_pos hn] at hc
    subst hc
    refine ⟨by omega, ?_, ?_⟩
    · rw [Int.fdiv_eq_ediv_of_dvd (Int.neg_dvd.mpr d1), Int.ediv_neg, Int.sign_eq_neg_one_of_neg hn, Int.neg_one_mul, Int.neg_ediv_of_dvd d1]
    · rw [Int.fdiv_eq_ediv_of_dvd (Int.neg_dvd.mpr d2), Int.ediv_neg, Int.natCast_ediv, ← Int.neg_ediv_of_dvd d2]
      congr 1
      omega
  · rw [if_neg hn] at hc
    subst hc
    have hp : 0 < b := by omega
    refine ⟨by omega, ?_, ?_⟩
    · rw [Int.fdiv_eq_ediv_of_dvd d1, Int.sign_eq_one_of_pos hp, Int.one_mul]
    · rw [Int.fdiv_eq_ediv_of_dvd d2, Int.natCast_ediv]
      congr 1
      omega
end U

namespace U
open PySem PySem.Spec PyProof.Rows L2
/-- a list, its items -/
def Lst (K : PySem.W.Frag) (Ps : List Pr) : Pr := fun v H => ∃ p xs, v = .ref p ∧ SqL K H p xs ∧ Safe H xs ∧ AllP Ps xs H
instance mn_lst {W : HR} [w : Pre W] {K : PySem.W.Frag} {Ps : List Pr} [ml : MnL W Ps] : Mn W (Lst K Ps) := ⟨fun v H H' h ⟨p, xs, e, hq, hn, hp⟩ => ⟨p, xs, e, w.lst h hn hq, hn.mono h, ml.mn xs H H' h hp⟩⟩
/-- some of several -/
def Some {A : Type} (C : A → Prop) (P : A → Pr) : Pr := fun v H => ∃ a, C a ∧ P a v H
instance mn_some {W : HR} {A : Type} {C : A → Prop} {P : A → Pr} [m : ∀ a, Mn W (P a)] : Mn W (Some C P) := ⟨fun v H H' h ⟨a, c, p⟩ => ⟨a, c, (m a).mn v H H' h p⟩⟩
section
variable {Y : Rs} [w : PreT Y.W] {G : Ctx} {ta tb te : TE} {t u : TT} {P P1 P2 P' : Pr} {r : R2} {K : PySem.W.Frag} {ts tu : TS} {N M : Ctx} {R : Pr}
theorem Ty.alt {A : Type} {C : A → Prop} {P : A → Pr} : ∀ {G : Ctx} {s : L2.St} {H : Hp} {i : Nat}, Ty G s H → G[i]? = some (some (Some C P)) → ∃ a, C a ∧ Ty (G.set i (some (P a))) s H
  | [], _, _, _, _, e => by simp at e
  | none :: G, [], _, _, h, _ => h.elim
  | some _ :: G, [], _, _, h, _ => h.elim
  | none :: G, x :: s, H, 0, _, e => by simp at e
  | none :: G, x :: s, H, i + 1, h, e => by
    obtain ⟨a, c, z⟩ := Ty.alt (G := G) (s := s) (i := i) h (by simpa using e)
    exact ⟨a, c, z⟩
  | some Q :: G, x :: s, H, 0, h, e => by
    have e' : Q = Some C P := by simpa using e
    subst e'
    obtain ⟨⟨v, e, a, c, p⟩, z⟩ := h
    exact ⟨a, c, ⟨v, e, p⟩, z⟩
  | some Q :: G, x :: s, H, i + 1, h, e => by
    obtain ⟨a, c, z⟩ := Ty.alt (G := G) (s := s) (i := i) h.2 (by simpa using e)
    exact ⟨a, c, h.1, z⟩
omit w in
/-- a slot's letter is taken out -/
theorem st_open {A : Type} {C : A → Prop} {P : A → Pr} (i : Nat) (h : G[i]? = some (some (Some C P))) (k : ∀ a, C a → St Y (G.set i (some (P a))) ts N R) : St Y G ts N R := fun s H D ty hx n r => by
  obtain ⟨a, c, z⟩ := ty.alt h
  exact k a c s H D z hx n r
omit w in
theorem ev_some {A : Type} {C : A → Prop} {P : A → Pr} (a : A) (c : C a) (h : Ev Y G te (P a)) : Ev Y G te (Some C P) := h.sub fun v H p => ⟨a, c, p⟩
omit w in
theorem st_sub (h : Sub G M) (k : St Y M ts N R) : St Y G ts N R := fun s H D ty => k s H D (h s H ty)
omit w in
theorem st_post {N' : Ctx} {R' : Pr} (k : St Y G ts N' R') (h : Sub N' N) (hr : ∀ v H, R' v H → R v H) : St Y G ts N R := fun s H D ty hx n r => k s H D ty hx (fun s' H' w t => n s' H' w (h s' H' t)) fun v H' w p => r v H' w (hr v H' p)
theorem op2_some1 {W : HR} {A : Type} {C : A → Prop} {P : A → Pr} {P2 P' : Pr} {r : R2} (h : ∀ a, C a → Op2 W r (P a) P2 P') : Op2 W r (Some C P) P2 P' := fun x y H ⟨a, c, p⟩ b Q q => h a c x y H p b Q q
theorem op2_some2 {W : HR} {A : Type} {C : A → Prop} {P : A → Pr} {P1 P' : Pr} {r : R2} (h : ∀ a, C a → Op2 W r P1 (P a) P') : Op2 W r P1 (Some C P) P' := fun x y H b ⟨a, c, p⟩ Q q => h a c x y H b p Q q
theorem op2_sub {W : HR} {P1 P2 P P' : Pr} {r : R2} (h : Op2 W r P1 P2 P) (k : ∀ v H, P v H → P' v H) : Op2 W r P1 P2 P' := fun x y H a b Q q => h x y H a b Q fun v H2 w p => q v H2 w (k v H2 p)
/-! ### displays of lists, items -/
theorem ev_lst {tr : TA} {Ps : List Pr} [ml : MnL Y.W Ps] (ha : EvA Y G tr Ps) (hn : ∀ vs H, AllP Ps vs H → Safe H vs) (hl : Ps.length ≤ 100000 := by first | decide | (simp only [List.length_cons, List.length_nil]; decide)) : Ev Y G (tLst tr) (Lst K Ps) := fun s H ty hx Q q =>
  ha s H ty hx _ fun vs H1 w1 p1 => ⟨by rw [allp_len p1]; exact Evl.sz_of hl, fun p hp => by
    have w2 : Y.W H1 (upd H1 p (.lst vs)) := w.ext (Evl.Ex.new hp)
    exact q _ _ (w.trans w1 w2) ⟨p, vs, rfl, SqL.of upd_same, (hn vs H1 p1).mono w2, ml.mn vs _ _ w2 p1⟩⟩
theorem o_ixL {W : HR} [w : PreT W] {Ps : List Pr} {i : Nat} {P : Pr} (h : Ps[i]? = some P) : Op2 W (rIx K) (Lst K Ps) (Is (.int (i : Int))) P := fun x y H ⟨p, xs, e, hq, hn, hp⟩ b Q q => by
  obtain ⟨v, a, c⟩ := allp_get hp h
  exact .inl ⟨p, xs, _, v, e, b, hq, atI_nat a, q v H (w.refl H) c⟩
theorem opA_lenL {W : HR} [w : PreT W] {Ps : List Pr} : OpA W (rLenA K) [Lst K Ps] (Is (.int (Ps.length : Int))) := fun vs H a Q q => by
  obtain ⟨x, ev, p, xs, e, hq, hn, hp⟩ := allp1 a
  have l := allp_len hp
  have z := q (.int (Ps.length : Int)) H (w.refl H) rfl
  rw [← l] at z
  rw [ev, e]
  have lv : LenV K (.ref p) H xs.length := Or.inl ⟨xs, hq, rfl⟩
  exact rlen_t lv Q z
theorem hasTy_lst {Ps : List Pr} : HasTy K "list" (Lst K Ps) := fun v H ⟨p, xs, e, hq, _, _⟩ => by
  subst e
  rcases hq with (h | ⟨o, h⟩) | ⟨o, its, n, h, hc, _⟩
  · exact .base (.lst h)
  · exact .base (.frz h)
  · exact .kList h hc
/-! ### truth -/
omit w in
theorem et_truI {i : Int} (h : Ev Y G te (Is (.int i))) : EvT Y G (fun σ H Q => te σ H fun x H' => ∃ k, TruV K x H' k ∧ Q k H') (i != 0) := fun s H ty hx Q q => h s H ty hx _ fun v H2 w e => by
  cases e
  exact ⟨_, rfl, q H2 w⟩
omit w in
theorem et_truB {b : Bool} (h : Ev Y G te (Is (.bl b))) : EvT Y G (fun σ H Q => te σ H fun x H' => ∃ k, TruV K x H' k ∧ Q k H') b := fun s H ty hx Q q => h s H ty hx _ fun v H2 w e => by
  cases e
  exact ⟨_, rfl, q H2 w⟩
/-! ### loops -/
/-- what a for walks: n turns, the item of each -/
def EvI (Y : Rs) (G : Ctx) (wi : TI) (n : Nat) (It : Nat → Pr) : Prop := ∀ s H, Ty G s H → Hx Y H → ∀ R : L2.It → Hp → Prop,
  (∀ J H2 (Gd : Hp → Prop), Y.W H H2 → Gd H2 → (∀ a b, Y.W a b → Gd a → Gd b) → Walk J n Gd (fun i Ha x Hb => Y.W Ha Hb ∧ It i x Hb) → R J H2) → wi s H R
def nth (Ps : List Pr) (i : Nat) : Pr := (Ps[i]?).getD fun _ _ => False
theorem allp_nth {Ps : List Pr} {xs : List V} {H : Hp} {i : Nat} {x : V} (h : AllP Ps xs H) (e : xs[i]? = some x) : nth Ps i x H := by
  have l := allp_len h
  have hi : i < Ps.length := by rw [← l]; exact (List.getElem?_eq_some_iff.mp e).1
  obtain ⟨v, a, b⟩ := allp_get (i := i) (P := Ps[i]) h (by simp)
  rw [e] at a
  cases a
  unfold nth
  rw [List.getElem?_eq_getElem hi]
  exact b
omit w in
theorem ei_list [w : Pre Y.W] {Ps : List Pr} [ml : MnL Y.W Ps] (h : Ev Y G te (Lst K Ps)) : EvI Y G (iList K te) Ps.length (nth Ps) := fun s H ty hx R k =>
  h s H ty hx _ fun v H2 w2 ⟨p, xs, e, hq, hn, hp⟩ => by
    refine ⟨p, e, ⟨xs, hq⟩, k _ H2 (fun H => SqL K H p xs ∧ AllP Ps xs H ∧ Safe H xs) w2 ⟨hq, hp, hn⟩ (fun a b x z => ⟨w.lst x z.2.2 z.1, ml.mn xs a b x z.2.1, z.2.2.mono x⟩) ?_⟩
    rw [← allp_len hp]
    refine ⟨fun i H hi z => walk_list.goes i H hi z.1, fun H z => walk_list.stops H z.1, fun i Ha x Hb hi z y => ?_⟩
    obtain ⟨e1, e2⟩ := walk_list.yields i Ha x Hb hi z.1 y
    subst e1
    exact ⟨w.refl _, allp_nth z.2.1 e2⟩
theorem ei_tup {Ps : List Pr} [ml : MnL Y.W Ps] (h : Ev Y G te (Tup K Ps)) : EvI Y G (iTup K te) Ps.length (nth Ps) := fun s H ty hx R k =>
  h s H ty hx _ fun v H2 w2 ⟨p, xs, e, hq, hp⟩ => by
    refine ⟨p, e, ⟨xs, .inl hq⟩, k _ H2 (fun H => Rd H p (.tup xs) ∧ AllP Ps xs H) w2 ⟨hq, hp⟩ (fun a b x z => ⟨w.tup x z.1, ml.mn xs a b x z.2⟩) ?_⟩
    rw [← allp_len hp]
    refine ⟨fun i H hi z => walk_tup.goes i H hi (.inl z.1), fun H z => walk_tup.stops H (.inl z.1), fun i Ha x Hb hi z y => ?_⟩
    obtain ⟨e1, e2⟩ := walk_tup.yields i Ha x Hb hi (.inl z.1) y
    subst e1
    exact ⟨w.refl _, allp_nth z.2 e2⟩
theorem ei_range1 {tr : TA} {j : Int} (h : EvA Y G tr [Is (.int j)]) (l : -(2 ^ 62) ≤ j ∧ j < 2 ^ 62) : EvI Y G (iRng1 tr) j.toNat (fun i => Is (.int (i : Int))) := fun s H ty hx R k =>
  h s H ty hx _ fun vs H2 w2 hp => by
    obtain ⟨x, ev, e⟩ := allp1 hp
    cases e
    refine ⟨j, ev, l.1, l.2, k _ H2 (fun _ => True) w2 True.intro (fun _ _ _ _ => True.intro) ⟨fun i H hi z => walk_range.goes i H hi True.intro, fun H z => walk_range.stops H True.intro, fun i Ha x Hb hi z y => ?_⟩⟩
    obtain ⟨e1, e2⟩ := walk_range.yields i Ha x Hb hi True.intro y
    subst e1
    refine ⟨w.refl _, ?_⟩
    show x = V.int (i : Int)
    have e3 : (fun i : Nat => V.int (0 + (i : Int))) i = V.int (i : Int) := congrArg V.int (Int.zero_add _)
    exact e2.trans e3
omit w in
theorem ei_enum [w : Pre Y.W] {tr : TA} {Ps : List Pr} [ml : MnL Y.W Ps] [mi : ∀ i, Mn Y.W (nth Ps i)] (h : EvA Y G tr [Lst K Ps]) : EvI Y G (iEnum K tr) Ps.length (fun i => Tup K [Is (.int (i : Int)), nth Ps i]) := fun s H ty hx R k =>
  h s H ty hx _ fun vs H2 w2 ha => by
    obtain ⟨x, ev, p, xs, e, hq, hn, hp⟩ := allp1 ha
    subst e
    refine ⟨p, xs, ev, hq, k _ H2 (fun H => SqL K H p xs ∧ AllP Ps xs H ∧ Safe H xs) w2 ⟨hq, hp, hn⟩ (fun a b x z => ⟨w.lst x z.2.2 z.1, ml.mn xs a b x z.2.1, z.2.2.mono x⟩) ?_⟩
    rw [← allp_len hp]
    refine ⟨fun i H hi z => walk_enum.goes i H hi z.1, fun H z => walk_enum.stops H z.1, fun i Ha x Hb hi z y => ?_⟩
    obtain ⟨T, a, b, e1, e2, e3, e4, e5⟩ := walk_enum.yields i Ha x Hb hi z.1 y
    subst e3
    have w3 : Y.W Ha (upd Ha T (.tup [a, b])) := w.ext (Evl.Ex.new e2)
    cases e4
    exact ⟨w3, T, _, e1, Rd.of upd_same, rfl, (mi i).mn _ _ _ w3 (allp_nth z.2.1 e5), True.intro⟩
theorem st_for {wi : TI} {n : Nat} {It : Nat → Pr} {j : Nat} (hi : EvI Y G wi n It) (L : Nat → Ctx) (h0 : Sub G (L 0)) [mc : MnC Y.W G] [ml : ∀ i, MnC Y.W (L i)] (body : ∀ i, i < n → St Y ((L i).set j (some (It i))) tu (L (i + 1)) R) : St Y G (tFor wi (gName j) tu) (L n) R := fun s H D ty hx nx rt =>
  hi s H ty hx _ fun J H2 Gd w2 g2 gm wk => by
    refine for_it wk (fun i s' H' => Y.W H H' ∧ Gd H' ∧ Ty (L i) s' H') ⟨w2, g2, h0 s H2 (mc.mn s H H2 w2 ty)⟩ (fun i s' H' _ z => z.2.1) (fun i x s' Ha Hb hi z y => ?_) fun s' H' z => nx s' H' z.1 z.2.2
    obtain ⟨z1, z2, z3⟩ := z
    obtain ⟨y1, y2⟩ := y
    have wb := w.trans z1 y1
    refine body i hi _ Hb _ (((ml i).mn s' Ha Hb y1 z3).put y2) (hx.mono wb) (fun s2 H3 w3 t3 => ⟨w.trans wb w3, gm _ _ (w.trans y1 w3) z2, t3⟩) fun v H3 w3 p => rt v H3 (w.trans wb w3) p
theorem st_for2 {wi : TI} {n : Nat} {I1 I2 : Nat → Pr} {j l : Nat} (hi : EvI Y G wi n fun i => Tup K [I1 i, I2 i]) (L : Nat → Ctx) (h0 : Sub G (L 0)) [mc : MnC Y.W G] [ml : ∀ i, MnC Y.W (L i)] (body : ∀ i, i < n → St Y (((L i).set j (some (I1 i))).set l (some (I2 i))) tu (L (i + 1)) R) :
    St Y G (tFor wi (gTup K 2 (gCons (gName j) (gCons (gName l) gNil))) tu) (L n) R := fun s H D ty hx nx rt =>
  hi s H ty hx _ fun J H2 Gd w2 g2 gm wk => by
    refine for_it wk (fun i s' H' => Y.W H H' ∧ Gd H' ∧ Ty (L i) s' H') ⟨w2, g2, h0 s H2 (mc.mn s H H2 w2 ty)⟩ (fun i s' H' _ z => z.2.1) (fun i x s' Ha Hb hi z y => ?_) fun s' H' z => nx s' H' z.1 z.2.2
    obtain ⟨z1, z2, z3⟩ := z
    obtain ⟨y1, p, xs, e, hq, hp⟩ := y
    have wb := w.trans z1 y1
    obtain ⟨a, b, rfl⟩ : ∃ a b, xs = [a, b] := by
      have l := allp_len hp
      match xs, l with
      | [a, b], _ => exact ⟨a, b, rfl⟩
    refine ⟨p, [a, b], e, .inl hq, rfl, a, [b], rfl, b, [], rfl, rfl, ?_⟩
    exact body i hi _ Hb _ ((((ml i).mn s' Ha Hb y1 z3).put hp.1).put hp.2.1) (hx.mono wb) (fun s2 H3 w3 t3 => ⟨w.trans wb w3, gm _ _ (w.trans y1 w3) z2, t3⟩) fun v H3 w3 p => rt v H3 (w.trans wb w3) p
theorem st_while {A : Type} {b : A → Bool} (L : A → Ctx) (m : A → Nat) (C : A → Prop) (a0 : A) (c0 : C a0) (h0 : Sub G (L a0)) [ml : ∀ a, MnC Y.W (L a)] (tst : ∀ a, C a → EvT Y (L a) t (b a)) (body : ∀ a, C a → b a = true → ∃ a', C a' ∧ m a' < m a ∧ St Y (L a) tu (L a') R) (done : ∀ a, C a → b a = false → Sub (L a) N) : St Y G (tWhile t tu) N R := fun s H D ty hx nx rt => by
  refine ⟨fun k s' H' => Y.W H H' ∧ ∃ a, C a ∧ m a = k ∧ Ty (L a) s' H', ⟨m a0, w.refl H, a0, c0, rfl, h0 s H ty⟩, fun k s' H' ⟨w1, a, c, e, t1⟩ => ?_⟩
  refine tst a c s' H' t1 (hx.mono w1) _ fun H2 w2 => ?_
  have w12 := w.trans w1 w2
  have t2 := (ml a).mn s' H' H2 w2 t1
  cases hb : b a with
  | true =>
    rw [if_pos rfl]
    obtain ⟨a', c', lt, sb⟩ := body a c hb
    refine ⟨fun s3 H3 => Y.W H H3 ∧ Ty (L a') s3 H3, fun s3 H3 z => ⟨m a', by omega, z.1, a', c', rfl, z.2⟩, ?_⟩
    exact sb s' H2 _ t2 (hx.mono w12) (fun s3 H3 w3 t3 => ⟨w.trans w12 w3, t3⟩) fun v H3 w3 p => rt v H3 (w.trans w12 w3) p
  | false =>
    rw [if_neg Bool.false_ne_true]
    exact nx s' H2 w12 (done a c hb s' H2 t2)
end
/-! ### what is known may be forgotten -/
theorem sub_refl {G : Ctx} : Sub G G := fun _ _ h => h
theorem sub_nil : Sub [] [] := fun _ _ h => h
theorem sub_keep {o : Option Pr} {G G' : Ctx} (h : Sub G G') : Sub (o :: G) (o :: G') := fun s H t => by
  cases s with
  | nil => cases o <;> exact t.elim
  | cons x s =>
    cases o with
    | none => exact h s H t
    | some P => exact ⟨t.1, h s H t.2⟩
theorem sub_drop {o : Option Pr} {G G' : Ctx} (h : Sub G G') : Sub (o :: G) (none :: G') := fun s H t => by
  cases s with
  | nil => cases o <;> exact t.elim
  | cons x s =>
    cases o with
    | none => exact h s H t
    | some P => exact h s H t.2
theorem sub_imp {P Q : Pr} {G G' : Ctx} (k : ∀ v H, P v H → Q v H) (h : Sub G G') : Sub (some P :: G) (some Q :: G') := fun s H t => by
  cases s with
  | nil => exact t.elim
  | cons x s =>
    obtain ⟨⟨v, e, p⟩, z⟩ := t
    exact ⟨⟨v, e, k v H p⟩, h s H z⟩
/-! ### list comprehensions: one for, no test -/
section
variable {Y : Rs} [w : Pre Y.W] {G : Ctx} {te : TE} {K : PySem.W.Frag}
/-- a new list that nobody else holds -/
def New (Ps : List Pr) : Pr := fun v H => ∃ p xs, v = .ref p ∧ H p = some (.lst xs) ∧ AllP Ps xs H
instance mn_new {Ps : List Pr} [ml : MnL Evl.Ex Ps] : Mn Evl.Ex (New Ps) := ⟨fun v H H' h ⟨p, xs, e, hq, hp⟩ => ⟨p, xs, e, h _ _ hq, ml.mn xs H H' h hp⟩⟩
theorem ty_wipe : ∀ {G : Ctx} {s : L2.St} {H : Hp} (j : Nat), Ty G s H → Ty (G.set j none) (s.set j none) H
  | [], [], _, _, h => h
  | [], _ :: _, _, _, h => h.elim
  | none :: G, [], _, _, h => h.elim
  | some _ :: G, [], _, _, h => h.elim
  | none :: G, x :: s, H, 0, h => h
  | some _ :: G, x :: s, H, 0, h => h.2
  | none :: G, x :: s, H, i + 1, h => ty_wipe (G := G) (s := s) i h
  | some _ :: G, x :: s, H, i + 1, h => ⟨h.1, ty_wipe (G := G) (s := s) i h.2⟩
instance mnc_wipe {W : HR} {G : Ctx} {i : Nat} [g : MnC W G] : MnC W (G.set i none) := ⟨fun Q h => by
  rcases List.mem_or_eq_of_mem_set h with e | e
  · exact g.all Q e
  · cases e⟩
theorem allp_snoc : ∀ {Ps : List Pr} {vs : List V} {P : Pr} {v : V} {H : Hp}, AllP Ps vs H → P v H → AllP (Ps ++ [P]) (vs ++ [v]) H
  | [], [], _, _, _, _, p => ⟨p, True.intro⟩
  | [], _ :: _, _, _, _, h, _ => h.elim
  | _ :: _, [], _, _, _, h, _ => h.elim
  | _ :: Ps, _ :: vs, _, _, _, h, p => ⟨h.1, allp_snoc (Ps := Ps) (vs := vs) h.2 p⟩
theorem allp_mn {W : HR} : ∀ {Ps : List Pr} {vs : List V} {H H' : Hp}, (∀ P ∈ Ps, Mn W P) → W H H' → AllP Ps vs H → AllP Ps vs H'
  | [], [], _, _, _, _, h => h
  | [], _ :: _, _, _, _, _, h => h.elim
  | _ :: _, [], _, _, _, _, h => h.elim
  | P :: Ps, v :: vs, _, _, m, w, h => ⟨(m P List.mem_cons_self).mn v _ _ w h.1, allp_mn (Ps := Ps) (vs := vs) (fun Q e => m Q (List.mem_cons_of_mem _ e)) w h.2⟩
/-- the predicates of n items -/
def each (n : Nat) (P : Nat → Pr) : List Pr := (List.range n).map P
theorem each_succ (n : Nat) (P : Nat → Pr) : each (n + 1) P = each n P ++ [P n] := by unfold each; rw [List.range_succ, List.map_append]; rfl
theorem each_len (n : Nat) (P : Nat → Pr) : (each n P).length = n := by unfold each; rw [List.length_map, List.length_range]
theorem each_mem {n : Nat} {P : Nat → Pr} {Q : Pr} (h : Q ∈ each n P) : ∃ i, i < n ∧ Q = P i := by
  unfold each at h
  obtain ⟨i, hi, e⟩ := List.mem_map.mp h
  exact ⟨i, List.mem_range.mp hi, e.symm⟩
theorem ev_lc {wi : TI} {n : Nat} {It : Nat → Pr} {P : Nat → Pr} {j : Nat} (hi : EvI Y G wi n It) (hn : n < 100000) [mc : MnC Y.W G] (mt : ∀ i, Mn WT (P i)) (mw : ∀ i, Mn Y.W (P i)) (he : ∀ i, i < n → Ev Y ((G.set j none).set j (some (It i))) te (P i)) (hh : ∀ i acc H, i ≤ n → AllP (each i P) acc H → Safe H acc) :
    Ev Y G (tLc wi (gName j) tYes te [j]) (New (each n P)) := fun s H ty hx Q q =>
  hi s H ty hx _ fun J H1 Gd w1 g1 gm wk D hD => by
    refine lc_it wk (fun i H' => Y.W H1 H' ∧ ∃ acc, H' D = some (.lst acc) ∧ AllP (each i P) acc H') ⟨w.wrt (w.refl H1) hD, [], upd_same, True.intro⟩ (fun i H' _ z => gm _ _ z.1 g1) (fun i x Ha Hb hi z y => ?_) (fun H' ⟨z, acc, e, a⟩ => q _ H' (w.trans w1 z) ⟨D, acc, rfl, e, a⟩)
    obtain ⟨z, acc, e, a⟩ := z
    obtain ⟨y1, y2⟩ := y
    have nh := hh i acc Ha (Nat.le_of_lt hi) a
    have wb := w.trans z y1
    have tyb : Ty ((G.set j none).set j (some (It i))) ((wipe s [j]).set j (some x)) Hb := (ty_wipe j (mc.mn s H Hb (w.trans w1 wb) ty)).put y2
    refine ⟨by show ((s.set j none).set j (some x)).set j none = s.set j none; rw [List.set_set, List.set_set], ?_⟩
    dsimp only [tYes]
    rw [if_pos (rfl : true = true)]
    refine he i hi _ Hb tyb (hx.mono (w.trans w1 wb)) _ fun v H4 w4 p4 => ?_
    have e4 := w.own (w.trans y1 w4) nh e
    have ma : ∀ R ∈ each i P, Mn Y.W R := fun R h => by obtain ⟨k, _, rfl⟩ := each_mem h; exact mw k
    have ta : ∀ R ∈ each i P, Mn WT R := fun R h => by obtain ⟨k, _, rfl⟩ := each_mem h; exact mt k
    have a4 := allp_mn ma (w.trans y1 w4) a
    have wt : WT H4 (upd H4 D (.lst (acc ++ [v]))) := wt_put e4 rfl
    have l4 := allp_len a4
    rw [each_len] at l4
    refine ⟨acc, e4, Evl.sz_lt (by omega), w.wrt (w.trans wb w4) hD, _, upd_same, ?_⟩
    rw [each_succ]
    exact allp_snoc (allp_mn ta wt a4) ((mt i).mn v _ _ wt p4)
end
end U

/-! ## the hand of a law's draws: a list that every draw writes -/
namespace U
open PySem PySem.Spec PyProof.Rows L2
/-- no hand -/
def SafeO (H : Hp) : HO → Prop
  | .lst xs => Safe H xs
  | _ => True
structure HandV (H : Hp) (p c : Addr) (xs : List Int) (a r t : Int) : Prop where
  at_ : H p = some (.lst [.ref c, .int a, .int r, .int t])
  cells : H c = some (.lst (xs.map V.int))
  pos : ∀ x ∈ xs, 0 ≤ x
  len : xs.length ≤ 63
  a0 : 0 ≤ a
  al : a ≤ xs.length
  r0 : 0 ≤ r
  t0 : 0 ≤ t
  tl : t < 2147483629
def HandAt (H : Hp) (p : Addr) : Prop := ∃ c xs a r t, HandV H p c xs a r t
/-- all stands but hands, and hands stay hands -/
def WL (H H' : Hp) : Prop := (∀ b o, H b = some o → SafeO H o → H' b = some o) ∧ ∀ p c xs a r t, HandV H p c xs a r t → ∃ a' r' t', HandV H' p c xs a' r' t'
theorem hs_ints (xs : List Int) : hs (xs.map V.int) = false := by
  cases xs with
  | nil => rfl
  | cons x r => rfl
theorem HandV.mono {H H' : Hp} {p c : Addr} {xs : List Int} {a r t : Int} (h : HandV H p c xs a r t) (e : Evl.Ex H H') : HandV H' p c xs a r t := { h with at_ := e _ _ h.at_, cells := e _ _ h.cells }
theorem wl_rd {H H' : Hp} {a : Addr} {ys : List V} (w : WL H H') (h : Rd H a (.tup ys)) : Rd H' a (.tup ys) := by
  rcases h with h | ⟨o, h⟩
  · exact .inl (w.1 _ _ h True.intro)
  · exact .inr ⟨o, w.1 _ _ h True.intro⟩
theorem wl_safe {H H' : Hp} {o : HO} (w : WL H H') (h : SafeO H o) : SafeO H' o := by
  cases o with
  | lst xs => exact h.elim .inl fun ⟨c, r, ys, z, t⟩ => .inr ⟨c, r, ys, z, wl_rd w t⟩
  | _ => exact True.intro
instance pre_wl : Pre WL where
  refl := fun H => ⟨fun _ _ h _ => h, fun p c xs a r t h => ⟨a, r, t, h⟩⟩
  trans := fun a b => ⟨fun x o h n => b.1 x o (a.1 x o h n) (wl_safe a n), fun p c xs x r t h => let ⟨x', r', t', h'⟩ := a.2 p c xs x r t h; b.2 p c xs x' r' t' h'⟩
  ext := fun e => ⟨fun b o h _ => e b o h, fun p c xs a r t h => ⟨a, r, t, h.mono e⟩⟩
  tup := fun w h => wl_rd w h
  lst := fun w n h => by
    rcases h with (h | ⟨o, h⟩) | h
    · exact .inl (.inl (w.1 _ _ h n))
    · exact .inl (.inr ⟨o, w.1 _ _ h True.intro⟩)
    · exact .inr h
  own := fun w n h => w.1 _ _ h n
  wrt := fun w h => ⟨fun b o e n => by rw [upd_ne (ne_of_none e h)]; exact w.1 b o e n, fun p c xs a r t hv => by
    obtain ⟨a', r', t', hv'⟩ := w.2 p c xs a r t hv
    exact ⟨a', r', t', { hv' with at_ := by rw [upd_ne (ne_of_none hv.at_ h)]; exact hv'.at_, cells := by rw [upd_ne (ne_of_none hv.cells h)]; exact hv'.cells }⟩⟩
def Hand : Pr := fun v H => ∃ p, v = .ref p ∧ HandAt H p
instance mn_hand : Mn WL Hand := ⟨fun v H H' w ⟨p, e, c, xs, a, r, t, h⟩ => ⟨p, e, c, xs, w.2 p c xs a r t h⟩⟩
/-- the hand is written: nothing else -/
theorem wl_put {H : Hp} {p c : Addr} {xs : List Int} {a r t a' r' t' : Int} (h : HandV H p c xs a r t) (a0 : 0 ≤ a') (al : a' ≤ xs.length) (r0 : 0 ≤ r') (t0 : 0 ≤ t') (tl : t' < 2147483629) :
    HandV (upd H p (.lst [.ref c, .int a', .int r', .int t'])) p c xs a' r' t' ∧ WL H (upd H p (.lst [.ref c, .int a', .int r', .int t'])) := by
  have ne : c ≠ p := ne_of h.cells h.at_ (by
    intro z
    have := HO.lst.inj z
    cases xs with
    | nil => cases this
    | cons x l => cases this)
  have hv : HandV (upd H p (.lst [.ref c, .int a', .int r', .int t'])) p c xs a' r' t' := ⟨upd_same, by rw [upd_ne ne]; exact h.cells, h.pos, h.len, a0, al, r0, t0, tl⟩
  refine ⟨hv, fun b o e n => ?_, fun q c2 xs2 a2 r2 t2 h2 => ?_⟩
  · by_cases z : b = p
    · subst z
      rw [h.at_] at e
      cases e
      rcases n with n | ⟨c1, r1, ys, z, t1 | ⟨o1, t1⟩⟩
      · cases n
      · cases z
        rw [h.cells] at t1
        cases t1
      · cases z
        rw [h.cells] at t1
        cases t1
    · rw [upd_ne z]; exact e
  · by_cases z : q = p
    · subst z
      have e := h.at_.symm.trans h2.at_
      cases e
      have e2 := h.cells.symm.trans h2.cells
      have e3 : xs = xs2 := by
        have := HO.lst.inj (Option.some.inj e2)
        exact (List.map_inj_right (fun x y z => V.int.inj z)).mp this
      subst e3
      exact ⟨a', r', t', hv⟩
    · have ne2 : c2 ≠ p := ne_of h2.cells h.at_ (by
        intro z
        have := HO.lst.inj z
        cases xs2 with
        | nil => cases this
        | cons x l => cases this)
      exact ⟨a2, r2, t2, { h2 with at_ := by rw [upd_ne z]; exact h2.at_, cells := by rw [upd_ne ne2]; exact h2.cells }⟩
/-- a whole number from lo to below hi -/
def Rng (lo hi : Int) : Pr := Some (fun i : Int => lo ≤ i ∧ i < hi) fun i => Is (.int i)
theorem big_of {n : Nat} {i : Int} (h : -(2 ^ n) < i) (k : i < 2 ^ n) : Big n i := by
  unfold Big
  have : (2 : Int) ^ n = ((2 ^ n : Nat) : Int) := by simp
  omega
theorem big_rng {n : Nat} {i m : Int} (h : 0 ≤ i ∧ i < m) (k : m ≤ 2 ^ n) : Big n i := big_of (by have : (0 : Int) < 2 ^ n := Int.pow_pos (by decide); omega) (by omega)
theorem mod_rng {i m : Int} (h : 0 < m) : 0 ≤ i % m ∧ i % m < m := ⟨Int.emod_nonneg _ (by omega), Int.emod_lt_of_pos _ h⟩
/-! ### expressions that only grow the heap, in a text that also writes -/
abbrev Rs.ex (Y : Rs) : Rs := ⟨Evl.Ex, Y.E, Y.GX, Y.X⟩
instance mnl_ints {W : HR} {l : List Int} : MnL W (l.map fun x => Is (.int x)) := ⟨fun vs H H' w h => allp_mn (fun P hP => by obtain ⟨n, _, rfl⟩ := List.mem_map.mp hP; exact mn_is) w h⟩
section
variable {Y : Rs} [w : PreT Y.W] {G : Ctx} {te : TE} {t : TT} {P : Pr} {ts tu : TS} {N : Ctx} {R : Pr} {K : PySem.W.Frag}
theorem hx_ex {H : Hp} (h : Hx Y H) : Hx Y.ex H := fun s cls d H' e ty x => h s cls d H' (w.ext e) ty x
theorem Ev.up (h : Ev Y.ex G te P) : Ev Y G te P := fun s H ty hx Q q => h s H ty (hx_ex hx) Q fun v H2 e p => q v H2 (w.ext e) p
theorem st_setE [mc : MnC Evl.Ex G] {i : Nat} (h : Ev Y.ex G te P) : St Y G (tAsg te (gName i)) (G.set i (some P)) R := fun s H D ty hx n _ =>
  h s H ty (hx_ex hx) _ fun v H2 e p => n _ H2 (w.ext e) ((mc.mn s H H2 e ty).put p)
theorem st_ifE [mc : MnC Evl.Ex G] {b : Bool} (h : EvT Y.ex G t b) (h1 : b = true → St Y G ts N R) (h2 : b = false → St Y G tu N R) : St Y G (tIfS t ts tu) N R := fun s H D ty hx n r => h s H ty (hx_ex hx) _ fun H1 e => by
  have w1 := w.ext e
  cases b with
  | true => exact h1 rfl s H1 D (mc.mn s H H1 e ty) (hx.mono w1) (fun s2 H2 w2 t2 => n s2 H2 (w.trans w1 w2) t2) fun v H2 w2 p => r v H2 (w.trans w1 w2) p
  | false => exact h2 rfl s H1 D (mc.mn s H H1 e ty) (hx.mono w1) (fun s2 H2 w2 t2 => n s2 H2 (w.trans w1 w2) t2) fun v H2 w2 p => r v H2 (w.trans w1 w2) p
end
/-! ### inside a draw -/
def HV (p c : Addr) (xs : List Int) (a r t : Int) : Pr := fun v H => v = .ref p ∧ HandV H p c xs a r t
instance mn_hv {p c : Addr} {xs : List Int} {a r t : Int} : Mn Evl.Ex (HV p c xs a r t) := ⟨fun v H H' e h => ⟨h.1, h.2.mono e⟩⟩
def Cells (c : Addr) (xs : List Int) : Pr := fun v H => v = .ref c ∧ H c = some (.lst (xs.map V.int))
instance mn_cells {c : Addr} {xs : List Int} : Mn Evl.Ex (Cells c xs) := ⟨fun v H H' e h => ⟨h.1, e _ _ h.2⟩⟩
section
variable {K : PySem.W.Frag} {p c : Addr} {xs : List Int} {a r t : Int}
theorem o_hv0 : Op2 Evl.Ex (rIx K) (HV p c xs a r t) (Is (.int 0)) (Cells c xs) := fun x y H h e Q q => .inl ⟨p, _, _, _, h.1, e, SqL.of h.2.at_, atI_nat (xs := ([.ref c, .int a, .int r, .int t] : List V)) (j := 0) rfl, q _ H (Evl.Ex.refl H) ⟨rfl, h.2.cells⟩⟩
theorem o_hv1 : Op2 Evl.Ex (rIx K) (HV p c xs a r t) (Is (.int 1)) (Is (.int a)) := fun x y H h e Q q => .inl ⟨p, _, _, _, h.1, e, SqL.of h.2.at_, atI_nat (xs := ([.ref c, .int a, .int r, .int t] : List V)) (j := 1) rfl, q _ H (Evl.Ex.refl H) rfl⟩
theorem o_hv2 : Op2 Evl.Ex (rIx K) (HV p c xs a r t) (Is (.int 2)) (Is (.int r)) := fun x y H h e Q q => .inl ⟨p, _, _, _, h.1, e, SqL.of h.2.at_, atI_nat (xs := ([.ref c, .int a, .int r, .int t] : List V)) (j := 2) rfl, q _ H (Evl.Ex.refl H) rfl⟩
theorem o_hv3 : Op2 Evl.Ex (rIx K) (HV p c xs a r t) (Is (.int 3)) (Is (.int t)) := fun x y H h e Q q => .inl ⟨p, _, _, _, h.1, e, SqL.of h.2.at_, atI_nat (xs := ([.ref c, .int a, .int r, .int t] : List V)) (j := 3) rfl, q _ H (Evl.Ex.refl H) rfl⟩
theorem o_cell {i : Int} (h0 : 0 ≤ i) (h1 : i < xs.length) : Op2 Evl.Ex (rIx K) (Cells c xs) (Is (.int i)) (Some (fun z : Int => z ∈ xs) fun z => Is (.int z)) := fun x y H h e Q q => by
  have hi : i.toNat < xs.length := by omega
  have e2 : (i.toNat : Int) = i := by omega
  have g : (xs.map V.int)[i.toNat]? = some (.int xs[i.toNat]) := by simp [hi]
  have at2 := atI_nat (xs := xs.map V.int) (j := i.toNat) g
  rw [e2] at at2
  exact .inl ⟨c, _, i, _, h.1, e, SqL.of h.2, at2, q _ H (Evl.Ex.refl H) ⟨xs[i.toNat], List.getElem_mem _, rfl⟩⟩
theorem o_cellsLen : OpA Evl.Ex (rLenA K) [Cells c xs] (Is (.int (xs.length : Int))) := fun vs H al Q q => by
  obtain ⟨x, ev, e, h⟩ := allp1 al
  have z := q (.int (xs.length : Int)) H (Evl.Ex.refl H) rfl
  have l : (xs.map V.int).length = xs.length := List.length_map _
  rw [← l] at z
  rw [ev, e]
  exact rlen_t (Or.inl ⟨_, SqL.of h, rfl⟩) Q z
theorem opA_intR {lo hi : Int} {W : HR} [w : PreT W] : OpA W (fun xs H Q => (∃ i, xs = [.int i] ∧ Q (.int i) H) ∨ ∃ k, xs = [.bl k] ∧ Q (.int (if k then 1 else 0)) H) [Rng lo hi] (Rng lo hi) := fun vs H a Q q => by
  obtain ⟨x, ev, i, hi, e⟩ := allp1 a
  cases e
  exact .inl ⟨i, ev, q _ H (w.refl H) ⟨i, hi, rfl⟩⟩
theorem o_modR {lo hi m : Int} {W : HR} [w : PreT W] (h : 0 < m) : Op2 W (rI (fun _ j => 0 < j) fun i j => .int (i % j)) (Rng lo hi) (Is (.int m)) (Rng 0 m) := fun x y H ⟨i, hi, e⟩ e2 Q q => by
  cases e; cases e2
  exact ⟨i, m, rfl, rfl, h, q _ H (w.refl H) ⟨_, mod_rng h, rfl⟩⟩
instance mn_rng {lo hi : Int} {W : HR} : Mn W (Rng lo hi) := mn_some
/-- hand[k] = e -/
theorem st_hset {Y : Rs} {G : Ctx} {te : TE} {k z a' r' t' : Int} {R : Pr} (hW : Y.W = WL) [mc : MnC Evl.Ex G] [mt : MnC (fun _ _ => True) G] (h : Ev Y.ex (some (HV p c xs a r t) :: G) te (Is (.int z))) {j : Nat} (hk : k = (j : Int)) (hs : ([.ref c, .int a, .int r, .int t] : List V).set j (.int z) = [.ref c, .int a', .int r', .int t']) (hj : j < 4)
    (a0 : 0 ≤ a') (al : a' ≤ xs.length) (r0 : 0 ≤ r') (t0 : 0 ≤ t') (tl : t' < 2147483629) : St Y (some (HV p c xs a r t) :: G) (tAsg te (gSub (tVar 0) (tC (.int k)) rSetL)) (some (HV p c xs a' r' t') :: G) R := fun s H D ty hx n _ => by
  obtain ⟨W, E, GX, X⟩ := Y
  have hW' : W = WL := hW
  subst hW'
  refine h s H ty (hx_ex hx) _ fun v H2 e p2 => ?_
  cases p2
  have ty2 := (mnc_some (P := HV p c xs a r t) (G := G) (W := Evl.Ex)).mn s H H2 e ty
  cases s with
  | nil => exact ty2.elim
  | cons x s =>
    obtain ⟨⟨v, ex, ev, hv⟩, tr⟩ := ty2
    subst ex
    obtain ⟨p1, p2⟩ := wl_put hv a0 al r0 t0 tl
    refine ⟨v, rfl, ?_⟩
    refine ⟨p, _, k, j, ev, rfl, hv.at_, by rw [hk]; exact Evl.ixN_nat hj, ?_⟩
    rw [hs]
    refine n _ _ (PreT.trans (PreT.ext e) p2) ⟨⟨v, rfl, ev, p1⟩, mt.mn s _ _ True.intro tr⟩
end
theorem ev_hand {Y : Rs} [w : Pre Y.W] (hY : Y.W = Evl.Ex) {G : Ctx} {tr : TA} {xs : List Int} (h0 : ∀ x ∈ xs, 0 ≤ x) (hl : xs.length ≤ 63) {lo hi : Int} (l0 : 0 ≤ lo) (h1 : hi ≤ 2147483629) (ha : EvA Y G tr [New (xs.map fun x => Is (.int x)), Is (.int 0), Is (.int 0), Rng lo hi]) : Ev Y G (tLst tr) Hand := fun s H ty hx Q q =>
  ha s H ty hx _ fun vs H1 w1 p1 => by
    obtain ⟨v0, v1, v2, v3, rfl⟩ : ∃ a b c d, vs = [a, b, c, d] := by
      have l := allp_len p1
      match vs, l with
      | [a, b, c, d], _ => exact ⟨a, b, c, d, rfl⟩
    obtain ⟨⟨c, ys, e0, hc, hp⟩, e1, e2, ⟨t, ht, e3⟩, _⟩ := p1
    have ey : ys = xs.map V.int := by
      clear hc h0 hl ha
      induction xs generalizing ys with
      | nil =>
        cases ys with
        | nil => rfl
        | cons _ _ => exact hp.elim
      | cons x xs ih =>
        cases ys with
        | nil => exact hp.elim
        | cons y ys => rw [List.map_cons, ← ih ys hp.2, show y = V.int x from hp.1]
    subst ey
    cases e0; cases e1; cases e2; cases e3
    refine ⟨by show 4 ≤ sizeLine; decide, fun p hp0 => ?_⟩
    have w2 : Y.W H1 (upd H1 p (.lst [.ref c, .int 0, .int 0, .int t])) := w.ext (Evl.Ex.new hp0)
    refine q _ _ (w.trans w1 w2) ⟨p, rfl, c, xs, 0, 0, t, upd_same, ?_, h0, hl, Int.le_refl _, by omega, Int.le_refl _, by omega, by omega⟩
    rw [upd_ne (ne_of_none hc hp0)]
    exact hc
theorem st_openHand {Y : Rs} {G : Ctx} {ts : TS} {N : Ctx} {R : Pr} (k : ∀ p c xs a r t, 0 ≤ a → a ≤ (xs.length : Int) → xs.length ≤ 63 → (∀ x ∈ xs, 0 ≤ x) → 0 ≤ r → 0 ≤ t → t < 2147483629 → St Y (some (HV p c xs a r t) :: G) ts N R) : St Y (some Hand :: G) ts N R := fun s H D ty hx n r => by
  cases s with
  | nil => exact ty.elim
  | cons x s =>
    obtain ⟨⟨v, e, p, ev, c, xs, a, rr, t, hv⟩, tr⟩ := ty
    exact k p c xs a rr t hv.a0 hv.al hv.len hv.pos hv.r0 hv.t0 hv.tl (x :: s) H D ⟨⟨v, e, ev, hv⟩, tr⟩ hx n r
theorem hv_hand {p c : Addr} {xs : List Int} {a r t : Int} : ∀ v H, HV p c xs a r t v H → Hand v H := fun v H h => ⟨p, h.1, c, xs, a, r, t, h.2⟩
theorem o_pow {i j : Int} {W : HR} [w : PreT W] (h : CPow i j) : Op2 W (rI CPow fun i j => .int (i ^ j.toNat)) (Is (.int i)) (Is (.int j)) (Is (.int (i ^ j.toNat))) := op2_I h
end U

/-! ## tries, tests whose end is not known, told ratios compared -/
namespace U
open PySem PySem.Spec PyProof.Rows L2
theorem takesF {X : Cx} : L2N.Takes X (fun _ _ _ _ => False) := fun _ _ x => by
  obtain ⟨_, _, _, _, _, _, _, _, _, _, _, _, _, _, _, _, _, z⟩ := x
/-- a suite for just one class -/
def tWhen (p : Prop) (t : TS) : TS := fun D σ H => p ∧ t D σ H
theorem pss_when {X : Cx} {b : List Stmt} {p q : Prop} {t : TS} (k : p → q → PSs X b t) : PSs X b (tWhen (p ∧ q) t) := ⟨fun pins s σ H D I h => by
  obtain ⟨⟨z1, z2⟩, h⟩ := h
  exact (k z1 z2).run pins s σ H D I h⟩
theorem call_isE2 {X : Cx} {a C : Addr} {oe : Obj} {cls : Value} {d : Option Addr} {pn : List (Addr × Obj)} (E : ExcC X.K C) (z1 : cls = .ref C) (z2 : d = none) (hz : L2N.Zn cls d oe) (hf : ∃ vs, oe.data = .fields vs) : CallR (X.suite a ((a, oe) :: pn)) (.builtin "isinstance") (rIsE X.K C a) := by
  subst z1 z2
  exact call_isE E hz.zc hf
section
variable {Y : Rs} [w : PreT Y.W] {G : Ctx} {ta tb te : TE} {t u : TT} {P P1 P2 P3 P4 P' : Pr} {r : R2} {K : PySem.W.Frag} {ts tu : TS} {N M : Ctx} {R : Pr}
theorem st_try {G' M' : Ctx} {X' : XP} {i : Nat} {c : Value} {tb : WX → TS} {ts : Addr → Value → Option Addr → TS} {Wout : WX} [mg : MnC Y.W G'] (body : ∀ W : WX, St ⟨Y.W, WE W, G', X'⟩ G (tb W) N R)
    (hd : ∀ cls d H, X' cls d H → PySem.W.exmOne K cls c = some true ∧ ∀ a, St Y (G'.set i (some (Is (.ref a)))) (ts a cls d) M' R) (hm : ∀ s H, Ty M' s H → Ty N (s.set i none) H) : St Y G (fun D σ H => tb (wAs K c i ts Wout D) D σ H) N R := fun s H D ty hx n r =>
  body (wAs K c i ts Wout D) s H D ty (fun s' cls d H' w1 ty' x => by
    obtain ⟨e, k⟩ := hd cls d H' x
    exact ⟨true, e, fun _ a _ => k a _ H' _ (ty'.put (P := Is (.ref a)) rfl) (hx.mono w1) (fun s2 H2 w2 t2 => n _ H2 (w.trans w1 w2) (hm s2 H2 t2)) (fun v H2 w2 p => r v H2 (w.trans w1 w2) p), fun z => nomatch z⟩) n r
theorem ei_isE {D a : Addr} {cv : Value} {c : V} {b : Bool} (k : PySem.W.kitOne K (.ref D) cv = some b) (e : ∀ u, RelV c u → u = cv) : OpA Y.W (rIsE K D a) [Is (.ref a), Is c] (Is (.bl b)) := fun vs H al Q q => by
  match vs, al with
  | [x, y], ⟨e1, e2, _⟩ =>
    cases e1
    cases e2
    exact ⟨c, cv, b, rfl, e, k, q _ H (w.refl H) rfl⟩
/-! ### tests, either way -/
def EvU (Y : Rs) (G : Ctx) (tt : TT) : Prop := ∀ s H, Ty G s H → Hx Y H → ∀ Q : Bool → Hp → Prop, (∀ b H2, Y.W H H2 → Q b H2) → tt s H Q
def Boo : Pr := Some (fun _ : Bool => True) fun b => Is (.bl b)
omit w in
theorem eu_test (h : Ev Y G te Boo) : EvU Y G (tTest te) := fun s H ty hx Q q => h s H ty hx _ fun v H2 w ⟨b, _, e⟩ => ⟨b, e, q b H2 w⟩
theorem st_ifU [mc : MnC Y.W G] (h : EvU Y G t) (h1 : St Y G ts N R) (h2 : St Y G tu N R) : St Y G (tIfS t ts tu) N R := fun s H D ty hx n r => h s H ty hx _ fun b H1 w1 => by
  cases b with
  | true => exact h1 s H1 D (mc.mn s H H1 w1 ty) (hx.mono w1) (fun s2 H2 w2 t2 => n s2 H2 (w.trans w1 w2) t2) fun v H2 w2 p => r v H2 (w.trans w1 w2) p
  | false => exact h2 s H1 D (mc.mn s H H1 w1 ty) (hx.mono w1) (fun s2 H2 w2 t2 => n s2 H2 (w.trans w1 w2) t2) fun v H2 w2 p => r v H2 (w.trans w1 w2) p
theorem ev_ifU [mc : MnC Y.W G] (h : EvU Y G t) (h1 : Ev Y G ta P) (h2 : Ev Y G tb P) : Ev Y G (tIf t ta tb) P := fun s H ty hx Q q => h s H ty hx _ fun b H1 w1 => by
  cases b with
  | true => exact h1 s H1 (mc.mn s H H1 w1 ty) (hx.mono w1) Q fun v2 H2 w2 e2 => q v2 H2 (w.trans w1 w2) e2
  | false => exact h2 s H1 (mc.mn s H H1 w1 ty) (hx.mono w1) Q fun v2 H2 w2 e2 => q v2 H2 (w.trans w1 w2) e2
/-- a, b, c, d = a tuple of four -/
theorem st_un4 [mc : MnC Y.W G] {i j k l : Nat} (h : Ev Y G te (Tup K [P1, P2, P3, P4])) :
    St Y G (tAsg te (gTup K 4 (gCons (gName i) (gCons (gName j) (gCons (gName k) (gCons (gName l) gNil)))))) ((((G.set i (some P1)).set j (some P2)).set k (some P3)).set l (some P4)) R := fun s H D ty hx n _ =>
  h s H ty hx _ fun v H2 w2 ⟨p, xs, e, hs, hp⟩ => by
    obtain ⟨a, b, c, d, rfl⟩ : ∃ a b c d, xs = [a, b, c, d] := by
      have l := allp_len hp
      match xs, l with
      | [a, b, c, d], _ => exact ⟨a, b, c, d, rfl⟩
    exact ⟨p, [a, b, c, d], e, .inl hs, rfl, a, [b, c, d], rfl, b, [c, d], rfl, c, [d], rfl, d, [], rfl, rfl, n _ H2 w2 (((((mc.mn s H H2 w2 ty).put hp.1).put hp.2.1).put hp.2.2.1).put hp.2.2.2.1)⟩
end
section
variable {W : HR} [w : PreT W] {K : PySem.W.Frag}
theorem dp_told {q : Rat} {v : V} {H : Hp} (h : Told K q v H) : Dp K H v (.tuple [.int q.num, .int q.den]) := by
  obtain ⟨p, rfl, hs⟩ := isR_told h
  exact .tup hs (.cons (.int _) (.cons (.int _) .nil))
theorem eqv_told {q r : Rat} : PyData.eqv (.tuple [.int q.num, .int q.den]) (.tuple [.int r.num, .int r.den]) = decide (q = r) := by
  by_cases h : q = r
  · subst h; simp [PyData.eqv, PyData.eqvAll]
  · have : ¬ (q.num = r.num ∧ q.den = r.den) := fun z => h (Rat.ext z.1 z.2)
    simp [PyData.eqv, PyData.eqvAll, h]
    omega
theorem shaped_told {q : Rat} : SeqAt.shaped (.tuple [.int q.num, .int q.den]) = true := rfl
theorem o_eqTold {q r : Rat} : Op2 W (rEqA K) (Told K q) (Told K r) (Is (.bl (decide (q = r)))) := op2_r fun x y H a b Q q' =>
  ⟨_, _, dp_told a, dp_told b, shaped_told, shaped_told, by rw [eqv_told]; exact q' _ H (w.refl H) rfl⟩
theorem o_neTold {q r : Rat} : Op2 W (rNeA K) (Told K q) (Told K r) (Is (.bl (!decide (q = r)))) := op2_r fun x y H a b Q q' =>
  ⟨_, _, dp_told a, dp_told b, shaped_told, shaped_told, by rw [eqv_told]; exact q' _ H (w.refl H) rfl⟩
theorem den_big {n : Nat} {a b : Int} (hb : b ≠ 0) (k : Big n b) : Big n ((Rat.divInt a b).den : Int) := by
  unfold Big at *
  rw [Rat.den_divInt, if_neg hb, Int.natAbs_natCast]
  exact Nat.lt_of_le_of_lt (Nat.div_le_self _ _) k
end
end U

/-! ## what the top has written -/
namespace U
open PySem PySem.Spec PyProof.Rows L2
/-- a def of the top -/
def HasFn (K : PySem.W.Frag) (x : Str) (st : Stmt) : Prop := ∃ f fd, PySem.W.nsIn K mainGlobals x = some (some (.ref f)) ∧ Fun K x x st f fd
theorem has_fn {K : PySem.W.Frag} {x : Str} {st : Stmt} {f : Addr} {oc : Value} {od an : Option Addr} {osl : Array (Option Value)} {kV doc pm cdv ct : Value} (a : PySem.W.nsIn K mainGlobals x = some (some (.ref f)))
    (l : K.lookup f = some ⟨oc, od, .func (PySem.W.fnOf x x (defArgs st) (defBody st) (defScope st) .none kV doc pm an cdv ct), osl⟩) (c : PySem.W.codeIn K cdv x = true) (k : PySem.W.keepIn K (.ref f) = true) : HasFn K x st := ⟨f, _, a, fun_mk l c k⟩
theorem has_df {P : Program} {w : World} {K : PySem.W.Frag} {mg : Str → Option Value} {base h : Heap} {x : Str} {st : Stmt} {k : Nat} {ps : List Str} {sp : Sp} (F : HasFn K x st) (X : K.In h) (G : h.Ns mainGlobals mg) (ok : ∀ f fd, Fun K x x st f fd → FnOk P w K mg base (L2N.CX P w) k f fd ps sp)
    (b : ∀ (kV doc pm : Value) (an : Option Addr) (cdv ct : Value) (us : List Value), us.length = ps.length → bindArgs (PySem.W.fnOf x x (defArgs st) (defBody st) (defScope st) .none kV doc pm an cdv ct) ⟨us, []⟩ = pure (ps.zip us)) : Df P w K mg base k x ps sp := by
  obtain ⟨f, fd, a, F⟩ := F
  exact df_of (ok f fd F) F (PySem.W.mg_of X G a) (F.binds b)
/-! ### classes of errors -/
theorem kit_own {K : PySem.W.Frag} {D C : Addr} (hc : PySem.W.isClsIn K C = true) (ht : PySem.W.typeIn K (.ref C) = some (.type "type")) (h : PySem.W.subIn K (.ref D) (.ref C) = some true) : PySem.W.kitOne K (.ref D) (.ref C) = some true := by
  unfold PySem.W.kitOne
  split
  · rfl
  · have e : ((PySem.W.clsIn K C).isSome && PySem.W.typeIn K (.ref C) == some (.type "type")) = true := by
      have hc' : (PySem.W.clsIn K C).isSome = true := hc
      rw [hc', ht] <;> rfl
    show (if ((PySem.W.clsIn K C).isSome && PySem.W.typeIn K (.ref C) == some (.type "type")) = true then PySem.W.subIn K (.ref D) (.ref C) else none) = some true
    rw [if_pos e]
    exact h
theorem kit_bt {K : PySem.W.Frag} {D : Addr} {T : String} {b : Bool} (hm : PySem.W.kitMeta T = true) (h : PySem.W.subIn K (.ref D) (.type T) = some b) : PySem.W.kitOne K (.ref D) (.type T) = some b := by
  show (if PySem.W.kitMeta T = true then PySem.W.subIn K (.ref D) (.type T) else none) = some b
  rw [if_pos hm]
  exact h
/-- what k_is says of an own error -/
structure ErK (K : PySem.W.Frag) (x : Str) (C : Addr) : Prop where
  gC : PySem.W.nsIn K mainGlobals x = some (some (.ref C))
  kC : PySem.W.keepIn K (.ref C) = true
  exC : PySem.W.subIn K (.ref C) (.type "BaseException") = some true
  tyC : PySem.W.typeIn K (.ref C) = some (.type "type")
  hdC : PySem.W.hasDictIn K C = true
  me : PySem.W.subIn K (.ref C) (.ref C) = some true
  hg : PySem.W.findIn K (.ref C) "__getattribute__" = some (some (.builtin "BaseException.__getattribute__"))
  hk : PySem.W.findIn K (.ref C) "__getattr__" = some none
  ha : PySem.W.findIn K (.ref C) "__class__" = some (some (.builtin "object.__class__"))
  hn : PySem.W.specialIn K (.builtin "object.__class__") "__get__" = some (some (.builtin "getset_descriptor.__get__"))
  ht : PySem.W.takesIn K (.builtin "object.__class__") = some true
  hm : PySem.W.mroIn K C (.type "object") = some true
theorem ErK.exC' {K : PySem.W.Frag} {x : Str} {C : Addr} (E : ErK K x C) : ExcC K C := ⟨E.hg, E.hk, E.exC, E.hdC, E.ha, E.hn, E.ht, E.hm⟩
theorem ErK.exm {K : PySem.W.Frag} {x : Str} {C : Addr} (E : ErK K x C) : PySem.W.exmOne K (.ref C) (.ref C) = some true := PySem.W.exm_ref E.exC E.hdC E.tyC E.me
/-- the __init__ of an own error, as the top made it -/
abbrev supFn (q : Str) (st : Stmt) (cc : Addr) (kV doc pm : Value) (an : Option Addr) (cda : Addr) (ct : Value) : FuncData :=
  { PySem.W.fnOf "__init__" q (defArgs st) (defBody st) (defScope st) .none kV doc pm an (.ref cda) ct with closure := [(("__class__" : Str), cc)] }
/-- what k_is says of it -/
structure ErF (P : Program) (K : PySem.W.Frag) (C : Addr) (q : Str) (st : Stmt) (cc cda fI : Addr) (fd : FuncData) : Prop where
  cls : ∃ nm qn N bs bm sn sub ab col dd k0 k1 k2 k3 k5, K.lookup C = some (excClassObj nm qn C N bs bm true sn sub ab col dd k0 k1 k2 k3 k5 "ValueError.__new__") ∧ PySem.HandSPX.refsVE bm = true
  sa : PySem.W.findIn K (.ref C) "__setattr__" = some (some (.builtin "object.__setattr__"))
  iC : PySem.W.findIn K (.ref C) "__init__" = some (some (.ref fI))
  tC : PySem.W.typeIn K (.ref fI) = some (.type "function")
  fn : ∃ oc od osl, K.lookup fI = some ⟨oc, od, .func fd, osl⟩
  hcd : PySem.W.codeIn K (.ref cda) q = true
  cell : ∃ cl cld csl, K.lookup cc = some ⟨cl, cld, .cell (some (.ref C)), csl⟩
  code : ∃ ccl cdd vs ccs file tf, K.lookup cda = some ⟨ccl, cdd, .fields vs, ccs⟩ ∧ vs[2]? = some (.str file tf) ∧ ((P.main.file : Str) == file) = true
  third : PySem.W.nsIn K PySem.cStatics "thirdparty.any" = some none
  hm : PySem.W.ks_superIn K C C "__init__" = some (some (.builtin "ValueError.__init__"))
  hB : PySem.W.subIn K (.ref C) (.type "ValueError") = some true
  hsub : PySem.W.mroIn K C (.ref C) = some true
  top : (P.main.scope.names.lookup ("super" : Str)).isSome = false
theorem ErF.sup {P : Program} {K : PySem.W.Frag} {C : Addr} {q : Str} {st : Stmt} {cc cda fI : Addr} {kV doc pm ct : Value} {an : Option Addr} (E : ErF P K C q st cc cda fI (supFn q st cc kV doc pm an cda ct)) : PySem.USup.SupCls P K C fI cc cda (supFn q st cc kV doc pm an cda ct) :=
  { cls := E.cls, sa := E.sa, iC := E.iC, tC := E.tC, fn := E.fn, clo := rfl, gl := rfl, bl := rfl, cdv := rfl, hcd := E.hcd, cell := E.cell, code := E.code, third := E.third, hm := E.hm, hB := E.hB, hsub := E.hsub, top := E.top }
theorem er_of {P : Program} {w : World} {K : PySem.W.Frag} {mg : Str → Option Value} {h : Heap} {x : Str} {C : Addr} {q : Str} {st : Stmt} {cc cda fI : Addr} {kV doc pm ct : Value} {an : Option Addr} {ps : List Str} {fs : List (Str × Str)} {MV : List V → Prop} {msg : Expr} (X : K.In h) (G : h.Ns mainGlobals mg) (E : ErK K x C) (F : ErF P K C q st cc cda fI (supFn q st cc kV doc pm an cda ct))
    (gS : PySem.W.nsIn K mainGlobals "super" = some none) (IT : PySem.USup.InitText (supFn q st cc kV doc pm an cda ct) fI ps msg fs)
    (hmsg : ∀ (vs : List V) (us : List Value) (a : Addr) (L : Addr), Vals vs us → vs.length = ps.length → MV vs → PySem.USup.MsgOk P w (callEnv (supFn q st cc kV doc pm an cda ct) L fI) (fun y => (((("self" : Str) :: ps).zip (Value.ref a :: us)).reverse).lookup y) msg)
    (hps : ∀ fp ∈ fs, PySem.W.findIn K (.ref C) fp.1 = some none ∧ fp.2 ∈ ps) (hfl : fs.length ≤ 100) (hpl : ps.length ≤ 1000) : Er P w K mg x C ps fs MV :=
  ⟨⟨fI, cc, cda, _, msg, F.sup, IT, hmsg⟩, PySem.W.mg_none_of X G gS, PySem.W.mg_of X G E.gC, E.kC, E.exC, E.tyC, E.hdC, hps, hfl, hpl⟩
theorem cls_ex {K : PySem.W.Frag} {C : Addr} {nm qn : Str} {N : Addr} {bs bm : List Value} {sn : List Str} {sub : List Value} {ab : Bool} {col : Option Bool} {dd : Option Addr} {k0 k1 k2 k3 k5 : Option Value} (x : K.lookup C = some (excClassObj nm qn C N bs bm true sn sub ab col dd k0 k1 k2 k3 k5 "ValueError.__new__")) (y : PySem.HandSPX.refsVE bm = true) :
    ∃ nm qn N bs bm sn sub ab col dd k0 k1 k2 k3 k5, K.lookup C = some (excClassObj nm qn C N bs bm true sn sub ab col dd k0 k1 k2 k3 k5 "ValueError.__new__") ∧ PySem.HandSPX.refsVE bm = true := ⟨_, _, _, _, _, _, _, _, _, _, _, _, _, _, _, x, y⟩
theorem fn_ex {K : PySem.W.Frag} {fI : Addr} {oc : Value} {od : Option Addr} {fd : FuncData} {osl : Array (Option Value)} (x : K.lookup fI = some ⟨oc, od, .func fd, osl⟩) : ∃ oc od osl, K.lookup fI = some ⟨oc, od, .func fd, osl⟩ := ⟨_, _, _, x⟩
theorem cell_ex {K : PySem.W.Frag} {cc C : Addr} {cl : Value} {cld : Option Addr} {csl : Array (Option Value)} (x : K.lookup cc = some ⟨cl, cld, .cell (some (.ref C)), csl⟩) : ∃ cl cld csl, K.lookup cc = some ⟨cl, cld, .cell (some (.ref C)), csl⟩ := ⟨_, _, _, x⟩
theorem code_ex {P : Program} {K : PySem.W.Frag} {cda : Addr} {ccl : Value} {cdd : Option Addr} {vs : Array Value} {ccs : Array (Option Value)} {file : Str} {tf : Nat} (x : K.lookup cda = some ⟨ccl, cdd, .fields vs, ccs⟩) (y : vs[2]? = some (.str file tf)) (z : ((P.main.file : Str) == file) = true) :
    ∃ ccl cdd vs ccs file tf, K.lookup cda = some ⟨ccl, cdd, .fields vs, ccs⟩ ∧ vs[2]? = some (.str file tf) ∧ ((P.main.file : Str) == file) = true := ⟨_, _, _, _, _, _, x, y, z⟩
end U

/-! ## lists in hand: displays, sums, slices, copies; lcm -/
namespace U
open PySem PySem.Spec PyProof.Rows L2
/-- a list as it was laid -/
def Own (Ps : List Pr) : Pr := fun v H => ∃ p xs, v = .ref p ∧ H p = some (.lst xs) ∧ Safe H xs ∧ AllP Ps xs H
instance mn_own {W : HR} [w : Pre W] {Ps : List Pr} [ml : MnL W Ps] : Mn W (Own Ps) := ⟨fun v H H' h ⟨p, xs, e, hq, hn, hp⟩ => ⟨p, xs, e, w.own h hn hq, hn.mono h, ml.mn xs H H' h hp⟩⟩
theorem own_lst {K : PySem.W.Frag} {Ps : List Pr} {v : V} {H : Hp} (h : Own Ps v H) : Lst K Ps v H := let ⟨p, xs, e, a, b, c⟩ := h; ⟨p, xs, e, SqL.of a, b, c⟩
theorem allp_app : ∀ {Ps Qs : List Pr} {xs ys : List V} {H : Hp}, AllP Ps xs H → AllP Qs ys H → AllP (Ps ++ Qs) (xs ++ ys) H
  | [], _, [], _, _, _, k => k
  | [], _, _ :: _, _, _, h, _ => h.elim
  | _ :: _, _, [], _, _, h, _ => h.elim
  | _ :: Ps, Qs, _ :: xs, ys, _, h, k => ⟨h.1, allp_app (Ps := Ps) (Qs := Qs) (xs := xs) (ys := ys) h.2 k⟩
theorem allp_split : ∀ {Ps Qs : List Pr} {vs : List V} {H : Hp}, AllP (Ps ++ Qs) vs H → ∃ xs ys, vs = xs ++ ys ∧ AllP Ps xs H ∧ AllP Qs ys H
  | [], _, vs, _, h => ⟨[], vs, rfl, True.intro, h⟩
  | _ :: _, _, [], _, h => h.elim
  | P :: Ps, Qs, v :: vs, H, h => by
    obtain ⟨xs, ys, e, a, b⟩ := allp_split (Ps := Ps) (Qs := Qs) (vs := vs) h.2
    exact ⟨v :: xs, ys, by rw [e]; rfl, ⟨h.1, a⟩, b⟩
instance mnl_app {W : HR} {Ps Qs : List Pr} [m1 : MnL W Ps] [m2 : MnL W Qs] : MnL W (Ps ++ Qs) := ⟨fun vs H H' w h => by
  obtain ⟨xs, ys, rfl, a, b⟩ := allp_split h
  exact allp_app (m1.mn _ _ _ w a) (m2.mn _ _ _ w b)⟩
theorem allp_drop : ∀ {Ps : List Pr} {xs : List V} {H : Hp} (n : Nat), AllP Ps xs H → AllP (Ps.drop n) (xs.drop n) H
  | _, _, _, 0, h => h
  | [], [], _, _ + 1, h => h
  | [], _ :: _, _, _ + 1, h => h.elim
  | _ :: _, [], _, _ + 1, h => h.elim
  | _ :: Ps, _ :: xs, _, n + 1, h => allp_drop (Ps := Ps) (xs := xs) n h.2
theorem allp_take : ∀ {Ps : List Pr} {xs : List V} {H : Hp} (n : Nat), AllP Ps xs H → AllP (Ps.take n) (xs.take n) H
  | _, _, _, 0, _ => True.intro
  | [], [], _, _ + 1, h => h
  | [], _ :: _, _, _ + 1, h => h.elim
  | _ :: _, [], _, _ + 1, h => h.elim
  | _ :: Ps, _ :: xs, _, n + 1, h => ⟨h.1, allp_take (Ps := Ps) (xs := xs) n h.2⟩
/-- the cut of any list, as a slice cuts -/
def cutL {A : Type} (xs : List A) (lo hi : Option Int) : List A := (xs.drop (HT.sIx xs.length 0 lo)).take (HT.sIx xs.length xs.length hi - HT.sIx xs.length 0 lo)
theorem allp_cut {Ps : List Pr} {xs : List V} {H : Hp} {lo hi : Option Int} (h : AllP Ps xs H) : AllP (cutL Ps lo hi) (cutV xs lo hi) H := by
  unfold cutL cutV
  rw [allp_len h]
  exact allp_take _ (allp_drop _ h)
section
variable {Y : Rs} [w : Pre Y.W] {G : Ctx} {te : TE} {K : PySem.W.Frag} {Ps Qs : List Pr}
theorem ev_own {tr : TA} [ml : MnL Y.W Ps] (ha : EvA Y G tr Ps) (hn : ∀ vs H, AllP Ps vs H → Safe H vs) (hl : Ps.length ≤ 100000 := by first | decide | (simp only [List.length_cons, List.length_nil]; decide)) : Ev Y G (tLst tr) (Own Ps) := fun s H ty hx Q q =>
  ha s H ty hx _ fun vs H1 w1 p1 => ⟨by rw [allp_len p1]; exact Evl.sz_of hl, fun p hp => by
    have w2 : Y.W H1 (upd H1 p (.lst vs)) := w.ext (Evl.Ex.new hp)
    exact q _ _ (w.trans w1 w2) ⟨p, vs, rfl, upd_same, (hn vs H1 p1).mono w2, ml.mn vs _ _ w2 p1⟩⟩
/-- a part of a slice -/
def EvO (Y : Rs) (G : Ctx) (to : TO) (o : Option Int) : Prop := ∀ s H, Ty G s H → Hx Y H → ∀ Q : Option Int → Hp → Prop, (∀ H2, Y.W H H2 → Q o H2) → to s H Q
theorem eo_none : EvO Y G tNoPart none := fun s H _ _ Q q => q H (w.refl H)
omit w in
theorem eo_some {i : Int} (h : Ev Y G te (Is (.int i))) : EvO Y G (tPart te) (some i) := fun s H ty hx Q q => h s H ty hx _ fun v H2 w2 e => ⟨i, e, q H2 w2⟩
theorem ev_slL {tl th : TO} {lo hi : Option Int} [mc : MnC Y.W G] [ml : MnL Y.W Ps] (h : Ev Y G te (Lst K Ps)) (h1 : EvO Y G tl lo) (h2 : EvO Y G th hi) (mcut : MnL Y.W (cutL Ps lo hi)) (hn : ∀ vs H, AllP (cutL Ps lo hi) vs H → Safe H vs) : Ev Y G (tSl (rSlL K) te tl th) (Own (cutL Ps lo hi)) := fun s H ty hx Q q =>
  h s H ty hx _ fun v H1 w1 p1 => h1 s H1 (mc.mn s H H1 w1 ty) (hx.mono w1) _ fun H2 w2 => h2 s H2 (mc.mn s H H2 (w.trans w1 w2) ty) (hx.mono (w.trans w1 w2)) _ fun H3 w3 => by
    have w23 := w.trans w2 w3
    obtain ⟨p, xs, e, hq, hs, hp⟩ := (mn_lst (K := K) (Ps := Ps)).mn v H1 H3 w23 p1
    refine ⟨p, xs, e, hq, fun l hl => ?_⟩
    have w4 : Y.W H3 (upd H3 l (.lst (cutV xs lo hi))) := w.ext (Evl.Ex.new hl)
    have hc := allp_cut (lo := lo) (hi := hi) hp
    exact q _ _ (w.trans (w.trans w1 w23) w4) ⟨l, _, rfl, upd_same, (hn _ _ hc).mono w4, mcut.mn _ _ _ w4 hc⟩
end
section
variable {W : HR} [w : Pre W] {K : PySem.W.Frag} {Ps Qs : List Pr}
theorem o_cat [m1 : MnL W (Ps ++ Qs)] (l : Ps.length + Qs.length ≤ 100000) (hn : ∀ vs H, AllP (Ps ++ Qs) vs H → Safe H vs) : Op2 W (rAddA K) (Own Ps) (Own Qs) (Own (Ps ++ Qs)) := fun x y H ⟨p, xs, e, hq, _, hp⟩ ⟨p', ys, e', hq', _, hp'⟩ Q q => by
  refine .inr (.inr (.inl ⟨p, p', xs, ys, e, e', hq, hq', ?_, fun l hl => ?_⟩))
  · rw [allp_len hp, allp_len hp']; exact Evl.sz_of l
  · have w2 : W H (upd H l (.lst (xs ++ ys))) := w.ext (Evl.Ex.new hl)
    have h := allp_app hp hp'
    exact q _ _ w2 ⟨l, _, rfl, upd_same, (hn _ _ h).mono w2, m1.mn _ _ _ w2 h⟩
/-! ### copies -/
def rTupOf (K : PySem.W.Frag) : List V → Hp → VK → Prop := fun xs H Q => ∃ p ys, xs = [.ref p] ∧ ((SqL K H p ys ∧ ∀ l, H l = none → Q (.ref l) (upd H l (.tup ys))) ∨ (SqT K H p ys ∧ Q (.ref p) H))
theorem call_tupA {X : Cx} : CallR X (.type "tuple") (rTupOf X.K) := call_tuple_of
def rLstOf (K : PySem.W.Frag) : List V → Hp → VK → Prop := fun xs H Q => ∃ p ys, xs = [.ref p] ∧ (SqL K H p ys ∨ SqT K H p ys) ∧ ∀ l, H l = none → Q (.ref l) (upd H l (.lst ys))
theorem call_lstA {X : Cx} : CallR X (.type "list") (rLstOf X.K) := call_list_of
theorem opA_tupL [ml : MnL W Ps] : OpA W (rTupOf K) [Lst K Ps] (Tup K Ps) := fun vs H a Q q => by
  obtain ⟨x, ev, p, xs, e, hq, hn, hp⟩ := allp1 a
  refine ⟨p, xs, by rw [ev, e], .inl ⟨hq, fun l hl => ?_⟩⟩
  have w2 : W H (upd H l (.tup xs)) := w.ext (Evl.Ex.new hl)
  exact q _ _ w2 ⟨l, xs, rfl, Rd.of upd_same, ml.mn _ _ _ w2 hp⟩
theorem opA_tupT : OpA W (rTupOf K) [Tup K Ps] (Tup K Ps) := fun vs H a Q q => by
  obtain ⟨x, ev, p, xs, e, hq, hp⟩ := allp1 a
  exact ⟨p, xs, by rw [ev, e], .inr ⟨.inl hq, q _ H (w.refl H) ⟨p, xs, rfl, hq, hp⟩⟩⟩
theorem opA_lstL [ml : MnL W Ps] : OpA W (rLstOf K) [Lst K Ps] (Own Ps) := fun vs H a Q q => by
  obtain ⟨x, ev, p, xs, e, hq, hn, hp⟩ := allp1 a
  refine ⟨p, xs, by rw [ev, e], .inl hq, fun l hl => ?_⟩
  have w2 : W H (upd H l (.lst xs)) := w.ext (Evl.Ex.new hl)
  exact q _ _ w2 ⟨l, xs, rfl, upd_same, hn.mono w2, ml.mn _ _ _ w2 hp⟩
theorem opA_lstT [ml : MnL W Ps] (hn : ∀ vs H, AllP Ps vs H → Safe H vs) : OpA W (rLstOf K) [Tup K Ps] (Own Ps) := fun vs H a Q q => by
  obtain ⟨x, ev, p, xs, e, hq, hp⟩ := allp1 a
  refine ⟨p, xs, by rw [ev, e], .inr (.inl hq), fun l hl => ?_⟩
  have w2 : W H (upd H l (.lst xs)) := w.ext (Evl.Ex.new hl)
  exact q _ _ w2 ⟨l, xs, rfl, upd_same, (hn _ _ hp).mono w2, ml.mn _ _ _ w2 hp⟩
/-! ### lcm -/
def rLcm : List V → Hp → VK → Prop := fun vs H Q => ∃ a b : Int, vs = [.int a, .int b] ∧ (max 1 a.natAbs).log2 < 13000 ∧ (max a.natAbs b.natAbs).log2 < 13000 ∧ (a.natAbs.lcm b.natAbs).log2 < PySem.bitsLine ∧ Q (.int ((a.natAbs.lcm b.natAbs : Nat) : Int)) H
theorem cr_lcm {X : Cx} : CallR X (.builtin "math.lcm") rLcm := by
  intro pins s σ H vs us Q I r h
  obtain ⟨a, b, rfl, h1, h2, h3, q⟩ := h
  obtain ⟨t, u, rfl⟩ := Vals.int2 r
  have e : (Nat.lcm 1 a.natAbs) = a.natAbs := by rw [Nat.lcm_one_left]
  have g := PySem.W.mg_run_lcm a t b u (by omega) (by omega) (by rw [e, Int.natAbs_natCast]; exact h3)
  rw [e] at g
  exact call_function_meets PySem.W.MGF.kind_lcm PySem.W.MGF.plain_lcm PySem.W.MGF.entry_lcm (PySem.W.MGF.args_lcm _ _) g.meets ⟨.int _, H, I.tok _, ⟨_, rfl⟩, q⟩
end
end U

namespace U
open PySem PySem.Spec PyProof.Rows L2
/-! ## a def whose text is read by its way; comprehensions of pairs -/
section
variable {P : Program} {w : World} {K : PySem.W.Frag} {mg : Str → Option Value} {base : Heap}
theorem okI {W : HR} {x qual : Str} {st : Stmt} {f : Addr} {fd : FuncData} {N ps : List Str} {k : Nat} {I : Type} {C : I → Prop} {fw : I → Way} (F : Fun K x qual st f fd) (S : FnScope N ps (defScope st)) (hlen : ∀ i, (fw i).Ps.length = ps.length) (hN : ps.length ≤ N.length)
    (body : ∀ (cdv : Value) (A : Around) (outer : List Env) (s : Shared) (H : Hp) (E : XK), Room k (A.deeper (envOfC qual (defScope st) s.heap.objs.size f cdv)) → ∀ i, C i →
      ∃ t, PSs (cxOf (L2N.CX P w) P w K mg base N qual (defScope st) f cdv A outer s H E) (defBody st) t ∧ ∃ M, St (RsW W E (fw i).X N.length) (entry (fw i).Ps N.length) t M (fw i).P ∧ ∀ s H', Ty M s H' → (fw i).P .non H') :
    FnOk P w K mg base (L2N.CX P w) (k + 1) f fd ps (SpW W C fw) :=
  F.okN S (fun vs H Q E h => by obtain ⟨i, _, a, _⟩ := h; rw [allp_len a, hlen]) fun cdv A outer s H vs Q E hr h => by
    obtain ⟨i, c, a, q, e⟩ := h
    obtain ⟨t, ht, M, hs, hm⟩ := body cdv A outer s H E hr i c
    refine ⟨t, ht, hs _ H _ ?_ (fun s cls d H' x _ y => e cls d H' x y) (fun s' H' x ty => q _ H' x (hm s' H' ty)) q⟩
    have en := ty_entry (n := N.length - (fw i).Ps.length) a
    have l1 := allp_len a
    unfold L2.start entry
    rw [l1]
    exact en
end
section
variable {Y : Rs} [w : Pre Y.W] {G : Ctx} {te : TE} {K : PySem.W.Frag}
omit w in
theorem ei_sub {wi : TI} {n : Nat} {It It' : Nat → Pr} (h : EvI Y G wi n It) (k : ∀ i, i < n → ∀ v H, It i v H → It' i v H) : EvI Y G wi n It' := fun s H ty hx R q =>
  h s H ty hx R fun J H2 Gd w2 g gm wk => q J H2 Gd w2 g gm ⟨wk.goes, wk.stops, fun i Ha x Hb hi z y => let ⟨a, b⟩ := wk.yields i Ha x Hb hi z y; ⟨a, k i hi x Hb b⟩⟩
/-- what is laid in a list stands while other things are written -/
theorem ev_lc2 {wi : TI} {n : Nat} {I1 I2 P : Nat → Pr} {j l : Nat} (hi : EvI Y G wi n fun i => Tup K [I1 i, I2 i]) (hn : n < 100000) [mc : MnC Y.W G] (mt : ∀ i, Mn WT (P i)) (mw : ∀ i, Mn Y.W (P i)) (hjl : j ≠ l) (he : ∀ i, i < n → Ev Y ((((G.set l none).set j none).set j (some (I1 i))).set l (some (I2 i))) te (P i)) (hh : ∀ i acc H, i ≤ n → AllP (each i P) acc H → Safe H acc) :
    Ev Y G (tLc wi (gTup K 2 (gCons (gName j) (gCons (gName l) gNil))) tYes te [j, l]) (New (each n P)) := fun s H ty hx Q q =>
  hi s H ty hx _ fun J H1 Gd w1 g1 gm wk D hD => by
    refine lc_it wk (fun i H' => Y.W H1 H' ∧ ∃ acc, H' D = some (.lst acc) ∧ AllP (each i P) acc H') ⟨w.wrt (w.refl H1) hD, [], upd_same, True.intro⟩ (fun i H' _ z => gm _ _ z.1 g1) (fun i x Ha Hb hi z y => ?_) (fun H' ⟨z, acc, e, a⟩ => q _ H' (w.trans w1 z) ⟨D, acc, rfl, e, a⟩)
    obtain ⟨z, acc, e, a⟩ := z
    obtain ⟨y1, p, xs, ep, hq, hp⟩ := y
    obtain ⟨b1, b2, rfl⟩ : ∃ a b, xs = [a, b] := by
      have len := allp_len hp
      match xs, len with
      | [a, b], _ => exact ⟨a, b, rfl⟩
    have nh := hh i acc Ha (Nat.le_of_lt hi) a
    have wb := w.trans z y1
    have tyb : Ty ((((G.set l none).set j none).set j (some (I1 i))).set l (some (I2 i))) ((((s.set l none).set j none).set j (some b1)).set l (some b2)) Hb := ((ty_wipe j (ty_wipe l (mc.mn s H Hb (w.trans w1 wb) ty))).put hp.1).put hp.2.1
    refine ⟨p, [b1, b2], ep, .inl hq, rfl, b1, [b2], rfl, b2, [], rfl, rfl, ?_⟩
    refine ⟨?_, ?_⟩
    · show (((((s.set l none).set j none).set j (some b1)).set l (some b2)).set l none).set j none = (s.set l none).set j none
      rw [List.set_set, List.set_set, List.set_comm _ _ hjl, List.set_set, List.set_set]
    dsimp only [tYes]
    rw [if_pos (rfl : true = true)]
    refine he i hi _ Hb tyb (hx.mono (w.trans w1 wb)) _ fun v H4 w4 p4 => ?_
    have e4 := w.own (w.trans y1 w4) nh e
    have ma : ∀ R ∈ each i P, Mn Y.W R := fun R h => by obtain ⟨k, _, rfl⟩ := each_mem h; exact mw k
    have ta : ∀ R ∈ each i P, Mn WT R := fun R h => by obtain ⟨k, _, rfl⟩ := each_mem h; exact mt k
    have a4 := allp_mn ma (w.trans y1 w4) a
    have wt : WT H4 (upd H4 D (.lst (acc ++ [v]))) := wt_put e4 rfl
    have l4 := allp_len a4
    rw [each_len] at l4
    refine ⟨acc, e4, Evl.sz_lt (by omega), w.wrt (w.trans wb w4) hD, _, upd_same, ?_⟩
    rw [each_succ]
    exact allp_snoc (allp_mn ta wt a4) ((mt i).mn v _ _ wt p4)
end
/-! ### lists whose items are no hand's -/
/-- a whole number or a pair: no list's place -/
def Plain (P : Pr) : Prop := ∀ v H, P v H → (∃ i : Int, v = .int i) ∨ ∃ c ys, v = .ref c ∧ Rd H c (.tup ys)
theorem plain_is {i : Int} : Plain (Is (.int i)) := fun v H h => .inl ⟨i, h⟩
theorem plain_tup {K : PySem.W.Frag} {Ps : List Pr} : Plain (Tup K Ps) := fun v H ⟨p, xs, e, hq, _⟩ => .inr ⟨p, xs, e, hq⟩
theorem safe_plain {Ps : List Pr} (h : ∀ P ∈ Ps, Plain P) {vs : List V} {H : Hp} (a : AllP Ps vs H) : Safe H vs := by
  match Ps, vs, a with
  | [], [], _ => exact .inl rfl
  | P :: Ps, v :: vs, a =>
    rcases h P List.mem_cons_self v H a.1 with ⟨i, rfl⟩ | ⟨c, ys, rfl, hq⟩
    · exact .inl rfl
    · exact .inr ⟨c, vs, ys, rfl, hq⟩
theorem safe_each {n : Nat} {P : Nat → Pr} (h : ∀ i, Plain (P i)) {vs : List V} {H : Hp} (a : AllP (each n P) vs H) : Safe H vs := safe_plain (fun Q hQ => by obtain ⟨i, _, rfl⟩ := each_mem hQ; exact h i) a
theorem new_own {Ps : List Pr} (h : ∀ vs H, AllP Ps vs H → Safe H vs) {v : V} {H : Hp} (k : New Ps v H) : Own Ps v H := let ⟨p, xs, e, a, b⟩ := k; ⟨p, xs, e, a, h _ _ b, b⟩
theorem nth_each {n i : Nat} {P : Nat → Pr} (h : i < n) : nth (each n P) i = P i := by unfold nth each; simp [h]
end U

/-! ## a list comprehension whose step may raise -/
namespace U
open PySem PySem.Spec PyProof.Rows L2
section
variable {M : Model} {A : Around} {E : Value → Shared → Prop} {s : Shared} {env : Env}
/-- behind the block: as ever where it went well; what was raised goes on from the block's frame -/
def PostX (M : Model) (A : Around) (E : Value → Shared → Prop) (use : Option (Value → Sem Unit)) (Q : Value → Shared → Prop) (acc : Value) (cenv : Env) : Result → Shared → Prop
  | .ok r, s' => compPost M A E use Q acc cenv.locals (.ok r) s'
  | .error x, s' => ∃ m, s'.heap.Ns cenv.locals m ∧ ∀ h', Heap.SameBut cenv.locals s'.heap h' → wpAny M A (passOn "comprehension.variables-let-go" x cenv : Sem Value) (fun _ _ => False) E { s' with heap := h' }
/-- the rule of a comprehension with that wish -/
theorem lcx_free {e : Expr} {scope : Scope} {pos : Pos} {newAcc first : Sem Value} {g : Comprehension} {gs : List Comprehension} {cl : List (Str × Addr)} {use : Option (Value → Sem Unit)} {Q : Value → Shared → Prop}
    (c1 : clausesOf e = g :: gs) (c2 : ∀ x, foldedSetIterable g.iter env x = pure x) (c3 : closureFor scope env = pure cl) (c4 : scope.kind = .function) (c5 : ∀ x ∈ scope.names, x.2 = .local → scope.names.lookup x.1 = some .local)
    (h : wpAny M A first (fun x s1 => wpAny M A (pyIter x) (fun it s2 => wpAny M A newAcc (fun acc s3 => wpAny M A (newFunctionEnv scope env.globals cl [] env.qual none .none (some env)) (fun ce s4 =>
      codeAny M A (.compStart e 0 it acc { ce with scope := relabel scope env }) (PostX M A E use Q acc { ce with scope := relabel scope env }) s4) E s3) E s2) E s1) E s) :
    wpAny M A (comprehension e scope env pos newAcc false first use) Q E s := by
  have same : ∀ (x : Value) (t : Shared), E x t → E x t := fun _ _ z => z
  unfold comprehension
  rw [c3, c1]
  refine wpAny_bind (wpAny_mono h (fun x s1 k1 => ?_) same)
  refine wpAny_bind (wpAny_standAt (wpAny_bind (wpAny_of_eq (c2 x) (wpAny_bind (wpAny_holding (wpAny_mono k1 (fun it s2 k2 => ?_) same))))))
  refine wpAny_standIf (wpAny_bind (wpAny_mono k2 (fun acc s3 k3 => ?_) same))
  refine wpAny_bind (wpAny_pure (wpAny_bind (wpAny_mono k3 (fun ce s4 k4 => ?_) same)))
  dsimp only
  let own := (scope.names.filter fun x => (x.2 == .local || x.2 == .cell) && x.1 != (".0" : Str)).reverse
  have all : ∀ x ∈ own, x.2 = .local → Env.kindOf { ce with scope := relabel scope env } x.1 = some .local := fun x hx hl =>
    lookup_relabel_local (c5 x (List.mem_filter.mp (List.mem_reverse.mp hx)).1 hl)
  have turned : ∀ x ∈ own.drop 1 ++ own.take 1, x.2 = .local → Env.kindOf { ce with scope := relabel scope env } x.1 = some .local := fun x hx hl =>
    (List.mem_append.mp hx).elim (fun z => all x (List.mem_of_mem_drop z) hl) fun z => all x (List.mem_of_mem_take z) hl
  refine wpAny_holding (wpAny_bind (wpAny_attempt (wpAny_holding (wpAny_run (codeAny_mono k4 fun r s5 k5 => ?_)))))
  cases r with
  | error x =>
    obtain ⟨m, hn, k⟩ := k5
    refine wpAny_bind (wpAny_holding (wpAny_comp_letGo (cenv := { ce with scope := relabel scope env }) c4 own s5 m all hn fun h' m' _ sb => ?_))
    exact wpAny_mono (k h' sb) (fun _ _ z => False.elim z) same
  | ok f =>
    cases use with
    | none =>
      obtain ⟨m, hn, k⟩ := k5
      exact wpAny_bind (wpAny_holding (wpAny_comp_letGo (cenv := { ce with scope := relabel scope env }) c4 own s5 m all hn fun h' m' _ sb => wpAny_pure (k h' sb)))
    | some u =>
      refine wpAny_bind (wpAny_rule (wpAny_bind (wpAny_holding (wpAny_mono (k5 : wpAny M A (u acc) _ E s5) (fun _ s6 k6 => ?_) same))))
      obtain ⟨m, hn, k⟩ := k6
      exact wpAny_bind (wpAny_comp_letGo (cenv := { ce with scope := relabel scope env }) c4 (own.drop 1 ++ own.take 1) s6 m turned hn fun h' m' _ sb => wpAny_pure (k h' sb))
/-- of the frame alone -/
theorem note_env {e : Value} {env' : Env} (h : env'.frame = env.frame) : noteFrame e env' = noteFrame e env := by
  unfold noteFrame PySem.frameOf
  rw [h]
end
/-! ### what a call in the block lets out, the block's own names apart -/
section
variable {X : Cx} {pins : List (Addr × Obj)} {σ : L2.St} {H : Hp} {s s' : Shared} {C : Addr} {E : XK}
theorem call_but {u : Value} (I : Inv X pins σ H s) (c : L2N.CX X.prog X.w X.stack H s E u s') (fC : FpOk X pins H C) (hC : ∃ o, s.heap.get? C = some o) :
    ∃ (a : Addr) (B G : Heap) (H' : Hp) (cls : Value) (d : Option Addr), u = .ref a ∧ HandSPX.FlyingZ B X.stack a (L2N.Zn cls d) s'.heap ∧ B.get? C = none ∧ Inv X pins σ H' { s with heap := G, gens := s'.gens, drawn := s'.drawn, toks := s'.toks } ∧
      (∀ b o, G.get? b = some o → b ∉ frs X.stack → B.get? b = some o) ∧ (∀ b o, G.get? b = some o → b ≠ C ∧ s'.heap.get? b = some o) ∧ (∀ o, s.heap.get? C = some o → s'.heap.get? C = some o) ∧ C ∉ frs X.stack ∧ H' a = none ∧ s'.os = s.os ∧ AllBare s'.gens ∧ E cls d H' := by
  obtain ⟨a, B0, H', cls, d, rfl, fl, hok, ub, na, os, ag, hE⟩ := c
  obtain ⟨f0, f1, f2, f3, f4, f5⟩ := fC
  have nC : C ∉ frs X.stack := fun hm => (List.mem_cons.mp (I.stkSub C hm)).elim f1 f2
  obtain ⟨oC, hoC⟩ := hC
  have nH : H' C = none := ub.free C oC hoC f0
  obtain ⟨B, b1, b2⟩ := restrict B0 fun b => decide (b ≠ C)
  have bB : ∀ b o, B.get? b = some o → b ≠ C ∧ B0.get? b = some o := fun b o e => by
    by_cases z : b = C
    · rw [b2 b (by simp [z])] at e; cases e
    · rw [b1 b (by simp [z])] at e; exact ⟨z, e⟩
  have Bb : ∀ b o, b ≠ C → B0.get? b = some o → B.get? b = some o := fun b o z e => by rw [b1 b (by simp [z])]; exact e
  have nn : ∀ b, B0.get? b = none → B.get? b = none := fun b e => by
    cases q : B.get? b with
    | none => rfl
    | some o => have := (bB b o q).2; rw [e] at this; cases this
  obtain ⟨st0, k2, k3, k4⟩ := fl
  have st : B.StaysIn s'.heap := fun b o e => st0 b o (bB b o e).2
  have fl' : HandSPX.FlyingZ B X.stack a (L2N.Zn cls d) s'.heap := by
    refine ⟨st, nn a k2, funFrames_none k3 fun L hL => nn L (k3.mem hL).1, ?_⟩
    obtain ⟨oe, vs, T, oT, ts, h1, h2, h3, h4, h5, h6⟩ := k4
    exact ⟨oe, vs, T, oT, ts, h1, h2, h3, h4, nn T h5, h6⟩
  obtain ⟨G, g1, g2⟩ := restrict s'.heap fun b => (B.get? b).isSome || decide (b ∈ frs X.stack)
  have gB : ∀ b o, B.get? b = some o → G.get? b = some o := fun b o e => by
    rw [g1 b (by simp [e])]
    exact st b o e
  have gF : ∀ b, b ∈ frs X.stack → G.get? b = s'.heap.get? b := fun b hb => g1 b (by simp [hb])
  have og : ∀ b o, G.get? b = some o → s'.heap.get? b = some o ∧ ((B.get? b).isSome = true ∨ b ∈ frs X.stack) := fun b o e => by
    cases q : ((B.get? b).isSome || decide (b ∈ frs X.stack)) with
    | false => rw [g2 b q] at e; cases e
    | true =>
      rw [g1 b q] at e
      exact ⟨e, by simpa [Bool.or_eq_true] using q⟩
  have hokB : HOk X.prog X.w H' B := fun b o q => (hok b o q).stay (fun c u hc r => Bb c u (fun z => by
    have z' : H' c = none := by rw [z]; exact nH
    rcases hc with hc | hc
    · rw [hc, q] at z'; cases z'
    · rw [hc] at z'; cases z') r) (fun _ r => r) fun _ _ r => r
  have ne : ∀ b, b ∉ [C] → b ≠ C := fun b h z => h (by simp [z])
  refine ⟨a, B, G, H', cls, d, rfl, fl', b2 C (by simp), ?_, fun b o e hb => ?_, fun b o e => ?_, fun o e => ?_, nC, na, os, ag, hE⟩
  · refine I.call (ch := [C]) ⟨fun b o e n hb hx => gB b o (Bb b o (ne b hx) (ub.keep b o e n hb)), fun b o e n hb hx => ?_, fun b o e n _ => ub.free b o e n, fun b o e hx => ?_, ub.tups, ub.frzs, ub.tbls⟩ (hokB.kept gB) ag fun b hb => ?_
    · obtain ⟨sl, q⟩ := ub.slot b o e hb
      exact ⟨sl, by rw [gF b hb]; exact q⟩
    · by_cases hb : b ∈ frs X.stack
      · obtain ⟨sl, q⟩ := ub.slot b o e hb
        exact ⟨_, by rw [gF b hb]; exact q⟩
      · obtain ⟨o', q⟩ := ub.there b o e hb
        exact ⟨o', gB b o' (Bb b o' (ne b hx) q)⟩
    · have : b = C := by simpa using hb
      subst this
      exact ⟨f3, f1, f4, f5⟩
  · obtain ⟨e', h⟩ := og b o e
    rcases h with h | h
    · obtain ⟨o', q⟩ := Option.isSome_iff_exists.mp h
      have z := st b o' q
      rw [e'] at z; cases z
      exact q
    · exact absurd h hb
  · obtain ⟨e', h⟩ := og b o e
    refine ⟨fun z => ?_, e'⟩
    subst z
    rcases h with h | h
    · rw [b2 b (by simp)] at h; cases h
    · exact nC h
  · exact st0 C o (ub.keep C o e f0 nC)
theorem frames_but {B h h' : Heap} (sb : ∀ b, b ≠ C → h'.get? b = h.get? b) : ∀ {l : List Env}, C ∉ frs l → h.FunFrames B l → h'.FunFrames B l
  | [], _, _ => trivial
  | env :: l, nC, ⟨k, ⟨L, o, hf, hn, ho, hd⟩, r⟩ => by
    have mem : ∀ x, x ∈ frs l → x ∈ frs (env :: l) := fun x hx => by
      obtain ⟨e, he, q⟩ := List.mem_filterMap.mp hx
      exact List.mem_filterMap.mpr ⟨e, List.mem_cons_of_mem _ he, q⟩
    have hL : L ≠ C := fun z => nC (List.mem_filterMap.mpr ⟨env, List.mem_cons_self, by rw [hf, z]⟩)
    exact ⟨k, ⟨L, o, hf, hn, (sb L hL).trans ho, hd⟩, frames_but sb (fun z => nC (mem C z)) r⟩
theorem held_but {B h h' : Heap} {l : List Env} {a L : Addr} {Z : Obj → Prop} (x : HandSPX.HeldZ B l a Z L h) (hB : B.get? C = none) (hC : ∃ o, h.get? C = some o ∧ ∀ vs, o.data ≠ .fields vs) (nC : C ∉ frs l) (sb : ∀ b, b ≠ C → h'.get? b = h.get? b) :
    HandSPX.HeldZ B l a Z L h' := by
  obtain ⟨k1, k2, k3, oe, vs, T, oT, ts, h1, h2, h3, h4, h5, h6, h7, h8, h9⟩ := x
  obtain ⟨oC, eC, nf⟩ := hC
  have na : a ≠ C := fun z => by rw [z, eC] at h1; cases h1; exact nf _ h3
  have nT : T ≠ C := fun z => by rw [z, eC] at h7; cases h7; exact nf _ h8
  exact ⟨fun b o e => (sb b fun z => by rw [z, hB] at e; cases e).trans (k1 b o e), k2, frames_but sb nC k3, oe, vs, T, oT, ts, (sb a na).trans h1, h2, h3, h4, h5, h6, (sb T nT).trans h7, h8, h9⟩
theorem inv_xe {X : Cx} {pins : List (Addr × Obj)} {σ : L2.St} {H : Hp} {s : Shared} (xe : Value → Shared → Prop) (I : Inv X pins σ H s) : Inv { X with xe := xe } pins σ H s :=
  ⟨⟨I.ok.mod, I.ok.kind, I.ok.glob, I.ok.blt, I.ok.above, I.ok.inj, I.ok.has, I.ok.cab, I.ok.hd, I.ok.frames, I.ok.stk, I.ok.exf, I.ok.bs, I.ok.bsz, I.ok.noex, I.ok.exfs, I.ok.funs, I.ok.frf⟩, I.os, I.bare, I.base, I.loc, I.cell, I.free, I.freeC, I.pin, I.hok, I.len⟩
end
/-- the block, with a way for what is raised in it -/
abbrev blkX (X : Cx) (s : Shared) (H : Hp) (scope : Scope) (ce : Env) (fp : List Addr) (xe : Value → Shared → Prop) : Cx := { X.blk s H scope ce fp with xe := xe }
section
variable {X : Cx}
/-- what the step of a block lets out goes where X's wish says -/
def Out (X : Cx) (s : Shared) (H : Hp) (scope : Scope) (ce : Env) (fp : List Addr) (E : XK) (xe : Value → Shared → Prop) : Prop :=
  ∀ (pins : List (Addr × Obj)) (σ : L2.St) (H1 : Hp) (s1 : Shared) (u : Value) (s2 : Shared), Inv (X.blk s H scope ce fp) pins σ H1 s1 → L2N.CX X.prog X.w X.stack H1 s1 E u s2 → xe u s2
theorem lcx_core {pins : List (Addr × Obj)} {s : Shared} {σ : L2.St} {H : Hp} {Q : VK} {E : XK} {elt tg iter : Expr} {ifs : List Expr} {scope : Scope} {own : List (Str × Nat)} {pos pos' : Pos} {wi : TI} {g : TG} {tt : TT} {te : TE} {use : Option (Value → Sem Unit)} {Qf : Value → Shared → Prop}
    (hs0 : X.stack = X.env :: X.outer) (hf : X.env.frame = some X.env.locals) (tk : L2N.Takes X (fun cls d _ H => E cls d H)) (hc : X.calm = true) (hN : X.N.Nodup) (I : Inv X pins σ H s) (hi : PI X tg iter wi) (ok : BlkOk X.N X.env.scope scope own)
    (hg : ∀ (s : Shared) (H : Hp) (C : Addr) (cl : List (Str × Addr)) (fp : List Addr), PG (X.blk s H scope (compEnvC scope cl C X.env) fp) tg g) (ht : ∀ (s : Shared) (H : Hp) (C : Addr) (cl : List (Str × Addr)) (fp : List Addr), PTs (X.blk s H scope (compEnvC scope cl C X.env) fp) ifs tt)
    (he : ∀ (s : Shared) (H : Hp) (C : Addr) (cl : List (Str × Addr)) (fp : List Addr) (xe : Value → Shared → Prop), Out X s H scope (compEnvC scope cl C X.env) fp E xe → PE (blkX X s H scope (compEnvC scope cl C X.env) fp xe) elt te) (hs : ∀ x, foldedSetIterable iter X.env x = pure x)
    (h : tLc wi g tt te (own.map (·.2)) σ H Q)
    (hRR : ∀ D C s' m H', Inv X pins σ H' s' → Q (.ref D) H' → s'.heap.Ns C m → FpOk X pins H' C → compPost (model X.prog X.w) X.A X.xe use Qf (.ref D) C (.ok .next) s') :
    wpAny (model X.prog X.w) X.A (comprehension (.ListComp elt [⟨tg, iter, ifs, 0⟩] scope pos) scope X.env pos' (newList []) false (eval iter X.env) use) Qf X.xe s := by
  have closed : ∀ y ∈ scope.names, y.2 = .free → ∃ c, X.env.cells.lookup y.1 = some c := fun y hy e => (ok.free y hy e).elim (fun k => I.ok.has _ (.inl k)) fun k => I.ok.has _ (.inr k)
  refine lcx_free (use := use) rfl hs (closure_ok closed) ok.kind (fun y hy e => by rw [ok.uniq y hy, e]) (thn (hi.run pins s σ H _ I h) fun xv s1 hx => thn hx fun itv s2 h2 => ?_)
  obtain ⟨it, fp, tn, J, H2, e, I2, T, st2, f2, q⟩ := h2
  subst e
  refine wpAny_newObj_type (newEnv_comp ?_) (by show 0 ≤ sizeLine; decide)
  generalize hD : s2.heap.objs.size = D
  obtain ⟨W, ⟨m0, w0⟩, turn⟩ := q D (I2.hok.fresh (Nat.le_of_eq hD))
  generalize hs3 : ({ s2 with heap := s2.heap.push { cls := .type "list", data := .seq ([] : List Value).toArray } } : Shared) = s3
  have h3 : s3.heap = s2.heap.push { cls := .type "list", data := .seq ([] : List Value).toArray } := by rw [← hs3]
  have kept3 : ∀ b o, s2.heap.get? b = some o → s3.heap.get? b = some o := fun b o e => by rw [h3]; exact Heap.get?_push_of_some _ e
  have I3 : Inv X pins σ (upd H2 D (.lst [])) s3 := by
    rw [← hs3]
    refine I2.laid (t' := s2.toks) (fun b o e => Heap.get?_push_of_some _ e) (Nat.le_of_eq hD) ⟨Nat.zero_le _, [], 0, .nil, ?_⟩
    rw [← hD]
    exact Heap.get?_push_size _ rfl
  have f3 : ∀ b ∈ fp, FpOk X pins (upd H2 D (.lst [])) b ∧ b < s3.heap.objs.size := fun b hb => by
    obtain ⟨o, e, _⟩ := T.obj _ _ st2 b hb
    have lt := Heap.lt_size e
    refine ⟨⟨?_, (f2 b hb).2⟩, Heap.lt_size (kept3 b o e)⟩
    rw [upd_ne (by rw [← hD]; exact Nat.ne_of_lt lt)]
    exact (f2 b hb).1
  have st3 : tn 0 s3.heap := T.keep _ _ _ st2 fun b _ o e => kept3 b o e
  have I4 := block_start I3 ok hN f3
  have pg := hg s3 (upd H2 D (.lst [])) s3.heap.objs.size (cellsFrom (s3.heap.objs.size + 1) scope.names (cloFrom X.env.cells scope.names [])) fp
  have pt := ht s3 (upd H2 D (.lst [])) s3.heap.objs.size (cellsFrom (s3.heap.objs.size + 1) scope.names (cloFrom X.env.cells scope.names [])) fp
  have pe := he s3 (upd H2 D (.lst [])) s3.heap.objs.size (cellsFrom (s3.heap.objs.size + 1) scope.names (cloFrom X.env.cells scope.names [])) fp
  show codeAny _ _ (.compStart (.ListComp elt [⟨tg, iter, ifs, 0⟩] scope pos) 0 (.ref it) (.ref D) (compEnvC scope (cellsFrom (s3.heap.objs.size + 1) scope.names (cloFrom X.env.cells scope.names [])) s3.heap.objs.size X.env))
    (PostX (model X.prog X.w) X.A X.xe use Qf (.ref D) (compEnvC scope (cellsFrom (s3.heap.objs.size + 1) scope.names (cloFrom X.env.cells scope.names [])) s3.heap.objs.size X.env)) { s3 with heap := pushCells (s3.heap.push { cls := .type "dict", data := .dict #[] }) scope.names }
  have nfp : ∀ b ∈ fp, (upd H2 D (.lst [])) b = none := fun b hb => (f3 b hb).1.1
  generalize hce : compEnvC scope (cellsFrom (s3.heap.objs.size + 1) scope.names (cloFrom X.env.cells scope.names [])) s3.heap.objs.size X.env = ce at I4 pg pt pe ⊢
  have cL : ce.locals = s3.heap.objs.size := by subst hce; rfl
  have cF : ce.frame = X.env.frame := by subst hce; rfl
  generalize hH3 : upd H2 D (.lst []) = H3 at I3 I4 pg pt pe w0 nfp f3
  generalize hs4 : ({ s3 with heap := pushCells (s3.heap.push { cls := .type "dict", data := .dict #[] }) scope.names } : Shared) = s4 at I4 ⊢
  have st4 : tn 0 s4.heap := T.keep _ _ _ st3 fun b _ o e => by rw [← hs4]; exact pushCells_keeps _ _ _ _ (Heap.get?_push_of_some _ e)
  have chan : ∀ b ∈ fp, (b ∈ X.ex ∨ X.s_0.heap.objs.size ≤ b) ∧ b ≠ X.env.locals ∧ (∀ x c, X.env.cells.lookup x = some c → c ≠ b) ∧ ∀ p ∈ X.pn ++ pins, p.1 ≠ b := fun b hb => ⟨(f3 b hb).1.2.2.2.1, (f3 b hb).1.2.1, (f3 b hb).1.2.2.2.2.1, (f3 b hb).1.2.2.2.2.2⟩
  have stat : ∀ {σ' : L2.St} {H' : Hp} {s' : Shared}, Inv (X.blk s3 H3 scope ce fp) [] σ' H' s' → (∀ b ∈ fp, H' b = none) → ∀ b ∈ fp, FpOk (X.blk s3 H3 scope ce fp) [] H' b := fun {σ' H' s'} I' hn b hb =>
    ⟨hn b hb, (I'.ok.exf b hb).1, I'.ok.exfs b hb, .inl hb, fun x c e => (I'.ok.exf b hb).2 x c e, fun p hp => absurd (show p ∈ ([] : List (Addr × Obj)) ++ [] from hp) (by simp)⟩
  -- what the step lets out
  have out : ∀ u s', (∃ pins1 σ1 H1 s1, Inv (X.blk s3 H3 scope ce fp) pins1 σ1 H1 s1 ∧ L2N.CX X.prog X.w X.stack H1 s1 E u s') →
      notedBy (model X.prog X.w) X.A ce (fun e s'' => PostX (model X.prog X.w) X.A X.xe use Qf (.ref D) ce (.error e) s'') u s' := fun u s' ⟨pins1, σ1, H1, s1, I1, c⟩ => by
    have Ix : Inv X pins σ H1 s1 := I3.call' (ch := fp) I1.os I1.base I1.hok I1.bare chan
    have nC : H1 ce.locals = none := I1.free
    have FC : FpOk X pins H1 ce.locals := I3.fpOk (by rw [cL]; exact Nat.le_refl _) nC
    obtain ⟨m1, hn1, _⟩ := I1.loc
    have hn1 : s1.heap.Ns ce.locals m1 := hn1
    obtain ⟨o1, es1, ep1, ho1, hd1, r1⟩ := hn1
    obtain ⟨a, B, G, H', cls, d, rfl, fl, hBC, J, nb, gs, kC, nst, na, os, ag, hE⟩ := call_but Ix c FC ⟨o1, ho1⟩
    have hfr : X.A.frames = some (X.env :: X.outer) := by rw [Ix.ok.frames, hs0]
    have hn2 : s'.heap.Ns ce.locals m1 := ⟨o1, es1, ep1, kC o1 ho1, hd1, r1⟩
    have nf1 : ∀ vs, o1.data ≠ .fields vs := fun vs z => by rw [hd1] at z; cases z
    show wpAny (model X.prog X.w) X.A (noteFrame (.ref a) ce) _ _ _
    rw [note_env cF]
    rw [hs0] at fl
    refine PXN.looks_onZ L2N.Zn.steady hfr hf fl fun h1 held up1 => ⟨m1, up1.ns hn2, fun h2 sb => ?_⟩
    obtain ⟨sl1, q1⟩ := up1 _ _ (kC o1 ho1) nf1
    have held2 := held_but held hBC ⟨_, q1, nf1⟩ (by rw [← hs0]; exact nst) sb.2
    obtain ⟨k1, k2, k3, oe, vs, T', oT, ts', he', hz, hd, h1', hr⟩ := id held2
    unfold PySem.passOn
    refine wpAny_bind (wpAny_field he' hd h1' ?_)
    rw [if_neg (show ¬ ((Value.ref T' == Value.none) = true) from by simp)]
    have fin : wpAny (model X.prog X.w) X.A (setFlight (.ref a) ce.frame) (fun _ s5 => wpAny (model X.prog X.w) X.A (throw (.ref a) : Sem Value) (fun _ _ => False) X.xe s5) X.xe { s' with heap := h2 } := by
      rw [cF, hf]
      refine HandSPX.setFlight_onZ held2 fun h5 held5 up5 => wpAny_throw (tk _ _ ?_)
      refine ⟨a, B, _, pins, σ, H', cls, d, rfl, J, nb, fun b o e hnf => ?_, .inr (.inr (by rw [hs0]; exact held5)), na, os, ag, hE⟩
      obtain ⟨ne, e1⟩ := gs b o e
      obtain ⟨sl2, e2⟩ := up1 b o e1 hnf
      obtain ⟨sl3, e3⟩ := up5 b _ ((sb.2 b ne).trans e2) hnf
      exact ⟨sl3, e3⟩
    first
      | exact wpAny_bind (wpAny_pure (wpAny_bind fin))
      | exact wpAny_bind fin
  have loop : codeAny (model X.prog X.w) X.A (.compLoop (.ListComp elt [⟨tg, iter, ifs, 0⟩] scope pos) 0 (.ref it) (.ref D) ce) (PostX (model X.prog X.w) X.A X.xe use Qf (.ref D) ce) s4 := by
    refine compLoop_any (fun n s' => ∃ i H', Inv (X.blk s3 H3 scope ce fp) [] (wipe σ (own.map (·.2))) H' s' ∧ tn i s'.heap ∧ (∀ b ∈ fp, H' b = none) ∧ W i n H') ?_ m0 ⟨0, H3, I4, st4, nfp, w0⟩
    rintro n s5 ⟨i, H5, I5, st5, n5, w5⟩
    rcases turn i n H5 w5 with ⟨stop, qq⟩ | ⟨go, Nx, hNx, step⟩
    · refine thnF (T.done (X.blk s3 H3 scope ce fp) rfl rfl rfl hc i [] s5 _ H5 (fun _ _ => False) I5 (stat I5 n5) st5 stop) fun r s6 ⟨hr, I6⟩ => ?_
      subst hr
      have nC : H5 ce.locals = none := I6.free
      obtain ⟨m, hn, _⟩ := I6.loc
      exact hRR D ce.locals s6 m H5 (I3.call' (ch := fp) I6.os I6.base I6.hok I6.bare chan) qq hn (I3.fpOk (by rw [cL]; exact Nat.le_refl _) nC)
    · refine thnF (T.item (X.blk s3 H3 scope ce fp) rfl rfl rfl hc i [] s5 _ H5 (fun _ _ => False) I5 (stat I5 n5) st5 go) fun r s6 ⟨u, hr, h6⟩ => ?_
      subst hr
      refine thnF h6 fun _ s7 ⟨x, H7, I7, r7, y7, st7, n7⟩ => ?_
      refine thnF (pg.run _ s7 _ H7 x u _ (I7.pinned (stat I7 n7) (T.obj _ _ st7)) r7 (step x H7 y7)) fun _ s8 ⟨σ8, H8, I8, hw8, q8⟩ => ?_
      refine thnF (pt.run _ s8 σ8 H8 _ I8 q8) fun b s9 ⟨H9, I9, q9⟩ => ?_
      have fin : ∀ {s' : Shared} {H' : Hp}, Inv (X.blk s3 H3 scope ce fp) ([] ++ pinsAt fp s7.heap) σ8 H' s' → Nx H' → ∃ m, m < n ∧ ∃ i H', Inv (X.blk s3 H3 scope ce fp) [] (wipe σ (own.map (·.2))) H' s' ∧ tn i s'.heap ∧ (∀ b ∈ fp, H' b = none) ∧ W i m H' := fun {s' H'} I' nx => by
        obtain ⟨m', hm, w'⟩ := hNx H' nx
        have pin' : ∀ b ∈ fp, ∀ o, s7.heap.get? b = some o → s'.heap.get? b = some o ∧ H' b = none := fun b hb o e =>
          let z := I'.pin (b, o) (List.mem_append_right _ (List.mem_append_right _ (mem_pinsAt hb e)))
          ⟨z.1, z.2.1⟩
        refine ⟨m', hm, i + 1, H', (I'.unpinned (pins := [])).weak (by rw [← hw8, wipe_length]) (fun j v e => ?_), T.keep _ _ _ st7 fun b hb o e => (pin' b hb o e).1, fun b hb => ?_, w'⟩
        · rw [← hw8] at e
          exact (wipe_some e).1
        · obtain ⟨o, e, _⟩ := T.obj _ _ st7 b hb
          exact (pin' b hb o e).2
      cases b with
      | false =>
        simp only [Bool.false_eq_true, if_false] at q9 ⊢
        exact fin I9 q9
      | true =>
        simp only [if_true] at q9 ⊢
        let xe : Value → Shared → Prop := fun u s' => ∃ pins1 σ1 H1 s1, Inv (X.blk s3 H3 scope ce fp) pins1 σ1 H1 s1 ∧ L2N.CX X.prog X.w X.stack H1 s1 E u s'
        refine wpAny_mono ((pe xe fun p1 σ1 H1 s1 u s2 i c => ⟨p1, σ1, H1, s1, i, c⟩).run _ s9 σ8 H9 _ (inv_xe xe I9) q9) (fun z s10 ⟨yv, H10, I10, r10, acc, hD10, hz10, nx⟩ => ?_) out
        exact app_ok (X := X.blk s3 H3 scope ce fp) (inv_xe (X := blkX X s3 H3 scope ce fp xe) (fun _ _ => False) I10) hD10 hz10 r10 fun s11 I11 => fin I11 nx
  exact codeAny_compStart_list loop (T.self X.A 0 _ _ _ st4 loop)
/-- as a value -/
theorem pe_lcX {E : XK} {elt tg iter : Expr} {ifs : List Expr} {scope : Scope} {own : List (Str × Nat)} {pos : Pos} {wi : TI} {g : TG} {tt : TT} {te : TE}
    (hs0 : X.stack = X.env :: X.outer) (hf : X.env.frame = some X.env.locals) (tk : L2N.Takes X (fun cls d _ H => E cls d H)) (hc : X.calm = true) (hN : X.N.Nodup) (hi : PI X tg iter wi) (ok : BlkOk X.N X.env.scope scope own)
    (hg : ∀ (s : Shared) (H : Hp) (C : Addr) (cl : List (Str × Addr)) (fp : List Addr), PG (X.blk s H scope (compEnvC scope cl C X.env) fp) tg g) (ht : ∀ (s : Shared) (H : Hp) (C : Addr) (cl : List (Str × Addr)) (fp : List Addr), PTs (X.blk s H scope (compEnvC scope cl C X.env) fp) ifs tt)
    (he : ∀ (s : Shared) (H : Hp) (C : Addr) (cl : List (Str × Addr)) (fp : List Addr) (xe : Value → Shared → Prop), Out X s H scope (compEnvC scope cl C X.env) fp E xe → PE (blkX X s H scope (compEnvC scope cl C X.env) fp xe) elt te) (hs : ∀ x, foldedSetIterable iter X.env x = pure x := by intro _; rfl) :
    PE X (.ListComp elt [⟨tg, iter, ifs, 0⟩] scope pos) (tLc wi g tt te (own.map (·.2))) := by
  refine ⟨fun pins s σ H Q I h => ?_⟩
  rw [eval_ListComp]
  refine lcx_core hs0 hf tk hc hN I hi ok hg ht he hs h fun D C s' m H' I' q hn f => ⟨m, hn, fun h2 sb => ?_⟩
  obtain ⟨f0, f1, f2, f3, f4, f5⟩ := f
  exact ⟨.ref D, H', I'.turned (t' := s'.toks) (fun b o hb e => (sb.2 b hb).trans e) f0 f1 f3 f4 f5, rfl, q⟩
/-- a name is set to it, on one line -/
theorem ps_setLcX {E : XK} {i : Nat} {y : Str} {py : Pos} {elt tg iter : Expr} {ifs : List Expr} {scope : Scope} {own : List (Str × Nat)} {pos spos : Pos} {wi : TI} {g : TG} {tt : TT} {te : TE}
    (hs0 : X.stack = X.env :: X.outer) (hf : X.env.frame = some X.env.locals) (tk : L2N.Takes X (fun cls d _ H => E cls d H)) (hc : X.calm = true) (hN : X.N.Nodup) (hy : X.N[i]? = some y) (hyl : X.env.scope.names.lookup y = some .local)
    (hsw : swapsWith (.ListComp elt [⟨tg, iter, ifs, 0⟩] scope pos) (some (.Name y py)) spos.line X.env = pure true) (hi : PI X tg iter wi) (ok : BlkOk X.N X.env.scope scope own)
    (hg : ∀ (s : Shared) (H : Hp) (C : Addr) (cl : List (Str × Addr)) (fp : List Addr), PG (X.blk s H scope (compEnvC scope cl C X.env) fp) tg g) (ht : ∀ (s : Shared) (H : Hp) (C : Addr) (cl : List (Str × Addr)) (fp : List Addr), PTs (X.blk s H scope (compEnvC scope cl C X.env) fp) ifs tt)
    (he : ∀ (s : Shared) (H : Hp) (C : Addr) (cl : List (Str × Addr)) (fp : List Addr) (xe : Value → Shared → Prop), Out X s H scope (compEnvC scope cl C X.env) fp E xe → PE (blkX X s H scope (compEnvC scope cl C X.env) fp xe) elt te) (hs : ∀ x, foldedSetIterable iter X.env x = pure x := by intro _; rfl) :
    PS X (.Assign [.Name y py] (.ListComp elt [⟨tg, iter, ifs, 0⟩] scope pos) spos) (tAsg (tLc wi g tt te (own.map (·.2))) (gName i)) := by
  refine ⟨fun pins s σ H D I h => ?_⟩
  rw [exec_Assign_Name_used _ _ _ _ hsw]
  refine wpAny_bind (wpAny_standAt (wpAny_bind ?_))
  have h : tLc wi g tt te (own.map (·.2)) σ H (fun x H1 => gName i x σ H1 D.nx) := h
  refine wpAny_bind (thn (lcx_core (Qf := fun _ s' => SP X pins D .next s') hs0 hf tk hc hN I hi ok hg ht he hs h fun L C s' m H' I' q hn f => ?_) fun _ s' hq => wpAny_pure (wpAny_pure hq))
  obtain ⟨f0, f1, f2, f3, f4, f5⟩ := f
  show wpAny _ _ (assign (.Name y py) X.env (.ref L)) _ _ _
  refine wpAny_assign_Name (store_ok2 (v := V.ref L) I' hN hy (.inl hyl) rfl (fun s2 I2 ⟨a, sb, ha⟩ => ⟨m, hn.sameBut sb ?_, fun h3 sb3 => ⟨_, H', I2.turned (t' := s2.toks) (fun b o hb e => (sb3.2 b hb).trans e) f0 f1 f3 f4 f5, q⟩⟩) (.inr hyl))
  rcases ha with z | z
  · rw [z]; exact f1
  · exact fun e => f4 y a z e.symm
end
/-- a def called in such a block -/
theorem pe_dfX {X : Cx} {s : Shared} {H : Hp} {scope : Scope} {ce : Env} {fp : List Addr} {E : XK} {xe : Value → Shared → Prop} {k : Nat} {ps : List Str} {sp : Sp} {x : Str} {p pos : Pos} {e : Expr} {es : List Expr} {t : TA} (F : Df X.prog X.w X.K X.mg X.base k x ps sp) (hr : Room k X.A) (o : Out X s H scope ce fp E xe)
    (ha : PA (blkX X s H scope ce fp xe) (e :: es) t) (hg : Gl (blkX X s H scope ce fp xe) x := by rfl) (hdb : (x == ("__debug__" : Str)) = false := by decide) (he : starEach (e :: es) ce = (false, eval e ce) :: starEach es ce := by rfl) (hpl : (backTo pos (starEach es ce)).any (·.1) = false := by rfl) :
    PE (blkX X s H scope ce fp xe) (.Call (.Name x p) (e :: es) [] pos) (tCallS sp (fun _ => E) t) := by
  obtain ⟨f, fd, F1, F2, F3, F4⟩ := F.ex
  exact pe_callS (X := blkX X s H scope ce fp xe) F1 hr hg F2 F3 F4 (fun σ pins H1 s1 u s2 I c => o pins σ H1 s1 u s2 (inv_xe (X := blkX X s H scope ce fp xe) (fun _ _ => False) I) c) ha hdb he hpl
end U

/-! ## within an except suite: walks over lists, unpacking, comprehensions, defs -/
namespace U
open PySem PySem.Spec PyProof.Rows L2 HotX
section
variable {prog : Program} {w : World} {A : Around} {E : Value → Shared → Prop} {s : Shared}
/-- an iterator of two fields is no exception with a context -/
theorem hot_ne {x1 it a : Addr} {i : Int} {o1 o : Obj} {vs1 : Array Value} {c : Value} (h1 : s.heap.get? x1 = some o1) (d1 : o1.data = .fields vs1) (c1 : vs1[2]? = some c) (ho : s.heap.get? it = some o) (hd : o.data = .fields #[.ref a, .int i 0]) : x1 ≠ it := fun z => by
  rw [z, ho] at h1
  cases h1
  rw [hd] at d1
  cases d1
  simp at c1
theorem list_end_hot {it l x1 : Addr} {i : Nat} {items : Array Value} {Q : Option Value → Shared → Prop} (hot : HotAt A x1 s.heap) (hit : s.heap.IsListIter it l i) (hl : s.heap.IsList l items) (hx : items[i]? = none)
    (hQ : ∀ h', (∀ b o, b ≠ it → s.heap.get? b = some o → h'.get? b = some o) → Q none { s with heap := h' }) : wpAny (model prog w) A (pyNext (.ref it)) Q E s := by
  obtain ⟨hh, o1, vs1, h1, d1, c1⟩ := hot
  obtain ⟨o, ho, hc, hd⟩ := id hit
  obtain ⟨ol, hol, _, nl, hdl⟩ := hl
  have ne := hot_ne h1 d1 c1 ho hd
  unfold pyNext
  refine wpAny_bind (wpAny_attempt (wpAny_callSpecial?_slot (name := Str.ofString "__next__") hit.typeIs slot_listiter_next (wpAny_call_entry slot_listiter_next hit.typeIs entry_listiter_next ?_ (args_listiter_next _))))
  refine (show wpAny _ _ (field (.ref it) 0 >>= _) _ _ s from wpAny_bind (wpAny_field ho hd (x := .ref l) rfl ?_))
  show wpAny _ _ (if (Value.ref l == Value.none) = true then _ else _) _ _ s
  have nn : ¬ ((Value.ref l == Value.none) = true) := Bool.false_ne_true
  rw [if_neg nn]
  refine (show wpAny _ _ (field (.ref it) 1 >>= _) _ _ s from wpAny_bind (wpAny_field ho hd (x := .int i 0) rfl ?_))
  refine (show wpAny _ _ (seqItems? (.ref l) >>= _) _ _ s from wpAny_bind (wpAny_seqItems hol hdl ?_))
  simp only [Int.toNat_natCast, hx]
  refine wpAny_bind (wpAny_rule (wpAny_bind (wpAny_setField ho hd (by simp) ?_)))
  refine (show wpAny _ _ (newExc (.type "StopIteration") [] >>= _) _ _ _ from wpAny_bind ?_)
  simp only [newExc, newTuple]
  refine wpAny_bind (wpAny_newObj_type (wpAny_bind (m := firstArgMember _ _) (wpAny_of_eq (a := Value.none) (by first | rfl | (simp only [firstArgMember]; rfl)) (wpAny_newObj_type ?_ (by size_fits)))) (by size_fits))
  have k1 : ∀ {b : Addr} {u : Obj}, b ≠ it → s.heap.get? b = some u → (s.heap.update it (Obj.mapFields (·.setIfInBounds 0 .none))).get? b = some u := fun nb e => by rw [Heap.get?_update_other _ _ (Ne.symm nb)]; exact e
  refine raiseNew_hot ⟨hh, o1, vs1, Heap.get?_push_of_some _ (Heap.get?_push_of_some _ (k1 ne h1)), d1, c1⟩ (Nat.ne_of_lt (Heap.lt_size (Heap.get?_push_of_some _ (k1 ne h1)))) (Heap.get?_push_size _ rfl) rfl (by first | (simp; done) | (simp; omega) | (simp only [Array.size_append]; simp; omega)) ?_
  refine wpAny_bind (wpAny_isInstance (T := "StopIteration") (b := true) ⟨_, Heap.get?_update_self _ (Heap.get?_push_size _ rfl) rfl, rfl⟩ isSubtype_stop (wpAny_pure (hQ _ fun b u nb e => ?_)))
  rw [Heap.get?_update_other _ _ (Nat.ne_of_gt (Heap.lt_size (Heap.get?_push_of_some _ (k1 nb e))))]
  exact Heap.get?_push_of_some _ (Heap.get?_push_of_some _ (k1 nb e))
theorem tup_end_hot {it l x1 : Addr} {i : Nat} {items : Array Value} {Q : Option Value → Shared → Prop} (hot : HotAt A x1 s.heap) (hit : IsTupIter s.heap it l i) (ht : IsTup s.heap l items) (hx : items[i]? = none)
    (hQ : ∀ h', (∀ b o, b ≠ it → s.heap.get? b = some o → h'.get? b = some o) → Q none { s with heap := h' }) : wpAny (model prog w) A (pyNext (.ref it)) Q E s := by
  obtain ⟨hh, o1, vs1, h1, d1, c1⟩ := hot
  obtain ⟨o, ho, hc, hd⟩ := id hit
  obtain ⟨ol, hol, _, nl, hdl⟩ := ht
  have ne := hot_ne h1 d1 c1 ho hd
  unfold pyNext
  refine wpAny_bind (wpAny_attempt (wpAny_callSpecial?_slot (name := Str.ofString "__next__") hit.typeIs slot_tupleiter_next (wpAny_call_entry slot_tupleiter_next hit.typeIs entry_tupleiter_next ?_ (args_tupleiter_next _))))
  refine (show wpAny _ _ (field (.ref it) 0 >>= _) _ _ s from wpAny_bind (wpAny_field ho hd (x := .ref l) rfl ?_))
  show wpAny _ _ (if (Value.ref l == Value.none) = true then _ else _) _ _ s
  have nn : ¬ ((Value.ref l == Value.none) = true) := Bool.false_ne_true
  rw [if_neg nn]
  refine (show wpAny _ _ (field (.ref it) 1 >>= _) _ _ s from wpAny_bind (wpAny_field ho hd (x := .int i 0) rfl ?_))
  refine (show wpAny _ _ (seqItems? (.ref l) >>= _) _ _ s from wpAny_bind (wpAny_seqItems hol hdl ?_))
  simp only [Int.toNat_natCast, hx]
  refine wpAny_bind (wpAny_rule (wpAny_bind (wpAny_setField ho hd (by simp) ?_)))
  refine (show wpAny _ _ (newExc (.type "StopIteration") [] >>= _) _ _ _ from wpAny_bind ?_)
  simp only [newExc, newTuple]
  refine wpAny_bind (wpAny_newObj_type (wpAny_bind (m := firstArgMember _ _) (wpAny_of_eq (a := Value.none) (by first | rfl | (simp only [firstArgMember]; rfl)) (wpAny_newObj_type ?_ (by size_fits)))) (by size_fits))
  have k1 : ∀ {b : Addr} {u : Obj}, b ≠ it → s.heap.get? b = some u → (s.heap.update it (Obj.mapFields (·.setIfInBounds 0 .none))).get? b = some u := fun nb e => by rw [Heap.get?_update_other _ _ (Ne.symm nb)]; exact e
  refine raiseNew_hot ⟨hh, o1, vs1, Heap.get?_push_of_some _ (Heap.get?_push_of_some _ (k1 ne h1)), d1, c1⟩ (Nat.ne_of_lt (Heap.lt_size (Heap.get?_push_of_some _ (k1 ne h1)))) (Heap.get?_push_size _ rfl) rfl (by first | (simp; done) | (simp; omega) | (simp only [Array.size_append]; simp; omega)) ?_
  refine wpAny_bind (wpAny_isInstance (T := "StopIteration") (b := true) ⟨_, Heap.get?_update_self _ (Heap.get?_push_size _ rfl) rfl, rfl⟩ isSubtype_stop (wpAny_pure (hQ _ fun b u nb e => ?_)))
  rw [Heap.get?_update_other _ _ (Nat.ne_of_gt (Heap.lt_size (Heap.get?_push_of_some _ (k1 nb e))))]
  exact Heap.get?_push_of_some _ (Heap.get?_push_of_some _ (k1 nb e))
/-- a tuple unpacked there -/
theorem unpack_hot {env : Env} {elts : List Expr} {k : Nat} {pos : Pos} {t x1 : Addr} {items : Array Value} {Q : Unit → Shared → Prop} (hot : HotAt A x1 s.heap) (ht : IsTup s.heap t items) (hn : (assignEach elts env).length = items.size) (hst : (assignEach elts env).findIdx? (·.1) = none)
    (h : ∀ h', (∀ b o, s.heap.get? b = some o → h'.get? b = some o) → wpAny (model prog w) A (assignInOrder ((assignEach elts env).map (·.2)) items.toList) Q E { s with heap := h' }) : wpAny (model prog w) A (assign (.Tuple elts k pos) env (.ref t)) Q E s := by
  have old : ∀ {b : Addr} {o : Obj}, s.heap.get? b = some o → b ≠ s.heap.objs.size := fun e => Nat.ne_of_lt (Heap.lt_size e)
  have nt : t ≠ s.heap.objs.size := let ⟨o, e, _⟩ := ht; old e
  obtain ⟨hh, o1, vs1, h1, d1, c1⟩ := hot
  rw [assign_Tuple]
  refine wpAny_bind (wpAny_standAt ?_)
  unfold unpack
  rw [hn, hst]
  refine wpAny_bind (wpAny_holding ?_)
  unfold unpackItems
  refine wpAny_bind ?_
  unfold notIterableAtAll
  refine wpAny_bind (wpAny_specialOf ht.typeIs slot_tuple_iter.lookup (wpAny_pure ?_))
  simp only [Bool.false_eq_true, if_false]
  refine wpAny_bind (wpAny_holding (iter_tuple ht (wpAny_bind (wpAny_holding (draw_tuple nt items.size 0 _ _ ⟨_, Heap.get?_push_size _ rfl, rfl, rfl⟩ (ht.push _) (by omega) fun h2 hit2 sb2 => ?_)))))
  have all : List.take items.size (List.drop 0 items.toList) = items.toList := by rw [List.drop_zero, List.take_of_length_le (by simp)]
  rw [all, if_neg (by simp)]
  have k2 : ∀ {b : Addr} {o : Obj}, s.heap.get? b = some o → h2.get? b = some o := fun e => (sb2.2 _ (old e)).trans (Heap.get?_push_of_some _ e)
  refine wpAny_bind (wpAny_holding (tup_end_hot ⟨hh, o1, vs1, k2 h1, d1, c1⟩ hit2 ((ht.push _).extBut sb2.extBut nt) (by simp) fun h3 k3 => ?_))
  simp only [Option.isSome_none, Bool.false_eq_true, if_false]
  exact wpAny_pure (h h3 fun b o e => k3 b o (old e) (k2 e))
end
open L2H
section
variable {X : Cx} {tg : Expr}
theorem pg_tupH {es : List Expr} {k : Nat} {t : TGs} {n : Nat} {pos : Pos} (hc : HotC X) (h : PGs X es t) (hn : (assignEach es X.env).length = n := by rfl) (hst : (assignEach es X.env).findIdx? (·.1) = none := by rfl) : PG X (.Tuple es k pos) (gTup X.K n t) := by
  refine ⟨fun pins s σ H v u Q I r hw => ?_⟩
  obtain ⟨a, xs, e1, hq, hl, hw⟩ := hw
  subst e1
  cases r
  obtain ⟨its, rv, ht, hz⟩ := I.tuple hq
  obtain ⟨x1, hot⟩ := hc.at I
  exact unpack_hot hot ht (by simp [hn, ← hl, rv.length]) hst fun h' hx => h.run pins _ σ H xs _ Q (I.kept (t' := s.toks) hx) (by simpa using rv) hw
theorem turn_listH {P : Program} {w : World} {K : PySem.W.Frag} {tg : Expr} (a it : Addr) : TurnH P w K tg (Itl K a) [it] it (fun i h => h.IsListIter it a i) where
  mem := by simp
  obj := fun i h st b hb => by
    obtain ⟨o, e, c, d⟩ := st
    exact ⟨o, by rw [show b = it by simpa using hb]; exact e, fun v z => by rw [d] at z; cases z⟩
  keep := fun i h h' st k => st.at fun o e => k it (by simp) o e
  item := by
    intro X hP hw hK hc i pins s σ H E I hf st hg
    subst hP hw hK
    obtain ⟨xs, x, hq, hx⟩ := hg
    obtain ⟨its, rv, p, hz⟩ := I.list hq
    obtain ⟨u, hu, ru⟩ := rv.get hx
    obtain ⟨f0, f1, f2, f3, f4, f5⟩ := hf it (by simp)
    refine wpAny_pyNext_list_item st p.isList (x := u) (by simpa using hu) fun h2 st2 sb => ?_
    have I2 : Inv X pins σ H { s with heap := h2 } := I.turned (t' := s.toks) (fun b o hb e => (sb.2 b hb).trans e) f0 f1 f3 f4 f5
    obtain ⟨o, e, c, d⟩ := id st2
    refine ⟨u, rfl, go_of (s := { s with heap := h2 }) e c d (by decide) ⟨x, H, I2, ru, ⟨rfl, fun ys hy => ?_⟩, st2, fun b hb => (hf b hb).1⟩⟩
    rw [I.list_inj hy hq]
    exact hx
  done := by
    intro X hP hw hK hc i pins s σ H E I hf st hg
    subst hP hw hK
    obtain ⟨xs, hq, hx⟩ := hg
    obtain ⟨its, rv, p, hz⟩ := I.list hq
    obtain ⟨f0, f1, f2, f3, f4, f5⟩ := hf it (by simp)
    have hl := rv.length
    obtain ⟨x1, hot⟩ := hc.at I
    exact list_end_hot hot st p.isList (by simp; omega) fun h2 eb => ⟨rfl, I.turned (t' := s.toks) eb f0 f1 f3 f4 f5⟩
  self := fun _ _ _ _ _ st h => wpAny_pyIter_listiter st h
theorem pi_listH {l : Expr} {tl : TE} (hl : PE X l tl) : PIH X tg l (iList X.K tl) := by
  refine ⟨fun pins s σ H R I h => ?_⟩
  refine thn (hl.run pins s σ H _ I h) fun v s1 ⟨x, H1, I1, r1, a, e, ⟨xs, hq⟩, q⟩ => ?_
  subst e
  cases r1
  obtain ⟨its, rv, p, hz⟩ := I1.list hq
  refine wpAny_pyIter_list p.isList ⟨s1.heap.objs.size, [s1.heap.objs.size], _, _, H1, rfl, I1.kept (t' := s1.toks) fun b o e => Heap.get?_push_of_some _ e, turn_listH a _, ⟨_, Heap.get?_push_size _ rfl, rfl, rfl⟩, fun b hb => ?_, q⟩
  rw [show b = s1.heap.objs.size by simpa using hb]
  exact I1.fpOk (Nat.le_refl _) (I1.hok.fresh (Nat.le_refl _))
end
/-! ### comprehensions there -/
abbrev blkH (X : Cx) (s : Shared) (H : Hp) (scope : Scope) (ce : Env) (fp : List Addr) : Cx := { X.blk s H scope ce fp with pn := X.pn }
theorem inv_pn {X : Cx} {pins : List (Addr × Obj)} {σ : L2.St} {H : Hp} {s : Shared} (pn : List (Addr × Obj)) (I : Inv X pins σ H s) (h : ∀ p ∈ pn ++ pins, s.heap.get? p.1 = some p.2 ∧ H p.1 = none ∧ p.1 ≠ X.env.locals ∧ p.1 ∉ X.fs ∧ ∀ v, p.2.data ≠ .cell v) : Inv { X with pn := pn } pins σ H s :=
  ⟨⟨I.ok.mod, I.ok.kind, I.ok.glob, I.ok.blt, I.ok.above, I.ok.inj, I.ok.has, I.ok.cab, I.ok.hd, I.ok.frames, I.ok.stk, I.ok.exf, I.ok.bs, I.ok.bsz, I.ok.noex, I.ok.exfs, I.ok.funs, I.ok.frf⟩, I.os, I.bare, I.base, I.loc, I.cell, I.free, I.freeC, h, I.hok, I.len⟩
section
variable {X : Cx}
theorem HotC.blk {s : Shared} {H : Hp} {scope : Scope} {ce : Env} {fp : List Addr} (hc : HotC X) : HotC (blkH X s H scope ce fp) := hc
theorem lch_core {pins : List (Addr × Obj)} {s : Shared} {σ : L2.St} {H : Hp} {Q : VK} {elt tg iter : Expr} {ifs : List Expr} {scope : Scope} {own : List (Str × Nat)} {pos pos' : Pos} {wi : TI} {g : TG} {tt : TT} {te : TE} {use : Option (Value → Sem Unit)} {Qf : Value → Shared → Prop}
    (hc : HotC X) (hN : X.N.Nodup) (I : Inv X pins σ H s) (hi : PIH X tg iter wi) (ok : BlkOk X.N X.env.scope scope own)
    (hg : ∀ (s : Shared) (H : Hp) (C : Addr) (cl : List (Str × Addr)) (fp : List Addr), PG (blkH X s H scope (compEnvC scope cl C X.env) fp) tg g) (ht : ∀ (s : Shared) (H : Hp) (C : Addr) (cl : List (Str × Addr)) (fp : List Addr), PTs (blkH X s H scope (compEnvC scope cl C X.env) fp) ifs tt)
    (he : ∀ (s : Shared) (H : Hp) (C : Addr) (cl : List (Str × Addr)) (fp : List Addr), PE (blkH X s H scope (compEnvC scope cl C X.env) fp) elt te) (hs : ∀ x, foldedSetIterable iter X.env x = pure x)
    (h : tLc wi g tt te (own.map (·.2)) σ H Q)
    (hRR : ∀ D C s' m H', Inv X pins σ H' s' → Q (.ref D) H' → s'.heap.Ns C m → FpOk X pins H' C → compPost (model X.prog X.w) X.A X.xe use Qf (.ref D) C (.ok .next) s') :
    wpAny (model X.prog X.w) X.A (comprehension (.ListComp elt [⟨tg, iter, ifs, 0⟩] scope pos) scope X.env pos' (newList []) false (eval iter X.env) use) Qf X.xe s := by
  have closed : ∀ y ∈ scope.names, y.2 = .free → ∃ c, X.env.cells.lookup y.1 = some c := fun y hy e => (ok.free y hy e).elim (fun k => I.ok.has _ (.inl k)) fun k => I.ok.has _ (.inr k)
  refine wpAny_comprehension_free (use := use) rfl hs (closure_ok closed) ok.kind (fun y hy e => by rw [ok.uniq y hy, e]) (thn (hi.run pins s σ H _ I h) fun xv s1 hx => thn hx fun itv s2 h2 => ?_)
  obtain ⟨it, fp, tn, J, H2, e, I2, T, st2, f2, q⟩ := h2
  subst e
  refine wpAny_newObj_type (newEnv_comp ?_) (by show 0 ≤ sizeLine; decide)
  generalize hD : s2.heap.objs.size = D
  obtain ⟨W, ⟨m0, w0⟩, turn⟩ := q D (I2.hok.fresh (Nat.le_of_eq hD))
  generalize hs3 : ({ s2 with heap := s2.heap.push { cls := .type "list", data := .seq ([] : List Value).toArray } } : Shared) = s3
  have h3 : s3.heap = s2.heap.push { cls := .type "list", data := .seq ([] : List Value).toArray } := by rw [← hs3]
  have kept3 : ∀ b o, s2.heap.get? b = some o → s3.heap.get? b = some o := fun b o e => by rw [h3]; exact Heap.get?_push_of_some _ e
  have I3 : Inv X pins σ (upd H2 D (.lst [])) s3 := by
    rw [← hs3]
    refine I2.laid (t' := s2.toks) (fun b o e => Heap.get?_push_of_some _ e) (Nat.le_of_eq hD) ⟨Nat.zero_le _, [], 0, .nil, ?_⟩
    rw [← hD]
    exact Heap.get?_push_size _ rfl
  have f3 : ∀ b ∈ fp, FpOk X pins (upd H2 D (.lst [])) b ∧ b < s3.heap.objs.size := fun b hb => by
    obtain ⟨o, e, _⟩ := T.obj _ _ st2 b hb
    have lt := Heap.lt_size e
    refine ⟨⟨?_, (f2 b hb).2⟩, Heap.lt_size (kept3 b o e)⟩
    rw [upd_ne (by rw [← hD]; exact Nat.ne_of_lt lt)]
    exact (f2 b hb).1
  have st3 : tn 0 s3.heap := T.keep _ _ _ st2 fun b _ o e => kept3 b o e
  have I4' := block_start I3 ok hN f3
  have pinH : ∀ p ∈ X.pn ++ ([] : List (Addr × Obj)), s3.heap.get? p.1 = some p.2 ∧ (upd H2 D (.lst [])) p.1 = none ∧ p.1 ∉ frs X.stack ∧ (∀ v, p.2.data ≠ .cell v) ∧ p.1 ≠ s3.heap.objs.size := fun p hp => by
    have hp' : p ∈ X.pn ++ pins := List.mem_append_left _ (by simpa using hp)
    obtain ⟨a1, a2, a3, a4, a5⟩ := I3.pin p hp'
    exact ⟨a1, a2, fun hm => (List.mem_cons.mp (I3.stkSub p.1 hm)).elim a3 a4, a5, Nat.ne_of_lt (Heap.lt_size a1)⟩
  have pg := hg s3 (upd H2 D (.lst [])) s3.heap.objs.size (cellsFrom (s3.heap.objs.size + 1) scope.names (cloFrom X.env.cells scope.names [])) fp
  have pt := ht s3 (upd H2 D (.lst [])) s3.heap.objs.size (cellsFrom (s3.heap.objs.size + 1) scope.names (cloFrom X.env.cells scope.names [])) fp
  have pe := he s3 (upd H2 D (.lst [])) s3.heap.objs.size (cellsFrom (s3.heap.objs.size + 1) scope.names (cloFrom X.env.cells scope.names [])) fp
  show codeAny _ _ (.compStart (.ListComp elt [⟨tg, iter, ifs, 0⟩] scope pos) 0 (.ref it) (.ref D) (compEnvC scope (cellsFrom (s3.heap.objs.size + 1) scope.names (cloFrom X.env.cells scope.names [])) s3.heap.objs.size X.env)) (compPost (model X.prog X.w) X.A X.xe use Qf (.ref D) s3.heap.objs.size) { s3 with heap := pushCells (s3.heap.push { cls := .type "dict", data := .dict #[] }) scope.names }
  have nfp : ∀ b ∈ fp, (upd H2 D (.lst [])) b = none := fun b hb => (f3 b hb).1.1
  generalize hce : compEnvC scope (cellsFrom (s3.heap.objs.size + 1) scope.names (cloFrom X.env.cells scope.names [])) s3.heap.objs.size X.env = ce at I4' pg pt pe ⊢
  have cL : ce.locals = s3.heap.objs.size := by subst hce; rfl
  have I4 : Inv (blkH X s3 (upd H2 D (.lst [])) scope ce fp) [] (wipe σ (own.map (·.2))) (upd H2 D (.lst [])) { s3 with heap := pushCells (s3.heap.push { cls := .type "dict", data := .dict #[] }) scope.names } := by
    refine inv_pn (X := X.blk s3 (upd H2 D (.lst [])) scope ce fp) X.pn I4' fun p hp => ?_
    obtain ⟨a1, a2, a3, a4, a5⟩ := pinH p hp
    exact ⟨pushCells_keeps _ _ _ _ (Heap.get?_push_of_some _ a1), a2, by show p.1 ≠ ce.locals; rw [cL]; exact a5, a3, a4⟩
  generalize hH3 : upd H2 D (.lst []) = H3 at I3 I4 pg pt pe w0 nfp f3
  generalize hs4 : ({ s3 with heap := pushCells (s3.heap.push { cls := .type "dict", data := .dict #[] }) scope.names } : Shared) = s4 at I4 ⊢
  have st4 : tn 0 s4.heap := T.keep _ _ _ st3 fun b _ o e => by rw [← hs4]; exact pushCells_keeps _ _ _ _ (Heap.get?_push_of_some _ e)
  have chan : ∀ b ∈ fp, (b ∈ X.ex ∨ X.s_0.heap.objs.size ≤ b) ∧ b ≠ X.env.locals ∧ (∀ x c, X.env.cells.lookup x = some c → c ≠ b) ∧ ∀ p ∈ X.pn ++ pins, p.1 ≠ b := fun b hb => ⟨(f3 b hb).1.2.2.2.1, (f3 b hb).1.2.1, (f3 b hb).1.2.2.2.2.1, (f3 b hb).1.2.2.2.2.2⟩
  have stat : ∀ {σ' : L2.St} {H' : Hp} {s' : Shared}, Inv (blkH X s3 H3 scope ce fp) [] σ' H' s' → (∀ b ∈ fp, H' b = none) → ∀ b ∈ fp, FpOk (blkH X s3 H3 scope ce fp) [] H' b := fun {σ' H' s'} I' hn b hb =>
    ⟨hn b hb, (I'.ok.exf b hb).1, I'.ok.exfs b hb, .inl hb, fun x c e => (I'.ok.exf b hb).2 x c e, fun p hp => (chan b hb).2.2.2 p (List.mem_append_left _ (by simpa using hp))⟩
  have hcb : HotC (blkH X s3 H3 scope ce fp) := hc
  have loop : codeAny (model X.prog X.w) X.A (.compLoop (.ListComp elt [⟨tg, iter, ifs, 0⟩] scope pos) 0 (.ref it) (.ref D) ce) (compPost (model X.prog X.w) X.A X.xe use Qf (.ref D) s3.heap.objs.size) s4 := by
    refine compLoop_any (fun n s' => ∃ i H', Inv (blkH X s3 H3 scope ce fp) [] (wipe σ (own.map (·.2))) H' s' ∧ tn i s'.heap ∧ (∀ b ∈ fp, H' b = none) ∧ W i n H') ?_ m0 ⟨0, H3, I4, st4, nfp, w0⟩
    rintro n s5 ⟨i, H5, I5, st5, n5, w5⟩
    rcases turn i n H5 w5 with ⟨stop, qq⟩ | ⟨go, Nx, hNx, step⟩
    · refine thnF (T.done (blkH X s3 H3 scope ce fp) rfl rfl rfl hcb i [] s5 _ H5 (fun _ _ => False) I5 (stat I5 n5) st5 stop) fun r s6 ⟨hr, I6⟩ => ?_
      subst hr
      have nC : H5 ce.locals = none := I6.free
      obtain ⟨m, hn, _⟩ := I6.loc
      have hn : s6.heap.Ns ce.locals m := hn
      rw [cL] at hn nC
      exact hRR D s3.heap.objs.size s6 m H5 (I3.call' (ch := fp) I6.os I6.base I6.hok I6.bare chan) qq hn (I3.fpOk (Nat.le_refl _) nC)
    · refine thnF (T.item (blkH X s3 H3 scope ce fp) rfl rfl rfl hcb i [] s5 _ H5 (fun _ _ => False) I5 (stat I5 n5) st5 go) fun r s6 ⟨u, hr, h6⟩ => ?_
      subst hr
      refine thnF h6 fun _ s7 ⟨x, H7, I7, r7, y7, st7, n7⟩ => ?_
      refine thnF (pg.run _ s7 _ H7 x u _ (I7.pinned (stat I7 n7) (T.obj _ _ st7)) r7 (step x H7 y7)) fun _ s8 ⟨σ8, H8, I8, hw8, q8⟩ => ?_
      refine thnF (pt.run _ s8 σ8 H8 _ I8 q8) fun b s9 ⟨H9, I9, q9⟩ => ?_
      have fin : ∀ {s' : Shared} {H' : Hp}, Inv (blkH X s3 H3 scope ce fp) ([] ++ pinsAt fp s7.heap) σ8 H' s' → Nx H' → ∃ m, m < n ∧ ∃ i H', Inv (blkH X s3 H3 scope ce fp) [] (wipe σ (own.map (·.2))) H' s' ∧ tn i s'.heap ∧ (∀ b ∈ fp, H' b = none) ∧ W i m H' := fun {s' H'} I' nx => by
        obtain ⟨m', hm, w'⟩ := hNx H' nx
        have pin' : ∀ b ∈ fp, ∀ o, s7.heap.get? b = some o → s'.heap.get? b = some o ∧ H' b = none := fun b hb o e =>
          let z := I'.pin (b, o) (List.mem_append_right _ (List.mem_append_right _ (mem_pinsAt hb e)))
          ⟨z.1, z.2.1⟩
        refine ⟨m', hm, i + 1, H', (I'.unpinned (pins := [])).weak (by rw [← hw8, wipe_length]) (fun j v e => ?_), T.keep _ _ _ st7 fun b hb o e => (pin' b hb o e).1, fun b hb => ?_, w'⟩
        · rw [← hw8] at e
          exact (wipe_some e).1
        · obtain ⟨o, e, _⟩ := T.obj _ _ st7 b hb
          exact (pin' b hb o e).2
      cases b with
      | false =>
        simp only [Bool.false_eq_true, if_false] at q9 ⊢
        exact fin I9 q9
      | true =>
        simp only [if_true] at q9 ⊢
        refine thnF (pe.run _ s9 σ8 H9 _ I9 q9) fun z s10 ⟨yv, H10, I10, r10, acc, hD10, hz10, nx⟩ => ?_
        exact app_ok (X := blkH X s3 H3 scope ce fp) I10 hD10 hz10 r10 fun s11 I11 => fin I11 nx
  exact codeAny_compStart_list loop (T.self X.A 0 _ _ _ st4 loop)
theorem pe_lcH {elt tg iter : Expr} {ifs : List Expr} {scope : Scope} {own : List (Str × Nat)} {pos : Pos} {wi : TI} {g : TG} {tt : TT} {te : TE} (hc : HotC X) (hN : X.N.Nodup) (hi : PIH X tg iter wi) (ok : BlkOk X.N X.env.scope scope own)
    (hg : ∀ (s : Shared) (H : Hp) (C : Addr) (cl : List (Str × Addr)) (fp : List Addr), PG (blkH X s H scope (compEnvC scope cl C X.env) fp) tg g) (ht : ∀ (s : Shared) (H : Hp) (C : Addr) (cl : List (Str × Addr)) (fp : List Addr), PTs (blkH X s H scope (compEnvC scope cl C X.env) fp) ifs tt)
    (he : ∀ (s : Shared) (H : Hp) (C : Addr) (cl : List (Str × Addr)) (fp : List Addr), PE (blkH X s H scope (compEnvC scope cl C X.env) fp) elt te) (hs : ∀ x, foldedSetIterable iter X.env x = pure x := by intro _; rfl) :
    PE X (.ListComp elt [⟨tg, iter, ifs, 0⟩] scope pos) (tLc wi g tt te (own.map (·.2))) := by
  refine ⟨fun pins s σ H Q I h => ?_⟩
  rw [eval_ListComp]
  refine lch_core hc hN I hi ok hg ht he hs h fun D C s' m H' I' q hn f => ⟨m, hn, fun h2 sb => ?_⟩
  obtain ⟨f0, f1, f2, f3, f4, f5⟩ := f
  exact ⟨.ref D, H', I'.turned (t' := s'.toks) (fun b o hb e => (sb.2 b hb).trans e) f0 f1 f3 f4 f5, rfl, q⟩
theorem ps_setLcH {i : Nat} {y : Str} {py : Pos} {elt tg iter : Expr} {ifs : List Expr} {scope : Scope} {own : List (Str × Nat)} {pos spos : Pos} {wi : TI} {g : TG} {tt : TT} {te : TE} (hc : HotC X) (hN : X.N.Nodup) (hy : X.N[i]? = some y) (hyl : X.env.scope.names.lookup y = some .local)
    (hsw : swapsWith (.ListComp elt [⟨tg, iter, ifs, 0⟩] scope pos) (some (.Name y py)) spos.line X.env = pure true) (hi : PIH X tg iter wi) (ok : BlkOk X.N X.env.scope scope own)
    (hg : ∀ (s : Shared) (H : Hp) (C : Addr) (cl : List (Str × Addr)) (fp : List Addr), PG (blkH X s H scope (compEnvC scope cl C X.env) fp) tg g) (ht : ∀ (s : Shared) (H : Hp) (C : Addr) (cl : List (Str × Addr)) (fp : List Addr), PTs (blkH X s H scope (compEnvC scope cl C X.env) fp) ifs tt)
    (he : ∀ (s : Shared) (H : Hp) (C : Addr) (cl : List (Str × Addr)) (fp : List Addr), PE (blkH X s H scope (compEnvC scope cl C X.env) fp) elt te) (hs : ∀ x, foldedSetIterable iter X.env x = pure x := by intro _; rfl) :
    PS X (.Assign [.Name y py] (.ListComp elt [⟨tg, iter, ifs, 0⟩] scope pos) spos) (tAsg (tLc wi g tt te (own.map (·.2))) (gName i)) := by
  refine ⟨fun pins s σ H D I h => ?_⟩
  rw [exec_Assign_Name_used _ _ _ _ hsw]
  refine wpAny_bind (wpAny_standAt (wpAny_bind ?_))
  have h : tLc wi g tt te (own.map (·.2)) σ H (fun x H1 => gName i x σ H1 D.nx) := h
  refine wpAny_bind (thn (lch_core (Qf := fun _ s' => SP X pins D .next s') hc hN I hi ok hg ht he hs h fun L C s' m H' I' q hn f => ?_) fun _ s' hq => wpAny_pure (wpAny_pure hq))
  obtain ⟨f0, f1, f2, f3, f4, f5⟩ := f
  show wpAny _ _ (assign (.Name y py) X.env (.ref L)) _ _ _
  refine wpAny_assign_Name (store_ok2 (v := V.ref L) I' hN hy (.inl hyl) rfl (fun s2 I2 ⟨a, sb, ha⟩ => ⟨m, hn.sameBut sb ?_, fun h3 sb3 => ⟨_, H', I2.turned (t' := s2.toks) (fun b o hb e => (sb3.2 b hb).trans e) f0 f1 f3 f4 f5, q⟩⟩) (.inr hyl))
  rcases ha with z | z
  · rw [z]; exact f1
  · exact fun e => f4 y a z e.symm
end
/-! ### defs there -/
structure DfH (P : Program) (w : World) (K : PySem.W.Frag) (mg : Str → Option Value) (base : Heap) (k : Nat) (x : Str) (ps : List Str) (sp : Sp) : Prop where
  ex : ∃ f fd, FnH P w K mg base (L2N.CX P w) k f fd ps sp ∧ mg x = some (.ref f) ∧ PySem.W.keepIn K (.ref f) = true ∧ Binds K fd ps []
theorem pe_dfH {X : Cx} {k : Nat} {ps : List Str} {sp : Sp} {W : WX} {x : Str} {p pos : Pos} {e : Expr} {es : List Expr} {t : TA} (F : DfH X.prog X.w X.K X.mg X.base k x ps sp) (hr : RoomH k X.A) (hc : HotC X) (tk : L2N.Takes X W) (ha : PA X (e :: es) t) (hg : Gl X x := by rfl)
    (hdb : (x == ("__debug__" : Str)) = false := by decide) (he : starEach (e :: es) X.env = (false, eval e X.env) :: starEach es X.env := by rfl) (hpl : (backTo pos (starEach es X.env)).any (·.1) = false := by rfl) :
    PE X (.Call (.Name x p) (e :: es) [] pos) (tCallS sp (WE W) t) := by
  obtain ⟨f, fd, F1, F2, F3, F4⟩ := F.ex
  exact pe_callH F1 hr hc hg F2 F3 F4 (fun σ => L2N.passAt tk σ) ha hdb he hpl
section
variable {P : Program} {w : World} {K : PySem.W.Frag} {mg : Str → Option Value} {base : Heap}
theorem hot_cx {N : List Str} {qual : Str} {scope : Scope} {f : Addr} {cd : Value} {A : Around} {outer : List Env} {s : Shared} {H : Hp} {E : XK} {p : Addr × Obj} (h : Hot1 A p) : HotC (cxH (L2N.CX P w) P w K mg base N qual scope f cd A outer s H E p) := ⟨p, h, List.mem_singleton.mpr rfl⟩
theorem hot_suite {X : Cx} {a : Addr} {oe : Obj} {cls : Value} {d : Option Addr} {pn : List (Addr × Obj)} (hz : L2N.Zn cls d oe) (hf : ∃ vs, oe.data = .fields vs) : HotC (X.suite a ((a, oe) :: pn)) := by
  obtain ⟨vs, hd⟩ := hf
  exact ⟨(a, oe), ⟨rfl, vs, hd, hz.2.2 vs hd⟩, List.mem_cons_self⟩
theorem okWH {W : HR} {x qual : Str} {st : Stmt} {f : Addr} {fd : FuncData} {N ps : List Str} {k : Nat} {I : Type} {C : I → Prop} {fw : I → Way} (F : Fun K x qual st f fd) (S : FnScope N ps (defScope st)) (hlen : ∀ i, (fw i).Ps.length = ps.length) (hN : ps.length ≤ N.length)
    (body : ∀ (cdv : Value) (A : Around) (outer : List Env) (s : Shared) (H : Hp) (E : XK) (p : Addr × Obj), Hot1 A p → RoomH k (A.deeper (envOfC qual (defScope st) s.heap.objs.size f cdv)) →
      ∃ t, PSs (cxH (L2N.CX P w) P w K mg base N qual (defScope st) f cdv A outer s H E p) (defBody st) t ∧ ∀ i, C i → ∃ M, St (RsW W E (fw i).X N.length) (entry (fw i).Ps N.length) t M (fw i).P ∧ ∀ s H', Ty M s H' → (fw i).P .non H') :
    FnH P w K mg base (L2N.CX P w) (k + 1) f fd ps (SpW W C fw) := by
  obtain ⟨oc, od, kV, doc, pm, an, cdv, ct, osl, rfl, lk, hcd⟩ := F.ex
  refine fn_ofH lk hcd S (fun vs H Q E h => ?_) (fun A outer s H vs Q E p hp hr h => ?_)
  · obtain ⟨i, _, a, _⟩ := h
    rw [allp_len a, hlen]
  · obtain ⟨i, c, a, q, e⟩ := h
    obtain ⟨t, ht, hb⟩ := body cdv A outer s H E p hp hr
    obtain ⟨M, hs, hm⟩ := hb i c
    refine ⟨t, ht, hs _ H _ ?_ (fun s cls d H' x _ y => e cls d H' x y) (fun s' H' x ty => q _ H' x (hm s' H' ty)) q⟩
    have l1 := allp_len a
    have := ty_entry (n := N.length - (fw i).Ps.length) a
    unfold L2.start entry
    rw [l1]
    exact this
theorem dfH_of {x qual : Str} {st : Stmt} {f : Addr} {fd : FuncData} {ps : List Str} {k : Nat} {sp : Sp} (h : FnH P w K mg base (L2N.CX P w) k f fd ps sp) (F : Fun K x qual st f fd) (g : mg x = some (.ref f)) (b : Binds K fd ps []) : DfH P w K mg base k x ps sp := ⟨f, fd, h, g, F.kp, b⟩
end
theorem units_h {k : Nat} {A : Around} (r : RoomH k A) : A.units + 64 < cLine := by have := r.un; omega
theorem room_mark {k : Nat} {A : Around} {h : Option Value} (r : Room k A) : RoomH k (A.mark h) := ⟨r.dp, r.un⟩
section
variable {Y : Rs} [w : PreT Y.W] {G N : Ctx} {R : Pr} {K : PySem.W.Frag}
/-- a try with one clause that names nothing -/
theorem st_tryM {G' : Ctx} {X' : XP} {c : Value} {tb : WX → TS} {ts : Addr → Value → Option Addr → TS} {Wout : WX} (body : ∀ W : WX, St ⟨Y.W, WE W, G', X'⟩ G (tb W) N R)
    (hd : ∀ cls d H, X' cls d H → PySem.W.exmOne K cls c = some true ∧ ∀ a, St Y G' (ts a cls d) N R) : St Y G (fun D σ H => tb (wMany K Wout D [(c, ts)]) D σ H) N R := fun s H D ty hx n r =>
  body (wMany K Wout D [(c, ts)]) s H D ty (fun s' cls d H' w1 ty' x => by
    obtain ⟨e, k⟩ := hd cls d H' x
    exact ⟨true, e, fun _ a _ => k a _ H' _ ty' (hx.mono w1) (fun s2 H2 w2 t2 => n _ H2 (w.trans w1 w2) t2) (fun v H2 w2 p => r v H2 (w.trans w1 w2) p), fun z => nomatch z⟩) n r
end
end U

/-! ## things as data, compared; is of truths -/
namespace U
open PySem PySem.Spec PyProof.Rows L2
/-- P's things stand for the data d -/
def IsD (K : PySem.W.Frag) (P : Pr) (d : PyData) : Prop := ∀ v H, P v H → Dp K H v d
inductive All2 (K : PySem.W.Frag) : List Pr → List PyData → Prop
  | nil : All2 K [] []
  | cons {P : Pr} {d : PyData} {Ps : List Pr} {ds : List PyData} : IsD K P d → All2 K Ps ds → All2 K (P :: Ps) (d :: ds)
/-- small data that equals itself -/
structure Flat (k : Nat) (d : PyData) : Prop where
  lay : PyData.canLay0 d = true
  dep : PyData.depth d ≤ k
  same : PyData.eqv d d = true
theorem Flat.shaped {d : PyData} (h : Flat 60 d) : SeqAt.shaped d = true := by
  unfold SeqAt.shaped
  rw [h.lay, decide_eq_true (show PyData.depth d ≤ 64 by have := h.dep; omega)]
  rfl
theorem Flat.mono {k l : Nat} {d : PyData} (h : Flat k d) (e : k ≤ l) : Flat l d := ⟨h.lay, Nat.le_trans h.dep e, h.same⟩
theorem flat_int {k : Nat} {i : Int} : Flat k (.int i) := ⟨rfl, Nat.zero_le _, by unfold PyData.eqv; exact beq_self_eq_true i⟩
theorem flat_all {k : Nat} : ∀ {ds : List PyData}, (∀ d ∈ ds, Flat k d) → PyData.canLayAll0 ds = true ∧ PyData.depthAll ds ≤ k ∧ PyData.eqvAll ds ds = true
  | [], _ => ⟨rfl, Nat.zero_le _, by unfold PyData.eqvAll; rfl⟩
  | d :: ds, h => by
    obtain ⟨a, b, c⟩ := flat_all (ds := ds) fun e he => h e (List.mem_cons_of_mem _ he)
    obtain ⟨x, y, z⟩ := h d List.mem_cons_self
    refine ⟨?_, ?_, ?_⟩
    · unfold PyData.canLayAll0; rw [x, a]; rfl
    · unfold PyData.depthAll; exact Nat.max_le.mpr ⟨y, b⟩
    · unfold PyData.eqvAll; rw [z, c]; rfl
theorem flat_list {k : Nat} {ds : List PyData} (h : ∀ d ∈ ds, Flat k d) : Flat (k + 1) (.list ds) := by
  obtain ⟨a, b, c⟩ := flat_all h
  exact ⟨by unfold PyData.canLay0; exact a, by unfold PyData.depth; omega, by unfold PyData.eqv; exact c⟩
theorem flat_tup {k : Nat} {ds : List PyData} (h : ∀ d ∈ ds, Flat k d) : Flat (k + 1) (.tuple ds) := by
  obtain ⟨a, b, c⟩ := flat_all h
  exact ⟨by unfold PyData.canLay0; exact a, by unfold PyData.depth; omega, by unfold PyData.eqv; exact c⟩
section
variable {K : PySem.W.Frag}
theorem all2_dp : ∀ {Ps : List Pr} {ds : List PyData} {xs : List V} {H : Hp}, All2 K Ps ds → AllP Ps xs H → DpAll K H xs ds
  | [], [], [], _, .nil, _ => .nil
  | [], [], _ :: _, _, .nil, h => h.elim
  | _ :: _, _ :: _, [], _, .cons _ _, h => h.elim
  | _ :: _, _ :: _, x :: xs, H, .cons a r, h => .cons (a x H h.1) (all2_dp r h.2)
def eachD (n : Nat) (D : Nat → PyData) : List PyData := (List.range n).map D
theorem all2_map {P : Nat → Pr} {D : Nat → PyData} : ∀ {l : List Nat}, (∀ i ∈ l, IsD K (P i) (D i)) → All2 K (l.map P) (l.map D)
  | [], _ => .nil
  | i :: l, h => .cons (h i List.mem_cons_self) (all2_map fun j hj => h j (List.mem_cons_of_mem _ hj))
theorem all2_each {n : Nat} {P : Nat → Pr} {D : Nat → PyData} (h : ∀ i, i < n → IsD K (P i) (D i)) : All2 K (each n P) (eachD n D) := all2_map fun i hi => h i (List.mem_range.mp hi)
theorem eachD_mem {n : Nat} {D : Nat → PyData} {d : PyData} (h : d ∈ eachD n D) : ∃ i, i < n ∧ d = D i := by
  obtain ⟨i, hi, e⟩ := List.mem_map.mp h
  exact ⟨i, List.mem_range.mp hi, e.symm⟩
theorem isD_int {i : Int} : IsD K (Is (.int i)) (.int i) := fun v H h => by cases h; exact .int i
theorem isD_tup {Ps : List Pr} {ds : List PyData} (h : All2 K Ps ds) : IsD K (Tup K Ps) (.tuple ds) := fun v H ⟨p, xs, e, hq, hp⟩ => by
  rw [e]
  exact .tup (.inl hq) (all2_dp h hp)
theorem isD_lst {Ps : List Pr} {ds : List PyData} (h : All2 K Ps ds) : IsD K (Lst K Ps) (.list ds) := fun v H ⟨p, xs, e, hq, _, hp⟩ => by
  rw [e]
  exact .lst hq (all2_dp h hp)
theorem isD_own {Ps : List Pr} {ds : List PyData} (h : All2 K Ps ds) : IsD K (Own Ps) (.list ds) := fun v H z => isD_lst h v H (own_lst z)
theorem isD_told {q : Rat} : IsD K (Told K q) (.tuple [.int q.num, .int q.den]) := isD_tup (.cons isD_int (.cons isD_int .nil))
theorem flat_told {k : Nat} {q : Rat} : Flat (k + 1) (.tuple [.int q.num, .int q.den]) := flat_tup fun d hd => by
  rcases List.mem_cons.mp hd with rfl | hd
  · exact flat_int
  · rw [List.mem_singleton.mp hd]; exact flat_int
variable {W : HR} [w : PreT W]
theorem o_eqSame {P1 P2 : Pr} {d : PyData} (a : IsD K P1 d) (b : IsD K P2 d) (f : Flat 60 d) : Op2 W (rEqA K) P1 P2 (Is (.bl true)) := op2_r fun x y H h1 h2 Q q => ⟨d, d, a x H h1, b y H h2, f.shaped, f.shaped, by rw [f.same]; exact q _ H (w.refl H) rfl⟩
theorem o_neSame {P1 P2 : Pr} {d : PyData} (a : IsD K P1 d) (b : IsD K P2 d) (f : Flat 60 d) : Op2 W (rNeA K) P1 P2 (Is (.bl false)) := op2_r fun x y H h1 h2 Q q => ⟨d, d, a x H h1, b y H h2, f.shaped, f.shaped, by rw [f.same]; exact q _ H (w.refl H) rfl⟩
theorem o_neS {i j : Str} : Op2 W (rNeA K) (Is (.str i)) (Is (.str j)) (Is (.bl (decide (i ≠ j)))) := op2_l (by
  have := op2_ne (W := W) (x := .str i) (y := .str j) rfl
  have e : (!decide (V.str i = V.str j)) = decide (i ≠ j) := by by_cases h : i = j <;> simp [h]
  rw [e] at this; exact this)
/-! ### is -/
def rIsB : R2 := fun x y H Q => ∃ a b, x = .bl a ∧ y = .bl b ∧ Q (.bl (decide (a = b))) H
def rNotB : R2 := fun x y H Q => ∃ a b, x = .bl a ∧ y = .bl b ∧ Q (.bl (!decide (a = b))) H
omit w in
theorem op_isB {X : Cx} : OpR X (compareOp .Is) rIsB := by
  intro pins s σ H x y v u Q I rx ry h
  obtain ⟨a, b, rfl, rfl, q⟩ := h
  cases rx
  cases ry
  cases a <;> cases b <;> exact wpAny_pure (fin_bl I q rfl)
omit w in
theorem op_notB {X : Cx} : OpR X (compareOp .IsNot) rNotB := by
  intro pins s σ H x y v u Q I rx ry h
  obtain ⟨a, b, rfl, rfl, q⟩ := h
  cases rx
  cases ry
  cases a <;> cases b <;> exact wpAny_pure (fin_bl I q rfl)
theorem o_isB {a b : Bool} : Op2 W rIsB (Is (.bl a)) (Is (.bl b)) (Is (.bl (decide (a = b)))) := fun x y H e1 e2 Q q => ⟨a, b, e1, e2, q _ H (w.refl H) rfl⟩
theorem o_notB {a b : Bool} : Op2 W rNotB (Is (.bl a)) (Is (.bl b)) (Is (.bl (!decide (a = b)))) := fun x y H e1 e2 Q q => ⟨a, b, e1, e2, q _ H (w.refl H) rfl⟩
end
/-! ### lists that none may write: whatever they hold, while nothing is written -/
def LstN (K : PySem.W.Frag) (Ps : List Pr) : Pr := fun v H => ∃ p xs, v = .ref p ∧ SqL K H p xs ∧ AllP Ps xs H
instance mn_lstN {K : PySem.W.Frag} {Ps : List Pr} [ml : MnL Evl.Ex Ps] : Mn Evl.Ex (LstN K Ps) := ⟨fun v H H' h ⟨p, xs, e, hq, hp⟩ => ⟨p, xs, e, Evl.ex_l h hq, ml.mn xs H H' h hp⟩⟩
theorem lst_n {K : PySem.W.Frag} {Ps : List Pr} {v : V} {H : Hp} (h : Lst K Ps v H) : LstN K Ps v H := let ⟨p, xs, e, a, _, c⟩ := h; ⟨p, xs, e, a, c⟩
theorem new_n {K : PySem.W.Frag} {Ps : List Pr} {v : V} {H : Hp} (h : New Ps v H) : LstN K Ps v H := let ⟨p, xs, e, a, c⟩ := h; ⟨p, xs, e, SqL.of a, c⟩
theorem map_imp {P Q : Nat → Pr} {H : Hp} : ∀ {l : List Nat} {xs : List V}, (∀ i ∈ l, ∀ v, P i v H → Q i v H) → AllP (l.map P) xs H → AllP (l.map Q) xs H
  | [], _, _, h => h
  | _ :: _, [], _, h => h.elim
  | i :: l, x :: xs, k, h => ⟨k i List.mem_cons_self x h.1, map_imp (l := l) (xs := xs) (fun j hj => k j (List.mem_cons_of_mem _ hj)) h.2⟩
theorem each_imp {n : Nat} {P Q : Nat → Pr} {xs : List V} {H : Hp} (h : ∀ i, i < n → ∀ v, P i v H → Q i v H) (a : AllP (each n P) xs H) : AllP (each n Q) xs H := map_imp (fun i hi => h i (List.mem_range.mp hi)) a
section
variable {E : L2.St → XK} {GX : Ctx} {X : XP} {G : Ctx} {te : TE} {K : PySem.W.Frag} {Ps Qs : List Pr}
theorem ei_listN [ml : MnL Evl.Ex Ps] (h : Ev ⟨Evl.Ex, E, GX, X⟩ G te (LstN K Ps)) : EvI ⟨Evl.Ex, E, GX, X⟩ G (iList K te) Ps.length (nth Ps) := fun s H ty hx R k =>
  h s H ty hx _ fun v H2 w2 ⟨p, xs, e, hq, hp⟩ => by
    refine ⟨p, e, ⟨xs, hq⟩, k _ H2 (fun H => SqL K H p xs ∧ AllP Ps xs H) w2 ⟨hq, hp⟩ (fun a b x z => ⟨Evl.ex_l x z.1, ml.mn xs a b x z.2⟩) ?_⟩
    rw [← allp_len hp]
    refine ⟨fun i H hi z => walk_list.goes i H hi z.1, fun H z => walk_list.stops H z.1, fun i Ha x Hb hi z y => ?_⟩
    obtain ⟨e1, e2⟩ := walk_list.yields i Ha x Hb hi z.1 y
    subst e1
    exact ⟨Evl.Ex.refl _, allp_nth z.2 e2⟩
theorem ev_newL {tr : TA} [ml : MnL Evl.Ex Ps] (ha : EvA ⟨Evl.Ex, E, GX, X⟩ G tr Ps) (hl : Ps.length ≤ 100000) : Ev ⟨Evl.Ex, E, GX, X⟩ G (tLst tr) (New Ps) := fun s H ty hx Q q =>
  ha s H ty hx _ fun vs H1 w1 p1 => ⟨by rw [allp_len p1]; exact Evl.sz_of hl, fun p hp => by
    have w2 : Evl.Ex H1 (upd H1 p (.lst vs)) := Evl.Ex.new hp
    exact q _ _ (w1.trans w2) ⟨p, vs, rfl, upd_same, ml.mn vs _ _ w2 p1⟩⟩
theorem ev_slN {tl th : TO} {lo hi : Option Int} [mc : MnC Evl.Ex G] [ml : MnL Evl.Ex Ps] (h : Ev ⟨Evl.Ex, E, GX, X⟩ G te (LstN K Ps)) (h1 : EvO ⟨Evl.Ex, E, GX, X⟩ G tl lo) (h2 : EvO ⟨Evl.Ex, E, GX, X⟩ G th hi) (mcut : MnL Evl.Ex (cutL Ps lo hi)) : Ev ⟨Evl.Ex, E, GX, X⟩ G (tSl (rSlL K) te tl th) (New (cutL Ps lo hi)) := fun s H ty hx Q q =>
  h s H ty hx _ fun v H1 w1 p1 => h1 s H1 (mc.mn s H H1 w1 ty) (hx.mono (Y := ⟨Evl.Ex, E, GX, X⟩) w1) _ fun H2 w2 => h2 s H2 (mc.mn s H H2 (w1.trans w2) ty) (hx.mono (Y := ⟨Evl.Ex, E, GX, X⟩) (w1.trans w2)) _ fun H3 w3 => by
    have w23 : Evl.Ex H1 H3 := w2.trans w3
    obtain ⟨p, xs, e, hq, hp⟩ := (mn_lstN (K := K) (Ps := Ps)).mn v H1 H3 w23 p1
    refine ⟨p, xs, e, hq, fun l hl => ?_⟩
    have w4 : Evl.Ex H3 (upd H3 l (.lst (cutV xs lo hi))) := Evl.Ex.new hl
    exact q _ _ ((w1.trans w23).trans w4) ⟨l, _, rfl, upd_same, mcut.mn _ _ _ w4 (allp_cut (lo := lo) (hi := hi) hp)⟩
end
theorem o_catN {K : PySem.W.Frag} {Ps Qs : List Pr} [m1 : MnL Evl.Ex (Ps ++ Qs)] (l : Ps.length + Qs.length ≤ 100000) : Op2 Evl.Ex (rAddA K) (New Ps) (New Qs) (New (Ps ++ Qs)) := fun x y H ⟨p, xs, e, hq, hp⟩ ⟨p', ys, e', hq', hp'⟩ Q q => by
  refine .inr (.inr (.inl ⟨p, p', xs, ys, e, e', hq, hq', ?_, fun l hl => ?_⟩))
  · rw [allp_len hp, allp_len hp']; exact Evl.sz_of l
  · have w2 : Evl.Ex H (upd H l (.lst (xs ++ ys))) := Evl.Ex.new hl
    exact q _ _ w2 ⟨l, _, rfl, upd_same, m1.mn _ _ _ w2 (allp_app hp hp')⟩
theorem op_eqU {X : Cx} {a : Addr} {pn : List (Addr × Obj)} (hu : (X.A.mark (some (.ref a))).units + 64 < cLine) : OpR (X.suite a pn) (compareOp .Eq) (rEqA X.K) := op_eqA (X := X.suite a pn) hu
theorem op_neU {X : Cx} {a : Addr} {pn : List (Addr × Obj)} (hu : (X.A.mark (some (.ref a))).units + 64 < cLine) : OpR (X.suite a pn) (compareOp .NotEq) (rNeA X.K) := op_neA (X := X.suite a pn) hu
theorem op_addAT {X : Cx} {pn : List (Addr × Obj)} {xe : Value → Shared → Prop} : OpR (X.tr pn xe) (binaryOp .Add) (rAddA X.K) := op_addA (X := X.tr pn xe)
theorem sl_listT {X : Cx} {pn : List (Addr × Obj)} {xe : Value → Shared → Prop} : SlR (X.tr pn xe) (rSlL X.K) := sl_list (X := X.tr pn xe)
theorem ix_seqB {X : Cx} {s : Shared} {H : Hp} {scope : Scope} {ce : Env} {fp : List Addr} : IxR (X.blk s H scope ce fp) (rIx X.K) := ix_seq (X := X.blk s H scope ce fp)
end U

/-! ## objects: an instance's attributes bear predicates -/
namespace U
open PySem PySem.Spec PyProof.Rows L2
/-- along W instances stand as they are -/
class PreI (W : HR) : Prop where
  ins : ∀ {H H' : Hp} {a C dx : Addr} {fs : List (Str × V)}, W H H' → H a = some (.ins C dx fs) → H' a = some (.ins C dx fs)
instance pri_ex : PreI Evl.Ex := ⟨fun w h => w _ _ h⟩
instance pri_wl : PreI WL := ⟨fun w h => w.1 _ _ h True.intro⟩
instance pri_wt : PreI WT := ⟨fun w h => w _ _ h rfl⟩
def FsOk (Fs : List (Str × Pr)) (fs : List (Str × V)) (H : Hp) : Prop := fs.map (·.1) = Fs.map (·.1) ∧ AllP (Fs.map (·.2)) (fs.map (·.2)) H
def Ob (C : Addr) (Fs : List (Str × Pr)) : Pr := fun v H => ∃ p dx fs, v = .ref p ∧ H p = some (.ins C dx fs) ∧ FsOk Fs fs H
instance mn_ob {W : HR} [wi : PreI W] {C : Addr} {Fs : List (Str × Pr)} [ml : MnL W (Fs.map (·.2))] : Mn W (Ob C Fs) := ⟨fun v H H' h ⟨p, dx, fs, e, hq, hn, hp⟩ => ⟨p, dx, fs, e, wi.ins h hq, hn, ml.mn _ H H' h hp⟩⟩
theorem fsok_get : ∀ {Fs : List (Str × Pr)} {fs : List (Str × V)} {H : Hp} {f : Str} {P : Pr}, FsOk Fs fs H → Fs.lookup f = some P → ∃ v, fs.lookup f = some v ∧ P v H
  | [], _, _, _, _, _, e => by cases e
  | _ :: _, [], _, _, _, h, _ => by cases h.1
  | (g, Q) :: Fs, (g', x) :: fs, H, f, P, h, e => by
    have eg : g' = g := (List.cons.inj h.1).1
    subst eg
    by_cases hf : (f == g') = true
    · have e1 : Q = P := by simpa [List.lookup, hf] using e
      subst e1
      exact ⟨x, by simp [List.lookup, hf], h.2.1⟩
    · have hf' : (f == g') = false := by simpa using hf
      obtain ⟨v, a, b⟩ := fsok_get (Fs := Fs) (fs := fs) (f := f) (P := P) ⟨(List.cons.inj h.1).2, h.2.2⟩ (by simpa [List.lookup, hf'] using e)
      exact ⟨v, by simpa [List.lookup, hf'] using a, b⟩
theorem fsok_none : ∀ {Fs : List (Str × Pr)} {fs : List (Str × V)} {H : Hp} {f : Str}, FsOk Fs fs H → Fs.lookup f = none → fs.lookup f = none
  | [], [], _, _, _, _ => rfl
  | [], _ :: _, _, _, h, _ => by cases h.1
  | _ :: _, [], _, _, h, _ => by cases h.1
  | (g, Q) :: Fs, (g', x) :: fs, H, f, h, e => by
    have eg : g' = g := (List.cons.inj h.1).1
    subst eg
    by_cases hf : (f == g') = true
    · simp [List.lookup, hf] at e
    · have hf' : (f == g') = false := by simpa using hf
      have := fsok_none (Fs := Fs) (fs := fs) (f := f) (H := H) ⟨(List.cons.inj h.1).2, h.2.2⟩ (by simpa [List.lookup, hf'] using e)
      simpa [List.lookup, hf'] using this
section
variable {Y : Rs} [w : PreT Y.W] [wi : PreI Y.W] {G : Ctx} {ta te : TE} {K : PySem.W.Frag} {C : Addr} {Fs : List (Str × Pr)} {P : Pr} {f m : Str}
omit w wi in
theorem ev_fld (c : Cls K C) (n : NoAttr K C f) (hl : Fs.lookup f = some P) (h : Ev Y G te (Ob C Fs)) : Ev Y G (tFld K te f) P := fun s H ty hx Q q =>
  h s H ty hx _ fun v H1 w1 ⟨p, dx, fs, e, hq, hf⟩ => by
    obtain ⟨y, e1, e2⟩ := fsok_get hf hl
    exact ⟨p, C, dx, fs, y, e, hq, c, n, e1, q y H1 w1 e2⟩
theorem ev_meth {sp : Sp} {E : XK} {t : TA} {Ps : List Pr} [mc : MnC Y.W G] [mf : MnL Y.W (Fs.map (·.2))] (h : Ev Y G ta (Ob C Fs)) (hm : Fs.lookup m = none) (ha : EvA Y G t Ps) (ho : Cl Y.W sp (Ob C Fs :: Ps) P NoX) : Ev Y G (tMeth C m sp [] E ta t) P := fun s H ty hx Q q =>
  h s H ty hx _ fun v H1 w1 ⟨p, dx, fs, e, hq, hf⟩ => ⟨p, dx, fs, e, hq, fsok_none hf hm, ha s H1 (mc.mn s H H1 w1 ty) (hx.mono w1) _ fun vs H2 w2 pv => by
    have o2 : Ob C Fs v H2 := mn_ob.mn v H1 H2 w2 ⟨p, dx, fs, e, hq, hf⟩
    rw [List.append_nil]
    exact ho (v :: vs) H2 ⟨o2, pv⟩ Q E (fun v3 H3 w3 p3 => q v3 H3 (w.trans (w.trans w1 w2) w3) p3) fun _ _ _ _ z => z.elim⟩
end
/-! ### making one -/
def isIns : HO → Bool
  | .ins _ _ _ => true
  | _ => false
/-- all but the instance at x stands -/
def WI (x : Addr) (H H' : Hp) : Prop := ∀ b o, H b = some o → (b ≠ x ∨ isIns o = false) → H' b = some o
instance pre_wi {x : Addr} : Pre (WI x) where
  refl := fun H b o h _ => h
  trans := fun a b c o h n => b c o (a c o h n) n
  ext := fun e b o h _ => e b o h
  tup := fun w h => by
    rcases h with h | ⟨o, h⟩
    · exact .inl (w _ _ h (.inr rfl))
    · exact .inr ⟨o, w _ _ h (.inr rfl)⟩
  lst := fun w n h => by
    rcases h with (h | ⟨o, h⟩) | h
    · exact .inl (.inl (w _ _ h (.inr rfl)))
    · exact .inl (.inr ⟨o, w _ _ h (.inr rfl)⟩)
    · exact .inr h
  own := fun w n h => w _ _ h (.inr rfl)
  wrt := fun w h b o e n => by rw [upd_ne (ne_of_none e h)]; exact w b o e n
/-- the instance as it is being made -/
def SelfT (x C dx : Addr) (Fs : List (Str × Pr)) : Pr := fun v H => v = .ref x ∧ ∃ fs, H x = some (.ins C dx fs) ∧ FsOk Fs fs H
instance mn_self {x C dx : Addr} {Fs : List (Str × Pr)} [ml : MnL Evl.Ex (Fs.map (·.2))] : Mn Evl.Ex (SelfT x C dx Fs) := ⟨fun v H H' w ⟨e, fs, h, hn, hp⟩ => ⟨e, fs, w _ _ h, hn, ml.mn _ H H' w hp⟩⟩
theorem self_ob {x C dx : Addr} {Fs : List (Str × Pr)} {v : V} {H : Hp} (h : SelfT x C dx Fs v H) : Ob C Fs v H := let ⟨e, fs, a, b⟩ := h; ⟨x, dx, fs, e, a, b⟩
theorem putF_new : ∀ {fs : List (Str × V)} {f : Str} {v : V}, fs.lookup f = none → putF f v fs = fs ++ [(f, v)]
  | [], _, _, _ => rfl
  | (g, x) :: r, f, v, h => by
    by_cases hf : (f == g) = true
    · simp [List.lookup, hf] at h
    · have hf' : (f == g) = false := by simpa using hf
      have ne : ¬ g = f := fun z => by subst z; simp at hf'
      show (if g = f then (g, v) :: r else (g, x) :: putF f v r) = _
      rw [if_neg ne, putF_new (fs := r) (by simpa [List.lookup, hf'] using h)]
      rfl
theorem fsok_put {Fs : List (Str × Pr)} {fs : List (Str × V)} {H : Hp} {f : Str} {P : Pr} {v : V} (h : FsOk Fs fs H) (hp : P v H) : FsOk (Fs ++ [(f, P)]) (fs ++ [(f, v)]) H := by
  refine ⟨by rw [List.map_append, List.map_append, h.1]; rfl, ?_⟩
  rw [List.map_append, List.map_append]
  exact allp_app h.2 ⟨hp, True.intro⟩
/-- self.f = e, a new attribute -/
theorem st_fset {Y : Rs} {x C dx : Addr} {Fs : List (Str × Pr)} {f : Str} {P R : Pr} {G : Ctx} {K : PySem.W.Frag} {te : TE} (hW : Y.W = WI x) [m1 : MnC Evl.Ex G] [m2 : MnC (WI x) G] [m3 : Mn (WI x) P] [m4 : MnL (WI x) (Fs.map (·.2))] [m5 : MnL Evl.Ex (Fs.map (·.2))] (c : Cls K C) (n : NoAttr K C f) (hf : Fs.lookup f = none) (hl : Fs.length < 900)
    (h : Ev Y.ex (some (SelfT x C dx Fs) :: G) te P) : St Y (some (SelfT x C dx Fs) :: G) (sFld K (tVar 0) te f) (some (SelfT x C dx (Fs ++ [(f, P)])) :: G) R := fun s H D ty hx nx _ => by
  obtain ⟨W, E, GX, X⟩ := Y
  have hW' : W = WI x := hW
  subst hW'
  refine h s H ty (hx_ex hx) _ fun y H1 e py => ?_
  have ty1 := (mnc_some (P := SelfT x C dx Fs) (G := G) (W := Evl.Ex)).mn s H H1 e ty
  cases s with
  | nil => exact ty1.elim
  | cons s0 s =>
    obtain ⟨⟨v, ev, es, fs, hq, ho⟩, t2⟩ := ty1
    subst ev es
    have wi : WI x H1 (upd H1 x (.ins C dx (putF f y fs))) := fun b o eb nb => by
      by_cases z : b = x
      · subst z
        rw [hq] at eb
        cases eb
        rcases nb with nb | nb
        · exact absurd rfl nb
        · cases nb
      · rw [upd_ne z]; exact eb
    have len : fs.length = Fs.length := by have := congrArg List.length ho.1; simpa using this
    refine ⟨.ref x, rfl, x, C, dx, fs, rfl, hq, c, n, by omega, ?_⟩
    refine nx _ _ (fun b o eb nb => wi b o (e b o eb) nb) ⟨⟨.ref x, rfl, rfl, fs ++ [(f, y)], ?_, ?_⟩, m2.mn s H1 _ wi t2⟩
    · rw [← putF_new (fsok_none ho hf)]; exact upd_same
    · have hp := fsok_put (f := f) (P := P) (v := y) ho py
      exact ⟨hp.1, by
        have a1 := m4.mn _ _ _ wi ho.2
        have a2 := m3.mn _ _ _ wi py
        rw [List.map_append, List.map_append]
        exact allp_app a1 ⟨a2, True.intro⟩⟩
/-- an __init__'s promise: from an empty instance and arguments so, the attributes Fs; or X -/
structure MkW where
  Ps : List Pr
  Fs : List (Str × Pr)
  X : XP
def SpI (C : Addr) {I : Type} (D : I → Prop) (f : I → MkW) : Sp := fun vs H Q E => ∃ i x dx rest, D i ∧ vs = .ref x :: rest ∧ H x = some (.ins C dx []) ∧ AllP (f i).Ps rest H ∧
  (∀ H', WI x H H' → Ob C (f i).Fs (.ref x) H' → Q .non H') ∧ ∀ cls d H', WI x H H' → (f i).X cls d H' → E cls d H'
theorem ex_made {H H' : Hp} {x dx C : Addr} (hx : H x = none) (hd : H dx = none) (w : WI x (upd (upd H dx (.own x)) x (.ins C dx [])) H') : Evl.Ex H H' := fun b o e => by
  have n1 := ne_of_none e hx
  have n2 := ne_of_none e hd
  exact w b o (by rw [upd_ne n1, upd_ne n2]; exact e) (.inl n1)
theorem ex_start {H : Hp} {x dx C : Addr} (hx : H x = none) (hd : H dx = none) : Evl.Ex H (upd (upd H dx (.own x)) x (.ins C dx [])) := fun b o e => by
  rw [upd_ne (ne_of_none e hx), upd_ne (ne_of_none e hd)]
  exact e
section
variable {Y : Rs} [w : PreT Y.W] {G : Ctx} {K : PySem.W.Frag} {C : Addr} {t : TA} {E : XK}
theorem ev_make {I : Type} {D : I → Prop} {f : I → MkW} (i : I) (c : D i) [ml : MnL Evl.Ex (f i).Ps] (ha : EvA Y G t (f i).Ps) (nx : ∀ cls d H, (f i).X cls d H → False) : Ev Y G (tMake C (SpI C D f) [] E t) (Ob C (f i).Fs) := fun s H ty hx Q q =>
  ha s H ty hx _ fun vs H1 w1 pv x dx nxx ndx ne => by
    rw [List.append_nil]
    refine ⟨i, x, dx, vs, c, rfl, upd_same, ml.mn _ _ _ (ex_start nxx ndx) pv, fun H' wi o => ⟨rfl, q _ H' (w.trans w1 (w.ext (ex_made nxx ndx wi))) o⟩, fun cls d H' _ z => (nx cls d H' z).elim⟩
end
section
variable {Y : Rs} [w : PreT Y.W] {G : Ctx} {te : TE} {P R : Pr}
/-- an expression as a statement, in a text that also writes -/
theorem st_dropE [mc : MnC Evl.Ex G] (h : Ev Y.ex G te P) : St Y G (tDrop te) G R := fun s H D ty hx n _ =>
  h s H ty (hx_ex hx) _ fun v H2 e p => n _ H2 (w.ext e) (mc.mn s H H2 e ty)
end
section
variable {P : Program} {w : World} {K : PySem.W.Frag} {mg : Str → Option Value} {base : Heap}
/-- an __init__ -/
theorem okN {C : Addr} {x qual : Str} {st : Stmt} {f : Addr} {fd : FuncData} {N ps : List Str} {k : Nat} {I : Type} {D : I → Prop} {fw : I → MkW} (F : Fun K x qual st f fd) (S : FnScope N ps (defScope st)) (hlen : ∀ i, (fw i).Ps.length + 1 = ps.length) (hN : ps.length ≤ N.length)
    (body : ∀ (cdv : Value) (A : Around) (outer : List Env) (s : Shared) (H : Hp) (E : XK), Room k (A.deeper (envOfC qual (defScope st) s.heap.objs.size f cdv)) → ∀ i, D i → ∀ x dx : Addr,
      ∃ t, PSs (cxOf (L2N.CX P w) P w K mg base N qual (defScope st) f cdv A outer s H E) (defBody st) t ∧ ∃ M, St (RsW (WI x) E (fw i).X N.length) (entry (SelfT x C dx [] :: (fw i).Ps) N.length) t M (fun _ _ => False) ∧ ∀ s H', Ty M s H' → Ob C (fw i).Fs (.ref x) H') :
    FnOk P w K mg base (L2N.CX P w) (k + 1) f fd ps (SpI C D fw) := by
  refine F.okN S (fun vs H Q E h => ?_) (fun cdv A outer s H vs Q E hr h => ?_)
  · obtain ⟨i, x, dx, rest, _, rfl, _, a, _⟩ := h
    rw [List.length_cons, allp_len a, hlen]
  · obtain ⟨i, y, dx, rest, c, rfl, hy, a, q, e⟩ := h
    obtain ⟨t, ht, M, hs, hm⟩ := body cdv A outer s H E hr i c y dx
    refine ⟨t, ht, hs _ H _ ?_ (fun s cls d H' x _ z => e cls d H' x z) (fun s' H' w1 ty => q H' w1 (hm s' H' ty)) (fun v H' _ z => z.elim)⟩
    have a2 : AllP (SelfT y C dx [] :: (fw i).Ps) (.ref y :: rest) H := ⟨⟨rfl, [], hy, rfl, True.intro⟩, a⟩
    have l1 := allp_len a2
    have en := ty_entry (n := N.length - (SelfT y C dx [] :: (fw i).Ps).length) a2
    unfold L2.start entry
    rw [l1]
    exact en
end
/-! ### methods and makers as facts -/
theorem passes_tk {X : Cx} {E : XK} (tk : L2N.Takes X (fun cls d _ H => E cls d H)) : Passes (L2N.CX X.prog X.w) X E := fun _ _ _ _ e s' I c => tk e s' (L2N.XE.of_call I (fun _ _ _ h => h) c)
/-- the method m of the class at C -/
structure Dm (P : Program) (w : World) (K : PySem.W.Frag) (mg : Str → Option Value) (base : Heap) (k : Nat) (C : Addr) (m : Str) (ps : List Str) (sp : Sp) : Prop where
  ex : ∃ f fd, FnOk P w K mg base (L2N.CX P w) k f fd ps sp ∧ Meth K C m f ∧ Binds K fd ps []
  cls : Cls K C
/-- making one of the class at C -/
structure Dk (P : Program) (w : World) (K : PySem.W.Frag) (mg : Str → Option Value) (base : Heap) (k : Nat) (x : Str) (C : Addr) (ps : List Str) (sp : Sp) : Prop where
  ex : ∃ f fd, FnOk P w K mg base (L2N.CX P w) k f fd ps sp ∧ Mk K C f ∧ Binds K fd ps []
  at_ : mg x = some (.ref C)
section
variable {P : Program} {w : World} {K : PySem.W.Frag} {mg : Str → Option Value} {base : Heap} {k : Nat} {C : Addr} {x m : Str} {ps : List Str} {sp : Sp} {Q : Prop}
/-- to be used so: D.use fun f fd F1 F2 F3 => pe_meth o D.cls F2 F1 hr F3 .nil (passes_tk tk) args -/
theorem Dm.use (D : Dm P w K mg base k C m ps sp) (h : ∀ f fd, FnOk P w K mg base (L2N.CX P w) k f fd ps sp → Meth K C m f → Binds K fd ps [] → Q) : Q := let ⟨f, fd, a, b, c⟩ := D.ex; h f fd a b c
/-- to be used so: D.use fun f fd F1 F2 F3 => pe_make F2 F1 hr rfl D.at_ F3 .nil (passes_tk tk) args -/
theorem Dk.use (D : Dk P w K mg base k x C ps sp) (h : ∀ f fd, FnOk P w K mg base (L2N.CX P w) k f fd ps sp → Mk K C f → Binds K fd ps [] → Q) : Q := let ⟨f, fd, a, b, c⟩ := D.ex; h f fd a b c
end
end U

/-! ## a def's own list, while it grows -/
namespace U
open PySem PySem.Spec PyProof.Rows L2
def isL : HO → Bool
  | .lst _ => true
  | _ => false
/-- the heap without the place l -/
def del (l : Addr) (H : Hp) : Hp := fun b => if b = l then none else H b
theorem del_ne {l b : Addr} {H : Hp} (h : b ≠ l) : del l H b = H b := if_neg h
theorem del_some {l b : Addr} {H : Hp} {o : HO} (h : del l H b = some o) : b ≠ l ∧ H b = some o := by
  unfold del at h
  split at h
  · cases h
  · rename_i n; exact ⟨n, h⟩
class PreD (W : HR) : Prop extends Pre W where
  del : ∀ {a b : Hp} (l : Addr), W a b → W (U.del l a) (U.del l b)
  nl : ∀ {a b : Hp} {l : Addr} {o : HO}, W a b → a l = some o → isL o = false → b l = some o
instance prd_ex : PreD Evl.Ex where
  del := fun l w b o h => by obtain ⟨n, h⟩ := del_some h; rw [del_ne n]; exact w b o h
  nl := fun w h _ => w _ _ h
theorem rd_del {l a : Addr} {H : Hp} {o : HO} (h : Rd (U.del l H) a o) : a ≠ l ∧ Rd H a o := by
  rcases h with h | ⟨u, h⟩
  · exact ⟨(del_some h).1, .inl (del_some h).2⟩
  · exact ⟨(del_some h).1, .inr ⟨u, (del_some h).2⟩⟩
theorem hand_del {l p c : Addr} {H : Hp} {xs : List Int} {a r t : Int} (h : HandV (U.del l H) p c xs a r t) : p ≠ l ∧ c ≠ l ∧ HandV H p c xs a r t :=
  ⟨(del_some h.at_).1, (del_some h.cells).1, { h with at_ := (del_some h.at_).2, cells := (del_some h.cells).2 }⟩
instance prd_wl : PreD WL where
  del := fun l w => ⟨fun b o h n => by
      obtain ⟨nb, h⟩ := del_some h
      rw [del_ne nb]
      refine w.1 b o h ?_
      cases o with
      | lst xs => exact n.elim .inl fun ⟨c, r, ys, z, t⟩ => .inr ⟨c, r, ys, z, (rd_del t).2⟩
      | _ => exact True.intro, fun p c xs a r t h => by
      obtain ⟨np, nc, h⟩ := hand_del h
      obtain ⟨a', r', t', h'⟩ := w.2 p c xs a r t h
      exact ⟨a', r', t', { h' with at_ := by rw [del_ne np]; exact h'.at_, cells := by rw [del_ne nc]; exact h'.cells }⟩⟩
  nl := fun {a b l o} w h n => w.1 _ _ h (by cases o with
    | lst xs => cases n
    | _ => exact True.intro)
/-- from H0 on, all as along W but the list at l -/
def WO (W : HR) (H0 : Hp) (l : Addr) : HR := fun H H' => (W H0 H → W H0 H') ∧ W (del l H) (del l H') ∧ ∀ o, H l = some o → isL o = false → H' l = some o
section
variable {W : HR} [w : PreD W] {H0 : Hp} {l : Addr}
theorem wo_of {a b : Hp} (h : W a b) : WO W H0 l a b := ⟨fun z => w.trans z h, w.del l h, fun _ e n => w.nl h e n⟩
instance pret_wo : PreT (WO W H0 l) where
  refl := fun H => ⟨id, w.refl _, fun _ h _ => h⟩
  trans := fun a b => ⟨fun z => b.1 (a.1 z), w.trans a.2.1 b.2.1, fun o h n => b.2.2 o (a.2.2 o h n) n⟩
  ext := fun e => wo_of (w.ext e)
  tup := fun {H H' a xs} v h => by
    by_cases z : a = l
    · subst z
      rcases h with h | ⟨o, h⟩
      · exact .inl (v.2.2 _ h rfl)
      · exact .inr ⟨o, v.2.2 _ h rfl⟩
    · have k : Rd (del l H) a (.tup xs) := h.elim (fun h => .inl ((del_ne z).trans h)) fun ⟨o, h⟩ => .inr ⟨o, (del_ne z).trans h⟩
      exact (rd_del (w.tup v.2.1 k)).2
/-- what stood at H0 -/
def At (W : HR) (H0 : Hp) (P : Pr) : Pr := fun v H => P v H0 ∧ W H0 H
theorem at_now {P : Pr} [m : Mn W P] {v : V} {H : Hp} (h : At W H0 P v H) : P v H := m.mn v H0 H h.2 h.1
instance mn_at {P : Pr} : Mn (WO W H0 l) (At W H0 P) := ⟨fun v H H' k h => ⟨h.1, k.1 h.2⟩⟩
instance mn_atW {P : Pr} : Mn W (At W H0 P) := ⟨fun v H H' k h => ⟨h.1, w.trans h.2 k⟩⟩
/-- the growing list -/
def Loc (l : Addr) (Ps : List Pr) : Pr := fun v H => v = .ref l ∧ ∃ xs, H l = some (.lst xs) ∧ Safe H xs ∧ AllP Ps xs H
instance mn_loc {Ps : List Pr} [ml : MnL W Ps] : Mn W (Loc l Ps) := ⟨fun v H H' k ⟨e, xs, h, n, a⟩ => ⟨e, xs, w.own k n h, n.mono k, ml.mn _ _ _ k a⟩⟩
theorem loc_own {Ps : List Pr} {v : V} {H : Hp} (h : Loc l Ps v H) : Own Ps v H := let ⟨e, xs, a, b, c⟩ := h; ⟨l, xs, e, a, b, c⟩
end
/-! ### rules within -/
abbrev Rs.under (Y : Rs) (W : HR) : Rs := ⟨W, Y.E, Y.GX, Y.X⟩
theorem ty_at {W : HR} {H H1 : Hp} (k : W H H1) : ∀ {G : Ctx} {s : L2.St}, Ty G s H → Ty (G.map (Option.map (At W H))) s H1
  | [], [], _ => True.intro
  | [], _ :: _, h => h.elim
  | none :: _, [], h => h.elim
  | some _ :: _, [], h => h.elim
  | none :: G, _ :: s, h => ty_at (G := G) (s := s) k h
  | some P :: G, _ :: s, h => ⟨let ⟨v, e, p⟩ := h.1; ⟨v, e, p, k⟩, ty_at (G := G) (s := s) k h.2⟩
section
variable {Y : Rs} {W : HR} [w : PreD W] {H0 : Hp} {l : Addr} {G : Ctx} {te : TE} {t : TT} {P R : Pr} {ts tu : TS} {N : Ctx} {Ps : List Pr} {K : PySem.W.Frag}
theorem hx_under (hW : Y.W = WO W H0 l) {H : Hp} (h : Hx Y H) : Hx (Y.under W) H := fun s cls d H' k ty x => h s cls d H' (by rw [hW]; exact wo_of k) ty x
theorem Ev.upW (hW : Y.W = WO W H0 l) (h : Ev (Y.under W) G te P) : Ev Y G te P := fun s H ty hx Q q => h s H ty (hx_under hW hx) Q fun v H2 k p => q v H2 (by rw [hW]; exact wo_of k) p
theorem st_setW (hW : Y.W = WO W H0 l) [mc : MnC W G] {i : Nat} (h : Ev (Y.under W) G te P) : St Y G (tAsg te (gName i)) (G.set i (some P)) R := fun s H D ty hx n _ =>
  h s H ty (hx_under hW hx) _ fun v H2 k p => n _ H2 (by rw [hW]; exact wo_of k) ((mc.mn s H H2 k ty).put p)
theorem st_ifW (hW : Y.W = WO W H0 l) [mc : MnC W G] {b : Bool} (h : EvT (Y.under W) G t b) (h1 : b = true → St Y G ts N R) (h2 : b = false → St Y G tu N R) : St Y G (tIfS t ts tu) N R := by
  obtain ⟨YW, E, GX, X⟩ := Y
  have hW' : YW = WO W H0 l := hW
  subst hW'
  intro s H D ty hx n r
  refine h s H ty (hx_under rfl hx) _ fun H1 k => ?_
  have k1 : WO W H0 l H H1 := wo_of k
  have p : PreT (WO W H0 l) := pret_wo
  have hx1 : Hx ⟨WO W H0 l, E, GX, X⟩ H1 := fun s cls d H2 e2 t x => hx s cls d H2 (p.trans k1 e2) t x
  cases b with
  | true => exact h1 rfl s H1 D (mc.mn s H H1 k ty) hx1 (fun s2 H2 w2 t2 => n s2 H2 (p.trans k1 w2) t2) fun v H2 w2 q => r v H2 (p.trans k1 w2) q
  | false => exact h2 rfl s H1 D (mc.mn s H H1 k ty) hx1 (fun s2 H2 w2 t2 => n s2 H2 (p.trans k1 w2) t2) fun v H2 w2 q => r v H2 (p.trans k1 w2) q
/-- made = [] : from here on the list is one's own -/
theorem st_local {Y : Rs} [w : PreD Y.W] {i : Nat} {N' : Hp → Addr → Ctx} {R' : Hp → Addr → Pr} (k : ∀ (H0 : Hp) (l : Addr), H0 l = none → St ⟨WO Y.W H0 l, Y.E, Y.GX, Y.X⟩ ((G.map (Option.map (At Y.W H0))).set i (some (Loc l []))) tu (N' H0 l) (R' H0 l))
    (hN : ∀ H0 l s H', Y.W H0 H' → Ty (N' H0 l) s H' → Ty N s H') (hR : ∀ H0 l v H', Y.W H0 H' → R' H0 l v H' → R v H') : St Y G (tSeq (tAsg (tLst tNil) (gName i)) tu) N R := fun s H D ty hx nx rt =>
  ⟨by show (0 : Nat) ≤ sizeLine; decide, fun l hl => by
    have k0 : Y.W H (upd H l (.lst [])) := w.ext (Evl.Ex.new hl)
    have t1 : Ty ((G.map (Option.map (At Y.W H))).set i (some (Loc l []))) (s.set i (some (.ref l))) (upd H l (.lst [])) := (ty_at k0 ty).put ⟨rfl, [], upd_same, .inl rfl, True.intro⟩
    exact k H l hl _ _ D t1 (fun s2 cls d H2 e2 t2 x => hx s2 cls d H2 (e2.1 k0) t2 x) (fun s2 H2 e2 t2 => nx s2 H2 (e2.1 k0) (hN H l s2 H2 (e2.1 k0) t2)) fun v H2 e2 p => rt v H2 (e2.1 k0) (hR H l v H2 (e2.1 k0) p)⟩
/-- made.append(e) -/
theorem st_append (hW : Y.W = WO W H0 l) (h0 : H0 l = none) [mc : MnC W G] {i : Nat} {G' : Ctx} [mo : MnC (WO W H0 l) G'] (hG : G.set i none = G') [mp : Mn (WO W H0 l) P] [ml : MnL (WO W H0 l) Ps] (hi : G[i]? = some (some (Loc l Ps))) (hs : ∀ vs H, AllP (Ps ++ [P]) vs H → Safe H vs) (hz : Ps.length < 100000)
    (h : Ev (Y.under W) G te P) : St Y G (tDrop (tBM K "list" rAppend (tVar i) (tCons te tNil))) (G'.set i (some (Loc l (Ps ++ [P])))) R := by
  subst hG
  obtain ⟨YW, E, GX, X⟩ := Y
  have hW' : YW = WO W H0 l := hW
  subst hW'
  intro s H D ty hx n _
  obtain ⟨v, ev, e, xs, hq, hn, ha⟩ := ty.get hi
  subst e
  refine ⟨.ref l, ev, .inl ⟨rfl, xs, SqL.of hq⟩, ?_⟩
  refine h s H ty (hx_under rfl hx) _ fun y H2 k py => ?_
  have ty2 := mc.mn s H H2 k ty
  obtain ⟨v2, ev2, e2, xs2, hq2, hn2, ha2⟩ := ty2.get hi
  have len := allp_len ha2
  refine ⟨l, xs2, y, rfl, rfl, hq2, Evl.sz_lt (by omega), ?_⟩
  have mu : WO W H0 l H2 (upd H2 l (.lst (xs2 ++ [y]))) := ⟨fun z => w.wrt z h0, by
    have e : del l (upd H2 l (.lst (xs2 ++ [y]))) = del l H2 := by
      funext b
      unfold del
      split
      · rfl
      · rename_i nb; exact upd_ne nb
    rw [e]; exact w.refl _, fun o eo no => by rw [hq2] at eo; cases eo; cases no⟩
  have p : PreT (WO W H0 l) := pret_wo
  have hp2 := allp_app ha2 (show AllP [P] [y] H2 from ⟨py, True.intro⟩)
  have mall : MnL (WO W H0 l) (Ps ++ [P]) := mnl_app
  have t3 := (mo.mn (s.set i none) H2 _ mu (ty_wipe i ty2)).put (i := i) (P := Loc l (Ps ++ [P])) (v := .ref l) ⟨rfl, _, upd_same, (hs _ _ hp2).mono mu, mall.mn _ _ _ mu hp2⟩
  have es : (s.set i none).set i (some (.ref l)) = s := by
    rw [List.set_set]
    obtain ⟨hi2, hv⟩ := List.getElem?_eq_some_iff.mp ev
    rw [← hv, List.set_getElem_self]
  rw [es] at t3
  exact n _ _ (p.trans (wo_of k) mu) t3
end
/-! ### loops within -/
section
variable {Y : Rs} {W : HR} [w : PreD W] {H0 : Hp} {l : Addr} {G : Ctx} {tu : TS} {R : Pr} {tr : TA} {wi : TI} {n : Nat} {It : Nat → Pr}
def EvJ (Y : Rs) (W : HR) (G : Ctx) (wi : TI) (n : Nat) (It : Nat → Pr) : Prop := ∀ s H, Ty G s H → Hx (Y.under W) H → ∀ R : L2.It → Hp → Prop,
  (∀ J H2 (Gd : Hp → Prop), W H H2 → Gd H2 → (∀ a b, Y.W a b → Gd a → Gd b) → Walk J n Gd (fun i Ha x Hb => W Ha Hb ∧ It i x Hb) → R J H2) → wi s H R
theorem ej_range1 {j : Int} (h : EvA (Y.under W) G tr [Is (.int j)]) (b : -(2 ^ 62) ≤ j ∧ j < 2 ^ 62) : EvJ Y W G (iRng1 tr) j.toNat (fun i => Is (.int (i : Int))) := fun s H ty hx R k =>
  h s H ty hx _ fun vs H2 w2 hp => by
    obtain ⟨x, ev, e⟩ := allp1 hp
    cases e
    refine ⟨j, ev, b.1, b.2, k _ H2 (fun _ => True) w2 True.intro (fun _ _ _ _ => True.intro) ⟨fun i H hi z => walk_range.goes i H hi True.intro, fun H z => walk_range.stops H True.intro, fun i Ha x Hb hi z y => ?_⟩⟩
    obtain ⟨e1, e2⟩ := walk_range.yields i Ha x Hb hi True.intro y
    subst e1
    refine ⟨w.refl _, ?_⟩
    show x = V.int (i : Int)
    have e3 : (fun i : Nat => V.int (0 + (i : Int))) i = V.int (i : Int) := congrArg V.int (Int.zero_add _)
    exact e2.trans e3
theorem st_forW (hW : Y.W = WO W H0 l) {j : Nat} (hi : EvJ Y W G wi n It) (L : Nat → Ctx) (h0 : Sub G (L 0)) [mc : MnC W G] [ml : ∀ i, MnC W (L i)] (body : ∀ i, i < n → St Y ((L i).set j (some (It i))) tu (L (i + 1)) R) : St Y G (tFor wi (gName j) tu) (L n) R := by
  obtain ⟨YW, E, GX, X⟩ := Y
  have hW' : YW = WO W H0 l := hW
  subst hW'
  have p : PreT (WO W H0 l) := pret_wo
  intro s H D ty hx nx rt
  refine hi s H ty (hx_under rfl hx) _ fun J H2 Gd w2 g2 gm wk => ?_
  refine for_it wk (fun i s' H' => WO W H0 l H H' ∧ Gd H' ∧ Ty (L i) s' H') ⟨wo_of w2, g2, h0 s H2 (mc.mn s H H2 w2 ty)⟩ (fun i s' H' _ z => z.2.1) (fun i x s' Ha Hb hi z y => ?_) fun s' H' z => nx s' H' z.1 z.2.2
  obtain ⟨z1, z2, z3⟩ := z
  obtain ⟨y1, y2⟩ := y
  have y1' : WO W H0 l Ha Hb := wo_of y1
  have wb := p.trans z1 y1'
  exact body i hi _ Hb _ (((ml i).mn s' Ha Hb y1 z3).put y2) (fun s cls d H2 e2 t x => hx s cls d H2 (p.trans wb e2) t x) (fun s2 H3 w3 t3 => ⟨p.trans wb w3, gm _ _ (p.trans y1' w3) z2, t3⟩) fun v H3 w3 q => rt v H3 (p.trans wb w3) q
/-- for .. in range(drawn) -/
theorem st_forR (hW : Y.W = WO W H0 l) {g : TG} {lo hi : Int} {N : Ctx} [mc : MnC W G] (h : EvA (Y.under W) G tr [Rng lo hi]) (k : ∀ j, lo ≤ j ∧ j < hi → St Y G (tFor (iRng1 fun _ H Q => Q [.int j] H) g tu) N R) : St Y G (tFor (iRng1 tr) g tu) N R := by
  obtain ⟨YW, E, GX, X⟩ := Y
  have hW' : YW = WO W H0 l := hW
  subst hW'
  have p : PreT (WO W H0 l) := pret_wo
  intro s H D ty hx nx rt
  refine h s H ty (hx_under rfl hx) _ fun vs H2 w2 hp => ?_
  obtain ⟨x, ev, j, hj, e⟩ := allp1 hp
  cases e
  subst ev
  have w2' : WO W H0 l H H2 := wo_of w2
  exact k j hj s H2 D (mc.mn s H H2 w2 ty) (fun s cls d H3 e3 t x => hx s cls d H3 (p.trans w2' e3) t x) (fun s3 H3 w3 t3 => nx s3 H3 (p.trans w2' w3) t3) fun v H3 w3 q => rt v H3 (p.trans w2' w3) q
theorem ea_const {j : Int} : EvA (Y.under W) G (fun _ H Q => Q [.int j] H) [Is (.int j)] := fun s H _ _ Q q => q _ H (w.refl H) ⟨rfl, True.intro⟩
end
end U

namespace U
open PySem PySem.Spec PyProof.Rows L2
def top (i : Nat) : Stmt := PySem.Challenge.pw_untoldgaps_k02_things_that_are_no_ratios.main.body.getD i (.Pass ⟨0, 0, 0, 0⟩)
/-- the classes' places -/
structure Addrs where
  BadRatio : Addr
  GapError : Addr
structure Txt (P : Program) (w : World) (K : PySem.W.Frag) (mg : Str → Option Value) (CX : Addrs) : Prop where
  n_isinstance : mg "isinstance" = none
  n_len : mg "len" = none
  n_int : mg "int" = none
  n_bool : mg "bool" = none
  n_tuple : mg "tuple" = none
  n_abs : mg "abs" = none
  n_enumerate : mg "enumerate" = none
  i_gcd : mg "gcd" = some (.builtin "math.gcd")
  i_lcm : mg "lcm" = some (.builtin "math.lcm")
  n_list : mg "list" = none
  n_range : mg "range" = none
  n_ValueError : mg "ValueError" = none
  g_BadRatio : mg "BadRatio" = some (.ref CX.BadRatio)
  g_GapError : mg "GapError" = some (.ref CX.GapError)
  c_BadRatio : Er P w K mg "BadRatio" CX.BadRatio [] [] fun _ => True
  x_BadRatio : ExcC K CX.BadRatio
  m_BadRatio : PySem.W.exmOne K (.ref CX.BadRatio) (.ref CX.BadRatio) = some true
  k_BadRatio_GapError : PySem.W.kitOne K (.ref CX.BadRatio) (.ref CX.GapError) = some true
  k_BadRatio_ValueError : PySem.W.kitOne K (.ref CX.BadRatio) (.type "ValueError") = some true
/-! ### ratios.py -/
abbrev s_is_whole : Stmt := top 5
theorem sc_is_whole : FnScope ["thing"] ["thing"] (defScope s_is_whole) := ⟨rfl, rfl, rfl, by decide +kernel, rfl, by decide +kernel, by decide +kernel⟩
abbrev s_is_ratio : Stmt := top 6
theorem sc_is_ratio : FnScope ["thing"] ["thing"] (defScope s_is_ratio) := ⟨rfl, rfl, rfl, by decide +kernel, rfl, by decide +kernel, by decide +kernel⟩
abbrev s_lowest_terms : Stmt := top 7
theorem sc_lowest_terms : FnScope ["top", "bottom", "common"] ["top", "bottom"] (defScope s_lowest_terms) := ⟨rfl, rfl, rfl, by decide +kernel, rfl, by decide +kernel, by decide +kernel⟩
abbrev s_ratio_of : Stmt := top 8
theorem sc_ratio_of : FnScope ["thing"] ["thing"] (defScope s_ratio_of) := ⟨rfl, rfl, rfl, by decide +kernel, rfl, by decide +kernel, by decide +kernel⟩
abbrev s_plus : Stmt := top 9
theorem sc_plus : FnScope ["one", "other", "top", "bottom", "more", "part"] ["one", "other"] (defScope s_plus) := ⟨rfl, rfl, rfl, by decide +kernel, rfl, by decide +kernel, by decide +kernel⟩
abbrev s_minus : Stmt := top 10
theorem sc_minus : FnScope ["one", "other", "top", "bottom", "less", "part"] ["one", "other"] (defScope s_minus) := ⟨rfl, rfl, rfl, by decide +kernel, rfl, by decide +kernel, by decide +kernel⟩
abbrev s_times : Stmt := top 11
theorem sc_times : FnScope ["one", "other", "top", "bottom", "factor", "part"] ["one", "other"] (defScope s_times) := ⟨rfl, rfl, rfl, by decide +kernel, rfl, by decide +kernel, by decide +kernel⟩
abbrev s_over : Stmt := top 12
theorem sc_over : FnScope ["one", "other", "top", "bottom", "divisor", "part"] ["one", "other"] (defScope s_over) := ⟨rfl, rfl, rfl, by decide +kernel, rfl, by decide +kernel, by decide +kernel⟩
abbrev s_compare : Stmt := top 13
theorem sc_compare : FnScope ["one", "other", "top", "bottom", "rival", "part", "apart"] ["one", "other"] (defScope s_compare) := ⟨rfl, rfl, rfl, by decide +kernel, rfl, by decide +kernel, by decide +kernel⟩
/-- a thing of the kind t -/
structure KindOf (K : PySem.W.Frag) (P : Pr) (t : String) : Prop where
  mn : Mn Evl.Ex P
  ty : HasTy K t P
def wWhole (i : Pr × String × Bool × Bool) : Way := ⟨[i.1], Is (.bl (i.2.2.1 && !i.2.2.2)), NoX⟩
def sp_is_whole (K : PySem.W.Frag) : Sp := SpW Evl.Ex (fun i : Pr × String × Bool × Bool => KindOf K i.1 i.2.1 ∧ kitB i.2.1 "int" = some i.2.2.1 ∧ kitB i.2.1 "bool" = some i.2.2.2) wWhole
/-- things that are no ratios, by why -/
inductive OddW
  | other (P : Pr) (t : String)
  | len (Ps : List Pr)
  | fst (P Q : Pr) (t : String)
  | snd (i : Int) (Q : Pr) (t : String)
  | low (a b : Int)
/-- it is not whole: its kind is another -/
def notWhole (t : String) : Prop := ∃ b1 b2, kitB t "int" = some b1 ∧ kitB t "bool" = some b2 ∧ (b1 && !b2) = false
def OddW.ok (K : PySem.W.Frag) : OddW → Prop
  | .other P t => KindOf K P t ∧ notWhole t ∧ kitB t "tuple" = some false
  | .len Ps => MnL Evl.Ex Ps ∧ Ps.length ≠ 2
  | .fst P Q t => KindOf K P t ∧ Mn Evl.Ex Q ∧ notWhole t
  | .snd _ Q t => KindOf K Q t ∧ notWhole t
  | .low _ b => b < 1
def OddW.pr (K : PySem.W.Frag) : OddW → Pr
  | .other P _ => P
  | .len Ps => Tup K Ps
  | .fst P Q _ => Tup K [P, Q]
  | .snd i Q _ => Tup K [Is (.int i), Q]
  | .low a b => Tup K [Is (.int a), Is (.int b)]
theorem OddW.mn {K : PySem.W.Frag} : ∀ {o : OddW}, o.ok K → Mn Evl.Ex (o.pr K)
  | .other P t, h => h.1.mn
  | .len Ps, h => by haveI := h.1; exact mn_tup (K := K) (Ps := Ps)
  | .fst P Q t, h => by haveI := h.1.mn; haveI := h.2.1; exact mn_tup (K := K)
  | .snd i Q t, h => by haveI := h.1.mn; exact mn_tup (K := K)
  | .low a b, _ => mn_tup (K := K)
inductive RofW
  | int (i : Int)
  | tup (a b : Int)
  | odd (o : OddW)
def wIsR (K : PySem.W.Frag) : RofW → Way
  | .int i => ⟨[Is (.int i)], Is (.bl true), NoX⟩
  | .tup a b => ⟨[Tup K [Is (.int a), Is (.int b)]], Is (.bl true), NoX⟩
  | .odd o => ⟨[o.pr K], Is (.bl false), NoX⟩
def okIsR (K : PySem.W.Frag) : RofW → Prop
  | .int _ => True
  | .tup _ b => 0 < b
  | .odd o => o.ok K
def sp_is_ratio (K : PySem.W.Frag) : Sp := SpW Evl.Ex (okIsR K) (wIsR K)
def sp_lowest_terms (K : PySem.W.Frag) : Sp := SpW Evl.Ex (fun i : Int × Int => i.2 ≠ 0 ∧ Big 8000 i.2) fun i => ⟨[Is (.int i.1), Is (.int i.2)], Told K (Rat.divInt i.1 i.2), NoX⟩
def RX (CX : Addrs) : XP := fun cls d _ => cls = .ref CX.BadRatio ∧ d = none
def NoV : Pr := fun _ _ => False
def wRof (K : PySem.W.Frag) (CX : Addrs) : RofW → Way
  | .int i => ⟨[Is (.int i)], Told K (i : Rat), NoX⟩
  | .tup a b => ⟨[Tup K [Is (.int a), Is (.int b)]], Told K (Rat.divInt a b), NoX⟩
  | .odd o => ⟨[o.pr K], NoV, RX CX⟩
def okRof (K : PySem.W.Frag) : RofW → Prop
  | .int _ => True
  | .tup _ b => 0 < b ∧ Big 8000 b
  | .odd o => o.ok K
def sp_ratio_of (K : PySem.W.Frag) (CX : Addrs) : Sp := SpW Evl.Ex (okRof K) (wRof K CX)
theorem st_false {Y : Rs} {G : Ctx} {ts : TS} {N : Ctx} {R P : Pr} {i : Nat} (h : G[i]? = some (some P)) (no : ∀ v H, P v H → False) : St Y G ts N R := fun s H D ty _ _ _ => by
  obtain ⟨v, _, p⟩ := ty.get h
  exact (no v H p).elim
section
variable {P : Program} {w : World} {K : PySem.W.Frag} {mg : Str → Option Value} {base : Heap} {CX : Addrs}
theorem ok_is_whole {f : Addr} {fd : FuncData} (F : Fun K "is_whole" "is_whole" s_is_whole f fd) (T : Txt P w K mg CX) : FnOk P w K mg base (L2N.CX P w) 1 f fd ["thing"] (sp_is_whole K) := by
  refine okW F sc_is_whole (fun i => rfl) (by decide) (fun cdv A outer s H E hr => ⟨_, (pss_one (ps_ret (pe_and (pe_callB call_isi (by rfl) T.n_isinstance (by decide +kernel) (pa_cons (pv 0) (pa_cons (pe_bltn (v := .ty "int") (by rfl) T.n_int (by decide +kernel) rfl) pa_nil))) (pe_one (pe_not (pe_callB call_isi (by rfl) T.n_isinstance (by decide +kernel) (pa_cons (pv 0) (pa_cons (pe_bltn (v := .ty "bool") (by rfl) T.n_bool (by decide +kernel) rfl) pa_nil)))))))), fun i c => ⟨Dead, ?_, fun _ _ h => (dead h).elim⟩⟩)
  obtain ⟨P, t, b1, b2⟩ := i
  obtain ⟨⟨m, ty⟩, k1, k2⟩ := c
  haveI := m
  show St (RsE E NoX 1) [some P] _ Dead (Is (.bl (b1 && !b2)))
  exact st_ret (ev_andV (ev_cb (ea_cons (ev_var rfl) (ea_cons ev_c ea_nil)) (opA_isi ty k1)) fun _ => ev_notV (ev_cb (ea_cons (ev_var rfl) (ea_cons ev_c ea_nil)) (opA_isi ty k2)))
theorem kit_ii : kitB "int" "int" = some true := by decide +kernel
theorem kit_ib : kitB "int" "bool" = some false := by decide +kernel
theorem cl_whole {W : HR} [Pre W] {i : Int} : Cl W (sp_is_whole K) [Is (.int i)] (Is (.bl true)) NoX :=
  cl_of (C := fun i : Pr × String × Bool × Bool => KindOf K i.1 i.2.1 ∧ kitB i.2.1 "int" = some i.2.2.1 ∧ kitB i.2.1 "bool" = some i.2.2.2) (f := wWhole) (Is (.int i), "int", true, false) ⟨⟨inferInstance, hasTy_int⟩, kit_ii, kit_ib⟩
theorem cl_wholeT {W : HR} [Pre W] {P : Pr} {t : String} {b1 b2 : Bool} (k : KindOf K P t) (h1 : kitB t "int" = some b1) (h2 : kitB t "bool" = some b2) : Cl W (sp_is_whole K) [P] (Is (.bl (b1 && !b2))) NoX :=
  cl_of (W := Evl.Ex) (C := fun i : Pr × String × Bool × Bool => KindOf K i.1 i.2.1 ∧ kitB i.2.1 "int" = some i.2.2.1 ∧ kitB i.2.1 "bool" = some i.2.2.2) (f := wWhole) (P, t, b1, b2) ⟨k, h1, h2⟩
theorem cl_notWhole {W : HR} [Pre W] {P : Pr} {t : String} (k : KindOf K P t) (h : notWhole t) : Cl W (sp_is_whole K) [P] (Is (.bl false)) NoX := by
  obtain ⟨b1, b2, h1, h2, e⟩ := h
  rw [← e]
  exact cl_wholeT k h1 h2
theorem ok_is_ratio {f : Addr} {fd : FuncData} (F : Fun K "is_ratio" "is_ratio" s_is_ratio f fd) (T : Txt P w K mg CX) (D_is_whole : Df P w K mg base 1 "is_whole" ["thing"] (sp_is_whole K)) :
    FnOk P w K mg base (L2N.CX P w) 2 f fd ["thing"] (sp_is_ratio K) := by
  refine okW F sc_is_ratio (fun i => by cases i <;> rfl) (by decide) (fun cdv A outer s H E hr => ⟨_, (pss_cons (ps_if (pt_not (pt_val (pe_callB call_isi (by rfl) T.n_isinstance (by decide +kernel) (pa_cons (pv 0) (pa_cons (pe_bltn (v := .ty "tuple") (by rfl) T.n_tuple (by decide +kernel) rfl) pa_nil))))) (pss_one (ps_ret (pe_df D_is_whole (hr.mono (by decide)) (L2N.takes_of rfl rfl rfl rfl) (pa_cons (pv 0) pa_nil)))) pss_nil) (pss_one (ps_ret (pe_and (pe_cmpR (op_eqA hr.units) (pe_callB call_lenA (by rfl) T.n_len (by decide +kernel) (pa_cons (pv 0) pa_nil)) pe_int (nomark _)) (pe_and (pe_df D_is_whole (hr.mono (by decide)) (L2N.takes_of rfl rfl rfl rfl) (pa_cons (pe_ix ix_seq (pv 0) pe_int (fun _ _ => rfl)) pa_nil)) (pe_and (pe_df D_is_whole (hr.mono (by decide)) (L2N.takes_of rfl rfl rfl rfl) (pa_cons (pe_ix ix_seq (pv 0) pe_int (fun _ _ => rfl)) pa_nil)) (pe_one (pe_cmpR op_ge (pe_ix ix_seq (pv 0) pe_int (fun _ _ => rfl)) pe_int (nomark _))))))))), fun i c => ⟨Dead, ?_, fun _ _ h => (dead h).elim⟩⟩)
  cases i with
  | int i =>
    show St (RsE E NoX 1) [some (Is (.int i))] _ Dead (Is (.bl true))
    refine st_seq (M := Dead) (st_if (et_not (et_B (ev_cb (ea_cons (ev_var rfl) (ea_cons ev_c ea_nil)) (opA_isi hasTy_int (b := false) (by decide +kernel))))) (fun _ => st_ret (ev_call (ea_cons (ev_var rfl) ea_nil) cl_whole)) (fun h => by cases h)) ?_
    exact fun s H D ty => (dead ty).elim
  | tup a b =>
    have hb : 0 < b := c
    show St (RsE E NoX 1) [some (Tup K [Is (.int a), Is (.int b)])] _ Dead (Is (.bl true))
    refine st_seq (st_if (et_not (et_B (ev_cb (ea_cons (ev_var rfl) (ea_cons ev_c ea_nil)) (opA_isi hasTy_tup (b := true) (by decide +kernel))))) (fun h => by cases h) (fun _ => st_next)) ?_
    refine st_ret (Ev.to (ev_andV (ev_op (ev_cb (ea_cons (ev_var rfl) ea_nil) opA_lenT) ev_c o_eqI) fun _ => ev_andV (ev_call (ea_cons (ev_op (ev_var rfl) ev_c (o_ixT (i := 0) rfl)) ea_nil) cl_whole) fun _ => ev_andV (ev_call (ea_cons (ev_op (ev_var rfl) ev_c (o_ixT (i := 1) rfl)) ea_nil) cl_whole) fun _ => (ev_op (ev_op (ev_var rfl) ev_c (o_ixT (i := 1) rfl)) ev_c op2_I0)) ?_)
    show V.bl (true && (true && (true && decide (1 ≤ b)))) = V.bl true
    rw [decide_eq_true (show 1 ≤ b by omega)]
    rfl
  | odd o =>
    haveI := OddW.mn (K := K) (o := o) c
    have ist : ∀ {Ps : List Pr} [MnL Evl.Ex Ps] {ts : TS}, EvT (RsE E NoX 1) [some (Tup K Ps)] (tNot (tB (tCB (rIsi K) (tCons (tVar 0) (tCons (tC (.ty "tuple")) tNil))))) (!true) := fun {Ps} _ {ts} => et_not (et_B (ev_cb (ea_cons (ev_var rfl) (ea_cons ev_c ea_nil)) (opA_isi hasTy_tup (b := true) (by decide +kernel))))
    cases o with
    | other P t =>
      obtain ⟨k, nw, kt⟩ := (c : KindOf K P t ∧ notWhole t ∧ kitB t "tuple" = some false)
      haveI := k.mn
      show St (RsE E NoX 1) [some P] _ Dead (Is (.bl false))
      refine st_seq (M := Dead) (st_if (et_not (et_B (ev_cb (ea_cons (ev_var rfl) (ea_cons ev_c ea_nil)) (opA_isi k.ty kt)))) (fun _ => st_ret (ev_call (ea_cons (ev_var rfl) ea_nil) (cl_notWhole k nw))) (fun h => by cases h)) (fun s H D ty => (dead ty).elim)
    | len Ps =>
      obtain ⟨m, l⟩ := (c : MnL Evl.Ex Ps ∧ Ps.length ≠ 2)
      haveI := m
      show St (RsE E NoX 1) [some (Tup K Ps)] _ Dead (Is (.bl false))
      refine st_seq (st_if (ist (ts := tNext)) (fun h => by cases h) (fun _ => st_next)) ?_
      refine st_ret (Ev.to (ev_andV (b := false) (ev_op (ev_cb (ea_cons (ev_var rfl) ea_nil) opA_lenT) ev_c o_eqI) fun h => absurd (of_decide_eq_true h) (by omega)) ?_)
      rw [Bool.and_false]
    | fst P Q t =>
      obtain ⟨k, mq, nw⟩ := (c : KindOf K P t ∧ Mn Evl.Ex Q ∧ notWhole t)
      haveI := k.mn
      haveI := mq
      show St (RsE E NoX 1) [some (Tup K [P, Q])] _ Dead (Is (.bl false))
      refine st_seq (st_if (ist (ts := tNext)) (fun h => by cases h) (fun _ => st_next)) ?_
      exact st_ret (Ev.to (ev_andV (b := false && false) (ev_op (ev_cb (ea_cons (ev_var rfl) ea_nil) opA_lenT) ev_c o_eqI) fun _ => ev_andV (ev_call (ea_cons (ev_op (ev_var rfl) ev_c (o_ixT (i := 0) rfl)) ea_nil) (cl_notWhole k nw)) fun h => by cases h) rfl)
    | snd i Q t =>
      obtain ⟨k, nw⟩ := (c : KindOf K Q t ∧ notWhole t)
      haveI := k.mn
      show St (RsE E NoX 1) [some (Tup K [Is (.int i), Q])] _ Dead (Is (.bl false))
      refine st_seq (st_if (ist (ts := tNext)) (fun h => by cases h) (fun _ => st_next)) ?_
      exact st_ret (Ev.to (ev_andV (b := true && (false && false)) (ev_op (ev_cb (ea_cons (ev_var rfl) ea_nil) opA_lenT) ev_c o_eqI) fun _ => ev_andV (ev_call (ea_cons (ev_op (ev_var rfl) ev_c (o_ixT (i := 0) rfl)) ea_nil) cl_whole) fun _ => ev_andV (ev_call (ea_cons (ev_op (ev_var rfl) ev_c (o_ixT (i := 1) rfl)) ea_nil) (cl_notWhole k nw)) fun h => by cases h) rfl)
    | low a b =>
      have hb : b < 1 := c
      show St (RsE E NoX 1) [some (Tup K [Is (.int a), Is (.int b)])] _ Dead (Is (.bl false))
      refine st_seq (st_if (ist (ts := tNext)) (fun h => by cases h) (fun _ => st_next)) ?_
      refine st_ret (Ev.to (ev_andV (ev_op (ev_cb (ea_cons (ev_var rfl) ea_nil) opA_lenT) ev_c o_eqI) fun _ => ev_andV (ev_call (ea_cons (ev_op (ev_var rfl) ev_c (o_ixT (i := 0) rfl)) ea_nil) cl_whole) fun _ => ev_andV (ev_call (ea_cons (ev_op (ev_var rfl) ev_c (o_ixT (i := 1) rfl)) ea_nil) cl_whole) fun _ => (ev_op (ev_op (ev_var rfl) ev_c (o_ixT (i := 1) rfl)) ev_c op2_I0)) ?_)
      show V.bl (true && (true && (true && decide (1 ≤ b)))) = V.bl false
      rw [decide_eq_false (show ¬ 1 ≤ b by omega)]
      rfl
theorem cl_is_ratio_i {W : HR} [Pre W] {i : Int} : Cl W (sp_is_ratio K) [Is (.int i)] (Is (.bl true)) NoX := cl_of (W := Evl.Ex) (C := okIsR K) (f := wIsR K) (.int i) True.intro
theorem cl_is_ratio_t {W : HR} [Pre W] {a b : Int} (h : 0 < b) : Cl W (sp_is_ratio K) [Tup K [Is (.int a), Is (.int b)]] (Is (.bl true)) NoX := cl_of (W := Evl.Ex) (C := okIsR K) (f := wIsR K) (.tup a b) h
theorem cl_is_ratio_o {W : HR} [Pre W] {o : OddW} (h : o.ok K) : Cl W (sp_is_ratio K) [o.pr K] (Is (.bl false)) NoX := cl_of (W := Evl.Ex) (C := okIsR K) (f := wIsR K) (.odd o) h
theorem ok_lowest_terms {f : Addr} {fd : FuncData} (F : Fun K "lowest_terms" "lowest_terms" s_lowest_terms f fd) (T : Txt P w K mg CX) : FnOk P w K mg base (L2N.CX P w) 1 f fd ["top", "bottom"] (sp_lowest_terms K) := by
  refine okW F sc_lowest_terms (fun i => rfl) (by decide) (fun cdv A outer s H E hr => ⟨_, (pss_cons (ps_set (i := 2) sc_lowest_terms.nd rfl (by first | exact Or.inl rfl | exact Or.inr rfl) (pe_callBfun cr_gcd (by rfl) T.i_gcd (pa_cons (pv 0) (pa_cons (pv 1) pa_nil)))) (pss_cons (ps_if (pt_cmpR op_lt (pv 1) pe_int (nomark _)) (pss_one (ps_set (i := 2) sc_lowest_terms.nd rfl (by first | exact Or.inl rfl | exact Or.inr rfl) (pe_un un_neg (pv 2)))) pss_nil) (pss_one (ps_ret (pe_tup (pa_cons (pe_op op_fd (pv 0) (pv 2)) (pa_cons (pe_op op_fd (pv 1) (pv 2)) pa_nil))))))), fun i c => ⟨Dead, ?_, fun _ _ h => (dead h).elim⟩⟩)
  obtain ⟨t, b⟩ := i
  obtain ⟨hb, bb⟩ := c
  show St (RsE E NoX 3) [some (Is (.int t)), some (Is (.int b)), none] _ Dead (Told K (Rat.divInt t b))
  obtain ⟨c0, c1, c2⟩ := low_terms (t := t) hb _ rfl
  have cb : Big 8000 (if b < 0 then -((Nat.gcd t.natAbs b.natAbs : Nat) : Int) else ((Nat.gcd t.natAbs b.natAbs : Nat) : Int)) := by
    have hle : Nat.gcd t.natAbs b.natAbs ≤ b.natAbs := Nat.gcd_le_right _ (by omega)
    have : (if b < 0 then -((Nat.gcd t.natAbs b.natAbs : Nat) : Int) else ((Nat.gcd t.natAbs b.natAbs : Nat) : Int)).natAbs = Nat.gcd t.natAbs b.natAbs := by split <;> omega
    unfold Big at *
    rw [this]
    exact Nat.lt_of_le_of_lt hle bb
  refine st_seq (st_set (ev_cb (ea_cons (ev_var rfl) (ea_cons (ev_var rfl) ea_nil)) opA_gcd)) ?_
  refine st_seq (M := [some (Is (.int t)), some (Is (.int b)), some (Is (.int (if b < 0 then -((Nat.gcd t.natAbs b.natAbs : Nat) : Int) else ((Nat.gcd t.natAbs b.natAbs : Nat) : Int))))]) (st_if (et_test (ev_op (ev_var rfl) ev_c op2_I0)) (fun h => ?_) (fun h => ?_)) ?_
  · have hn : b < 0 := of_decide_eq_true h
    rw [if_pos hn]
    exact st_set (ev_un (ev_var rfl) op1_neg)
  · have hn : ¬ b < 0 := of_decide_eq_false h
    rw [if_neg hn]
    exact st_next
  · refine st_ret (Ev.sub (ev_tup (K := K) (ea_cons (ev_op (ev_var rfl) (ev_var rfl) (o_fd c0 cb (Nat.le_refl _))) (ea_cons (ev_op (ev_var rfl) (ev_var rfl) (o_fd c0 cb (Nat.le_refl _))) ea_nil))) ?_)
    rw [c1, c2]
    exact fun _ _ h => h
theorem cl_low {W : HR} [Pre W] {t b : Int} (h : b ≠ 0) (k : Big 8000 b) : Cl W (sp_lowest_terms K) [Is (.int t), Is (.int b)] (Told K (Rat.divInt t b)) NoX :=
  cl_of (C := fun i : Int × Int => i.2 ≠ 0 ∧ Big 8000 i.2) (f := fun i => ⟨[Is (.int i.1), Is (.int i.2)], Told K (Rat.divInt i.1 i.2), NoX⟩) (t, b) ⟨h, k⟩
theorem ok_ratio_of {f : Addr} {fd : FuncData} (F : Fun K "ratio_of" "ratio_of" s_ratio_of f fd) (T : Txt P w K mg CX) (D_is_ratio : Df P w K mg base 2 "is_ratio" ["thing"] (sp_is_ratio K)) (D_lowest_terms : Df P w K mg base 1 "lowest_terms" ["top", "bottom"] (sp_lowest_terms K)) :
    FnOk P w K mg base (L2N.CX P w) 3 f fd ["thing"] (sp_ratio_of K CX) := by
  refine okW F sc_ratio_of (fun i => by cases i <;> rfl) (by decide) (fun cdv A outer s H E hr => ⟨_, (pss_cons (ps_if (pt_not (pt_val (pe_df D_is_ratio (hr.mono (by decide)) (L2N.takes_of rfl rfl rfl rfl) (pa_cons (pv 0) pa_nil)))) (pss_one (L2N.ps_raise rfl (L2N.takes_of rfl rfl rfl rfl) (pmk_er0 T.c_BadRatio (hr.mono (by decide))))) pss_nil) (pss_cons (ps_if (pt_val (pe_callB call_isi (by rfl) T.n_isinstance (by decide +kernel) (pa_cons (pv 0) (pa_cons (pe_bltn (v := .ty "tuple") (by rfl) T.n_tuple (by decide +kernel) rfl) pa_nil)))) (pss_one (ps_ret (pe_df D_lowest_terms (hr.mono (by decide)) (L2N.takes_of rfl rfl rfl rfl) (pa_cons (pe_ix ix_seq (pv 0) pe_int (fun _ _ => rfl)) (pa_cons (pe_ix ix_seq (pv 0) pe_int (fun _ _ => rfl)) pa_nil))))) pss_nil) (pss_one (ps_ret (pe_tup (pa_cons (pv 0) (pa_cons pe_int pa_nil))))))), fun i c => ⟨Dead, ?_, fun _ _ h => (dead h).elim⟩⟩)
  cases i with
  | int i =>
    show St (RsE E NoX 1) [some (Is (.int i))] _ Dead (Told K (i : Rat))
    refine st_seq (st_if (et_not (et_B (ev_call (ea_cons (ev_var rfl) ea_nil) cl_is_ratio_i))) (fun h => by cases h) (fun _ => st_next)) ?_
    refine st_seq (st_if (et_B (ev_cb (ea_cons (ev_var rfl) (ea_cons ev_c ea_nil)) (opA_isi hasTy_int (b := false) (by decide +kernel)))) (fun h => by cases h) (fun _ => st_next)) ?_
    exact st_ret (ev_tup (K := K) (ea_cons (ev_var rfl) (ea_cons ev_c ea_nil)))
  | tup a b =>
    obtain ⟨hb, bb⟩ := (c : 0 < b ∧ Big 8000 b)
    show St (RsE E NoX 1) [some (Tup K [Is (.int a), Is (.int b)])] _ Dead (Told K (Rat.divInt a b))
    refine st_seq (st_if (et_not (et_B (ev_call (ea_cons (ev_var rfl) ea_nil) (cl_is_ratio_t hb)))) (fun h => by cases h) (fun _ => st_next)) ?_
    refine st_seq (M := Dead) (st_if (et_B (ev_cb (ea_cons (ev_var rfl) (ea_cons ev_c ea_nil)) (opA_isi hasTy_tup (b := true) (by decide +kernel)))) (fun _ => ?_) (fun h => by cases h)) (fun s H D ty => (dead ty).elim)
    exact st_ret (ev_call (ea_cons (ev_op (ev_var rfl) ev_c (o_ixT (i := 0) rfl)) (ea_cons (ev_op (ev_var rfl) ev_c (o_ixT (i := 1) rfl)) ea_nil)) (cl_low (by omega) bb))
  | odd o =>
    haveI := OddW.mn (K := K) (o := o) c
    show St (RsE E (RX CX) 1) [some (o.pr K)] _ Dead NoV
    refine st_seq (M := Dead) (st_if (et_not (et_B (ev_call (ea_cons (ev_var rfl) ea_nil) (cl_is_ratio_o c)))) (fun _ => ?_) (fun h => by cases h)) (fun s H D ty => (dead ty).elim)
    refine st_raise (sub_none rfl) (fun s H Q ty k => ?_)
    exact ⟨rfl, True.intro, fun _ => k _ _ _ (Evl.Ex.refl H) ty ⟨rfl, rfl⟩, fun z => absurd rfl z⟩
/-- what a def is worth upon any of two things -/
theorem cl_or {W : HR} {sp : Sp} {P1 P2 : Pr} {Ps : List Pr} {R : Pr} {X : XP} (h1 : Cl W sp (P1 :: Ps) R X) (h2 : Cl W sp (P2 :: Ps) R X) : Cl W sp ((fun v H => P1 v H ∨ P2 v H) :: Ps) R X := fun vs H a Q E q e => by
  cases vs with
  | nil => exact a.elim
  | cons v vs => exact a.1.elim (fun z => h1 (v :: vs) H ⟨z, a.2⟩ Q E q e) fun z => h2 (v :: vs) H ⟨z, a.2⟩ Q E q e
theorem cl_ratio_of {W : HR} [Pre W] {n : Nat} {q : Rat} {X : XP} (hn : n ≤ 8000) : Cl W (sp_ratio_of K CX) [IsR K n q] (Told K q) X := fun vs H al Q E k e => by
  obtain ⟨v, rfl, h⟩ := allp1 al
  rcases h with ⟨i, rfl, _, rfl⟩ | ⟨a, b, t, h0, h1, h2, rfl⟩
  · exact cl_of (W := Evl.Ex) (W' := W) (C := okRof K) (f := wRof K CX) (.int i) True.intro _ H (show AllP [Is (.int i)] [V.int i] H from ⟨rfl, True.intro⟩) Q E k fun _ _ _ _ z => z.elim
  · exact cl_of (W := Evl.Ex) (W' := W) (C := okRof K) (f := wRof K CX) (.tup a b) ⟨h0, big_mono h2 hn⟩ _ H (show AllP [Tup K [Is (.int a), Is (.int b)]] [v] H from ⟨t, True.intro⟩) Q E k fun _ _ _ _ z => z.elim
theorem cl_rofX {W : HR} [Pre W] {o : OddW} {Q : Pr} (h : o.ok K) : Cl W (sp_ratio_of K CX) [o.pr K] Q (RX CX) := fun vs H a Q' E _ e =>
  cl_of (W := Evl.Ex) (W' := W) (C := okRof K) (f := wRof K CX) (.odd o) h vs H a Q' E (fun _ _ _ z => False.elim z) e
/-- two ratios, sizes -/
structure Two where
  n : Nat
  q : Rat
  r : Rat
def Two.ok (i : Two) : Prop := i.n ≤ 3900 ∧ Sz i.n i.q ∧ Sz i.n i.r
/-- both good; the first odd; the second odd -/
inductive W2
  | good (i : Two)
  | bad1 (o : OddW) (P : Pr)
  | bad2 (n : Nat) (q : Rat) (o : OddW)
def ok2 (K : PySem.W.Frag) : W2 → Prop
  | .good i => i.ok
  | .bad1 o P => o.ok K ∧ Mn Evl.Ex P
  | .bad2 n _ o => n ≤ 8000 ∧ o.ok K
def w2 (K : PySem.W.Frag) (CX : Addrs) (f : Rat → Rat → Pr) : W2 → Way
  | .good i => ⟨[IsR K i.n i.q, IsR K i.n i.r], f i.q i.r, NoX⟩
  | .bad1 o P => ⟨[o.pr K, P], NoV, RX CX⟩
  | .bad2 n q o => ⟨[IsR K n q, o.pr K], NoV, RX CX⟩
def sp_2 (K : PySem.W.Frag) (CX : Addrs) (f : Rat → Rat → Pr) : Sp := SpW Evl.Ex (ok2 K) (w2 K CX f)
abbrev sp_plus (K : PySem.W.Frag) (CX : Addrs) : Sp := sp_2 K CX fun q r => Told K (q + r)
abbrev sp_minus (K : PySem.W.Frag) (CX : Addrs) : Sp := sp_2 K CX fun q r => Told K (q - r)
abbrev sp_times (K : PySem.W.Frag) (CX : Addrs) : Sp := sp_2 K CX fun q r => Told K (q * r)
def cmpR (q r : Rat) : Int := if q < r then -1 else if q = r then 0 else 1
abbrev sp_compare (K : PySem.W.Frag) (CX : Addrs) : Sp := sp_2 K CX fun q r => Is (.int (cmpR q r))
theorem cl_2 {W : HR} [Pre W] {f : Rat → Rat → Pr} {n : Nat} {q r : Rat} {X : XP} (hn : n ≤ 3900) (hq : Sz n q) (hr : Sz n r) : Cl W (sp_2 K CX f) [IsR K n q, IsR K n r] (f q r) X := fun vs H a Q E k _ =>
  cl_of (W := Evl.Ex) (W' := W) (C := ok2 K) (f := w2 K CX f) (.good ⟨n, q, r⟩) ⟨hn, hq, hr⟩ vs H a Q E k fun _ _ _ _ z => z.elim
theorem cl_2a {W : HR} [Pre W] {f : Rat → Rat → Pr} {o : OddW} {P Q : Pr} [m : Mn Evl.Ex P] (h : o.ok K) : Cl W (sp_2 K CX f) [o.pr K, P] Q (RX CX) := fun vs H a Q' E _ e =>
  cl_of (W := Evl.Ex) (W' := W) (C := ok2 K) (f := w2 K CX f) (.bad1 o P) ⟨h, m⟩ vs H a Q' E (fun _ _ _ z => False.elim z) e
theorem cl_2b {W : HR} [Pre W] {f : Rat → Rat → Pr} {n : Nat} {q : Rat} {o : OddW} {Q : Pr} (hn : n ≤ 8000) (h : o.ok K) : Cl W (sp_2 K CX f) [IsR K n q, o.pr K] Q (RX CX) := fun vs H a Q' E _ e =>
  cl_of (W := Evl.Ex) (W' := W) (C := ok2 K) (f := w2 K CX f) (.bad2 n q o) ⟨hn, h⟩ vs H a Q' E (fun _ _ _ z => False.elim z) e
/-- the two ways that raise -/
theorem st_bad1 {o : OddW} {P Q : Pr} {rest : TS} {N : Ctx} {E : XK} {G : Ctx} [mc : MnC Evl.Ex G] [m : Mn Evl.Ex P] (h : o.ok K) : St (RsE E (RX CX) (G.length + 4)) (some (o.pr K) :: some P :: none :: none :: G) (tSeq (tAsg (tCallS (sp_ratio_of K CX) (fun _ => E) (tCons (tVar 0) tNil)) (gTup K 2 (gCons (gName 2) (gCons (gName 3) gNil)))) rest) N Q := by
  haveI := OddW.mn h
  refine st_seq (st_un2 (P1 := NoV) (P2 := NoV) (ev_callX (Y := RsE E (RX CX) (G.length + 4)) (ea_cons (ev_var rfl) ea_nil) (cl_rofX h) (sub_none (by simp)))) (st_false (i := 2) rfl fun _ _ h => h)
theorem st_bad2 {n : Nat} {q : Rat} {o : OddW} {Q : Pr} {rest : TS} {N : Ctx} {E : XK} {G : Ctx} [mc : MnC Evl.Ex G] (hn : n ≤ 8000) (h : o.ok K) : St (RsE E (RX CX) (G.length + 6)) (some (IsR K n q) :: some (o.pr K) :: none :: none :: none :: none :: G) (tSeq (tAsg (tCallS (sp_ratio_of K CX) (fun _ => E) (tCons (tVar 0) tNil)) (gTup K 2 (gCons (gName 2) (gCons (gName 3) gNil)))) (tSeq (tAsg (tCallS (sp_ratio_of K CX) (fun _ => E) (tCons (tVar 1) tNil)) (gTup K 2 (gCons (gName 4) (gCons (gName 5) gNil)))) rest)) N Q := by
  haveI := OddW.mn h
  refine st_seq (st_un2 (ev_callX (Y := RsE E (RX CX) (G.length + 6)) (ea_cons (ev_var rfl) ea_nil) (cl_ratio_of hn) (sub_none (by simp)))) ?_
  refine st_seq (st_un2 (P1 := NoV) (P2 := NoV) (ev_callX (Y := RsE E (RX CX) (G.length + 6)) (ea_cons (ev_var rfl) ea_nil) (cl_rofX h) (sub_none (by simp)))) (st_false (i := 4) rfl fun _ _ h => h)
theorem rat_add (q r : Rat) : Rat.divInt (q.num * r.den + r.num * q.den) (q.den * r.den) = q + r := by
  rw [← Rat.divInt_add_divInt _ _ (by have := q.den_pos; omega) (by have := r.den_pos; omega)]; simp
theorem rat_sub (q r : Rat) : Rat.divInt (q.num * r.den - r.num * q.den) (q.den * r.den) = q - r := by
  rw [← Rat.divInt_sub_divInt _ _ (by have := q.den_pos; omega) (by have := r.den_pos; omega)]; simp
theorem rat_mul (q r : Rat) : Rat.divInt (q.num * r.num) (q.den * r.den) = q * r := by
  rw [← Rat.divInt_mul_divInt]; simp
theorem den_ne (q r : Rat) : ((q.den : Int) * (r.den : Int)) ≠ 0 := Int.mul_ne_zero (by have := q.den_pos; omega) (by have := r.den_pos; omega)
theorem sz_den {n : Nat} {q : Rat} (h : Sz n q) : Big n (q.den : Int) := by have := h.2; unfold Big; omega
theorem ok_plus {f : Addr} {fd : FuncData} (F : Fun K "plus" "plus" s_plus f fd) (D_ratio_of : Df P w K mg base 3 "ratio_of" ["thing"] (sp_ratio_of K CX)) (D_lowest_terms : Df P w K mg base 1 "lowest_terms" ["top", "bottom"] (sp_lowest_terms K)) :
    FnOk P w K mg base (L2N.CX P w) 4 f fd ["one", "other"] (sp_plus K CX) := by
  refine okW F sc_plus (fun i => by cases i <;> rfl) (by decide) (fun cdv A outer s H E hr => ⟨_, (pss_cons (ps_asg (pe_df D_ratio_of (hr.mono (by decide)) (L2N.takes_of rfl rfl rfl rfl) (pa_cons (pv 0) pa_nil)) (pg_tup rfl (pgs_cons (pg_name (i := 2) sc_plus.nd rfl (by first | exact Or.inl rfl | exact Or.inr rfl)) (pgs_cons (pg_name (i := 3) sc_plus.nd rfl (by first | exact Or.inl rfl | exact Or.inr rfl)) pgs_nil)))) (pss_cons (ps_asg (pe_df D_ratio_of (hr.mono (by decide)) (L2N.takes_of rfl rfl rfl rfl) (pa_cons (pv 1) pa_nil)) (pg_tup rfl (pgs_cons (pg_name (i := 4) sc_plus.nd rfl (by first | exact Or.inl rfl | exact Or.inr rfl)) (pgs_cons (pg_name (i := 5) sc_plus.nd rfl (by first | exact Or.inl rfl | exact Or.inr rfl)) pgs_nil)))) (pss_one (ps_ret (pe_df D_lowest_terms (hr.mono (by decide)) (L2N.takes_of rfl rfl rfl rfl) (pa_cons (pe_op op_addA (pe_op op_mulA (pv 2) (pv 5)) (pe_op op_mulA (pv 4) (pv 3))) (pa_cons (pe_op op_mulA (pv 3) (pv 5)) pa_nil))))))), fun i c => ⟨Dead, ?_, fun _ _ h => (dead h).elim⟩⟩)
  cases i with
  | bad1 o P =>
    obtain ⟨h, m⟩ := (c : o.ok K ∧ Mn Evl.Ex P)
    haveI := m
    exact st_bad1 (G := [none, none]) h
  | bad2 n q o => exact st_bad2 (G := []) c.1 c.2
  | good i =>
    obtain ⟨n, q, r⟩ := i
    obtain ⟨hn, hq, hr'⟩ := c
    replace hn : n ≤ 3900 := hn
    replace hq : Sz n q := hq
    replace hr' : Sz n r := hr'
    show St (RsE E NoX 6) [some (IsR K n q), some (IsR K n r), none, none, none, none] _ Dead (Told K (q + r))
    refine st_seq (st_un2 (ev_call (ea_cons (ev_var rfl) ea_nil) (cl_ratio_of (by omega)))) ?_
    refine st_seq (st_un2 (ev_call (ea_cons (ev_var rfl) ea_nil) (cl_ratio_of (by omega)))) ?_
    rw [← rat_add]
    exact st_ret (ev_call (ea_cons (ev_op (ev_op (ev_var rfl) (ev_var rfl) (o_mul hq.1 (sz_den hr') (by omega))) (ev_op (ev_var rfl) (ev_var rfl) (o_mul hr'.1 (sz_den hq) (by omega))) o_add) (ea_cons (ev_op (ev_var rfl) (ev_var rfl) (o_mul (sz_den hq) (sz_den hr') (by omega))) ea_nil)) (cl_low (den_ne q r) (big_mono (big_mul (sz_den hq) (sz_den hr')) (by omega))))
theorem ok_minus {f : Addr} {fd : FuncData} (F : Fun K "minus" "minus" s_minus f fd) (D_ratio_of : Df P w K mg base 3 "ratio_of" ["thing"] (sp_ratio_of K CX)) (D_lowest_terms : Df P w K mg base 1 "lowest_terms" ["top", "bottom"] (sp_lowest_terms K)) :
    FnOk P w K mg base (L2N.CX P w) 4 f fd ["one", "other"] (sp_minus K CX) := by
  refine okW F sc_minus (fun i => by cases i <;> rfl) (by decide) (fun cdv A outer s H E hr => ⟨_, (pss_cons (ps_asg (pe_df D_ratio_of (hr.mono (by decide)) (L2N.takes_of rfl rfl rfl rfl) (pa_cons (pv 0) pa_nil)) (pg_tup rfl (pgs_cons (pg_name (i := 2) sc_minus.nd rfl (by first | exact Or.inl rfl | exact Or.inr rfl)) (pgs_cons (pg_name (i := 3) sc_minus.nd rfl (by first | exact Or.inl rfl | exact Or.inr rfl)) pgs_nil)))) (pss_cons (ps_asg (pe_df D_ratio_of (hr.mono (by decide)) (L2N.takes_of rfl rfl rfl rfl) (pa_cons (pv 1) pa_nil)) (pg_tup rfl (pgs_cons (pg_name (i := 4) sc_minus.nd rfl (by first | exact Or.inl rfl | exact Or.inr rfl)) (pgs_cons (pg_name (i := 5) sc_minus.nd rfl (by first | exact Or.inl rfl | exact Or.inr rfl)) pgs_nil)))) (pss_one (ps_ret (pe_df D_lowest_terms (hr.mono (by decide)) (L2N.takes_of rfl rfl rfl rfl) (pa_cons (pe_op op_sub (pe_op op_mulA (pv 2) (pv 5)) (pe_op op_mulA (pv 4) (pv 3))) (pa_cons (pe_op op_mulA (pv 3) (pv 5)) pa_nil))))))), fun i c => ⟨Dead, ?_, fun _ _ h => (dead h).elim⟩⟩)
  cases i with
  | bad1 o P =>
    obtain ⟨h, m⟩ := (c : o.ok K ∧ Mn Evl.Ex P)
    haveI := m
    exact st_bad1 (G := [none, none]) h
  | bad2 n q o => exact st_bad2 (G := []) c.1 c.2
  | good i =>
    obtain ⟨n, q, r⟩ := i
    obtain ⟨hn, hq, hr'⟩ := c
    replace hn : n ≤ 3900 := hn
    replace hq : Sz n q := hq
    replace hr' : Sz n r := hr'
    show St (RsE E NoX 6) [some (IsR K n q), some (IsR K n r), none, none, none, none] _ Dead (Told K (q - r))
    refine st_seq (st_un2 (ev_call (ea_cons (ev_var rfl) ea_nil) (cl_ratio_of (by omega)))) ?_
    refine st_seq (st_un2 (ev_call (ea_cons (ev_var rfl) ea_nil) (cl_ratio_of (by omega)))) ?_
    rw [← rat_sub]
    exact st_ret (ev_call (ea_cons (ev_op (ev_op (ev_var rfl) (ev_var rfl) (o_mul hq.1 (sz_den hr') (by omega))) (ev_op (ev_var rfl) (ev_var rfl) (o_mul hr'.1 (sz_den hq) (by omega))) o_sub) (ea_cons (ev_op (ev_var rfl) (ev_var rfl) (o_mul (sz_den hq) (sz_den hr') (by omega))) ea_nil)) (cl_low (den_ne q r) (big_mono (big_mul (sz_den hq) (sz_den hr')) (by omega))))
theorem ok_times {f : Addr} {fd : FuncData} (F : Fun K "times" "times" s_times f fd) (D_ratio_of : Df P w K mg base 3 "ratio_of" ["thing"] (sp_ratio_of K CX)) (D_lowest_terms : Df P w K mg base 1 "lowest_terms" ["top", "bottom"] (sp_lowest_terms K)) :
    FnOk P w K mg base (L2N.CX P w) 4 f fd ["one", "other"] (sp_times K CX) := by
  refine okW F sc_times (fun i => by cases i <;> rfl) (by decide) (fun cdv A outer s H E hr => ⟨_, (pss_cons (ps_asg (pe_df D_ratio_of (hr.mono (by decide)) (L2N.takes_of rfl rfl rfl rfl) (pa_cons (pv 0) pa_nil)) (pg_tup rfl (pgs_cons (pg_name (i := 2) sc_times.nd rfl (by first | exact Or.inl rfl | exact Or.inr rfl)) (pgs_cons (pg_name (i := 3) sc_times.nd rfl (by first | exact Or.inl rfl | exact Or.inr rfl)) pgs_nil)))) (pss_cons (ps_asg (pe_df D_ratio_of (hr.mono (by decide)) (L2N.takes_of rfl rfl rfl rfl) (pa_cons (pv 1) pa_nil)) (pg_tup rfl (pgs_cons (pg_name (i := 4) sc_times.nd rfl (by first | exact Or.inl rfl | exact Or.inr rfl)) (pgs_cons (pg_name (i := 5) sc_times.nd rfl (by first | exact Or.inl rfl | exact Or.inr rfl)) pgs_nil)))) (pss_one (ps_ret (pe_df D_lowest_terms (hr.mono (by decide)) (L2N.takes_of rfl rfl rfl rfl) (pa_cons (pe_op op_mulA (pv 2) (pv 4)) (pa_cons (pe_op op_mulA (pv 3) (pv 5)) pa_nil))))))), fun i c => ⟨Dead, ?_, fun _ _ h => (dead h).elim⟩⟩)
  cases i with
  | bad1 o P =>
    obtain ⟨h, m⟩ := (c : o.ok K ∧ Mn Evl.Ex P)
    haveI := m
    exact st_bad1 (G := [none, none]) h
  | bad2 n q o => exact st_bad2 (G := []) c.1 c.2
  | good i =>
    obtain ⟨n, q, r⟩ := i
    obtain ⟨hn, hq, hr'⟩ := c
    replace hn : n ≤ 3900 := hn
    replace hq : Sz n q := hq
    replace hr' : Sz n r := hr'
    show St (RsE E NoX 6) [some (IsR K n q), some (IsR K n r), none, none, none, none] _ Dead (Told K (q * r))
    refine st_seq (st_un2 (ev_call (ea_cons (ev_var rfl) ea_nil) (cl_ratio_of (by omega)))) ?_
    refine st_seq (st_un2 (ev_call (ea_cons (ev_var rfl) ea_nil) (cl_ratio_of (by omega)))) ?_
    rw [← rat_mul]
    exact st_ret (ev_call (ea_cons (ev_op (ev_var rfl) (ev_var rfl) (o_mul hq.1 hr'.1 (by omega))) (ea_cons (ev_op (ev_var rfl) (ev_var rfl) (o_mul (sz_den hq) (sz_den hr') (by omega))) ea_nil)) (cl_low (den_ne q r) (big_mono (big_mul (sz_den hq) (sz_den hr')) (by omega))))
inductive OverW
  | good (i : Two)
  | zero (i : Two)
  | bad1 (o : OddW) (P : Pr)
  | bad2 (n : Nat) (q : Rat) (o : OddW)
def wOver (K : PySem.W.Frag) (CX : Addrs) : OverW → Way
  | .good i => ⟨[IsR K i.n i.q, IsR K i.n i.r], Told K (i.q / i.r), NoX⟩
  | .zero i => ⟨[IsR K i.n i.q, IsR K i.n i.r], NoV, RX CX⟩
  | .bad1 o P => ⟨[o.pr K, P], NoV, RX CX⟩
  | .bad2 n q o => ⟨[IsR K n q, o.pr K], NoV, RX CX⟩
def okOver (K : PySem.W.Frag) : OverW → Prop
  | .good i => i.ok ∧ i.r ≠ 0
  | .zero i => i.ok ∧ i.r = 0
  | .bad1 o P => o.ok K ∧ Mn Evl.Ex P
  | .bad2 n _ o => n ≤ 8000 ∧ o.ok K
def sp_over (K : PySem.W.Frag) (CX : Addrs) : Sp := SpW Evl.Ex (okOver K) (wOver K CX)
theorem cl_over {W : HR} [Pre W] {n : Nat} {q r : Rat} {X : XP} (hn : n ≤ 3900) (hq : Sz n q) (hr : Sz n r) (h0 : r ≠ 0) : Cl W (sp_over K CX) [IsR K n q, IsR K n r] (Told K (q / r)) X := fun vs H a Q E k _ =>
  cl_of (W := Evl.Ex) (W' := W) (C := okOver K) (f := wOver K CX) (.good ⟨n, q, r⟩) ⟨⟨hn, hq, hr⟩, h0⟩ vs H a Q E k fun _ _ _ _ z => z.elim
theorem cl_overX {W : HR} [Pre W] {n : Nat} {q r : Rat} {Q : Pr} (hn : n ≤ 3900) (hq : Sz n q) (hr : Sz n r) (h0 : r = 0) : Cl W (sp_over K CX) [IsR K n q, IsR K n r] Q (RX CX) := fun vs H a Q' E _ e =>
  cl_of (W := Evl.Ex) (W' := W) (C := okOver K) (f := wOver K CX) (.zero ⟨n, q, r⟩) ⟨⟨hn, hq, hr⟩, h0⟩ vs H a Q' E (fun _ _ _ z => False.elim z) e
theorem cl_over1 {W : HR} [Pre W] {o : OddW} {P Q : Pr} [m : Mn Evl.Ex P] (h : o.ok K) : Cl W (sp_over K CX) [o.pr K, P] Q (RX CX) := fun vs H a Q' E _ e =>
  cl_of (W := Evl.Ex) (W' := W) (C := okOver K) (f := wOver K CX) (.bad1 o P) ⟨h, m⟩ vs H a Q' E (fun _ _ _ z => False.elim z) e
theorem cl_over2 {W : HR} [Pre W] {n : Nat} {q : Rat} {o : OddW} {Q : Pr} (hn : n ≤ 8000) (h : o.ok K) : Cl W (sp_over K CX) [IsR K n q, o.pr K] Q (RX CX) := fun vs H a Q' E _ e =>
  cl_of (W := Evl.Ex) (W' := W) (C := okOver K) (f := wOver K CX) (.bad2 n q o) ⟨hn, h⟩ vs H a Q' E (fun _ _ _ z => False.elim z) e
theorem rat_div {q r : Rat} (h : r ≠ 0) : Rat.divInt (q.num * r.den) (q.den * r.num) = q / r := by
  have h1 : (r.num : Int) ≠ 0 := fun z => h (Rat.num_eq_zero.mp z)
  have e : q / r = Rat.divInt q.num q.den * (Rat.divInt r.num r.den)⁻¹ := by rw [Rat.div_def]; simp
  rw [e, Rat.inv_divInt, Rat.divInt_mul_divInt]
theorem ok_over {f : Addr} {fd : FuncData} (F : Fun K "over" "over" s_over f fd) (T : Txt P w K mg CX) (D_ratio_of : Df P w K mg base 3 "ratio_of" ["thing"] (sp_ratio_of K CX)) (D_lowest_terms : Df P w K mg base 1 "lowest_terms" ["top", "bottom"] (sp_lowest_terms K)) :
    FnOk P w K mg base (L2N.CX P w) 4 f fd ["one", "other"] (sp_over K CX) := by
  refine okW F sc_over (fun i => by cases i <;> rfl) (by decide) (fun cdv A outer s H E hr => ⟨_, (pss_cons (ps_asg (pe_df D_ratio_of (hr.mono (by decide)) (L2N.takes_of rfl rfl rfl rfl) (pa_cons (pv 0) pa_nil)) (pg_tup rfl (pgs_cons (pg_name (i := 2) sc_over.nd rfl (by first | exact Or.inl rfl | exact Or.inr rfl)) (pgs_cons (pg_name (i := 3) sc_over.nd rfl (by first | exact Or.inl rfl | exact Or.inr rfl)) pgs_nil)))) (pss_cons (ps_asg (pe_df D_ratio_of (hr.mono (by decide)) (L2N.takes_of rfl rfl rfl rfl) (pa_cons (pv 1) pa_nil)) (pg_tup rfl (pgs_cons (pg_name (i := 4) sc_over.nd rfl (by first | exact Or.inl rfl | exact Or.inr rfl)) (pgs_cons (pg_name (i := 5) sc_over.nd rfl (by first | exact Or.inl rfl | exact Or.inr rfl)) pgs_nil)))) (pss_cons (ps_if (pt_cmpR (op_eqA hr.units) (pv 4) pe_int (nomark _)) (pss_one (L2N.ps_raise rfl (L2N.takes_of rfl rfl rfl rfl) (pmk_er0 T.c_BadRatio (hr.mono (by decide))))) pss_nil) (pss_one (ps_ret (pe_df D_lowest_terms (hr.mono (by decide)) (L2N.takes_of rfl rfl rfl rfl) (pa_cons (pe_op op_mulA (pv 2) (pv 5)) (pa_cons (pe_op op_mulA (pv 3) (pv 4)) pa_nil)))))))), fun i c => ⟨Dead, ?_, fun _ _ h => (dead h).elim⟩⟩)
  cases i with
  | bad1 o P =>
    obtain ⟨h, m⟩ := (c : o.ok K ∧ Mn Evl.Ex P)
    haveI := m
    exact st_bad1 (G := [none, none]) h
  | bad2 n q o => exact st_bad2 (G := []) c.1 c.2
  | good i =>
    obtain ⟨n, q, r⟩ := i
    obtain ⟨⟨hn, hq, hr'⟩, h0⟩ := c
    replace hn : n ≤ 3900 := hn
    replace hq : Sz n q := hq
    replace hr' : Sz n r := hr'
    replace h0 : r ≠ 0 := h0
    have h1 : r.num ≠ 0 := fun z => h0 (Rat.num_eq_zero.mp z)
    show St (RsE E NoX 6) [some (IsR K n q), some (IsR K n r), none, none, none, none] _ Dead (Told K (q / r))
    refine st_seq (st_un2 (ev_call (ea_cons (ev_var rfl) ea_nil) (cl_ratio_of (by omega)))) ?_
    refine st_seq (st_un2 (ev_call (ea_cons (ev_var rfl) ea_nil) (cl_ratio_of (by omega)))) ?_
    refine st_seq (st_if (et_test (ev_op (ev_var rfl) ev_c o_eqI)) (fun h => absurd (of_decide_eq_true h) h1) (fun _ => st_next)) ?_
    rw [← rat_div h0]
    exact st_ret (ev_call (ea_cons (ev_op (ev_var rfl) (ev_var rfl) (o_mul hq.1 (sz_den hr') (by omega))) (ea_cons (ev_op (ev_var rfl) (ev_var rfl) (o_mul (sz_den hq) hr'.1 (by omega))) ea_nil)) (cl_low (Int.mul_ne_zero (by have := q.den_pos; omega) h1) (big_mono (big_mul (sz_den hq) hr'.1) (by omega))))
  | zero i =>
    obtain ⟨n, q, r⟩ := i
    obtain ⟨⟨hn, hq, hr'⟩, h0⟩ := c
    replace hn : n ≤ 3900 := hn
    replace h0 : r = 0 := h0
    subst h0
    show St (RsE E (RX CX) 6) [some (IsR K n q), some (IsR K n 0), none, none, none, none] _ Dead NoV
    refine st_seq (st_un2 (ev_call (ea_cons (ev_var rfl) ea_nil) (cl_ratio_of (by omega)))) ?_
    refine st_seq (st_un2 (ev_call (ea_cons (ev_var rfl) ea_nil) (cl_ratio_of (by omega)))) ?_
    refine st_seq (M := Dead) (st_if (et_test (ev_op (ev_var rfl) ev_c o_eqI)) (fun h => ?_) (fun h => by simp at h)) (fun s H D ty => (dead ty).elim)
    refine st_raise (sub_none rfl) (fun s H Q ty k => ?_)
    exact ⟨rfl, True.intro, fun _ => k _ _ _ (Evl.Ex.refl H) ty ⟨rfl, rfl⟩, fun z => absurd rfl z⟩
theorem cmp_num (q r : Rat) : (q.num * r.den - r.num * q.den = 0 ↔ q = r) ∧ (q.num * r.den - r.num * q.den < 0 ↔ q < r) := by
  have e1 : q < r ↔ q.num * r.den < r.num * q.den := Rat.lt_iff q r
  have e2 : r < q ↔ r.num * q.den < q.num * r.den := Rat.lt_iff r q
  have e3 : q = r ↔ ¬ q < r ∧ ¬ r < q := by
    constructor
    · rintro rfl; exact ⟨Rat.lt_irrefl, Rat.lt_irrefl⟩
    · rintro ⟨a, b⟩; exact Rat.le_antisymm (Rat.not_lt.mp b) (Rat.not_lt.mp a)
  rw [e3, e1, e2]
  constructor <;> omega
theorem ok_compare {f : Addr} {fd : FuncData} (F : Fun K "compare" "compare" s_compare f fd) (D_ratio_of : Df P w K mg base 3 "ratio_of" ["thing"] (sp_ratio_of K CX)) :
    FnOk P w K mg base (L2N.CX P w) 4 f fd ["one", "other"] (sp_compare K CX) := by
  refine okW F sc_compare (fun i => by cases i <;> rfl) (by decide) (fun cdv A outer s H E hr => ⟨_, (pss_cons (ps_asg (pe_df D_ratio_of (hr.mono (by decide)) (L2N.takes_of rfl rfl rfl rfl) (pa_cons (pv 0) pa_nil)) (pg_tup rfl (pgs_cons (pg_name (i := 2) sc_compare.nd rfl (by first | exact Or.inl rfl | exact Or.inr rfl)) (pgs_cons (pg_name (i := 3) sc_compare.nd rfl (by first | exact Or.inl rfl | exact Or.inr rfl)) pgs_nil)))) (pss_cons (ps_asg (pe_df D_ratio_of (hr.mono (by decide)) (L2N.takes_of rfl rfl rfl rfl) (pa_cons (pv 1) pa_nil)) (pg_tup rfl (pgs_cons (pg_name (i := 4) sc_compare.nd rfl (by first | exact Or.inl rfl | exact Or.inr rfl)) (pgs_cons (pg_name (i := 5) sc_compare.nd rfl (by first | exact Or.inl rfl | exact Or.inr rfl)) pgs_nil)))) (pss_cons (ps_set (i := 6) sc_compare.nd rfl (by first | exact Or.inl rfl | exact Or.inr rfl) (pe_op op_sub (pe_op op_mulA (pv 2) (pv 5)) (pe_op op_mulA (pv 4) (pv 3)))) (pss_cons (ps_if (pt_cmpR (op_eqA hr.units) (pv 6) pe_int (nomark _)) (pss_one (ps_ret pe_int)) pss_nil) (pss_one (ps_ret (pe_ifExp (pt_cmpR op_lt (pv 6) pe_int (nomark _)) (pe_un un_neg pe_int) pe_int))))))), fun i c => ⟨Dead, ?_, fun _ _ h => (dead h).elim⟩⟩)
  cases i with
  | bad1 o P =>
    obtain ⟨h, m⟩ := (c : o.ok K ∧ Mn Evl.Ex P)
    haveI := m
    exact st_bad1 (G := [none, none, none]) h
  | bad2 n q o => exact st_bad2 (G := [none]) c.1 c.2
  | good i =>
    obtain ⟨n, q, r⟩ := i
    obtain ⟨hn, hq, hr'⟩ := c
    replace hn : n ≤ 3900 := hn
    replace hq : Sz n q := hq
    replace hr' : Sz n r := hr'
    obtain ⟨c1, c2⟩ := cmp_num q r
    show St (RsE E NoX 7) [some (IsR K n q), some (IsR K n r), none, none, none, none, none] _ Dead (Is (.int (cmpR q r)))
    refine st_seq (st_un2 (ev_call (ea_cons (ev_var rfl) ea_nil) (cl_ratio_of (by omega)))) ?_
    refine st_seq (st_un2 (ev_call (ea_cons (ev_var rfl) ea_nil) (cl_ratio_of (by omega)))) ?_
    refine st_seq (st_set (ev_op (ev_op (ev_var rfl) (ev_var rfl) (o_mul hq.1 (sz_den hr') (by omega))) (ev_op (ev_var rfl) (ev_var rfl) (o_mul hr'.1 (sz_den hq) (by omega))) o_sub)) ?_
    by_cases h0 : q = r
    · refine st_seq (M := Dead) (st_if (et_test (ev_op (ev_var rfl) ev_c o_eqI)) (fun _ => st_ret (Ev.to (z := .int 0) ev_c ?_)) (fun h => absurd (c1.mpr h0) (of_decide_eq_false h))) (fun s H D ty => (dead ty).elim)
      subst h0
      show V.int 0 = V.int (cmpR q q)
      unfold cmpR
      rw [if_neg Rat.lt_irrefl, if_pos rfl]
    · refine st_seq (st_if (et_test (ev_op (ev_var rfl) ev_c o_eqI)) (fun h => absurd (c1.mp (of_decide_eq_true h)) h0) (fun _ => st_next)) ?_
      refine st_ret (ev_if (et_test (ev_op (ev_var rfl) ev_c op2_I0)) (fun h => Ev.to (z := .int (-1)) (ev_un ev_c op1_neg) ?_) (fun h => Ev.to (z := .int 1) ev_c ?_))
      · have := c2.mp (of_decide_eq_true h)
        unfold cmpR; rw [if_pos this]
      · have : ¬ q < r := fun z => of_decide_eq_false h (c2.mpr z)
        unfold cmpR; rw [if_neg this, if_neg h0]
end
/-! ### the law's draws -/
abbrev s__law_mix : Stmt := top 18
theorem sc__law_mix : FnScope ["_law_number", "_law_turn", "_law_once", "_law_twice"] ["_law_number", "_law_turn"] (defScope s__law_mix) := ⟨rfl, rfl, rfl, by decide +kernel, rfl, by decide +kernel, by decide +kernel⟩
abbrev s__law_hand : Stmt := top 19
theorem sc__law_hand : FnScope ["_law_script", "_law_total", "_law_k", "_law_cell"] ["_law_script"] (defScope s__law_hand) := ⟨rfl, rfl, rfl, by decide +kernel, rfl, by decide +kernel, by decide +kernel⟩
abbrev s__law_draw : Stmt := top 20
theorem sc__law_draw : FnScope ["_law_hand_here", "_law_many", "_law_cell", "_law_rest"] ["_law_hand_here", "_law_many"] (defScope s__law_draw) := ⟨rfl, rfl, rfl, by decide +kernel, rfl, by decide +kernel, by decide +kernel⟩
def sp_mix : Sp := SpW Evl.Ex (fun i : Int × Int => (0 ≤ i.1 ∧ i.1 < 2147483647) ∧ 0 ≤ i.2 ∧ i.2 ≤ 100) fun i => ⟨[Is (.int i.1), Is (.int i.2)], Rng 0 2147483648, NoX⟩
/-- a draw below many -/
def sp_draw : Sp := SpW WL (fun m : Int => 0 < m ∧ Big 300 m) fun m => ⟨[Hand, Is (.int m)], Rng 0 m, NoX⟩
def sp_hand (K : PySem.W.Frag) : Sp := SpW Evl.Ex (fun ns : List Int => ns.length ≤ 63) fun ns => ⟨[Lst K (ns.map fun n => Is (.int n))], Hand, NoX⟩
section
variable {P : Program} {w : World} {K : PySem.W.Frag} {mg : Str → Option Value} {base : Heap} {CX : Addrs}
theorem ok_mix {f : Addr} {fd : FuncData} (F : Fun K "_law_mix" "_law_mix" s__law_mix f fd) (T : Txt P w K mg CX) : FnOk P w K mg base (L2N.CX P w) 1 f fd ["_law_number", "_law_turn"] sp_mix := by
  refine okW F sc__law_mix (fun i => rfl) (by decide) (fun cdv A outer s H E hr => ⟨_, (pss_cons (ps_set (i := 2) sc__law_mix.nd rfl (by first | exact Or.inl rfl | exact Or.inr rfl) (pe_op op_mod (pe_callTy call_int1 (by rfl) T.n_int (by decide +kernel) (pa_cons (pe_op op_addA (pe_op op_addA (pe_op op_mulA (pv 0) pe_int) (pe_op op_mulA (pv 1) pe_int)) pe_int) pa_nil)) pe_int)) (pss_cons (ps_set (i := 3) sc__law_mix.nd rfl (by first | exact Or.inl rfl | exact Or.inr rfl) (pe_op op_mod (pe_callTy call_int1 (by rfl) T.n_int (by decide +kernel) (pa_cons (pe_op op_addA (pe_op op_addA (pe_op op_mulA (pv 2) (pv 2)) (pe_op op_mulA (pe_op op_fd (pv 2) pe_int) pe_int)) (pe_op op_mulA (pv 1) pe_int)) pa_nil)) pe_int)) (pss_one (ps_ret (pe_op op_fd (pe_op op_mod (pe_callTy call_int1 (by rfl) T.n_int (by decide +kernel) (pa_cons (pe_op op_addA (pe_op op_fd (pe_op op_mulA (pv 3) (pv 3)) pe_int) (pv 2)) pa_nil)) pe_int) pe_int))))), fun i c => ⟨Dead, ?_, fun _ _ h => (dead h).elim⟩⟩)
  obtain ⟨x, y⟩ := i
  obtain ⟨hx, h0, h1⟩ := (c : (0 ≤ x ∧ x < 2147483647) ∧ 0 ≤ y ∧ y ≤ 100)
  show St (RsE E NoX 4) [some (Is (.int x)), some (Is (.int y)), none, none] _ Dead (Rng 0 2147483648)
  have bx : Big 31 x := big_rng hx (by decide)
  have by' : Big 7 y := big_rng ⟨h0, show y < 101 by omega⟩ (by decide)
  have bc : ∀ c : Int, -(2 ^ 31) < c ∧ c < 2 ^ 31 → Big 31 c := fun c h => big_of h.1 h.2
  refine st_seq (st_set (ev_some (C := fun i : Int => 0 ≤ i ∧ i < 2147483647) (P := fun i => Is (.int i)) _ (mod_rng (by decide)) (ev_op (ev_cb (ea_cons (ev_op (ev_op (ev_op (ev_var rfl) ev_c (o_mul bx (bc 48271 (by decide)) (by decide))) (ev_op (ev_var rfl) ev_c (o_mul by' (bc 16807 (by decide)) (by decide))) o_add) ev_c o_add) ea_nil) opA_int) ev_c (o_mod (by decide))))) ?_
  refine st_open 2 rfl fun o ho => ?_
  have bo : Big 31 o := big_rng ho (by decide)
  refine st_seq (st_set (ev_some (C := fun i : Int => 0 ≤ i ∧ i < 2147483399) (P := fun i => Is (.int i)) _ (mod_rng (by decide)) (ev_op (ev_cb (ea_cons (ev_op (ev_op (ev_op (ev_var rfl) (ev_var rfl) (o_mul bo bo (by decide))) (ev_op (ev_op (ev_var rfl) ev_c (o_fd (n := 31) (by decide) (bc 127 (by decide)) (by decide))) ev_c (o_mul (n := 31) ?_ (bc 40692 (by decide)) (by decide))) o_add) (ev_op (ev_var rfl) ev_c (o_mul by' (bc 69621 (by decide)) (by decide))) o_add) ea_nil) opA_int) ev_c (o_mod (by decide))))) ?_
  · rw [Int.fdiv_eq_ediv_of_nonneg _ (by decide)]
    exact big_rng (m := 2147483648) ⟨Int.ediv_nonneg ho.1 (by decide), by omega⟩ (by decide)
  refine st_open 3 rfl fun q hq => ?_
  have bq : Big 31 q := big_rng hq (by decide)
  refine st_ret (Ev.sub (ev_op (ev_op (ev_cb (ea_cons (ev_op (ev_op (ev_op (ev_var rfl) (ev_var rfl) (o_mul bq bq (by decide))) ev_c (o_fd (n := 31) (by decide) (bc 1009 (by decide)) (by decide))) (ev_var rfl) o_add) ea_nil) opA_int) ev_c (o_mod (by decide))) ev_c (o_fd (n := 31) (by decide) (bc 16 (by decide)) (by decide))) ?_)
  rintro v H e
  have hm := mod_rng (i := (q * q).fdiv 1009 + o) (m := 2147483563) (by decide)
  refine ⟨_, ⟨?_, ?_⟩, e⟩
  · rw [Int.fdiv_eq_ediv_of_nonneg _ (by decide)]; exact Int.ediv_nonneg hm.1 (by decide)
  · rw [Int.fdiv_eq_ediv_of_nonneg _ (by decide)]; omega
theorem cl_mix {W : HR} [Pre W] {x y : Int} (hx : 0 ≤ x ∧ x < 2147483647) (h0 : 0 ≤ y) (h1 : y ≤ 100) : Cl W sp_mix [Is (.int x), Is (.int y)] (Rng 0 2147483648) NoX :=
  cl_of (W := Evl.Ex) (C := fun i : Int × Int => (0 ≤ i.1 ∧ i.1 < 2147483647) ∧ 0 ≤ i.2 ∧ i.2 ≤ 100) (f := fun i => ⟨[Is (.int i.1), Is (.int i.2)], Rng 0 2147483648, NoX⟩) (x, y) ⟨hx, h0, h1⟩
theorem ok_hand {f : Addr} {fd : FuncData} (F : Fun K "_law_hand" "_law_hand" s__law_hand f fd) (T : Txt P w K mg CX) : FnOk P w K mg base (L2N.CX P w) 1 f fd ["_law_script"] (sp_hand K) := by
  refine okW F sc__law_hand (fun i => rfl) (by decide) (fun cdv A outer s H E hr => ⟨_, (pss_cons (ps_set (i := 1) sc__law_hand.nd rfl (by first | exact Or.inl rfl | exact Or.inr rfl) pe_int) (pss_cons (ps_for (passes_of rfl) rfl (pi_enum (by rfl) T.n_enumerate (pa_cons (pv 0) pa_nil)) (pg_tup rfl (pgs_cons (pg_name (i := 2) sc__law_hand.nd rfl (by first | exact Or.inl rfl | exact Or.inr rfl)) (pgs_cons (pg_name (i := 3) sc__law_hand.nd rfl (by first | exact Or.inl rfl | exact Or.inr rfl)) pgs_nil))) (pss_one (ps_set (i := 1) sc__law_hand.nd rfl (by first | exact Or.inl rfl | exact Or.inr rfl) (pe_op op_mod (pe_callTy call_int1 (by rfl) T.n_int (by decide +kernel) (pa_cons (pe_op op_addA (pe_op op_mulA (pv 1) pe_int) (pe_op op_mulA (pe_callTy call_int1 (by rfl) T.n_int (by decide +kernel) (pa_cons (pv 3) pa_nil)) (pe_op op_addA (pv 2) pe_int))) pa_nil)) pe_int)))) (pss_one (ps_ret (pe_lst (pa_cons (pe_lc (own := [("_law_cell", 3)]) (g := gName 3) (by rfl) sc__law_hand.nd (pi_list (pv 0)) (blkOk_by (own := [("_law_cell", 3)]) (N := ["_law_script", "_law_total", "_law_k", "_law_cell"]) (sc := defScope s__law_hand) (by decide +kernel)) (fun _ _ _ _ _ => pg_name (i := 3) sc__law_hand.nd rfl (by first | exact Or.inl rfl | exact Or.inr rfl)) (fun _ _ _ _ _ => pts_nil) (fun _ _ _ _ _ => (pe_callB call_abs (by rfl) T.n_abs (by decide +kernel) (pa_cons (pe_callTy call_int1 (by rfl) T.n_int (by decide +kernel) (pa_cons (pv 3) pa_nil)) pa_nil)))) (pa_cons pe_int (pa_cons pe_int (pa_cons (pv 1) pa_nil))))))))), fun ns c => ⟨Dead, ?_, fun _ _ h => (dead h).elim⟩⟩)
  have hl : ns.length ≤ 63 := c
  show St (RsE E NoX 4) [some (Lst K (ns.map fun n => Is (.int n))), none, none, none] _ Dead Hand
  have en : (ns.map fun n => Is (.int n)).length = ns.length := List.length_map _
  have nthI : ∀ i, i < ns.length → nth (ns.map fun n => Is (.int n)) i = Is (.int (ns.getD i 0)) := fun i hi => by
    unfold nth; simp [hi]
  haveI mn1 : ∀ i, Mn Evl.Ex (nth (ns.map fun n => Is (.int n)) i) := fun i => by
    by_cases hi : i < ns.length
    · rw [nthI i hi]; exact mn_is
    · have : nth (ns.map fun n => Is (.int n)) i = fun _ _ => False := by unfold nth; simp [hi]
      rw [this]; exact ⟨fun _ _ _ _ h => h⟩
  refine st_seq (st_set ev_c) ?_
  refine st_seq (M := [some (Lst K (ns.map fun n => Is (.int n))), some (Rng 0 2147483629), none, none]) ?_ ?_
  · refine st_for2 (Y := RsE E NoX 4) (ei_enum (Y := RsE E NoX 4) (ea_cons (Y := RsE E NoX 4) (ev_var rfl) ea_nil)) (fun _ => [some (Lst K (ns.map fun n => Is (.int n))), some (Rng 0 2147483629), none, none]) (sub_keep (sub_imp (fun v H e => ⟨0, by decide, e⟩) sub_refl)) (fun i hi => ?_)
    rw [en] at hi
    rw [nthI i hi]
    refine st_open 1 rfl fun z hz => ?_
    refine st_post (N' := [some (Lst K (ns.map fun n => Is (.int n))), some (Rng 0 2147483629), some (Is (.int (i : Int))), some (Is (.int (ns.getD i 0)))]) (st_set (ev_some (C := fun i : Int => 0 ≤ i ∧ i < 2147483629) (P := fun i => Is (.int i)) _ (mod_rng (by decide)) (ev_op (ev_cb (ea_cons (ev_op (ev_op (ev_var rfl) ev_c (o_mulS (by decide))) (ev_op (ev_cb (ea_cons (ev_var rfl) ea_nil) opA_int) (ev_op (ev_var rfl) ev_c o_add) (o_mulS (by omega))) o_add) ea_nil) opA_int) ev_c (o_mod (by decide))))) (sub_keep (sub_keep (sub_drop (sub_drop sub_nil)))) (fun _ _ h => h)
  · refine st_ret (ev_hand (Y := RsE E NoX 4) rfl (xs := (List.range ns.length).map fun i => ((ns.getD i 0).natAbs : Int)) (lo := 0) (hi := 2147483629) (fun x hx => ?_) ?_ (Int.le_refl _) (Int.le_refl _) (ea_cons ?_ (ea_cons ev_c (ea_cons ev_c (ea_cons (ev_var rfl) ea_nil)))))
    · obtain ⟨i, _, rfl⟩ := List.mem_map.mp hx
      exact Int.natCast_nonneg _
    · rw [List.length_map, List.length_range]; exact hl
    · have key : ((List.range ns.length).map fun i => ((ns.getD i 0).natAbs : Int)).map (fun x => Is (.int x)) = each (ns.map fun n => Is (.int n)).length (fun i => Is (.int ((ns.getD i 0).natAbs : Int))) := by
        unfold each
        rw [en, List.map_map]
        rfl
      rw [key]
      refine ev_lc (ei_list (ev_var rfl)) (by rw [en]; omega) (fun i => mn_is) (fun i => mn_is) (fun i hi => ?_) (fun i acc H hi ha => ?_)
      · rw [en] at hi
        rw [nthI i hi]
        exact ev_cb (ea_cons (ev_cb (ea_cons (ev_var rfl) ea_nil) opA_int) ea_nil) opA_abs
      · refine .inl ?_
        match acc, i, ha with
        | [], _, _ => rfl
        | .int _ :: _, _, _ => rfl
        | .non :: _, _, _ => rfl
        | .bl _ :: _, _, _ => rfl
        | .str _ :: _, _, _ => rfl
        | .byt _ :: _, _, _ => rfl
        | .flt _ :: _, _, _ => rfl
        | .ty _ :: _, _, _ => rfl
        | .ref a :: r, 0, ha => exact ha.elim
        | .ref a :: r, i + 1, ha =>
          obtain ⟨v, e1, e2⟩ := allp_get (i := 0) (P := Is (.int ((ns.getD 0 0).natAbs : Int))) ha (by unfold each; simp)
          cases e1
          cases e2
theorem cl_hand {ns : List Int} (h : ns.length ≤ 63) : Cl WL (sp_hand K) [Lst K (ns.map fun n => Is (.int n))] Hand NoX :=
  cl_of (W := Evl.Ex) (C := fun ns : List Int => ns.length ≤ 63) (f := fun ns => ⟨[Lst K (ns.map fun n => Is (.int n))], Hand, NoX⟩) ns h
theorem ok_draw {f : Addr} {fd : FuncData} (F : Fun K "_law_draw" "_law_draw" s__law_draw f fd) (T : Txt P w K mg CX) (D__law_mix : Df P w K mg base 1 "_law_mix" ["_law_number", "_law_turn"] sp_mix) : FnOk P w K mg base (L2N.CX P w) 2 f fd ["_law_hand_here", "_law_many"] sp_draw := by
  refine okW F sc__law_draw (fun i => rfl) (by decide) (fun cdv A outer s H E hr => ⟨_, (pss_cons (ps_if (PW.pt (pw_and (pt_cmpR (op_eqA hr.units) (pe_ix ix_seq (pv 0) pe_int (fun _ _ => rfl)) pe_int (nomark _)) (pw_and1 (pt_cmpR op_lt (pe_ix ix_seq (pv 0) pe_int (fun _ _ => rfl)) (pe_callB call_lenA (by rfl) T.n_len (by decide +kernel) (pa_cons (pe_ix ix_seq (pv 0) pe_int (fun _ _ => rfl)) pa_nil)) (nomark _))))) (pss_cons (ps_set (i := 2) sc__law_draw.nd rfl (by first | exact Or.inl rfl | exact Or.inr rfl) (pe_ix ix_seq (pe_ix ix_seq (pv 0) pe_int (fun _ _ => rfl)) (pe_ix ix_seq (pv 0) pe_int (fun _ _ => rfl)) (fun _ _ => rfl))) (pss_cons (ps_asg (pe_op op_addA (pe_ix ix_seq (pv 0) pe_int (fun _ _ => rfl)) pe_int) (pg_sub (pv 0) pe_int set_list)) (pss_cons (ps_if (pt_cmpR op_lt (pv 2) (pe_op op_pow pe_int pe_int) (nomark _)) (pss_one (ps_ret (pe_op op_mod (pe_callTy call_int1 (by rfl) T.n_int (by decide +kernel) (pa_cons (pe_df D__law_mix (hr.mono (by decide)) (L2N.takes_of rfl rfl rfl rfl) (pa_cons (pe_op op_mod (pe_callTy call_int1 (by rfl) T.n_int (by decide +kernel) (pa_cons (pv 2) pa_nil)) pe_int) (pa_cons (pe_ix ix_seq (pv 0) pe_int (fun _ _ => rfl)) pa_nil))) pa_nil)) (pv 1)))) pss_nil) (pss_one (ps_asg (pv 2) (pg_sub (pv 0) pe_int set_list)))))) pss_nil) (pss_cons (ps_if (pt_cmpR op_gt (pe_ix ix_seq (pv 0) pe_int (fun _ _ => rfl)) pe_int (nomark _)) (pss_cons (ps_set (i := 3) sc__law_draw.nd rfl (by first | exact Or.inl rfl | exact Or.inr rfl) (pe_ix ix_seq (pv 0) pe_int (fun _ _ => rfl))) (pss_cons (ps_asg (pe_op op_fd (pv 3) (pv 1)) (pg_sub (pv 0) pe_int set_list)) (pss_one (ps_ret (pe_op op_mod (pe_callTy call_int1 (by rfl) T.n_int (by decide +kernel) (pa_cons (pv 3) pa_nil)) (pv 1)))))) pss_nil) (pss_cons (ps_asg (pe_op op_mod (pe_callTy call_int1 (by rfl) T.n_int (by decide +kernel) (pa_cons (pe_op op_addA (pe_ix ix_seq (pv 0) pe_int (fun _ _ => rfl)) pe_int) pa_nil)) pe_int) (pg_sub (pv 0) pe_int set_list)) (pss_one (ps_ret (pe_op op_mod (pe_callTy call_int1 (by rfl) T.n_int (by decide +kernel) (pa_cons (pe_df D__law_mix (hr.mono (by decide)) (L2N.takes_of rfl rfl rfl rfl) (pa_cons (pe_ix ix_seq (pv 0) pe_int (fun _ _ => rfl)) (pa_cons (pe_ix ix_seq (pv 0) pe_int (fun _ _ => rfl)) pa_nil))) pa_nil)) (pv 1))))))), fun m c => ⟨Dead, ?_, fun _ _ h => (dead h).elim⟩⟩)
  obtain ⟨m0, mb⟩ := (c : 0 < m ∧ Big 300 m)
  show St (RsW WL E NoX 4) [some Hand, some (Is (.int m)), none, none] _ Dead (Rng 0 m)
  refine st_seq (M := [some Hand, some (Is (.int m)), none, none]) (st_openHand fun p c xs a r t a0 al xl pos r0 t0 tl => ?_) (st_openHand fun p c xs a r t a0 al xl pos r0 t0 tl => ?_)
  · refine st_ifE (et_and (et_test (ev_op (ev_op (ev_var rfl) ev_c o_hv2) ev_c o_eqI)) (fun _ => et_test (ev_op (ev_op (ev_var rfl) ev_c o_hv1) (ev_cb (ea_cons (ev_op (ev_var rfl) ev_c o_hv0) ea_nil) o_cellsLen) op2_I0))) (fun h => ?_) (fun h => ?_)
    · have h2 := of_decide_eq_true ((Bool.and_eq_true _ _).mp h).2
      have h1 := of_decide_eq_true ((Bool.and_eq_true _ _).mp h).1
      refine st_seq (st_setE (ev_op (ev_op (ev_var rfl) ev_c o_hv0) (ev_op (ev_var rfl) ev_c o_hv1) (o_cell a0 h2))) ?_
      refine st_open 2 rfl fun z hz => ?_
      have z0 := pos z hz
      refine st_seq (st_hset (a' := a + 1) (r' := r) (t' := t) rfl (ev_op (ev_op (ev_var rfl) ev_c o_hv1) ev_c o_add) (j := 1) rfl rfl (by decide) (by omega) (by omega) r0 t0 tl) ?_
      refine st_seq (st_ifE (et_test (ev_op (ev_var rfl) (ev_op ev_c ev_c (o_pow ⟨by decide, by decide, by decide⟩)) op2_I0)) (fun _ => ?_) (fun _ => st_next)) ?_
      · refine st_ret (Ev.up (ev_op (ev_cb (ea_cons (ev_call (ea_cons (ev_op (ev_cb (ea_cons (ev_var rfl) ea_nil) opA_int) ev_c (o_mod (by decide))) (ea_cons (ev_op (ev_var rfl) ev_c o_hv1) ea_nil)) (cl_mix (mod_rng (by decide)) (by omega) (by omega))) ea_nil) opA_intR) (ev_var rfl) (o_modR m0)))
      · refine st_post (st_hset (a' := a + 1) (r' := z) (t' := t) rfl (ev_var rfl) (j := 2) rfl rfl (by decide) (by omega) (by omega) z0 t0 tl) (sub_imp hv_hand (sub_keep (sub_drop (sub_drop sub_nil)))) (fun _ _ h => h)
    · exact st_post st_next (sub_imp hv_hand (sub_keep (sub_keep (sub_keep sub_nil)))) (fun _ _ h => h)
  · refine st_seq (M := [some (HV p c xs a r t), some (Is (.int m)), none, none]) (st_ifE (et_test (ev_op (ev_op (ev_var rfl) ev_c o_hv2) ev_c op2_I0)) (fun h => ?_) (fun _ => st_next)) ?_
    · refine st_seq (st_setE (ev_op (ev_var rfl) ev_c o_hv2)) ?_
      refine st_seq (st_hset (a' := a) (r' := r.fdiv m) (t' := t) rfl (ev_op (ev_var rfl) (ev_var rfl) (o_fd (n := 300) (by omega) mb (by decide))) (j := 2) rfl rfl (by decide) a0 al (by rw [Int.fdiv_eq_ediv_of_nonneg _ (by omega)]; exact Int.ediv_nonneg r0 (by omega)) t0 tl) ?_
      exact st_ret (Ev.up (ev_some _ (mod_rng m0) (ev_op (ev_cb (ea_cons (ev_var rfl) ea_nil) opA_int) (ev_var rfl) (o_mod m0))))
    · have ht := mod_rng (i := t + 1) (m := 2147483629) (by decide)
      refine st_seq (st_hset (a' := a) (r' := r) (t' := (t + 1) % 2147483629) rfl (ev_op (ev_cb (ea_cons (ev_op (ev_op (ev_var rfl) ev_c o_hv3) ev_c o_add) ea_nil) opA_int) ev_c (o_mod (by decide))) (j := 3) rfl rfl (by decide) a0 al r0 ht.1 ht.2) ?_
      exact st_ret (Ev.up (ev_op (ev_cb (ea_cons (ev_call (ea_cons (ev_op (ev_var rfl) ev_c o_hv3) (ea_cons (ev_op (ev_var rfl) ev_c o_hv1) ea_nil)) (cl_mix ⟨ht.1, by omega⟩ a0 (by omega))) ea_nil) opA_intR) (ev_var rfl) (o_modR m0)))
theorem cl_draw {m : Int} (h : 0 < m) (k : Big 300 m) : Cl WL sp_draw [Hand, Is (.int m)] (Rng 0 m) NoX :=
  cl_of (W := WL) (C := fun m : Int => 0 < m ∧ Big 300 m) (f := fun m => ⟨[Hand, Is (.int m)], Rng 0 m, NoX⟩) m ⟨h, k⟩
end
end U

namespace U
open PySem PySem.Spec PyProof.Rows L2
/-! ### lowest rows -/
abbrev s_common_bottom : Stmt := top 14
theorem sc_common_bottom : FnScope ["told", "bottom", "_", "part"] ["told"] (defScope s_common_bottom) := ⟨rfl, rfl, rfl, by decide +kernel, rfl, by decide +kernel, by decide +kernel⟩
abbrev s_without_common : Stmt := top 15
theorem sc_without_common : FnScope ["wholes", "common", "whole"] ["wholes"] (defScope s_without_common) := ⟨rfl, rfl, rfl, by decide +kernel, rfl, by decide +kernel, by decide +kernel⟩
abbrev s_lowest_row : Stmt := top 16
theorem sc_lowest_row : FnScope ["numbers", "told", "number", "bottom", "top", "part"] ["numbers"] (defScope s_lowest_row) := ⟨rfl, rfl, rfl, by decide +kernel, rfl, by decide +kernel, by decide +kernel⟩
def lcmN (d : Nat → Nat) : Nat → Nat
  | 0 => 1
  | i + 1 => (lcmN d i).lcm (d i)
def gN (z : Nat → Int) : Nat → Nat
  | 0 => 0
  | i + 1 => Nat.gcd (gN z i) (z i).natAbs
theorem lcmN_pos {d : Nat → Nat} (h : ∀ i, 0 < d i) : ∀ n, 0 < lcmN d n
  | 0 => Nat.one_pos
  | n + 1 => Nat.lcm_pos (lcmN_pos h n) (h n)
theorem lcmN_dvd {d : Nat → Nat} : ∀ {n i : Nat}, i < n → d i ∣ lcmN d n
  | n + 1, i, h => by
    by_cases e : i = n
    · subst e; exact Nat.dvd_lcm_right _ _
    · exact Nat.dvd_trans (lcmN_dvd (n := n) (by omega)) (Nat.dvd_lcm_left _ _)
theorem lcmN_bits {d : Nat → Nat} {m : Nat} (p : ∀ i, 0 < d i) (h : ∀ i, d i < 2 ^ m) : ∀ n, lcmN d n < 2 ^ (m * n + 1)
  | 0 => by show 1 < 2 ^ (m * 0 + 1); rw [Nat.mul_zero]; decide
  | n + 1 => by
    have a := lcmN_bits p h n
    have b : (lcmN d n).lcm (d n) ≤ lcmN d n * d n := Nat.le_of_dvd (Nat.mul_pos (lcmN_pos p n) (p n)) (Nat.lcm_dvd (Nat.dvd_mul_right _ _) (Nat.dvd_mul_left _ _))
    have c : lcmN d n * d n < 2 ^ (m * n + 1) * 2 ^ m := Nat.mul_lt_mul'' a (h n)
    rw [← Nat.pow_add] at c
    have e : m * n + 1 + m = m * (n + 1) + 1 := by rw [Nat.mul_succ]; omega
    rw [e] at c
    exact Nat.lt_of_le_of_lt b c
theorem gN_bits {z : Nat → Int} {m : Nat} (h : ∀ i, Big m (z i)) : ∀ n, gN z n < 2 ^ m
  | 0 => Nat.pow_pos (by decide)
  | n + 1 => by
    by_cases e : gN z n = 0
    · show Nat.gcd (gN z n) (z n).natAbs < 2 ^ m
      rw [e, Nat.gcd_zero_left]
      exact h n
    · exact Nat.lt_of_le_of_lt (Nat.gcd_le_left _ (by omega)) (gN_bits h n)
theorem gN_one {z : Nat → Int} {i : Nat} (h : gN z i = 1) : ∀ k, gN z (i + k) = 1
  | 0 => h
  | k + 1 => by show Nat.gcd (gN z (i + k)) _ = 1; rw [gN_one h k, Nat.gcd_one_left]
theorem gN_dvd {z : Nat → Int} : ∀ {n i : Nat}, i < n → (gN z n : Int) ∣ z i
  | n + 1, i, h => by
    by_cases e : i = n
    · subst e; exact Int.ofNat_dvd_left.mpr (Nat.gcd_dvd_right _ _)
    · exact Int.dvd_trans (Int.natCast_dvd_natCast.mpr (Nat.gcd_dvd_left _ _)) (gN_dvd (n := n) (by omega))
theorem each_congr {n : Nat} {P Q : Nat → Pr} (h : ∀ i, i < n → P i = Q i) : each n P = each n Q := by
  unfold each
  exact List.map_congr_left fun i hi => h i (List.mem_range.mp hi)
instance mnl_each {W : HR} {n : Nat} {P : Nat → Pr} [m : ∀ i, Mn W (P i)] : MnL W (each n P) := ⟨fun vs H H' w h => allp_mn (fun Q hQ => by obtain ⟨k, _, rfl⟩ := each_mem hQ; exact m k) w h⟩
instance mn_nth_each {W : HR} {n i : Nat} {P : Nat → Pr} [m : ∀ i, Mn W (P i)] : Mn W (nth (each n P) i) := by
  by_cases h : i < n
  · rw [nth_each h]; exact m i
  · have : nth (each n P) i = fun _ _ => False := by unfold nth each; simp [h]
    rw [this]; exact ⟨fun _ _ _ _ h => h⟩
theorem opA_lcmN {W : HR} [w : Pre W] {x y : Nat} (hx : x < 2 ^ 7000) (hy : y < 2 ^ 7000) (hl : x.lcm y < 2 ^ 7000) : OpA W rLcm [Is (.int (x : Int)), Is (.int (y : Int))] (Is (.int ((x.lcm y : Nat) : Int))) := fun vs H a Q q => by
  match vs, a with
  | [u, v], ⟨e1, e2, _⟩ =>
    cases e1
    cases e2
    have lg : ∀ n : Nat, n < 2 ^ 7000 → n.log2 < 13000 := fun n h => by
      by_cases h0 : n = 0
      · subst h0; decide
      · have := (Nat.log2_lt h0).mpr h; omega
    have e : ((x : Int).natAbs.lcm (y : Int).natAbs) = x.lcm y := by rw [Int.natAbs_natCast, Int.natAbs_natCast]
    have p : 1 < 2 ^ 7000 := Nat.one_lt_two_pow (by decide)
    refine ⟨_, _, rfl, lg _ (by rw [Int.natAbs_natCast]; omega), lg _ (by rw [Int.natAbs_natCast, Int.natAbs_natCast]; omega), ?_, ?_⟩
    · rw [e]; exact Nat.lt_of_lt_of_le (lg _ hl) (by decide)
    · rw [e]; exact q _ H (w.refl H) rfl
/-- a row of ratios -/
structure Row where
  n : Nat
  m : Nat
  q : Nat → Rat
structure Row.ok (r : Row) : Prop where
  n : r.n ≤ 12
  s : ∀ i, Sz r.m (r.q i)
  b : r.m ≤ 500
def Row.bot (r : Row) : Nat := lcmN (fun i => (r.q i).den) r.n
def Row.whole (r : Row) (i : Nat) : Int := (r.q i).num * ((r.bot : Int) / ((r.q i).den : Int))
def lows (z : Nat → Int) (n i : Nat) : Int := z i / (gN z n : Int)
def sp_bot (K : PySem.W.Frag) : Sp := SpW Evl.Ex Row.ok fun r => ⟨[Lst K (each r.n fun i => Told K (r.q i))], Is (.int (r.bot : Int)), NoX⟩
structure Ints where
  n : Nat
  z : Nat → Int
structure Ints.ok (r : Ints) : Prop where
  n : r.n ≤ 12
  b : ∀ i, Big 8000 (r.z i)
def sp_wc (K : PySem.W.Frag) : Sp := SpW Evl.Ex Ints.ok fun r => ⟨[Lst K (each r.n fun i => Is (.int (r.z i)))], Tup K (each r.n fun i => Is (.int (lows r.z r.n i))), NoX⟩
section
variable {P : Program} {w : World} {K : PySem.W.Frag} {mg : Str → Option Value} {base : Heap} {CX : Addrs}
theorem ok_bot {f : Addr} {fd : FuncData} (F : Fun K "common_bottom" "common_bottom" s_common_bottom f fd) (T : Txt P w K mg CX) : FnOk P w K mg base (L2N.CX P w) 1 f fd ["told"] (sp_bot K) := by
  refine okW F sc_common_bottom (fun i => rfl) (by decide) (fun cdv A outer s H E hr => ⟨_, (pss_cons (ps_set (i := 1) sc_common_bottom.nd rfl (by first | exact Or.inl rfl | exact Or.inr rfl) pe_int) (pss_cons (ps_for (passes_of rfl) rfl (pi_list (pv 0)) (pg_tup rfl (pgs_cons (pg_name (i := 2) sc_common_bottom.nd rfl (by first | exact Or.inl rfl | exact Or.inr rfl)) (pgs_cons (pg_name (i := 3) sc_common_bottom.nd rfl (by first | exact Or.inl rfl | exact Or.inr rfl)) pgs_nil))) (pss_one (ps_set (i := 1) sc_common_bottom.nd rfl (by first | exact Or.inl rfl | exact Or.inr rfl) (pe_callBfun cr_lcm (by rfl) T.i_lcm (pa_cons (pv 1) (pa_cons (pv 3) pa_nil)))))) (pss_one (ps_ret (pv 1))))), fun i c => ⟨Dead, ?_, fun _ _ h => (dead h).elim⟩⟩)
  obtain ⟨n, m, q⟩ := i
  obtain ⟨hn, hs, hm⟩ := c
  replace hn : n ≤ 12 := hn
  replace hs : ∀ i, Sz m (q i) := hs
  replace hm : m ≤ 500 := hm
  show St (RsE E NoX 4) [some (Lst K (each n fun i => Told K (q i))), none, none, none] _ Dead (Is (.int (lcmN (fun i => (q i).den) n : Int)))
  have bits := lcmN_bits (d := fun i => (q i).den) (fun i => (q i).den_pos) (fun i => (hs i).2)
  have le : ∀ i, i ≤ n → lcmN (fun i => (q i).den) i < 2 ^ 7000 := fun i hi => Nat.lt_of_lt_of_le (bits i) (Nat.pow_le_pow_right (by decide) (by
    have : m * i ≤ 500 * 12 := Nat.mul_le_mul hm (by omega)
    omega))
  refine st_seq (st_set ev_c) ?_
  refine st_seq (M := [some (Lst K (each n fun i => Told K (q i))), some (Is (.int (lcmN (fun i => (q i).den) n : Int))), none, none]) ?_ (st_ret (ev_var rfl))
  have fe := st_for2 (K := K) (Y := RsE E NoX 4) (G := [some (Lst K (each n fun i => Told K (q i))), some (Is (.int 1)), none, none]) (j := 2) (l := 3) (R := Is (.int (lcmN (fun i => (q i).den) n : Int))) (tu := tAsg (tCB rLcm (tCons (tVar 1) (tCons (tVar 3) tNil))) (gName 1)) (I1 := fun i => Is (.int (q i).num)) (I2 := fun i => Is (.int (q i).den)) (ei_sub (ei_list (Y := RsE E NoX 4) (K := K) (Ps := each n fun i => Told K (q i)) (ev_var (i := 0) rfl)) (fun i hi v H h => by rw [each_len] at hi; rw [nth_each hi] at h; exact h)) (fun i => [some (Lst K (each n fun i => Told K (q i))), some (Is (.int (lcmN (fun i => (q i).den) i : Int))), none, none]) sub_refl (fun i hi => by
    rw [each_len] at hi
    exact st_post (st_set (ev_cb (ea_cons (ev_var rfl) (ea_cons (ev_var rfl) ea_nil)) (opA_lcmN (le i (by omega)) (Nat.lt_of_lt_of_le (hs i).2 (Nat.pow_le_pow_right (by decide) (by omega))) (le (i + 1) hi)))) (sub_keep (sub_keep (sub_drop (sub_drop sub_nil)))) (fun _ _ h => h))
  rw [each_len] at fe
  exact fe
theorem cl_bot {W : HR} [Pre W] {r : Row} (h : r.ok) : Cl W (sp_bot K) [Lst K (each r.n fun i => Told K (r.q i))] (Is (.int (r.bot : Int))) NoX :=
  cl_of (W := Evl.Ex) (C := Row.ok) (f := fun r => ⟨[Lst K (each r.n fun i => Told K (r.q i))], Is (.int (r.bot : Int)), NoX⟩) r h
theorem lows_one {z : Nat → Int} {n : Nat} (h : gN z n = 1) (i : Nat) : lows z n i = z i := by
  unfold lows; rw [h]; exact Int.ediv_one _
theorem lows_zero {z : Nat → Int} {n i : Nat} (h : gN z n = 0) (hi : i < n) : lows z n i = z i := by
  have d := gN_dvd (z := z) hi
  rw [h] at d
  have e : z i = 0 := Int.zero_dvd.mp d
  unfold lows; rw [h, e]; rfl
theorem ok_wc {f : Addr} {fd : FuncData} (F : Fun K "without_common" "without_common" s_without_common f fd) (T : Txt P w K mg CX) : FnOk P w K mg base (L2N.CX P w) 1 f fd ["wholes"] (sp_wc K) := by
  refine okW F sc_without_common (fun i => rfl) (by decide) (fun cdv A outer s H E hr => ⟨_, (pss_cons (ps_set (i := 1) sc_without_common.nd rfl (by first | exact Or.inl rfl | exact Or.inr rfl) pe_int) (pss_cons (ps_for (passes_of rfl) rfl (pi_list (pv 0)) (pg_name (i := 2) sc_without_common.nd rfl (by first | exact Or.inl rfl | exact Or.inr rfl)) (pss_cons (ps_set (i := 1) sc_without_common.nd rfl (by first | exact Or.inl rfl | exact Or.inr rfl) (pe_callBfun cr_gcd (by rfl) T.i_gcd (pa_cons (pv 1) (pa_cons (pv 2) pa_nil)))) (pss_one (ps_if (pt_cmpR (op_eqA hr.units) (pv 1) pe_int (nomark _)) (pss_one (ps_ret (pe_callTy call_tupA (by rfl) T.n_tuple (by decide +kernel) (pa_cons (pv 0) pa_nil)))) pss_nil)))) (pss_cons (ps_if (pt_cmpR (op_eqA hr.units) (pv 1) pe_int (nomark _)) (pss_one (ps_ret (pe_callTy call_tupA (by rfl) T.n_tuple (by decide +kernel) (pa_cons (pv 0) pa_nil)))) pss_nil) (pss_one (ps_ret (pe_callTy call_tupA (by rfl) T.n_tuple (by decide +kernel) (pa_cons (pe_lc (own := [("whole", 2)]) (g := gName 2) (by rfl) sc_without_common.nd (pi_list (pv 0)) (blkOk_by (own := [("whole", 2)]) (N := ["wholes", "common", "whole"]) (sc := defScope s_without_common) (by decide +kernel)) (fun _ _ _ _ _ => pg_name (i := 2) sc_without_common.nd rfl (by first | exact Or.inl rfl | exact Or.inr rfl)) (fun _ _ _ _ _ => pts_nil) (fun _ _ _ _ _ => (pe_op op_fd (pv 2) (pv 1)))) pa_nil))))))), fun i c => ⟨Dead, ?_, fun _ _ h => (dead h).elim⟩⟩)
  obtain ⟨n, z⟩ := i
  obtain ⟨hn, hb⟩ := c
  replace hn : n ≤ 12 := hn
  replace hb : ∀ i, Big 8000 (z i) := hb
  show St (RsE E NoX 3) [some (Lst K (each n fun i => Is (.int (z i)))), none, none] _ Dead (Tup K (each n fun i => Is (.int (lows z n i))))
  have same : (∀ i, i < n → lows z n i = z i) → (each n fun i => Is (.int (lows z n i))) = each n fun i => Is (.int (z i)) := fun h => each_congr fun i hi => by rw [h i hi]
  refine st_seq (st_set ev_c) ?_
  refine st_seq (M := [some (Lst K (each n fun i => Is (.int (z i)))), some (Is (.int (gN z n : Int))), none]) ?_ ?_
  · have fe := st_for (Y := RsE E NoX 3) (G := [some (Lst K (each n fun i => Is (.int (z i)))), some (Is (.int 0)), none]) (j := 2) (R := Tup K (each n fun i => Is (.int (lows z n i)))) (tu := tSeq (tAsg (tCB rGcd (tCons (tVar 1) (tCons (tVar 2) tNil))) (gName 1)) (tIfS (tTest (tOp (rEqA K) (tVar 1) (tC (.int 1)))) (tRet (tCB (rTupOf K) (tCons (tVar 0) tNil))) tNext)) (ei_sub (It' := fun i => Is (.int (z i))) (ei_list (Y := RsE E NoX 3) (K := K) (Ps := each n fun i => Is (.int (z i))) (ev_var (i := 0) rfl)) (fun i hi v H h => by rw [each_len] at hi; rw [nth_each hi] at h; exact h)) (fun i => [some (Lst K (each n fun i => Is (.int (z i)))), some (Is (.int (gN z i : Int))), none]) sub_refl (fun i hi => by
      rw [each_len] at hi
      refine st_seq (st_set (P := Is (.int (gN z (i + 1) : Int))) (Ev.to (ev_cb (ea_cons (ev_var rfl) (ea_cons (ev_var rfl) ea_nil)) opA_gcd) (by rw [Int.natAbs_natCast]; rfl))) ?_
      refine st_post (N' := [some (Lst K (each n fun i => Is (.int (z i)))), some (Is (.int (gN z (i + 1) : Int))), some (Is (.int (z i)))]) (st_if (et_test (ev_op (ev_var rfl) ev_c o_eqI)) (fun h => ?_) (fun _ => st_next)) (sub_keep (sub_keep (sub_drop sub_nil))) (fun _ _ h => h)
      have h1 : gN z (i + 1) = 1 := by have := of_decide_eq_true h; omega
      have h2 : gN z n = 1 := by have := gN_one h1 (n - (i + 1)); rwa [show i + 1 + (n - (i + 1)) = n by omega] at this
      rw [same fun i _ => lows_one h2 i]
      exact st_ret (ev_cb (ea_cons (ev_var rfl) ea_nil) opA_tupL))
    rw [each_len] at fe
    exact fe
  by_cases h0 : gN z n = 0
  · refine st_seq (M := Dead) (st_if (et_test (ev_op (ev_var rfl) ev_c o_eqI)) (fun _ => ?_) (fun h => absurd (show (gN z n : Int) = 0 by omega) (of_decide_eq_false h))) (fun s H D ty => (dead ty).elim)
    rw [same fun i hi => lows_zero h0 hi]
    exact st_ret (ev_cb (ea_cons (ev_var rfl) ea_nil) opA_tupL)
  refine st_seq (st_if (et_test (ev_op (ev_var rfl) ev_c o_eqI)) (fun h => absurd (show gN z n = 0 by have := of_decide_eq_true h; omega) h0) (fun _ => st_next)) ?_
  refine st_ret (ev_cb (ea_cons (P1 := Lst K (each n fun i => Is (.int (lows z n i)))) (Ev.sub (P := New (each n fun i => Is (.int (lows z n i)))) ?_ fun v H h => own_lst (new_own (fun vs H a => safe_each (fun _ => plain_is) a) h)) ea_nil) opA_tupL)
  have le := ev_lc (Y := RsE E NoX 3) (G := [some (Lst K (each n fun i => Is (.int (z i)))), some (Is (.int (gN z n : Int))), none]) (te := tOp rFd (tVar 2) (tVar 1)) (j := 2) (P := fun i => Is (.int (lows z n i))) (ei_sub (It' := fun i => Is (.int (z i))) (ei_list (Y := RsE E NoX 3) (K := K) (Ps := each n fun i => Is (.int (z i))) (ev_var (i := 0) rfl)) (fun i hi v H h => by rw [each_len] at hi; rw [nth_each hi] at h; exact h)) (by rw [each_len]; omega) (fun i => mn_is) (fun i => mn_is) (fun i hi => by
    refine Ev.to (ev_op (ev_var rfl) (ev_var rfl) (o_fd (n := 8000) (by omega) (by unfold Big; rw [Int.natAbs_natCast]; exact gN_bits hb n) (Nat.le_refl _))) ?_
    rw [Int.fdiv_eq_ediv_of_nonneg _ (by omega)]
    rfl) (fun i acc H hi a => safe_each (fun _ => plain_is) a)
  rw [each_len] at le
  exact le
theorem cl_wc {W : HR} [Pre W] {n : Nat} {z : Nat → Int} (h : n ≤ 12) (b : ∀ i, Big 8000 (z i)) : Cl W (sp_wc K) [Lst K (each n fun i => Is (.int (z i)))] (Tup K (each n fun i => Is (.int (lows z n i)))) NoX :=
  cl_of (W := Evl.Ex) (C := Ints.ok) (f := fun r => ⟨[Lst K (each r.n fun i => Is (.int (r.z i)))], Tup K (each r.n fun i => Is (.int (lows r.z r.n i))), NoX⟩) ⟨n, z⟩ ⟨h, b⟩
theorem quot_big {r : Row} (h : r.ok) (i : Nat) : Big 7000 ((r.bot : Int) / ((r.q i).den : Int)) := by
  have b1 := lcmN_bits (d := fun i => (r.q i).den) (m := r.m) (fun i => (r.q i).den_pos) (fun i => (h.s i).2) r.n
  unfold Big
  rw [← Int.natCast_ediv, Int.natAbs_natCast]
  refine Nat.lt_of_le_of_lt (Nat.div_le_self _ _) (Nat.lt_of_lt_of_le b1 (Nat.pow_le_pow_right (by decide) ?_))
  have : r.m * r.n ≤ 500 * 12 := Nat.mul_le_mul h.b h.n
  omega
theorem whole_big {r : Row} (h : r.ok) (i : Nat) : Big 8000 (r.whole i) := big_mono (big_mul (h.s i).1 (quot_big h i)) (by have := h.b; omega)
/-- rows as they are passed -/
inductive LowW
  | lst (r : Row)
  | tup (r : Row)
  | bad (n m k : Nat) (q : Nat → Rat) (o : OddW)
/-- ratios, but a thing at k that is none -/
def badP (K : PySem.W.Frag) (m k : Nat) (q : Nat → Rat) (o : OddW) (i : Nat) : Pr := if i = k then o.pr K else IsR K m (q i)
def wLow (K : PySem.W.Frag) (CX : Addrs) : LowW → Way
  | .lst r => ⟨[Lst K (each r.n fun i => IsR K r.m (r.q i))], Tup K (each r.n fun i => Is (.int (lows r.whole r.n i))), NoX⟩
  | .tup r => ⟨[Tup K (each r.n fun i => IsR K r.m (r.q i))], Tup K (each r.n fun i => Is (.int (lows r.whole r.n i))), NoX⟩
  | .bad n m k q o => ⟨[LstN K (each n (badP K m k q o))], NoV, RX CX⟩
def okLow (K : PySem.W.Frag) : LowW → Prop
  | .lst r => r.ok
  | .tup r => r.ok
  | .bad n m k _ o => k < n ∧ n ≤ 50 ∧ m ≤ 8000 ∧ o.ok K
def sp_low (K : PySem.W.Frag) (CX : Addrs) : Sp := SpW Evl.Ex (okLow K) (wLow K CX)
theorem ok_low_row {f : Addr} {fd : FuncData} (F : Fun K "lowest_row" "lowest_row" s_lowest_row f fd) (T : Txt P w K mg CX) (D_ratio_of : Df P w K mg base 3 "ratio_of" ["thing"] (sp_ratio_of K CX)) (D_common_bottom : Df P w K mg base 1 "common_bottom" ["told"] (sp_bot K)) (D_without_common : Df P w K mg base 1 "without_common" ["wholes"] (sp_wc K)) :
    FnOk P w K mg base (L2N.CX P w) 4 f fd ["numbers"] (sp_low K CX) := by
  refine okI F sc_lowest_row (fun i => by cases i <;> rfl) (by decide) (fun cdv A outer s H E hr i c => ?_)
  have rest : ∀ {X : XP} {P0 : Pr} [Mn Evl.Ex P0] (r : Row), r.ok → St (RsE E X 6) [some P0, some (Lst K (each r.n fun i => Told K (r.q i))), none, none, none, none] (tSeq (tAsg (tCallS (sp_bot K) (fun _ => E) (tCons (tVar 1) tNil)) (gName 3)) (tRet (tCallS (sp_wc K) (fun _ => E) (tCons (tLc (iList K (tVar 1)) (gTup K 2 (gCons (gName 4) (gCons (gName 5) gNil))) tYes (tOp rMulA (tVar 4) (tOp rFd (tVar 3) (tVar 5))) [4, 5]) tNil)))) Dead (Tup K (each r.n fun i => Is (.int (lows r.whole r.n i)))) := fun {X P0} _ r h => by
    refine st_seq (st_set (ev_call (ea_cons (ev_var rfl) ea_nil) (cl_bot h))) ?_
    refine st_ret (ev_call (ea_cons (P1 := Lst K (each r.n fun i => Is (.int (r.whole i)))) (Ev.sub (P := New (each r.n fun i => Is (.int (r.whole i)))) ?_ fun v H h => own_lst (new_own (fun vs H a => safe_each (fun _ => plain_is) a) h)) ea_nil) (cl_wc h.n (whole_big h)))
    have le := ev_lc2 (K := K) (Y := RsE E X 6) (G := [some P0, some (Lst K (each r.n fun i => Told K (r.q i))), none, some (Is (.int (r.bot : Int))), none, none]) (te := tOp rMulA (tVar 4) (tOp rFd (tVar 3) (tVar 5))) (j := 4) (l := 5) (I1 := fun i => Is (.int (r.q i).num)) (I2 := fun i => Is (.int ((r.q i).den : Int))) (P := fun i => Is (.int (r.whole i))) (ei_sub (ei_list (Y := RsE E X 6) (K := K) (Ps := each r.n fun i => Told K (r.q i)) (ev_var (i := 1) rfl)) (fun i hi v H h => by rw [each_len] at hi; rw [nth_each hi] at h; exact h)) (by rw [each_len]; have := h.n; omega) (fun i => mn_is) (fun i => mn_is) (by decide) (fun i hi => by
      have dp := (r.q i).den_pos
      refine Ev.to (ev_op (ev_var rfl) (ev_op (ev_var rfl) (ev_var rfl) (o_fd (n := 8000) (by omega) (big_mono (sz_den (h.s i)) (by have := h.b; omega)) (Nat.le_refl _))) (o_mul (n := 500) (m := 7000) (big_mono (h.s i).1 h.b) ?_ (by decide))) ?_
      · rw [Int.fdiv_eq_ediv_of_nonneg _ (by omega)]
        exact quot_big h i
      · rw [Int.fdiv_eq_ediv_of_nonneg _ (by omega)]
        rfl) (fun i acc H hi a => safe_each (fun _ => plain_is) a)
    rw [each_len] at le
    exact le
  cases i with
  | lst r =>
    have h : r.ok := c
    refine ⟨_, (pss_cons (ps_setLc (i := 1) (own := [("number", 2)]) (g := gName 2) (by rfl) sc_lowest_row.nd rfl rfl (sw_true rfl rfl rfl (by decide +kernel)) (pi_list (pv 0)) (blkOk_by (own := [("number", 2)]) (N := ["numbers", "told", "number", "bottom", "top", "part"]) (sc := defScope s_lowest_row) (by decide +kernel)) (fun _ _ _ _ _ => pg_name (i := 2) sc_lowest_row.nd rfl (by first | exact Or.inl rfl | exact Or.inr rfl)) (fun _ _ _ _ _ => pts_nil) (fun _ _ _ _ _ => (pe_df D_ratio_of (hr.mono (by decide)) takesF (pa_cons (pv 2) pa_nil)))) (pss_cons (ps_set (i := 3) sc_lowest_row.nd rfl (by first | exact Or.inl rfl | exact Or.inr rfl) (pe_df D_common_bottom (hr.mono (by decide)) (L2N.takes_of rfl rfl rfl rfl) (pa_cons (pv 1) pa_nil))) (pss_one (ps_ret (pe_df D_without_common (hr.mono (by decide)) (L2N.takes_of rfl rfl rfl rfl) (pa_cons (pe_lc (own := [("top", 4), ("part", 5)]) (g := (gTup _ 2 (gCons (gName 4) (gCons (gName 5) gNil)))) (by rfl) sc_lowest_row.nd (pi_list (pv 1)) (blkOk_by (own := [("top", 4), ("part", 5)]) (N := ["numbers", "told", "number", "bottom", "top", "part"]) (sc := defScope s_lowest_row) (by decide +kernel)) (fun _ _ _ _ _ => (pg_tup rfl (pgs_cons (pg_name (i := 4) sc_lowest_row.nd rfl (by first | exact Or.inl rfl | exact Or.inr rfl)) (pgs_cons (pg_name (i := 5) sc_lowest_row.nd rfl (by first | exact Or.inl rfl | exact Or.inr rfl)) pgs_nil)))) (fun _ _ _ _ _ => pts_nil) (fun _ _ _ _ _ => (pe_op op_mulA (pv 4) (pe_op op_fd (pv 3) (pv 5))))) pa_nil)))))), Dead, ?_, fun _ _ h => (dead h).elim⟩
    show St (RsE E NoX 6) [some (Lst K (each r.n fun i => IsR K r.m (r.q i))), none, none, none, none, none] _ Dead (Tup K (each r.n fun i => Is (.int (lows r.whole r.n i))))
    refine st_seq (st_set (P := Lst K (each r.n fun i => Told K (r.q i))) (Ev.sub (P := New (each r.n fun i => Told K (r.q i))) ?_ fun v H h => own_lst (new_own (fun vs H a => safe_each (fun _ => plain_tup (K := K)) a) h))) (rest r h)
    have le := ev_lc (Y := RsE E NoX 6) (G := [some (Lst K (each r.n fun i => IsR K r.m (r.q i))), none, none, none, none, none]) (te := tCallS (sp_ratio_of K CX) (fun _ _ _ _ => False) (tCons (tVar 2) tNil)) (j := 2) (P := fun i => Told K (r.q i)) (ei_sub (It' := fun i => IsR K r.m (r.q i)) (ei_list (Y := RsE E NoX 6) (K := K) (Ps := each r.n fun i => IsR K r.m (r.q i)) (ev_var (i := 0) rfl)) (fun i hi v H h => by rw [each_len] at hi; rw [nth_each hi] at h; exact h)) (by rw [each_len]; have := h.n; omega) (fun i => mn_told) (fun i => mn_told) (fun i hi => ev_call (ea_cons (ev_var rfl) ea_nil) (cl_ratio_of (by have := h.b; omega))) (fun i acc H hi a => safe_each (fun _ => plain_tup (K := K)) a)
    rw [each_len] at le
    exact le
  | tup r =>
    have h : r.ok := c
    refine ⟨_, (pss_cons (ps_setLc (i := 1) (own := [("number", 2)]) (g := gName 2) (by rfl) sc_lowest_row.nd rfl rfl (sw_true rfl rfl rfl (by decide +kernel)) (pi_tup (pv 0)) (blkOk_by (own := [("number", 2)]) (N := ["numbers", "told", "number", "bottom", "top", "part"]) (sc := defScope s_lowest_row) (by decide +kernel)) (fun _ _ _ _ _ => pg_name (i := 2) sc_lowest_row.nd rfl (by first | exact Or.inl rfl | exact Or.inr rfl)) (fun _ _ _ _ _ => pts_nil) (fun _ _ _ _ _ => (pe_df D_ratio_of (hr.mono (by decide)) takesF (pa_cons (pv 2) pa_nil)))) (pss_cons (ps_set (i := 3) sc_lowest_row.nd rfl (by first | exact Or.inl rfl | exact Or.inr rfl) (pe_df D_common_bottom (hr.mono (by decide)) (L2N.takes_of rfl rfl rfl rfl) (pa_cons (pv 1) pa_nil))) (pss_one (ps_ret (pe_df D_without_common (hr.mono (by decide)) (L2N.takes_of rfl rfl rfl rfl) (pa_cons (pe_lc (own := [("top", 4), ("part", 5)]) (g := (gTup _ 2 (gCons (gName 4) (gCons (gName 5) gNil)))) (by rfl) sc_lowest_row.nd (pi_list (pv 1)) (blkOk_by (own := [("top", 4), ("part", 5)]) (N := ["numbers", "told", "number", "bottom", "top", "part"]) (sc := defScope s_lowest_row) (by decide +kernel)) (fun _ _ _ _ _ => (pg_tup rfl (pgs_cons (pg_name (i := 4) sc_lowest_row.nd rfl (by first | exact Or.inl rfl | exact Or.inr rfl)) (pgs_cons (pg_name (i := 5) sc_lowest_row.nd rfl (by first | exact Or.inl rfl | exact Or.inr rfl)) pgs_nil)))) (fun _ _ _ _ _ => pts_nil) (fun _ _ _ _ _ => (pe_op op_mulA (pv 4) (pe_op op_fd (pv 3) (pv 5))))) pa_nil)))))), Dead, ?_, fun _ _ h => (dead h).elim⟩
    show St (RsE E NoX 6) [some (Tup K (each r.n fun i => IsR K r.m (r.q i))), none, none, none, none, none] _ Dead (Tup K (each r.n fun i => Is (.int (lows r.whole r.n i))))
    refine st_seq (st_set (P := Lst K (each r.n fun i => Told K (r.q i))) (Ev.sub (P := New (each r.n fun i => Told K (r.q i))) ?_ fun v H h => own_lst (new_own (fun vs H a => safe_each (fun _ => plain_tup (K := K)) a) h))) (rest r h)
    have le := ev_lc (Y := RsE E NoX 6) (G := [some (Tup K (each r.n fun i => IsR K r.m (r.q i))), none, none, none, none, none]) (te := tCallS (sp_ratio_of K CX) (fun _ _ _ _ => False) (tCons (tVar 2) tNil)) (j := 2) (P := fun i => Told K (r.q i)) (ei_sub (It' := fun i => IsR K r.m (r.q i)) (ei_tup (Y := RsE E NoX 6) (K := K) (Ps := each r.n fun i => IsR K r.m (r.q i)) (ev_var (i := 0) rfl)) (fun i hi v H h => by rw [each_len] at hi; rw [nth_each hi] at h; exact h)) (by rw [each_len]; have := h.n; omega) (fun i => mn_told) (fun i => mn_told) (fun i hi => ev_call (ea_cons (ev_var rfl) ea_nil) (cl_ratio_of (by have := h.b; omega))) (fun i acc H hi a => safe_each (fun _ => plain_tup (K := K)) a)
    rw [each_len] at le
    exact le
  | bad n m k q o =>
    obtain ⟨hk, hn, hm, ho⟩ := (c : k < n ∧ n ≤ 50 ∧ m ≤ 8000 ∧ o.ok K)
    haveI mo := OddW.mn ho
    haveI mb : ∀ i, Mn Evl.Ex (badP K m k q o i) := fun i => by unfold badP; split <;> infer_instance
    refine ⟨_, (pss_cons (ps_setLcX (i := 1) (own := [("number", 2)]) (g := gName 2) rfl rfl (L2N.takes_of rfl rfl rfl rfl) (by rfl) sc_lowest_row.nd rfl rfl (sw_true rfl rfl rfl (by decide +kernel)) (pi_list (pv 0)) (blkOk_by (own := [("number", 2)]) (N := ["numbers", "told", "number", "bottom", "top", "part"]) (sc := defScope s_lowest_row) (by decide +kernel)) (fun _ _ _ _ _ => pg_name (i := 2) sc_lowest_row.nd rfl (by first | exact Or.inl rfl | exact Or.inr rfl)) (fun _ _ _ _ _ => pts_nil) (fun _ _ _ _ _ _ ox => (pe_dfX D_ratio_of (hr.mono (by decide)) ox (pa_cons (pv 2) pa_nil)))) (pss_cons (ps_set (i := 3) sc_lowest_row.nd rfl (by first | exact Or.inl rfl | exact Or.inr rfl) (pe_df D_common_bottom (hr.mono (by decide)) (L2N.takes_of rfl rfl rfl rfl) (pa_cons (pv 1) pa_nil))) (pss_one (ps_ret (pe_df D_without_common (hr.mono (by decide)) (L2N.takes_of rfl rfl rfl rfl) (pa_cons (pe_lc (own := [("top", 4), ("part", 5)]) (g := (gTup _ 2 (gCons (gName 4) (gCons (gName 5) gNil)))) (by rfl) sc_lowest_row.nd (pi_list (pv 1)) (blkOk_by (own := [("top", 4), ("part", 5)]) (N := ["numbers", "told", "number", "bottom", "top", "part"]) (sc := defScope s_lowest_row) (by decide +kernel)) (fun _ _ _ _ _ => (pg_tup rfl (pgs_cons (pg_name (i := 4) sc_lowest_row.nd rfl (by first | exact Or.inl rfl | exact Or.inr rfl)) (pgs_cons (pg_name (i := 5) sc_lowest_row.nd rfl (by first | exact Or.inl rfl | exact Or.inr rfl)) pgs_nil)))) (fun _ _ _ _ _ => pts_nil) (fun _ _ _ _ _ => (pe_op op_mulA (pv 4) (pe_op op_fd (pv 3) (pv 5))))) pa_nil)))))), Dead, ?_, fun _ _ h => (dead h).elim⟩
    show St (RsE E (RX CX) 6) [some (LstN K (each n (badP K m k q o))), none, none, none, none, none] _ Dead NoV
    have le := ev_lc (Y := RsE E (RX CX) 6) (G := [some (LstN K (each n (badP K m k q o))), none, none, none, none, none]) (te := tCallS (sp_ratio_of K CX) (fun _ => E) (tCons (tVar 2) tNil)) (j := 2) (P := fun i => if i = k then NoV else Told K (q i)) (ei_sub (It' := badP K m k q o) (ei_listN (K := K) (Ps := each n (badP K m k q o)) (ev_var (Y := RsE E (RX CX) 6) (i := 0) rfl)) (fun i hi v H h => by rw [each_len] at hi; rw [nth_each hi] at h; exact h)) (by rw [each_len]; omega) (fun i => by split; exact ⟨fun _ _ _ _ h => h⟩; exact mn_told) (fun i => by split; exact ⟨fun _ _ _ _ h => h⟩; exact mn_told) (fun i hi => by
      by_cases e : i = k
      · rw [if_pos e]
        have eb : badP K m k q o i = o.pr K := if_pos e
        rw [eb]
        exact ev_callX (Y := RsE E (RX CX) 6) (ea_cons (ev_var rfl) ea_nil) (cl_rofX ho) (sub_none rfl)
      · rw [if_neg e]
        have eb : badP K m k q o i = IsR K m (q i) := if_neg e
        rw [eb]
        exact ev_callX (Y := RsE E (RX CX) 6) (ea_cons (ev_var rfl) ea_nil) (cl_ratio_of hm) (sub_none rfl)) (fun i acc H hi a => safe_each (fun j => by split; exact fun _ _ h => h.elim; exact plain_tup (K := K)) a)
    rw [each_len] at le
    refine st_seq (st_set (P := NoV) (Ev.sub le fun v H h => ?_)) (st_false (i := 1) rfl fun _ _ h => h)
    obtain ⟨p, xs, _, _, a⟩ := h
    obtain ⟨x, _, hx⟩ := allp_get (i := k) (P := NoV) a (by unfold each; simp [hk])
    exact hx
theorem cl_lowL {W : HR} [Pre W] {r : Row} (h : r.ok) {X : XP} : Cl W (sp_low K CX) [Lst K (each r.n fun i => IsR K r.m (r.q i))] (Tup K (each r.n fun i => Is (.int (lows r.whole r.n i)))) X := fun vs H a Q E k _ =>
  cl_of (W := Evl.Ex) (W' := W) (C := okLow K) (f := wLow K CX) (.lst r) h vs H a Q E k fun _ _ _ _ z => z.elim
theorem cl_lowT {W : HR} [Pre W] {r : Row} (h : r.ok) {X : XP} : Cl W (sp_low K CX) [Tup K (each r.n fun i => IsR K r.m (r.q i))] (Tup K (each r.n fun i => Is (.int (lows r.whole r.n i)))) X := fun vs H a Q E k _ =>
  cl_of (W := Evl.Ex) (W' := W) (C := okLow K) (f := wLow K CX) (.tup r) h vs H a Q E k fun _ _ _ _ z => z.elim
theorem cl_lowX {W : HR} [Pre W] {n m k : Nat} {q : Nat → Rat} {o : OddW} {Q : Pr} (hk : k < n) (hn : n ≤ 50) (hm : m ≤ 8000) (h : o.ok K) : Cl W (sp_low K CX) [LstN K (each n (badP K m k q o))] Q (RX CX) := fun vs H a Q' E _ e =>
  cl_of (W := Evl.Ex) (W' := W) (C := okLow K) (f := wLow K CX) (.bad n m k q o) ⟨hk, hn, hm, h⟩ vs H a Q' E (fun _ _ _ z => False.elim z) e
end
end U

namespace U
open PySem PySem.Spec PyProof.Rows L2
/-! ### what a least row is -/
section
theorem gN_congr {z z' : Nat → Int} : ∀ {n : Nat}, (∀ i, i < n → z i = z' i) → gN z n = gN z' n
  | 0, _ => rfl
  | n + 1, h => by
    show Nat.gcd (gN z n) (z n).natAbs = Nat.gcd (gN z' n) (z' n).natAbs
    rw [gN_congr (fun i hi => h i (by omega)), h n (by omega)]
theorem gN_mul {y : Nat → Int} {g : Nat} : ∀ n : Nat, gN (fun i => y i * (g : Int)) n = gN y n * g
  | 0 => by show 0 = 0 * g; rw [Nat.zero_mul]
  | n + 1 => by
    show Nat.gcd (gN (fun i => y i * (g : Int)) n) (y n * (g : Int)).natAbs = Nat.gcd (gN y n) (y n).natAbs * g
    rw [gN_mul n, Int.natAbs_mul, Int.natAbs_natCast, Nat.gcd_mul_right]
theorem lows_mul {z : Nat → Int} {n i : Nat} (hi : i < n) : lows z n i * (gN z n : Int) = z i := Int.ediv_mul_cancel (gN_dvd hi)
theorem lows_gcd {z : Nat → Int} {n : Nat} : gN (lows z n) n ≤ 1 := by
  have e : gN (fun i => lows z n i * (gN z n : Int)) n = gN z n := gN_congr fun i hi => lows_mul hi
  rw [gN_mul] at e
  by_cases g0 : gN z n = 0
  · have : gN (lows z n) n = gN (fun _ => 0) n := gN_congr fun i hi => by
      unfold lows; rw [g0]; exact Int.ediv_zero _
    rw [this]
    have zz : ∀ n, gN (fun _ => 0) n = 0 := fun n => by
      induction n with
      | zero => rfl
      | succ n ih => show Nat.gcd (gN (fun _ => 0) n) (0 : Int).natAbs = 0; rw [ih]; rfl
    rw [zz]; decide
  · have : gN (lows z n) n * gN z n = 1 * gN z n := by rw [e, Nat.one_mul]
    have := Nat.eq_of_mul_eq_mul_right (by omega : 0 < gN z n) this
    omega
theorem whole_den {r : Row} {i : Nat} (hi : i < r.n) : r.whole i * ((r.q i).den : Int) = (r.q i).num * (r.bot : Int) := by
  have d : ((r.q i).den : Int) ∣ (r.bot : Int) := Int.natCast_dvd_natCast.mpr (lcmN_dvd (d := fun i => (r.q i).den) hi)
  unfold Row.whole
  rw [Int.mul_assoc, Int.ediv_mul_cancel d]
theorem bot_pos (r : Row) : 0 < r.bot := lcmN_pos (d := fun i => (r.q i).den) (fun i => (r.q i).den_pos) r.n
theorem low_cross {r : Row} {i j : Nat} (hi : i < r.n) (hj : j < r.n) : lows r.whole r.n i * (r.q j).num * ((r.q i).den : Int) = lows r.whole r.n j * (r.q i).num * ((r.q j).den : Int) := by
  by_cases g0 : gN r.whole r.n = 0
  · have z : ∀ k, lows r.whole r.n k = 0 := fun k => by unfold lows; rw [g0]; exact Int.ediv_zero _
    rw [z, z]; simp
  · have gp : (gN r.whole r.n : Int) ≠ 0 := by omega
    have a1 := lows_mul (z := r.whole) hi
    have a2 := lows_mul (z := r.whole) hj
    have b1 := whole_den hi
    have b2 := whole_den hj
    refine Int.eq_of_mul_eq_mul_right gp ?_
    have l1 : lows r.whole r.n i * (r.q j).num * ((r.q i).den : Int) * (gN r.whole r.n : Int) = (r.q j).num * ((lows r.whole r.n i * (gN r.whole r.n : Int)) * ((r.q i).den : Int)) := by ac_rfl
    have l2 : lows r.whole r.n j * (r.q i).num * ((r.q j).den : Int) * (gN r.whole r.n : Int) = (r.q i).num * ((lows r.whole r.n j * (gN r.whole r.n : Int)) * ((r.q j).den : Int)) := by ac_rfl
    rw [l1, l2, a1, a2, b1, b2]
    ac_rfl
theorem low_sign {r : Row} {i : Nat} (hi : i < r.n) : 0 ≤ lows r.whole r.n i * (r.q i).num ∧ (lows r.whole r.n i = 0 ↔ (r.q i).num = 0) := by
  have dp : (0 : Int) < ((r.q i).den : Int) := by have := (r.q i).den_pos; omega
  have bp : (0 : Int) < (r.bot : Int) := by have := bot_pos r; omega
  have b1 := whole_den hi
  have wz : r.whole i = 0 ↔ (r.q i).num = 0 := by
    constructor
    · intro z
      rw [z, Int.zero_mul] at b1
      rcases Int.mul_eq_zero.mp b1.symm with h | h
      · exact h
      · omega
    · intro z
      rw [z, Int.zero_mul] at b1
      rcases Int.mul_eq_zero.mp b1 with h | h
      · exact h
      · omega
  by_cases g0 : gN r.whole r.n = 0
  · have z : lows r.whole r.n i = 0 := by unfold lows; rw [g0]; exact Int.ediv_zero _
    have w0 : r.whole i = 0 := by have := gN_dvd (z := r.whole) hi; rw [g0] at this; exact Int.zero_dvd.mp this
    rw [z]
    exact ⟨by simp, fun _ => wz.mp w0, fun _ => rfl⟩
  · have gp : (0 : Int) < (gN r.whole r.n : Int) := by omega
    have a1 := lows_mul (z := r.whole) hi
    constructor
    · have k : lows r.whole r.n i * (r.q i).num * ((gN r.whole r.n : Int) * ((r.q i).den : Int)) = (r.q i).num * (r.q i).num * (r.bot : Int) := by
        have : lows r.whole r.n i * (r.q i).num * ((gN r.whole r.n : Int) * ((r.q i).den : Int)) = (r.q i).num * ((lows r.whole r.n i * (gN r.whole r.n : Int)) * ((r.q i).den : Int)) := by ac_rfl
        rw [this, a1, b1]; ac_rfl
      have pos : 0 ≤ (r.q i).num * (r.q i).num * (r.bot : Int) := Int.mul_nonneg (by
        rcases Int.le_total 0 (r.q i).num with h | h
        · exact Int.mul_nonneg h h
        · exact Int.mul_nonneg_of_nonpos_of_nonpos h h) (by omega)
      rw [← k] at pos
      exact Int.not_lt.mp fun z => absurd (Int.mul_neg_of_neg_of_pos z (Int.mul_pos gp dp)) (by omega)
    · rw [← wz, ← a1, Int.mul_eq_zero]
      omega
/-- rows of one direction have one least row -/
theorem lows_dir {z z' : Nat → Int} {n a b : Nat} (ha : 0 < a) (hb : 0 < b) (h : ∀ i, i < n → z' i * (a : Int) = z i * (b : Int)) {i : Nat} (hi : i < n) : lows z' n i = lows z n i := by
  have e : gN z' n * a = gN z n * b := by rw [← gN_mul, ← gN_mul]; exact gN_congr h
  by_cases g0 : gN z n = 0
  · have g1 : gN z' n = 0 := by
      rw [g0, Nat.zero_mul] at e
      rcases Nat.mul_eq_zero.mp e with k | k
      · exact k
      · omega
    unfold lows
    rw [g0, g1]
    show z' i / 0 = z i / 0
    rw [Int.ediv_zero, Int.ediv_zero]
  · have g1 : gN z' n * a ≠ 0 := by rw [e]; exact Nat.mul_ne_zero g0 (by omega)
    have c1 := lows_mul (z := z') hi
    have c2 := lows_mul (z := z) hi
    have e' : (gN z' n : Int) * (a : Int) = (gN z n : Int) * (b : Int) := by exact_mod_cast e
    refine Int.eq_of_mul_eq_mul_right (a := (gN z' n : Int) * (a : Int)) (by exact_mod_cast g1) ?_
    have l1 : lows z' n i * ((gN z' n : Int) * (a : Int)) = (lows z' n i * (gN z' n : Int)) * (a : Int) := by ac_rfl
    have l2 : lows z n i * ((gN z n : Int) * (b : Int)) = (lows z n i * (gN z n : Int)) * (b : Int) := by ac_rfl
    rw [l1, c1, e', l2, c2]
    exact h i hi
theorem whole_scale {r r' : Row} {c : Rat} (hn : r'.n = r.n) (hq : ∀ i, i < r.n → r'.q i = c * r.q i) {i : Nat} (hi : i < r.n) : r'.whole i * ((c.den : Int) * (r.bot : Int)) = r.whole i * (c.num * (r'.bot : Int)) := by
  have d1 := whole_den (r := r) hi
  have d2 := whole_den (r := r') (show i < r'.n by omega)
  have p1 : ((r.q i).den : Int) ≠ 0 := by have := (r.q i).den_pos; omega
  have p2 : ((r'.q i).den : Int) ≠ 0 := by have := (r'.q i).den_pos; omega
  have p3 : (c.den : Int) ≠ 0 := by have := c.den_pos; omega
  have x : Rat.divInt (r'.q i).num ((r'.q i).den : Int) = Rat.divInt (c.num * (r.q i).num) ((c.den : Int) * ((r.q i).den : Int)) := by
    rw [rat_mul, ← hq i hi]; simp
  have y := (Rat.divInt_eq_divInt_iff p2 (Int.mul_ne_zero p3 p1)).mp x
  refine Int.eq_of_mul_eq_mul_right (a := ((r.q i).den : Int) * ((r'.q i).den : Int)) (Int.mul_ne_zero p1 p2) ?_
  have l1 : r'.whole i * ((c.den : Int) * (r.bot : Int)) * (((r.q i).den : Int) * ((r'.q i).den : Int)) = (r'.whole i * ((r'.q i).den : Int)) * ((c.den : Int) * ((r.q i).den : Int)) * (r.bot : Int) := by ac_rfl
  have l2 : r.whole i * (c.num * (r'.bot : Int)) * (((r.q i).den : Int) * ((r'.q i).den : Int)) = (r.whole i * ((r.q i).den : Int)) * (c.num * ((r'.q i).den : Int)) * (r'.bot : Int) := by ac_rfl
  rw [l1, l2, d1, d2]
  have l3 : (r'.q i).num * (r'.bot : Int) * ((c.den : Int) * ((r.q i).den : Int)) * (r.bot : Int) = ((r'.q i).num * ((c.den : Int) * ((r.q i).den : Int))) * ((r'.bot : Int) * (r.bot : Int)) := by ac_rfl
  have l4 : (r.q i).num * (r.bot : Int) * (c.num * ((r'.q i).den : Int)) * (r'.bot : Int) = ((c.num * (r.q i).num) * ((r'.q i).den : Int)) * ((r'.bot : Int) * (r.bot : Int)) := by ac_rfl
  rw [l3, l4, y]
/-- a row times a ratio above 0 has the same least row -/
theorem lows_scale {r r' : Row} {c : Rat} (hc : 0 < c.num) (hn : r'.n = r.n) (hq : ∀ i, i < r.n → r'.q i = c * r.q i) {i : Nat} (hi : i < r.n) : lows r'.whole r.n i = lows r.whole r.n i := by
  have b1 := bot_pos r
  have b2 := bot_pos r'
  have cn : ((c.num.toNat : Nat) : Int) = c.num := by omega
  refine lows_dir (a := c.den * r.bot) (b := c.num.toNat * r'.bot) (Nat.mul_pos c.den_pos b1) (Nat.mul_pos (by omega) b2) (fun j hj => ?_) hi
  have := whole_scale (c := c) hn hq hj
  rw [Int.natCast_mul, Int.natCast_mul, cn]
  exact this
theorem lows_lows {z : Nat → Int} {n i : Nat} (hi : i < n) : lows (lows z n) n i = lows z n i := by
  have g := lows_gcd (z := z) (n := n)
  by_cases g0 : gN (lows z n) n = 0
  · exact lows_zero g0 hi
  · exact lows_one (by omega) i
theorem bot_ones {q : Nat → Rat} (h : ∀ i, (q i).den = 1) : ∀ n, lcmN (fun i => (q i).den) n = 1
  | 0 => rfl
  | n + 1 => by show (lcmN (fun i => (q i).den) n).lcm (q n).den = 1; rw [bot_ones h n, h n]; rfl
theorem whole_ones {r : Row} (h : ∀ i, (r.q i).den = 1) (i : Nat) : r.whole i = (r.q i).num := by
  unfold Row.whole Row.bot
  rw [bot_ones h, h i]
  show (r.q i).num * (1 / 1) = (r.q i).num
  rw [Int.ediv_self (by decide), Int.mul_one]
/-- a least row is its own least row -/
theorem lows_told {r : Row} {z : Nat → Int} (hq : ∀ i, r.q i = ((lows z r.n i : Int) : Rat)) {i : Nat} (hi : i < r.n) : lows r.whole r.n i = lows z r.n i := by
  have e : ∀ j, r.whole j = lows z r.n j := fun j => by
    rw [whole_ones (fun k => by rw [hq k]; rfl) j, hq j]; rfl
  have : r.whole = lows z r.n := funext e
  rw [this]
  exact lows_lows hi
end
end U

namespace U
open PySem PySem.Spec PyProof.Rows L2
/-! ### the law's own things -/
abbrev s__law_low : Stmt := top 21
theorem sc__law_low : FnScope ["_law_top", "_law_bottom", "_law_one", "_law_other"] ["_law_top", "_law_bottom"] (defScope s__law_low) := ⟨rfl, rfl, rfl, by decide +kernel, rfl, by decide +kernel, by decide +kernel⟩
abbrev s__law_odd : Stmt := top 22
theorem sc__law_odd : FnScope ["_law_hand_here", "_law_near", "_law_kind", "_law_things"] ["_law_hand_here", "_law_near"] (defScope s__law_odd) := ⟨rfl, rfl, rfl, by decide +kernel, rfl, by decide +kernel, by decide +kernel⟩
abbrev s__law_pair : Stmt := top 25
theorem sc__law_pair : FnScope ["_law_x"] ["_law_x"] (defScope s__law_pair) := ⟨rfl, rfl, rfl, by decide +kernel, rfl, by decide +kernel, by decide +kernel⟩
abbrev s__law_common : Stmt := top 27
theorem sc__law_common : FnScope ["_law_one", "_law_other", "_law_a", "_law_b"] ["_law_one", "_law_other"] (defScope s__law_common) := ⟨rfl, rfl, rfl, by decide +kernel, rfl, by decide +kernel, by decide +kernel⟩
abbrev s__law_row : Stmt := top 24
theorem sc__law_row : FnScope ["_law_hand_here", "_law_made", "_law_k", "_law_far", "_law_top"] ["_law_hand_here"] (defScope s__law_row) := ⟨rfl, rfl, rfl, by decide +kernel, rfl, by decide +kernel, by decide +kernel⟩
def oddPs (K : PySem.W.Frag) (n : Int) : List Pr := [Is .non, Is (.bl true), Is (.bl false), Is (.str "1"), Lst K [Is (.int n), Is (.int n)], Tup K [Is (.int n)], Tup K [Is (.int n), Is (.int n), Is (.int n)], Tup K [Is (.int n), Is (.int 0)], Tup K [Is (.int n), Is (.int (-n))], Tup K [Is (.bl true), Is (.int n)]] ++
  [Tup K [Is (.int n), Is (.bl true)], Tup K [Is (.int n), Is (.str "1")], Tup K [Tup K [Is (.int n), Is (.int 1)], Is (.int 1)], Tup K []]
def oddW (K : PySem.W.Frag) (n : Int) : Nat → OddW
  | 0 => .other (Is .non) "NoneType"
  | 1 => .other (Is (.bl true)) "bool"
  | 2 => .other (Is (.bl false)) "bool"
  | 3 => .other (Is (.str "1")) "str"
  | 4 => .other (Lst K [Is (.int n), Is (.int n)]) "list"
  | 5 => .len [Is (.int n)]
  | 6 => .len [Is (.int n), Is (.int n), Is (.int n)]
  | 7 => .low n 0
  | 8 => .low n (-n)
  | 9 => .fst (Is (.bl true)) (Is (.int n)) "bool"
  | 10 => .snd n (Is (.bl true)) "bool"
  | 11 => .snd n (Is (.str "1")) "str"
  | 12 => .fst (Tup K [Is (.int n), Is (.int 1)]) (Is (.int 1)) "tuple"
  | _ => .len []
instance mnl_odd {W : HR} [Pre W] {K : PySem.W.Frag} {n : Int} : MnL W (oddPs K n) := by unfold oddPs; infer_instance
section
variable {K : PySem.W.Frag}
theorem nw_none : notWhole "NoneType" := ⟨false, false, by decide +kernel, by decide +kernel, rfl⟩
theorem nw_bool : notWhole "bool" := ⟨true, true, by decide +kernel, by decide +kernel, rfl⟩
theorem nw_str : notWhole "str" := ⟨false, false, by decide +kernel, by decide +kernel, rfl⟩
theorem nw_list : notWhole "list" := ⟨false, false, by decide +kernel, by decide +kernel, rfl⟩
theorem nw_tuple : notWhole "tuple" := ⟨false, false, by decide +kernel, by decide +kernel, rfl⟩
theorem oddW_ok {n : Int} (hn : 0 < n) : ∀ i, (oddW K n i).ok K
  | 0 => ⟨⟨mn_is, hasTy_none⟩, nw_none, by decide +kernel⟩
  | 1 => ⟨⟨mn_is, hasTy_bool⟩, nw_bool, by decide +kernel⟩
  | 2 => ⟨⟨mn_is, hasTy_bool⟩, nw_bool, by decide +kernel⟩
  | 3 => ⟨⟨mn_is, hasTy_str⟩, nw_str, by decide +kernel⟩
  | 4 => ⟨⟨mn_lst, hasTy_lst⟩, nw_list, by decide +kernel⟩
  | 5 => ⟨inferInstance, by simp⟩
  | 6 => ⟨inferInstance, by simp⟩
  | 7 => show (0 : Int) < 1 by decide
  | 8 => show -n < 1 by omega
  | 9 => ⟨⟨mn_is, hasTy_bool⟩, mn_is, nw_bool⟩
  | 10 => ⟨⟨mn_is, hasTy_bool⟩, nw_bool⟩
  | 11 => ⟨⟨mn_is, hasTy_str⟩, nw_str⟩
  | 12 => ⟨⟨mn_tup, hasTy_tup⟩, mn_is, nw_tuple⟩
  | _ + 13 => ⟨inferInstance, by decide⟩
theorem oddW_pr {n : Int} : ∀ i, i < 14 → (oddPs K n)[i]? = some ((oddW K n i).pr K)
  | 0, _ => rfl
  | 1, _ => rfl
  | 2, _ => rfl
  | 3, _ => rfl
  | 4, _ => rfl
  | 5, _ => rfl
  | 6, _ => rfl
  | 7, _ => rfl
  | 8, _ => rfl
  | 9, _ => rfl
  | 10, _ => rfl
  | 11, _ => rfl
  | 12, _ => rfl
  | 13, _ => rfl
  | n + 14, h => by omega
end
/-- a thing that is no ratio -/
def Odd (K : PySem.W.Frag) : Pr := Some (fun o : OddW => o.ok K) fun o => o.pr K
def sp_odd (K : PySem.W.Frag) : Sp := SpW WL (fun n : Int => 0 < n) fun n => ⟨[Hand, Is (.int n)], Some (fun i : Nat => i < 14) fun i => (oddW K n i).pr K, NoX⟩
def sp_common : Sp := SpW Evl.Ex (fun _ : Int × Int => True) fun i => ⟨[Is (.int i.1), Is (.int i.2)], Is (.int (Nat.gcd i.1.natAbs i.2.natAbs : Nat)), NoX⟩
section
variable {P : Program} {w : World} {K : PySem.W.Frag} {mg : Str → Option Value} {base : Heap} {CX : Addrs}
theorem ok_odd {f : Addr} {fd : FuncData} (F : Fun K "_law_odd" "_law_odd" s__law_odd f fd) (D__law_draw : Df P w K mg base 2 "_law_draw" ["_law_hand_here", "_law_many"] sp_draw) : FnOk P w K mg base (L2N.CX P w) 3 f fd ["_law_hand_here", "_law_near"] (sp_odd K) := by
  refine okW F sc__law_odd (fun i => rfl) (by decide) (fun cdv A outer s H E hr => ⟨_, (pss_cons (ps_set (i := 2) sc__law_odd.nd rfl (by first | exact Or.inl rfl | exact Or.inr rfl) (pe_df D__law_draw (hr.mono (by decide)) (L2N.takes_of rfl rfl rfl rfl) (pa_cons (pv 0) (pa_cons pe_int pa_nil)))) (pss_cons (ps_set (i := 3) sc__law_odd.nd rfl (by first | exact Or.inl rfl | exact Or.inr rfl) (pe_lst (pa_cons pe_non (pa_cons pe_bl (pa_cons pe_bl (pa_cons pe_str (pa_cons (pe_lst (pa_cons (pv 1) (pa_cons (pv 1) pa_nil))) (pa_cons (pe_tup (pa_cons (pv 1) pa_nil)) (pa_cons (pe_tup (pa_cons (pv 1) (pa_cons (pv 1) (pa_cons (pv 1) pa_nil)))) (pa_cons (pe_tup (pa_cons (pv 1) (pa_cons pe_int pa_nil))) (pa_cons (pe_tup (pa_cons (pv 1) (pa_cons (pe_un un_neg (pv 1)) pa_nil))) (pa_cons (pe_tup (pa_cons pe_bl (pa_cons (pv 1) pa_nil))) pa_nil)))))))))))) (pss_cons (ps_set (i := 3) sc__law_odd.nd rfl (by first | exact Or.inl rfl | exact Or.inr rfl) (pe_op op_addA (pv 3) (pe_lst (pa_cons (pe_tup (pa_cons (pv 1) (pa_cons pe_bl pa_nil))) (pa_cons (pe_tup (pa_cons (pv 1) (pa_cons pe_str pa_nil))) (pa_cons (pe_tup (pa_cons (pe_tup (pa_cons (pv 1) (pa_cons pe_int pa_nil))) (pa_cons pe_int pa_nil))) (pa_cons (pe_tup pa_nil) pa_nil))))))) (pss_one (ps_ret (pe_ix ix_seq (pv 3) (pv 2) (fun _ _ => rfl))))))), fun n c => ⟨Dead, ?_, fun _ _ h => (dead h).elim⟩⟩)
  have hn : 0 < n := c
  show St (RsW WL E NoX 4) [some Hand, some (Is (.int n)), none, none] _ Dead (Some (fun i : Nat => i < 14) fun i => (oddW K n i).pr K)
  have safe : ∀ (Q : V → Prop), ∀ {P : Pr} {Ps : List Pr} (vs : List V) (H : Hp), (∀ v H, P v H → ∀ a, v ≠ .ref a) → AllP (P :: Ps) vs H → Safe H vs := fun _ {P Ps} vs H h a => by
    match vs, a with
    | v :: vs, a =>
      refine .inl ?_
      have := h v H a.1
      cases v <;> first | rfl | exact absurd rfl (this _)
  refine st_seq (st_set (ev_call (ea_cons (ev_var rfl) (ea_cons ev_c ea_nil)) (cl_draw (m := 14) (by decide) (big_mono (n := 5) (big_of (by decide) (by decide)) (by decide))))) ?_
  refine st_open 2 rfl fun k hk => ?_
  have li : Ev (RsW WL E NoX 4) [some Hand, some (Is (.int n)), some (Is (.int k)), none] (tLst (tCons (tVar 1) (tCons (tVar 1) tNil))) (Lst K [Is (.int n), Is (.int n)]) := ev_lst (ea_cons (ev_var rfl) (ea_cons (ev_var rfl) ea_nil)) fun vs H a => safe (fun _ => True) vs H (fun v H e a z => by cases e; cases z) a
  refine st_seq (st_set (ev_own (ea_cons ev_c (ea_cons ev_c (ea_cons ev_c (ea_cons ev_c (ea_cons li (ea_cons (ev_tup (K := K) (ea_cons (ev_var rfl) ea_nil)) (ea_cons (ev_tup (K := K) (ea_cons (ev_var rfl) (ea_cons (ev_var rfl) (ea_cons (ev_var rfl) ea_nil)))) (ea_cons (ev_tup (K := K) (ea_cons (ev_var rfl) (ea_cons ev_c ea_nil))) (ea_cons (ev_tup (K := K) (ea_cons (ev_var rfl) (ea_cons (ev_un (ev_var rfl) op1_neg) ea_nil))) (ea_cons (ev_tup (K := K) (ea_cons ev_c (ea_cons (ev_var rfl) ea_nil))) ea_nil)))))))))) fun vs H a => safe (fun _ => True) vs H (fun v H e a z => by cases e; cases z) a)) ?_
  refine st_seq (st_set (P := Own (oddPs K n)) (ev_op (ev_var rfl) (ev_own (ea_cons (ev_tup (K := K) (ea_cons (ev_var rfl) (ea_cons ev_c ea_nil))) (ea_cons (ev_tup (K := K) (ea_cons (ev_var rfl) (ea_cons ev_c ea_nil))) (ea_cons (ev_tup (K := K) (ea_cons (ev_tup (K := K) (ea_cons (ev_var rfl) (ea_cons ev_c ea_nil))) (ea_cons ev_c ea_nil))) (ea_cons (ev_tup (K := K) ea_nil) ea_nil)))) fun vs H a => ?_) (o_cat (by simp) fun vs H a => safe (fun _ => True) vs H (fun v H e a z => by cases e; cases z) a))) ?_
  · match vs, a with
    | v :: vs, a =>
      obtain ⟨p, xs, e, hq, _⟩ := a.1
      exact .inr ⟨p, vs, xs, by rw [e], hq⟩
  · have e : ((k.toNat : Nat) : Int) = k := by omega
    have hi : k.toNat < 14 := by omega
    rw [← e]
    exact st_ret (ev_some k.toNat hi (ev_op (Ev.sub (ev_var rfl) fun v H h => own_lst (K := K) h) (ev_var rfl) (o_ixL (oddW_pr (K := K) (n := n) _ hi))))
/-- a whole number or a told ratio -/
def El (K : PySem.W.Frag) (q : Rat) : Pr := fun v H => (∃ i : Int, v = .int i ∧ (i : Rat) = q) ∨ Told K q v H
instance mn_el {W : HR} [w : PreT W] {K : PySem.W.Frag} {q : Rat} : Mn W (El K q) := ⟨fun v H H' k h => h.elim .inl fun z => .inr (mn_told.mn v H H' k z)⟩
theorem plain_el {K : PySem.W.Frag} {q : Rat} : Plain (El K q) := fun v H h => h.elim (fun ⟨i, e, _⟩ => .inl ⟨i, e⟩) fun z => plain_tup (K := K) v H z
def ElS (K : PySem.W.Frag) : Pr := Some (fun q : Rat => Sz 60 q) (El K)
def LocS (K : PySem.W.Frag) (l : Addr) (i : Nat) : Pr := Some (fun q : Nat → Rat => ∀ j, Sz 60 (q j)) fun q => Loc l (each i fun j => El K (q j))
theorem sz_mono {n m : Nat} {q : Rat} (h : Sz n q) (l : n ≤ m) : Sz m q := ⟨big_mono h.1 l, Nat.lt_of_lt_of_le h.2 (Nat.pow_le_pow_right (by decide) l)⟩
instance mn_locS {W : HR} [PreD W] {l : Addr} {i : Nat} : Mn W (LocS K l i) := mn_some
instance mn_elS {W : HR} [PreT W] : Mn W (ElS K) := mn_some
theorem locS_next {l : Addr} {i : Nat} {q : Nat → Rat} (hq : ∀ j, Sz 60 (q j)) {v : V} {H : Hp} (h : Loc l ((each i fun j => El K (q j)) ++ [ElS K]) v H) : LocS K l (i + 1) v H := by
  obtain ⟨e, xs, a, b, c⟩ := h
  obtain ⟨ys, zs, rfl, c1, c2⟩ := allp_split c
  obtain ⟨z, rfl, r, hr, hz⟩ := allp1 c2
  refine ⟨fun j => if j < i then q j else r, fun j => by dsimp only; split; exact hq j; exact hr, e, _, a, b, ?_⟩
  rw [each_succ]
  have e1 : (each i fun j => El K (if j < i then q j else r)) = each i fun j => El K (q j) := each_congr fun j hj => by rw [if_pos hj]
  rw [e1]
  exact allp_app c1 ⟨by show El K (if i < i then q i else r) z H; rw [if_neg (Nat.lt_irrefl i)]; exact hz, True.intro⟩
def sp_row (K : PySem.W.Frag) : Sp := SpW WL (fun _ : Unit => True) fun _ => ⟨[Hand], Some (fun r : Nat × (Nat → Rat) => r.1 ≤ 6 ∧ ∀ j, Sz 60 (r.2 j)) fun r => Own (each r.1 fun j => El K (r.2 j)), NoX⟩
theorem cl_some2 {W : HR} {sp : Sp} {A : Type} {C : A → Prop} {P1 R : Pr} {Pf : A → Pr} {X : XP} (h : ∀ a, C a → Cl W sp [P1, Pf a] R X) : Cl W sp [P1, Some C Pf] R X := fun vs H al Q E q e => by
  match vs, al with
  | [x, y], al =>
    obtain ⟨a1, ⟨a, ca, pa⟩, _⟩ := al
    exact h a ca [x, y] H ⟨a1, pa, True.intro⟩ Q E q e
theorem cl_sub {W : HR} {sp : Sp} {Ps : List Pr} {R R' : Pr} {X : XP} (h : Cl W sp Ps R X) (k : ∀ v H, R v H → R' v H) : Cl W sp Ps R' X := fun vs H al Q E q e => h vs H al Q E (fun v H2 w p => q v H2 w (k v H2 p)) e
theorem ok_row {f : Addr} {fd : FuncData} (F : Fun K "_law_row" "_law_row" s__law_row f fd) (T : Txt P w K mg CX) (D__law_draw : Df P w K mg base 2 "_law_draw" ["_law_hand_here", "_law_many"] sp_draw) (D__law_low : Df P w K mg base 1 "_law_low" ["_law_top", "_law_bottom"] (sp_lowest_terms K)) : FnOk P w K mg base (L2N.CX P w) 3 f fd ["_law_hand_here"] (sp_row K) := by
  refine okW F sc__law_row (fun i => rfl) (by decide) (fun cdv A outer s H E hr => ⟨_, (pss_cons (ps_set (i := 1) sc__law_row.nd rfl (by first | exact Or.inl rfl | exact Or.inr rfl) (pe_lst pa_nil)) (pss_cons (ps_for (passes_of rfl) rfl (pi_range1 (by rfl) T.n_range (pa_cons (pe_df D__law_draw (hr.mono (by decide)) (L2N.takes_of rfl rfl rfl rfl) (pa_cons (pv 0) (pa_cons pe_int pa_nil))) pa_nil)) (pg_name (i := 2) sc__law_row.nd rfl (by first | exact Or.inl rfl | exact Or.inr rfl)) (pss_cons (ps_set (i := 3) sc__law_row.nd rfl (by first | exact Or.inl rfl | exact Or.inr rfl) (pe_ifExp (pt_cmpR (op_eqA hr.units) (pe_df D__law_draw (hr.mono (by decide)) (L2N.takes_of rfl rfl rfl rfl) (pa_cons (pv 0) (pa_cons pe_int pa_nil))) pe_int (nomark _)) pe_int (pe_op op_pow pe_int pe_int))) (pss_cons (ps_set (i := 4) sc__law_row.nd rfl (by first | exact Or.inl rfl | exact Or.inr rfl) (pe_op op_sub (pe_df D__law_draw (hr.mono (by decide)) (L2N.takes_of rfl rfl rfl rfl) (pa_cons (pv 0) (pa_cons (pe_op op_addA (pe_op op_mulA pe_int (pv 3)) pe_int) pa_nil))) (pv 3))) (pss_one (ps_expr (pe_bm PySem.F.plainAttrs_list PySem.F.slot_list_append PySem.F.type_list_append mt_append (pv 1) (pa_cons (pe_ifExp (pt_cmpR (op_eqA hr.units) (pe_df D__law_draw (hr.mono (by decide)) (L2N.takes_of rfl rfl rfl rfl) (pa_cons (pv 0) (pa_cons pe_int pa_nil))) pe_int (nomark _)) (pv 4) (pe_df D__law_low (hr.mono (by decide)) (L2N.takes_of rfl rfl rfl rfl) (pa_cons (pv 4) (pa_cons (pe_op op_addA pe_int (pe_df D__law_draw (hr.mono (by decide)) (L2N.takes_of rfl rfl rfl rfl) (pa_cons (pv 0) (pa_cons (pv 3) pa_nil)))) pa_nil)))) pa_nil))))))) (pss_one (ps_ret (pv 1))))), fun n c => ⟨Dead, ?_, fun _ _ h => (dead h).elim⟩⟩)
  show St (RsW WL E NoX 5) [some Hand, none, none, none, none] _ Dead (Some (fun r : Nat × (Nat → Rat) => r.1 ≤ 6 ∧ ∀ j, Sz 60 (r.2 j)) fun r => Own (each r.1 fun j => El K (r.2 j)))
  refine st_local (Y := RsW WL E NoX 5) (N' := fun _ _ => Dead) (R' := fun H0 l => Some (fun n : Nat => n ≤ 6) (LocS K l)) (fun H0 l hl => ?_) (fun _ _ _ _ _ h => (dead h).elim) (fun H0 l v H' _ h => ?_)
  · show St ⟨WO WL H0 l, fun _ => E, List.replicate 5 none, NoX⟩ [some (At WL H0 Hand), some (Loc l []), none, none, none] _ Dead _
    have bs : ∀ m : Int, -(2 ^ 60) < m ∧ m < 2 ^ 60 → Big 300 m := fun m h => big_mono (n := 60) (big_of h.1 h.2) (by decide)
    have e12 : (10 : Int) ^ 12 = 1000000000000 := by decide
    have tst : ∀ {G : Ctx} {te : TE} {m j : Int}, MnC WL G → Ev ⟨WL, fun _ => E, List.replicate 5 none, NoX⟩ G te (Rng 0 m) → EvU ⟨WL, fun _ => E, List.replicate 5 none, NoX⟩ G (tTest (tOp (rEqA K) te (tC (.int j)))) := fun g h => by
      haveI := g
      exact eu_test (ev_op h ev_c (op2_some1 fun a _ => op2_sub o_eqI fun v H e => ⟨_, True.intro, e⟩))
    have now : ∀ v H, At WL H0 Hand v H → Hand v H := fun v H h => at_now h
    have z0 : Sz 60 0 := ⟨by unfold Big; decide, by decide⟩
    refine st_seq (M := [some (At WL H0 Hand), some (Some (fun n : Nat => n ≤ 6) (LocS K l)), none, none, none]) ?_ (st_ret (Ev.upW (W := WL) (H0 := H0) (l := l) rfl (ev_var rfl)))
    refine st_forR (W := WL) (H0 := H0) (l := l) rfl (lo := 0) (hi := 7) (ea_cons (ev_call (ea_cons (Ev.sub (ev_var rfl) now) (ea_cons ev_c ea_nil)) (cl_draw (m := 7) (by decide) (bs 7 (by decide)))) ea_nil) (fun j hj => ?_)
    refine st_post (N' := [some (At WL H0 Hand), some (LocS K l j.toNat), none, none, none]) (R' := Some (fun n : Nat => n ≤ 6) (LocS K l)) ?_ (sub_keep (sub_imp (fun v H h => ⟨j.toNat, by omega, h⟩) (sub_keep (sub_keep (sub_keep sub_nil))))) (fun _ _ h => h)
    refine st_forW (W := WL) (H0 := H0) (l := l) rfl (ej_range1 ea_const (by omega)) (fun i => [some (At WL H0 Hand), some (LocS K l i), none, none, none]) (sub_keep (sub_imp (fun v H h => ⟨fun _ => 0, fun _ => z0, h⟩) (sub_keep (sub_keep (sub_keep sub_nil))))) (fun i hi => ?_)
    refine st_open 1 rfl fun q hq => ?_
    refine st_seq (st_setW (W := WL) (H0 := H0) (l := l) rfl (P := Some (fun f : Int => 0 < f ∧ f ≤ 10 ^ 12) fun f => Is (.int f)) (ev_ifU (tst inferInstance (ev_call (ea_cons (Ev.sub (ev_var rfl) now) (ea_cons ev_c ea_nil)) (cl_draw (m := 2) (by decide) (bs 2 (by decide))))) (ev_some 3 (by decide) ev_c) (ev_some (10 ^ 12) (by decide) (ev_op ev_c ev_c (o_pow ⟨by decide, by decide, by decide⟩))))) ?_
    refine st_open 3 rfl fun g hg => ?_
    have gb : Big 60 g := big_of (by omega) (by omega)
    refine st_seq (st_setW (W := WL) (H0 := H0) (l := l) rfl (P := Some (fun i : Int => -10 ^ 12 ≤ i ∧ i ≤ 10 ^ 12) fun i => Is (.int i)) (ev_op (ev_call (ea_cons (Ev.sub (ev_var rfl) now) (ea_cons (ev_op (ev_op ev_c (ev_var rfl) (o_mul (n := 3) (m := 60) (big_of (by decide) (by decide)) gb (by decide))) ev_c o_add) ea_nil)) (cl_draw (by omega) (bs _ (by omega)))) (ev_var rfl) (op2_some1 fun a ha => op2_sub op2_I0 fun v H e => ⟨a - g, by omega, e⟩))) ?_
    refine st_open 4 rfl fun t ht => ?_
    have tb : Big 50 t := big_of (by omega) (by omega)
    have low : Cl WL (sp_lowest_terms K) [Is (.int t), Some (fun b : Int => 0 < b ∧ b ≤ 10 ^ 12) fun b => Is (.int b)] (ElS K) NoX := cl_some2 fun b hb => cl_sub (cl_low (by omega) (big_mono (n := 50) (big_of (by omega) (by omega)) (by decide))) fun v H h => ⟨Rat.divInt t b, sz_mono (sz_divInt (n := 50) (by omega) tb (big_of (by omega) (by omega))) (by decide), .inr h⟩
    have ti : Sz 60 (t : Rat) := ⟨big_mono tb (by decide), by show (1 : Nat) < 2 ^ 60; decide⟩
    refine st_post (N' := [some (At WL H0 Hand), some (Loc l ((each i fun j => El K (q j)) ++ [ElS K])), some (Is (.int (i : Int))), some (Is (.int g)), some (Is (.int t))]) (R' := Some (fun n : Nat => n ≤ 6) (LocS K l)) ?_ (sub_keep (sub_imp (fun v H h => locS_next hq h) (sub_drop (sub_drop (sub_drop sub_nil))))) (fun _ _ h => h)
    exact st_append (W := WL) (H0 := H0) (l := l) rfl hl (i := 1) (G' := [some (At WL H0 Hand), none, some (Is (.int (i : Int))), some (Is (.int g)), some (Is (.int t))]) rfl rfl (fun vs H a => safe_plain (fun P hP => by
      rcases List.mem_append.mp hP with hP | hP
      · obtain ⟨_, _, rfl⟩ := each_mem hP; exact plain_el
      · rw [List.mem_singleton.mp hP]; exact fun v H ⟨_, _, h⟩ => plain_el v H h) a) (by rw [each_len]; omega)
      (ev_ifU (tst inferInstance (ev_call (ea_cons (Ev.sub (ev_var rfl) now) (ea_cons ev_c ea_nil)) (cl_draw (m := 3) (by decide) (bs 3 (by decide))))) (Ev.sub (ev_var (i := 4) rfl) fun v H e => ⟨t, ti, .inl ⟨t, e, rfl⟩⟩) (ev_call (ea_cons (ev_var (i := 4) rfl) (ea_cons (ev_op ev_c (ev_call (ea_cons (Ev.sub (ev_var rfl) now) (ea_cons (ev_var rfl) ea_nil)) (cl_draw hg.1 (bs _ (by omega)))) (op2_some2 fun a ha => op2_sub o_add fun v H e => ⟨1 + a, by omega, e⟩)) ea_nil)) low))
  · obtain ⟨n, hn, q, hq, h⟩ := h
    exact ⟨(n, q), ⟨hn, hq⟩, loc_own h⟩
/-- things of which the pair is asked -/
inductive PairW
  | int (i : Int)
  | tup (Ps : List Pr)
def wPairW (K : PySem.W.Frag) : PairW → Way
  | .int i => ⟨[Is (.int i)], Told K (i : Rat), NoX⟩
  | .tup Ps => ⟨[Tup K Ps], Tup K Ps, NoX⟩
def okPair : PairW → Prop
  | .int _ => True
  | .tup Ps => MnL Evl.Ex Ps
def sp_pair (K : PySem.W.Frag) : Sp := SpW Evl.Ex okPair (wPairW K)
theorem ok_pair {f : Addr} {fd : FuncData} (F : Fun K "_law_pair" "_law_pair" s__law_pair f fd) (T : Txt P w K mg CX) : FnOk P w K mg base (L2N.CX P w) 1 f fd ["_law_x"] (sp_pair K) := by
  refine okW F sc__law_pair (fun i => by cases i <;> rfl) (by decide) (fun cdv A outer s H E hr => ⟨_, (pss_one (ps_ret (pe_ifExp (pt_val (pe_callB call_isi (by rfl) T.n_isinstance (by decide +kernel) (pa_cons (pv 0) (pa_cons (pe_bltn (v := .ty "tuple") (by rfl) T.n_tuple (by decide +kernel) rfl) pa_nil)))) (pv 0) (pe_tup (pa_cons (pv 0) (pa_cons pe_int pa_nil)))))), fun i c => ⟨Dead, ?_, fun _ _ h => (dead h).elim⟩⟩)
  cases i with
  | int i =>
    show St (RsE E NoX 1) [some (Is (.int i))] _ Dead (Told K (i : Rat))
    exact st_ret (ev_if (et_B (ev_cb (ea_cons (ev_var rfl) (ea_cons ev_c ea_nil)) (opA_isi hasTy_int (b := false) (by decide +kernel)))) (fun h => by cases h) (fun _ => ev_tup (K := K) (ea_cons (ev_var rfl) (ea_cons ev_c ea_nil))))
  | tup Ps =>
    haveI : MnL Evl.Ex Ps := c
    show St (RsE E NoX 1) [some (Tup K Ps)] _ Dead (Tup K Ps)
    exact st_ret (ev_if (et_B (ev_cb (ea_cons (ev_var rfl) (ea_cons ev_c ea_nil)) (opA_isi hasTy_tup (b := true) (by decide +kernel)))) (fun _ => ev_var rfl) (fun h => by cases h))
theorem cl_pairT {W : HR} [Pre W] {Ps : List Pr} [m : MnL Evl.Ex Ps] : Cl W (sp_pair K) [Tup K Ps] (Tup K Ps) NoX := cl_of (W := Evl.Ex) (C := okPair) (f := wPairW K) (.tup Ps) m
theorem cl_pair {W : HR} [Pre W] {q : Rat} : Cl W (sp_pair K) [El K q] (Told K q) NoX := fun vs H al Q E k e => by
  obtain ⟨v, rfl, h⟩ := allp1 al
  rcases h with ⟨i, rfl, rfl⟩ | h
  · exact cl_of (W := Evl.Ex) (W' := W) (C := okPair) (f := wPairW K) (.int i) True.intro _ H (show AllP [Is (.int i)] [V.int i] H from ⟨rfl, True.intro⟩) Q E k e
  · exact cl_of (W := Evl.Ex) (W' := W) (C := okPair) (f := wPairW K) (.tup [Is (.int q.num), Is (.int q.den)]) (show MnL Evl.Ex [Is (.int q.num), Is (.int q.den)] from inferInstance) _ H (show AllP [Tup K [Is (.int q.num), Is (.int q.den)]] [v] H from ⟨h, True.intro⟩) Q E k e
theorem gcd_step (a b : Nat) : Nat.gcd b (a % b) = Nat.gcd a b := by rw [Nat.gcd_comm b, ← Nat.gcd_rec, Nat.gcd_comm]
theorem ok_common {f : Addr} {fd : FuncData} (F : Fun K "_law_common" "_law_common" s__law_common f fd) (T : Txt P w K mg CX) : FnOk P w K mg base (L2N.CX P w) 1 f fd ["_law_one", "_law_other"] sp_common := by
  refine okW F sc__law_common (fun i => rfl) (by decide) (fun cdv A outer s H E hr => ⟨_, (pss_cons (ps_set (i := 2) sc__law_common.nd rfl (by first | exact Or.inl rfl | exact Or.inr rfl) (pe_callB call_abs (by rfl) T.n_abs (by decide +kernel) (pa_cons (pv 0) pa_nil))) (pss_cons (ps_set (i := 3) sc__law_common.nd rfl (by first | exact Or.inl rfl | exact Or.inr rfl) (pe_callB call_abs (by rfl) T.n_abs (by decide +kernel) (pa_cons (pv 1) pa_nil))) (pss_cons (ps_while (passes_of rfl) (pt_truth (pv 3) (fun _ => rfl)) (pss_one (ps_par (i := 2) (j := 3) rfl sc__law_common.nd rfl rfl (by decide) rfl rfl (pa_cons (pv 3) (pa_cons (pe_op op_mod (pe_callTy call_int1 (by rfl) T.n_int (by decide +kernel) (pa_cons (pv 2) pa_nil)) (pv 3)) pa_nil)) rfl))) (pss_one (ps_ret (pv 2)))))), fun i c => ⟨Dead, ?_, fun _ _ h => (dead h).elim⟩⟩)
  obtain ⟨t, b⟩ := i
  show St (RsE E NoX 4) [some (Is (.int t)), some (Is (.int b)), none, none] _ Dead (Is (.int (Nat.gcd t.natAbs b.natAbs : Nat)))
  refine st_seq (st_set (ev_cb (ea_cons (ev_var rfl) ea_nil) opA_abs)) ?_
  refine st_seq (st_set (ev_cb (ea_cons (ev_var rfl) ea_nil) opA_abs)) ?_
  refine st_seq (M := [some (Is (.int t)), some (Is (.int b)), some (Is (.int ((Nat.gcd t.natAbs b.natAbs : Nat) : Int))), none]) ?_ (st_ret (ev_var rfl))
  refine st_while (A := Nat × Nat) (b := fun a => ((a.2 : Nat) : Int) != 0) (fun a => [some (Is (.int t)), some (Is (.int b)), some (Is (.int (a.1 : Int))), some (Is (.int (a.2 : Int)))]) (fun a => a.2) (fun a => Nat.gcd a.1 a.2 = Nat.gcd t.natAbs b.natAbs) (t.natAbs, b.natAbs) rfl sub_refl (fun a c => et_truI (ev_var rfl)) (fun a c h => ?_) (fun a c h => ?_)
  · have h2 : 0 < a.2 := by
      have : ((a.2 : Nat) : Int) ≠ 0 := by simpa using h
      omega
    refine ⟨(a.2, a.1 % a.2), (gcd_step a.1 a.2).trans c, Nat.mod_lt _ h2, ?_⟩
    exact st_post (st_par (ea_cons (ev_var rfl) (ea_cons (ev_op (ev_cb (ea_cons (ev_var rfl) ea_nil) opA_int) (ev_var rfl) (o_mod (by omega))) ea_nil))) (fun s H ty => ty) (fun _ _ h => h)
  · have h2 : a.2 = 0 := by
      have : ((a.2 : Nat) : Int) = 0 := by simpa using h
      omega
    have e : a.1 = Nat.gcd t.natAbs b.natAbs := by rw [← c, h2, Nat.gcd_zero_right]
    rw [← e]
    exact sub_keep (sub_keep (sub_keep (sub_drop sub_nil)))
theorem cl_common {W : HR} [Pre W] {t b : Int} : Cl W sp_common [Is (.int t), Is (.int b)] (Is (.int (Nat.gcd t.natAbs b.natAbs : Nat))) NoX :=
  cl_of (W := Evl.Ex) (C := fun _ : Int × Int => True) (f := fun i => ⟨[Is (.int i.1), Is (.int i.2)], Is (.int (Nat.gcd i.1.natAbs i.2.natAbs : Nat)), NoX⟩) (t, b) True.intro
end
end U

namespace U
open PySem PySem.Spec PyProof.Rows L2
abbrev s__law_right : Stmt := top 26
theorem sc__law_right : FnScope ["_law_told", "_law_row_here", "_law_common_here", "_law_k", "_law_m", "_law_one", "_law_other"] ["_law_told", "_law_row_here"] (defScope s__law_right) := ⟨rfl, rfl, rfl, by decide +kernel, rfl, by decide +kernel, by decide +kernel⟩
theorem each_get {n i : Nat} {P : Nat → Pr} (h : i < n) : (each n P)[i]? = some (P i) := by unfold each; simp [h]
theorem lows_big {r : Row} (h : r.ok) {i : Nat} (hi : i < r.n) : Big 8000 (lows r.whole r.n i) := by
  have a := lows_mul (z := r.whole) hi
  have b := whole_big h i
  unfold Big at *
  by_cases g0 : gN r.whole r.n = 0
  · have z : lows r.whole r.n i = 0 := by unfold lows; rw [g0]; exact Int.ediv_zero _
    rw [z]; exact Nat.pow_pos (by decide)
  · refine Nat.lt_of_le_of_lt ?_ b
    rw [← a, Int.natAbs_mul, Int.natAbs_natCast]
    exact Nat.le_mul_of_pos_right _ (by omega)
def sp_right (K : PySem.W.Frag) : Sp := SpW Evl.Ex (fun r : Row => r.ok) fun r => ⟨[Tup K (each r.n fun i => Is (.int (lows r.whole r.n i))), Lst K (each r.n fun i => El K (r.q i))], Is (.bl true), NoX⟩
section
variable {P : Program} {w : World} {K : PySem.W.Frag} {mg : Str → Option Value} {base : Heap} {CX : Addrs}
theorem o_neB {W : HR} [w : PreT W] {a b : Bool} : Op2 W (rNeA K) (Is (.bl a)) (Is (.bl b)) (Is (.bl (!decide (V.bl a = V.bl b)))) := op2_l (op2_ne rfl)
theorem ok_right {f : Addr} {fd : FuncData} (F : Fun K "_law_right" "_law_right" s__law_right f fd) (T : Txt P w K mg CX) (D__law_common : Df P w K mg base 1 "_law_common" ["_law_one", "_law_other"] sp_common) (D__law_pair : Df P w K mg base 1 "_law_pair" ["_law_x"] (sp_pair K)) : FnOk P w K mg base (L2N.CX P w) 2 f fd ["_law_told", "_law_row_here"] (sp_right K) := by
  refine okW F sc__law_right (fun i => rfl) (by decide) (fun cdv A outer s H E hr => ⟨_, (pss_cons (ps_if (PW.pt (pw_or (pt_not (pt_val (pe_callB call_isi (by rfl) T.n_isinstance (by decide +kernel) (pa_cons (pv 0) (pa_cons (pe_bltn (v := .ty "tuple") (by rfl) T.n_tuple (by decide +kernel) rfl) pa_nil))))) (pw_or1 (pt_cmpR (op_neA hr.units) (pe_callB call_lenA (by rfl) T.n_len (by decide +kernel) (pa_cons (pv 0) pa_nil)) (pe_callB call_lenA (by rfl) T.n_len (by decide +kernel) (pa_cons (pv 1) pa_nil)) (nomark _))))) (pss_one (ps_ret pe_bl)) pss_nil) (pss_cons (ps_set (i := 2) sc__law_right.nd rfl (by first | exact Or.inl rfl | exact Or.inr rfl) pe_int) (pss_cons (ps_for (passes_of rfl) rfl (pi_range1 (by rfl) T.n_range (pa_cons (pe_callB call_lenA (by rfl) T.n_len (by decide +kernel) (pa_cons (pv 1) pa_nil)) pa_nil)) (pg_name (i := 3) sc__law_right.nd rfl (by first | exact Or.inl rfl | exact Or.inr rfl)) (pss_cons (ps_if (PW.pt (pw_or (pt_not (pt_val (pe_callB call_isi (by rfl) T.n_isinstance (by decide +kernel) (pa_cons (pe_ix ix_seq (pv 0) (pv 3) (fun _ _ => rfl)) (pa_cons (pe_bltn (v := .ty "int") (by rfl) T.n_int (by decide +kernel) rfl) pa_nil))))) (pw_or1 (pt_val (pe_callB call_isi (by rfl) T.n_isinstance (by decide +kernel) (pa_cons (pe_ix ix_seq (pv 0) (pv 3) (fun _ _ => rfl)) (pa_cons (pe_bltn (v := .ty "bool") (by rfl) T.n_bool (by decide +kernel) rfl) pa_nil))))))) (pss_one (ps_ret pe_bl)) pss_nil) (pss_cons (ps_set (i := 2) sc__law_right.nd rfl (by first | exact Or.inl rfl | exact Or.inr rfl) (pe_df D__law_common (hr.mono (by decide)) (L2N.takes_of rfl rfl rfl rfl) (pa_cons (pv 2) (pa_cons (pe_ix ix_seq (pv 0) (pv 3) (fun _ _ => rfl)) pa_nil)))) (pss_cons (ps_if (PW.pt (pw_or (pt_cmpR op_lt (pe_op op_mulA (pe_ix ix_seq (pv 0) (pv 3) (fun _ _ => rfl)) (pe_ix ix_seq (pe_df D__law_pair (hr.mono (by decide)) (L2N.takes_of rfl rfl rfl rfl) (pa_cons (pe_ix ix_seq (pv 1) (pv 3) (fun _ _ => rfl)) pa_nil)) pe_int (fun _ _ => rfl))) pe_int (nomark _)) (pw_or1 (pt_cmpR (op_neA hr.units) (pe_cmpR (op_eqA hr.units) (pe_ix ix_seq (pv 0) (pv 3) (fun _ _ => rfl)) pe_int (nomark _)) (pe_cmpR (op_eqA hr.units) (pe_ix ix_seq (pe_df D__law_pair (hr.mono (by decide)) (L2N.takes_of rfl rfl rfl rfl) (pa_cons (pe_ix ix_seq (pv 1) (pv 3) (fun _ _ => rfl)) pa_nil)) pe_int (fun _ _ => rfl)) pe_int (nomark _)) (nomark _))))) (pss_one (ps_ret pe_bl)) pss_nil) (pss_one (ps_for (passes_of rfl) rfl (pi_range1 (by rfl) T.n_range (pa_cons (pv 3) pa_nil)) (pg_name (i := 4) sc__law_right.nd rfl (by first | exact Or.inl rfl | exact Or.inr rfl)) (pss_cons (ps_set (i := 5) sc__law_right.nd rfl (by first | exact Or.inl rfl | exact Or.inr rfl) (pe_df D__law_pair (hr.mono (by decide)) (L2N.takes_of rfl rfl rfl rfl) (pa_cons (pe_ix ix_seq (pv 1) (pv 3) (fun _ _ => rfl)) pa_nil))) (pss_cons (ps_set (i := 6) sc__law_right.nd rfl (by first | exact Or.inl rfl | exact Or.inr rfl) (pe_df D__law_pair (hr.mono (by decide)) (L2N.takes_of rfl rfl rfl rfl) (pa_cons (pe_ix ix_seq (pv 1) (pv 4) (fun _ _ => rfl)) pa_nil))) (pss_one (ps_if (pt_cmpR (op_neA hr.units) (pe_op op_mulA (pe_op op_mulA (pe_ix ix_seq (pv 0) (pv 3) (fun _ _ => rfl)) (pe_ix ix_seq (pv 6) pe_int (fun _ _ => rfl))) (pe_ix ix_seq (pv 5) pe_int (fun _ _ => rfl))) (pe_op op_mulA (pe_op op_mulA (pe_ix ix_seq (pv 0) (pv 4) (fun _ _ => rfl)) (pe_ix ix_seq (pv 5) pe_int (fun _ _ => rfl))) (pe_ix ix_seq (pv 6) pe_int (fun _ _ => rfl))) (nomark _)) (pss_one (ps_ret pe_bl)) pss_nil)))))))))) (pss_one (ps_ret (pe_cmpR op_le (pv 2) pe_int (nomark _))))))), fun r c => ⟨Dead, ?_, fun _ _ h => (dead h).elim⟩⟩)
  have ok : r.ok := c
  have n12 := ok.n
  show St (RsE E NoX 7) [some (Tup K (each r.n fun i => Is (.int (lows r.whole r.n i)))), some (Lst K (each r.n fun i => El K (r.q i))), none, none, none, none, none] _ Dead (Is (.bl true))
  have lenE : ∀ {P : Nat → Pr}, ((each r.n P).length : Int) = (r.n : Int) := fun {P} => by rw [each_len]
  refine st_seq (st_if (et_or (et_not (et_B (ev_cb (ea_cons (ev_var rfl) (ea_cons ev_c ea_nil)) (opA_isi hasTy_tup (b := true) (by decide +kernel))))) (fun _ => et_test (ev_op (ev_cb (ea_cons (ev_var rfl) ea_nil) opA_lenT) (ev_cb (ea_cons (ev_var rfl) ea_nil) opA_lenL) o_neI))) (fun h => ?_) (fun _ => st_next)) ?_
  · rw [lenE, lenE] at h
    simp at h
  refine st_seq (st_set ev_c) ?_
  refine st_seq (M := [some (Tup K (each r.n fun i => Is (.int (lows r.whole r.n i)))), some (Lst K (each r.n fun i => El K (r.q i))), some (Is (.int (gN (lows r.whole r.n) r.n : Int))), none, none, none, none]) ?_ ?_
  · refine st_for (Y := RsE E NoX 7) (n := r.n) (It := fun i => Is (.int (i : Int))) (ei_range1 (Y := RsE E NoX 7) (j := (r.n : Int)) (ea_cons (Ev.to (ev_cb (ea_cons (ev_var rfl) ea_nil) (opA_lenL (K := K) (Ps := each r.n fun i => El K (r.q i)))) (by rw [lenE])) ea_nil) (by omega)) (fun i => [some (Tup K (each r.n fun i => Is (.int (lows r.whole r.n i)))), some (Lst K (each r.n fun i => El K (r.q i))), some (Is (.int (gN (lows r.whole r.n) i : Int))), none, none, none, none]) sub_refl (fun k hk => ?_)
    obtain ⟨sg, sz⟩ := low_sign (r := r) hk
    have lb := lows_big ok hk
    have nb : ∀ j, Big 500 (r.q j).num := fun j => big_mono (ok.s j).1 ok.b
    have db : ∀ j, Big 500 ((r.q j).den : Int) := fun j => big_mono (sz_den (ok.s j)) ok.b
    have told : ∀ {G : Ctx} {i j : Nat}, j < r.n → MnC Evl.Ex G → G[0]? = some (some (Tup K (each r.n fun i => Is (.int (lows r.whole r.n i))))) → G[i]? = some (some (Is (.int (j : Int)))) → Ev (RsE E NoX 7) G (tOp (rIx K) (tVar 0) (tVar i)) (Is (.int (lows r.whole r.n j))) := fun hj mc h0 h1 => by
      haveI := mc
      exact ev_op (ev_var h0) (ev_var h1) (o_ixT (each_get hj))
    have pairE : ∀ {G : Ctx} {i j : Nat}, j < r.n → MnC Evl.Ex G → G[1]? = some (some (Lst K (each r.n fun i => El K (r.q i)))) → G[i]? = some (some (Is (.int (j : Int)))) → Ev (RsE E NoX 7) G (tCallS (sp_pair K) (fun _ => E) (tCons (tOp (rIx K) (tVar 1) (tVar i)) tNil)) (Told K (r.q j)) := fun hj mc h0 h1 => by
      haveI := mc
      exact ev_call (ea_cons (ev_op (ev_var h0) (ev_var h1) (o_ixL (each_get hj))) ea_nil) cl_pair
    refine st_seq (st_if (et_or (et_not (et_B (ev_cb (ea_cons (told hk inferInstance rfl rfl) (ea_cons ev_c ea_nil)) (opA_isi hasTy_int (b := true) (by decide +kernel))))) (fun _ => et_B (ev_cb (ea_cons (told hk inferInstance rfl rfl) (ea_cons ev_c ea_nil)) (opA_isi hasTy_int (b := false) (by decide +kernel))))) (fun h => by cases h) (fun _ => st_next)) ?_
    refine st_seq (st_set (P := Is (.int (gN (lows r.whole r.n) (k + 1) : Int))) (Ev.to (ev_call (ea_cons (ev_var rfl) (ea_cons (told hk inferInstance rfl rfl) ea_nil)) cl_common) (by rw [Int.natAbs_natCast]; rfl))) ?_
    refine st_seq (st_if (et_or (et_test (ev_op (ev_op (told hk inferInstance rfl rfl) (ev_op (pairE hk inferInstance rfl rfl) ev_c (o_ixT (Ps := [Is (.int (r.q k).num), Is (.int (r.q k).den)]) (i := 0) rfl)) (o_mul lb (nb k) (by decide))) ev_c op2_I0)) (fun _ => et_test (ev_op (ev_op (told hk inferInstance rfl rfl) ev_c o_eqI) (ev_op (ev_op (pairE hk inferInstance rfl rfl) ev_c (o_ixT (Ps := [Is (.int (r.q k).num), Is (.int (r.q k).den)]) (i := 0) rfl)) ev_c o_eqI) o_neB))) (fun h => ?_) (fun _ => st_next)) ?_
    · rw [decide_eq_false (by omega), decide_eq_true (show V.bl (decide (lows r.whole r.n k = 0)) = V.bl (decide ((r.q k).num = 0)) by rw [decide_eq_decide.mpr sz])] at h
      cases h
    refine st_post (N' := [some (Tup K (each r.n fun i => Is (.int (lows r.whole r.n i)))), some (Lst K (each r.n fun i => El K (r.q i))), some (Is (.int (gN (lows r.whole r.n) (k + 1) : Int))), some (Is (.int (k : Int))), none, none, none]) ?_ (sub_keep (sub_keep (sub_keep (sub_drop (sub_keep (sub_keep (sub_keep sub_nil))))))) (fun _ _ h => h)
    refine st_for (Y := RsE E NoX 7) (n := k) (It := fun i => Is (.int (i : Int))) (ei_range1 (Y := RsE E NoX 7) (j := (k : Int)) (ea_cons (ev_var rfl) ea_nil) (by omega)) (fun _ => [some (Tup K (each r.n fun i => Is (.int (lows r.whole r.n i)))), some (Lst K (each r.n fun i => El K (r.q i))), some (Is (.int (gN (lows r.whole r.n) (k + 1) : Int))), some (Is (.int (k : Int))), none, none, none]) sub_refl (fun m hm => ?_)
    have hm' : m < r.n := by omega
    have lb' := lows_big ok hm'
    refine st_seq (st_set (pairE hk inferInstance rfl rfl)) ?_
    refine st_seq (st_set (pairE hm' inferInstance rfl rfl)) ?_
    refine st_post (N' := [some (Tup K (each r.n fun i => Is (.int (lows r.whole r.n i)))), some (Lst K (each r.n fun i => El K (r.q i))), some (Is (.int (gN (lows r.whole r.n) (k + 1) : Int))), some (Is (.int (k : Int))), some (Is (.int (m : Int))), some (Told K (r.q k)), some (Told K (r.q m))]) (st_if (et_test (ev_op (ev_op (ev_op (told hk inferInstance rfl rfl) (ev_op (ev_var rfl) ev_c (o_ixT (Ps := [Is (.int (r.q m).num), Is (.int (r.q m).den)]) (i := 0) rfl)) (o_mul lb (nb m) (by decide))) (ev_op (ev_var rfl) ev_c (o_ixT (Ps := [Is (.int (r.q k).num), Is (.int (r.q k).den)]) (i := 1) rfl)) (o_mul (big_mul lb (nb m)) (db k) (by decide))) (ev_op (ev_op (told hm' inferInstance rfl rfl) (ev_op (ev_var rfl) ev_c (o_ixT (Ps := [Is (.int (r.q k).num), Is (.int (r.q k).den)]) (i := 0) rfl)) (o_mul lb' (nb k) (by decide))) (ev_op (ev_var rfl) ev_c (o_ixT (Ps := [Is (.int (r.q m).num), Is (.int (r.q m).den)]) (i := 1) rfl)) (o_mul (big_mul lb' (nb k)) (db m) (by decide))) o_neI)) (fun h => absurd (low_cross hk hm') (of_decide_eq_true h)) (fun _ => st_next)) (sub_keep (sub_keep (sub_keep (sub_keep (sub_drop (sub_drop (sub_drop sub_nil))))))) (fun _ _ h => h)
  · refine st_ret (Ev.to (ev_op (ev_var rfl) ev_c op2_I0) ?_)
    have := lows_gcd (z := r.whole) (n := r.n)
    exact congrArg V.bl (decide_eq_true (by omega))
end
end U

namespace U
open PySem PySem.Spec PyProof.Rows L2
/-! ### refused -/
abbrev s__law_refused : Stmt := top 23
theorem sc__law_refused : FnScope ["_law_name", "_law_one", "_law_other", "e"] ["_law_name", "_law_one", "_law_other"] (defScope s__law_refused) := ⟨rfl, rfl, rfl, by decide +kernel, rfl, by decide +kernel, by decide +kernel⟩
def nmOf : Nat → Str
  | 0 => "of"
  | 1 => "plus"
  | 2 => "minus"
  | 3 => "times"
  | 4 => "over"
  | 5 => "compare"
  | _ => "row"
theorem nm_eq : ∀ j : Fin 7, ∀ k : Fin 7, decide (nmOf j = nmOf k) = decide (j = k) := by decide +kernel
theorem op_eqT {X : Cx} {pn : List (Addr × Obj)} {xe : Value → Shared → Prop} (hu : X.A.units + 64 < cLine) : OpR (X.tr pn xe) (compareOp .Eq) (rEqA X.K) := op_eqA (X := X.tr pn xe) hu
theorem st_dropX {Y : Rs} {G N : Ctx} {te : TE} {R : Pr} (h : Ev Y G te NoV) : St Y G (tDrop te) N R := fun s H D ty hx n _ => h s H ty hx _ fun v H2 w p => p.elim
section
variable {Y : Rs} [w : PreT Y.W] {G N : Ctx} [mc : MnC Y.W G] {R : Pr} {K : PySem.W.Frag}
theorem st_is {j k : Nat} (hj : j < 7) (hk : k < 7) (hv : G[0]? = some (some (Is (.str (nmOf j))))) {c rest : TS} (h1 : j = k → St Y G c N R) (h2 : j ≠ k → St Y G rest N R) : St Y G (tIfS (tTest (tOp (rEqA K) (tVar 0) (tC (.str (nmOf k))))) c rest) N R := by
  have e := nm_eq ⟨j, hj⟩ ⟨k, hk⟩
  replace e : decide (nmOf j = nmOf k) = decide ((⟨j, hj⟩ : Fin 7) = ⟨k, hk⟩) := e
  refine st_if (et_test (ev_op (ev_var hv) ev_c o_eqS)) (fun h => h1 ?_) (fun h => h2 ?_)
  · rw [e] at h
    exact congrArg Fin.val (of_decide_eq_true h)
  · rw [e] at h
    exact fun z => of_decide_eq_false h (Fin.ext z)
theorem st_chain {j : Nat} (hj : j < 7) (hv : G[0]? = some (some (Is (.str (nmOf j))))) {c0 c1 c2 c3 c4 c5 c6 : TS} (h0 : j = 0 → St Y G c0 N R) (h1 : j = 1 → St Y G c1 N R) (h2 : j = 2 → St Y G c2 N R) (h3 : j = 3 → St Y G c3 N R) (h4 : j = 4 → St Y G c4 N R) (h5 : j = 5 → St Y G c5 N R) (h6 : j = 6 → St Y G c6 N R) :
    St Y G (tIfS (tTest (tOp (rEqA K) (tVar 0) (tC (.str "of")))) c0 (tIfS (tTest (tOp (rEqA K) (tVar 0) (tC (.str "plus")))) c1 (tIfS (tTest (tOp (rEqA K) (tVar 0) (tC (.str "minus")))) c2 (tIfS (tTest (tOp (rEqA K) (tVar 0) (tC (.str "times")))) c3
      (tIfS (tTest (tOp (rEqA K) (tVar 0) (tC (.str "over")))) c4 (tIfS (tTest (tOp (rEqA K) (tVar 0) (tC (.str "compare")))) c5 c6)))))) N R :=
  st_is (k := 0) hj (by decide) hv h0 fun n0 => st_is (k := 1) hj (by decide) hv h1 fun n1 => st_is (k := 2) hj (by decide) hv h2 fun n2 => st_is (k := 3) hj (by decide) hv h3 fun n3 => st_is (k := 4) hj (by decide) hv h4 fun n4 => st_is (k := 5) hj (by decide) hv h5 fun n5 => h6 (by omega)
end
/-- what is asked: of odd things, and of good ones -/
inductive RefW
  | odd1 (j : Nat) (o : OddW) (n : Nat) (q : Rat)
  | odd2 (j : Nat) (n : Nat) (q : Rat) (o : OddW)
  | good (j : Nat) (n : Nat) (q r : Rat)
  | over (n : Nat) (q r : Rat)
def wRef (K : PySem.W.Frag) : RefW → Way
  | .odd1 j o n q => ⟨[Is (.str (nmOf j)), o.pr K, IsR K n q], Is (.bl true), NoX⟩
  | .odd2 j n q o => ⟨[Is (.str (nmOf j)), IsR K n q, o.pr K], Is (.bl true), NoX⟩
  | .good j n q r => ⟨[Is (.str (nmOf j)), IsR K n q, IsR K n r], Is (.bl false), NoX⟩
  | .over n q r => ⟨[Is (.str (nmOf 4)), IsR K n q, IsR K n r], Is (.bl (decide (r = 0))), NoX⟩
def okRef (K : PySem.W.Frag) : RefW → Prop
  | .odd1 j o n _ => j < 7 ∧ o.ok K ∧ n ≤ 500
  | .odd2 j n _ o => j < 7 ∧ j ≠ 0 ∧ n ≤ 500 ∧ o.ok K
  | .good j n q r => j < 7 ∧ j ≠ 4 ∧ n ≤ 500 ∧ Sz n q ∧ Sz n r
  | .over n q r => n ≤ 500 ∧ Sz n q ∧ Sz n r
def sp_ref (K : PySem.W.Frag) : Sp := SpW Evl.Ex (okRef K) (wRef K)
theorem safe2 {Ps : List Pr} (h : Ps.length = 2) : ∀ vs H, AllP Ps vs H → Safe H vs := fun vs H a => by
  have l := allp_len a
  rw [h] at l
  match vs, l with
  | [x, y], _ => exact .inl (by unfold hs; split <;> first | rfl | (rename_i e; cases e))
section
variable {P : Program} {w : World} {K : PySem.W.Frag} {mg : Str → Option Value} {base : Heap} {CX : Addrs}
abbrev refB (K : PySem.W.Frag) (CX : Addrs) (W : WX) : TS :=
  tIfS (tTest (tOp (rEqA K) (tVar 0) (tC (.str "of")))) (tDrop (tCallS (sp_ratio_of K CX) (WE W) (tCons (tVar 1) tNil)))
    (tIfS (tTest (tOp (rEqA K) (tVar 0) (tC (.str "plus")))) (tDrop (tCallS (sp_plus K CX) (WE W) (tCons (tVar 1) (tCons (tVar 2) tNil))))
      (tIfS (tTest (tOp (rEqA K) (tVar 0) (tC (.str "minus")))) (tDrop (tCallS (sp_minus K CX) (WE W) (tCons (tVar 1) (tCons (tVar 2) tNil))))
        (tIfS (tTest (tOp (rEqA K) (tVar 0) (tC (.str "times")))) (tDrop (tCallS (sp_times K CX) (WE W) (tCons (tVar 1) (tCons (tVar 2) tNil))))
          (tIfS (tTest (tOp (rEqA K) (tVar 0) (tC (.str "over")))) (tDrop (tCallS (sp_over K CX) (WE W) (tCons (tVar 1) (tCons (tVar 2) tNil))))
            (tIfS (tTest (tOp (rEqA K) (tVar 0) (tC (.str "compare")))) (tDrop (tCallS (sp_compare K CX) (WE W) (tCons (tVar 1) (tCons (tVar 2) tNil))))
              (tDrop (tCallS (sp_low K CX) (WE W) (tCons (tLst (tCons (tVar 1) (tCons (tVar 2) tNil))) tNil))))))))
abbrev refS (K : PySem.W.Frag) (CX : Addrs) (a : Addr) (cls : Value) (d : Option Addr) : TS :=
  tWhen (cls = Value.ref CX.BadRatio ∧ d = none) (tRet (tAndV (tCB (rIsE K CX.BadRatio a) (tCons (tVar 3) (tCons (tC (V.ref CX.GapError)) tNil))) (tCB (rIsE K CX.BadRatio a) (tCons (tVar 3) (tCons (tC (V.ty "ValueError")) tNil)))))
abbrev refT (K : PySem.W.Frag) (CX : Addrs) : TS := tSeq (fun D σ H => refB K CX (wAs K (.ref CX.BadRatio) 3 (refS K CX) (fun _ _ _ _ => False) D) D σ H) (tRet (tC (.bl false)))
theorem st_when {Y : Rs} {G N : Ctx} {t : TS} {R : Pr} {p : Prop} (z : p) (h : St Y G t N R) : St Y G (tWhen p t) N R := fun s H D ty hx n r => ⟨z, h s H D ty hx n r⟩
/-- it is refused -/
theorem st_yes {E : XK} {G : Ctx} [mc : MnC Evl.Ex G] (T : Txt P w K mg CX) (body : ∀ W : WX, St ⟨Evl.Ex, WE W, [none, none, none, none], RX CX⟩ G (refB K CX W) Dead (Is (.bl true))) : St (RsE E NoX 4) G (refT K CX) Dead (Is (.bl true)) := by
  refine st_seq (M := Dead) ?_ (fun s H D ty => (dead ty).elim)
  refine st_try (Y := RsE E NoX 4) (G' := [none, none, none, none]) (X' := RX CX) (M' := Dead) (tb := refB K CX) (ts := refS K CX) body (fun cls d H z => ⟨by rw [z.1]; exact T.m_BadRatio, fun a => ?_⟩) (fun _ _ z => (dead z).elim)
  refine st_when z ?_
  show St (RsE E NoX 4) [none, none, none, some (Is (.ref a))] _ Dead (Is (.bl true))
  exact st_ret (ev_andV (Y := RsE E NoX 4) (b := true) (ev_cb (ea_cons (ev_var rfl) (ea_cons ev_c ea_nil)) (ei_isE (c := V.ref CX.GapError) T.k_BadRatio_GapError (fun _ e => e))) fun _ => ev_cb (ea_cons (ev_var rfl) (ea_cons ev_c ea_nil)) (ei_isE (c := V.ty "ValueError") T.k_BadRatio_ValueError (fun _ e => e)))
/-- it is let -/
theorem st_no {E : XK} {G : Ctx} [mc : MnC Evl.Ex G] (hG : G.length = 4) (hi : G[3]? = some none) (body : ∀ W : WX, St ⟨Evl.Ex, WE W, [none, none, none, none], NoX⟩ G (refB K CX W) G (Is (.bl false))) : St (RsE E NoX 4) G (refT K CX) Dead (Is (.bl false)) := by
  refine st_seq (M := G) ?_ (st_ret ev_c)
  exact st_try (Y := RsE E NoX 4) (G' := [none, none, none, none]) (X' := NoX) (M' := Dead) (tb := refB K CX) (ts := refS K CX) body (fun _ _ _ z => z.elim) (fun _ _ z => (dead z).elim)
theorem ok_refused {f : Addr} {fd : FuncData} (F : Fun K "_law_refused" "_law_refused" s__law_refused f fd) (T : Txt P w K mg CX)
    (D_ratio_of : Df P w K mg base 3 "ratio_of" ["thing"] (sp_ratio_of K CX)) (D_plus : Df P w K mg base 4 "plus" ["one", "other"] (sp_plus K CX)) (D_minus : Df P w K mg base 4 "minus" ["one", "other"] (sp_minus K CX))
    (D_times : Df P w K mg base 4 "times" ["one", "other"] (sp_times K CX)) (D_over : Df P w K mg base 4 "over" ["one", "other"] (sp_over K CX)) (D_compare : Df P w K mg base 4 "compare" ["one", "other"] (sp_compare K CX)) (D_lowest_row : Df P w K mg base 4 "lowest_row" ["numbers"] (sp_low K CX)) :
    FnOk P w K mg base (L2N.CX P w) 5 f fd ["_law_name", "_law_one", "_law_other"] (sp_ref K) := by
  refine okW F sc__law_refused (fun i => by cases i <;> rfl) (by decide) (fun cdv A outer s H E hr => ⟨_, (pss_cons (L2N.ps_try_as (i := 3) rfl rfl sc__law_refused.nd rfl rfl ⟨rfl, by decide, Or.inl T.g_BadRatio⟩ takesF (fun W pn xe tk _ => (pss_one (ps_if (pt_cmpR (op_eqT hr.units) (pv 0) pe_str (nomark _)) (pss_one (ps_expr (pe_df D_ratio_of (hr.mono (by decide)) tk (pa_cons (pv 1) pa_nil)))) (pss_one (ps_if (pt_cmpR (op_eqT hr.units) (pv 0) pe_str (nomark _)) (pss_one (ps_expr (pe_df D_plus (hr.mono (by decide)) tk (pa_cons (pv 1) (pa_cons (pv 2) pa_nil))))) (pss_one (ps_if (pt_cmpR (op_eqT hr.units) (pv 0) pe_str (nomark _)) (pss_one (ps_expr (pe_df D_minus (hr.mono (by decide)) tk (pa_cons (pv 1) (pa_cons (pv 2) pa_nil))))) (pss_one (ps_if (pt_cmpR (op_eqT hr.units) (pv 0) pe_str (nomark _)) (pss_one (ps_expr (pe_df D_times (hr.mono (by decide)) tk (pa_cons (pv 1) (pa_cons (pv 2) pa_nil))))) (pss_one (ps_if (pt_cmpR (op_eqT hr.units) (pv 0) pe_str (nomark _)) (pss_one (ps_expr (pe_df D_over (hr.mono (by decide)) tk (pa_cons (pv 1) (pa_cons (pv 2) pa_nil))))) (pss_one (ps_if (pt_cmpR (op_eqT hr.units) (pv 0) pe_str (nomark _)) (pss_one (ps_expr (pe_df D_compare (hr.mono (by decide)) tk (pa_cons (pv 1) (pa_cons (pv 2) pa_nil))))) (pss_one (ps_expr (pe_df D_lowest_row (hr.mono (by decide)) tk (pa_cons (pe_lst (pa_cons (pv 1) (pa_cons (pv 2) pa_nil))) pa_nil))))))))))))))))) (fun a oe cls d pn hz hf => pss_when fun z1 z2 => (pss_one (ps_ret (pe_and (pe_callB (call_isE2 T.x_BadRatio z1 z2 hz hf) (by rfl) T.n_isinstance (by decide +kernel) (pa_cons (pv 3) (pa_cons (pe_glob (v := .ref CX.GapError) (by rfl) T.g_GapError rfl) pa_nil))) (pe_one (pe_callB (call_isE2 T.x_BadRatio z1 z2 hz hf) (by rfl) T.n_isinstance (by decide +kernel) (pa_cons (pv 3) (pa_cons (pe_bltn (v := .ty "ValueError") (by rfl) T.n_ValueError (by decide +kernel) rfl) pa_nil))))))))) (pss_one (ps_ret pe_bl))), fun i c => ⟨Dead, ?_, fun _ _ h => (dead h).elim⟩⟩)
  have lst2 : ∀ {W : WX} {X : XP} {G : Ctx} {P1 P2 : Pr} [MnC Evl.Ex G] [Mn Evl.Ex P1] [Mn Evl.Ex P2], G[1]? = some (some P1) → G[2]? = some (some P2) → Ev ⟨Evl.Ex, WE W, [none, none, none, none], X⟩ G (tLst (tCons (tVar 1) (tCons (tVar 2) tNil))) (Lst K [P1, P2]) := fun h1 h2 => ev_lst (ea_cons (ev_var h1) (ea_cons (ev_var h2) ea_nil)) (safe2 rfl)
  have sb : ∀ {P1 P2 P3 : Pr}, Sub [some P1, some P2, some P3, none] [none, none, none, none] := sub_none rfl
  cases i with
  | odd1 j o n q =>
    obtain ⟨hj, ho, hn⟩ := (c : j < 7 ∧ o.ok K ∧ n ≤ 500)
    haveI := OddW.mn ho
    show St (RsE E NoX 4) [some (Is (.str (nmOf j))), some (o.pr K), some (IsR K n q), none] (refT K CX) Dead (Is (.bl true))
    have two : ∀ {W : WX}, EvA ⟨Evl.Ex, WE W, [none, none, none, none], RX CX⟩ [some (Is (.str (nmOf j))), some (o.pr K), some (IsR K n q), none] (tCons (tVar 1) (tCons (tVar 2) tNil)) [o.pr K, IsR K n q] := ea_cons (ev_var rfl) (ea_cons (ev_var rfl) ea_nil)
    refine st_yes T fun W => st_chain hj rfl (fun _ => st_dropX (ev_callX (ea_cons (ev_var rfl) ea_nil) (cl_rofX ho) sb)) (fun _ => st_dropX (ev_callX two (cl_2a ho) sb)) (fun _ => st_dropX (ev_callX two (cl_2a ho) sb)) (fun _ => st_dropX (ev_callX two (cl_2a ho) sb)) (fun _ => st_dropX (ev_callX two (cl_over1 ho) sb)) (fun _ => st_dropX (ev_callX two (cl_2a ho) sb)) (fun _ => st_dropX (ev_callX (ea_cons (Ev.sub (lst2 rfl rfl) fun v H h => lst_n h) ea_nil) (cl_lowX (n := 2) (m := n) (k := 0) (q := fun _ => q) (by decide) (by decide) (by omega) ho) sb))
  | odd2 j n q o =>
    obtain ⟨hj, j0, hn, ho⟩ := (c : j < 7 ∧ j ≠ 0 ∧ n ≤ 500 ∧ o.ok K)
    haveI := OddW.mn ho
    show St (RsE E NoX 4) [some (Is (.str (nmOf j))), some (IsR K n q), some (o.pr K), none] (refT K CX) Dead (Is (.bl true))
    have two : ∀ {W : WX}, EvA ⟨Evl.Ex, WE W, [none, none, none, none], RX CX⟩ [some (Is (.str (nmOf j))), some (IsR K n q), some (o.pr K), none] (tCons (tVar 1) (tCons (tVar 2) tNil)) [IsR K n q, o.pr K] := ea_cons (ev_var rfl) (ea_cons (ev_var rfl) ea_nil)
    have h8 : n ≤ 8000 := by omega
    refine st_yes T fun W => st_chain hj rfl (fun z => absurd z j0) (fun _ => st_dropX (ev_callX two (cl_2b h8 ho) sb)) (fun _ => st_dropX (ev_callX two (cl_2b h8 ho) sb)) (fun _ => st_dropX (ev_callX two (cl_2b h8 ho) sb)) (fun _ => st_dropX (ev_callX two (cl_over2 h8 ho) sb)) (fun _ => st_dropX (ev_callX two (cl_2b h8 ho) sb)) (fun _ => st_dropX (ev_callX (ea_cons (Ev.sub (lst2 rfl rfl) fun v H h => lst_n h) ea_nil) (cl_lowX (n := 2) (m := n) (k := 1) (q := fun _ => q) (by decide) (by decide) h8 ho) sb))
  | good j n q r =>
    obtain ⟨hj, j4, hn, hq, hr'⟩ := (c : j < 7 ∧ j ≠ 4 ∧ n ≤ 500 ∧ Sz n q ∧ Sz n r)
    show St (RsE E NoX 4) [some (Is (.str (nmOf j))), some (IsR K n q), some (IsR K n r), none] (refT K CX) Dead (Is (.bl false))
    have two : ∀ {W : WX}, EvA ⟨Evl.Ex, WE W, [none, none, none, none], NoX⟩ [some (Is (.str (nmOf j))), some (IsR K n q), some (IsR K n r), none] (tCons (tVar 1) (tCons (tVar 2) tNil)) [IsR K n q, IsR K n r] := ea_cons (ev_var rfl) (ea_cons (ev_var rfl) ea_nil)
    have h3 : n ≤ 3900 := by omega
    have rok : (⟨2, n, fun i => if i = 0 then q else r⟩ : Row).ok := ⟨show (2 : Nat) ≤ 12 by decide, fun i => by dsimp only; split <;> assumption, hn⟩
    have low := cl_lowL (K := K) (CX := CX) (W := Evl.Ex) (X := NoX) rok
    refine st_no rfl rfl fun W => st_chain hj rfl (fun _ => st_drop (ev_call (ea_cons (ev_var rfl) ea_nil) (cl_ratio_of (by omega)))) (fun _ => st_drop (ev_call two (cl_2 h3 hq hr'))) (fun _ => st_drop (ev_call two (cl_2 h3 hq hr'))) (fun _ => st_drop (ev_call two (cl_2 h3 hq hr'))) (fun z => absurd z j4) (fun _ => st_drop (ev_call two (cl_2 h3 hq hr'))) (fun _ => st_drop (ev_call (ea_cons (lst2 rfl rfl) ea_nil) low))
  | over n q r =>
    obtain ⟨hn, hq, hr'⟩ := (c : n ≤ 500 ∧ Sz n q ∧ Sz n r)
    have h3 : n ≤ 3900 := by omega
    show St (RsE E NoX 4) [some (Is (.str (nmOf 4))), some (IsR K n q), some (IsR K n r), none] (refT K CX) Dead (Is (.bl (decide (r = 0))))
    have two : ∀ {W : WX} {X : XP}, EvA ⟨Evl.Ex, WE W, [none, none, none, none], X⟩ [some (Is (.str (nmOf 4))), some (IsR K n q), some (IsR K n r), none] (tCons (tVar 1) (tCons (tVar 2) tNil)) [IsR K n q, IsR K n r] := ea_cons (ev_var rfl) (ea_cons (ev_var rfl) ea_nil)
    by_cases h0 : r = 0
    · rw [decide_eq_true h0]
      exact st_yes T fun W => st_chain (j := 4) (by decide) rfl (fun z => by cases z) (fun z => by cases z) (fun z => by cases z) (fun z => by cases z) (fun _ => st_dropX (ev_callX two (cl_overX h3 hq hr' h0) sb)) (fun z => by cases z) (fun z => by cases z)
    · rw [decide_eq_false h0]
      exact st_no rfl rfl fun W => st_chain (j := 4) (by decide) rfl (fun z => by cases z) (fun z => by cases z) (fun z => by cases z) (fun z => by cases z) (fun _ => st_drop (ev_call two (cl_over h3 hq hr' h0))) (fun z => by cases z) (fun z => by cases z)
theorem cl_ref1 {W : HR} [Pre W] {j : Nat} {o : OddW} {n : Nat} {q : Rat} (hj : j < 7) (ho : o.ok K) (hn : n ≤ 500) : Cl W (sp_ref K) [Is (.str (nmOf j)), o.pr K, IsR K n q] (Is (.bl true)) NoX := cl_of (W := Evl.Ex) (C := okRef K) (f := wRef K) (.odd1 j o n q) ⟨hj, ho, hn⟩
theorem cl_ref2 {W : HR} [Pre W] {j : Nat} {o : OddW} {n : Nat} {q : Rat} (hj : j < 7) (j0 : j ≠ 0) (ho : o.ok K) (hn : n ≤ 500) : Cl W (sp_ref K) [Is (.str (nmOf j)), IsR K n q, o.pr K] (Is (.bl true)) NoX := cl_of (W := Evl.Ex) (C := okRef K) (f := wRef K) (.odd2 j n q o) ⟨hj, j0, hn, ho⟩
theorem cl_refG {W : HR} [Pre W] {j : Nat} {n : Nat} {q r : Rat} (hj : j < 7) (j4 : j ≠ 4) (hn : n ≤ 500) (hq : Sz n q) (hr : Sz n r) : Cl W (sp_ref K) [Is (.str (nmOf j)), IsR K n q, IsR K n r] (Is (.bl false)) NoX := cl_of (W := Evl.Ex) (C := okRef K) (f := wRef K) (.good j n q r) ⟨hj, j4, hn, hq, hr⟩
theorem cl_refO {W : HR} [Pre W] {n : Nat} {q r : Rat} (hn : n ≤ 500) (hq : Sz n q) (hr : Sz n r) : Cl W (sp_ref K) [Is (.str (nmOf 4)), IsR K n q, IsR K n r] (Is (.bl (decide (r = 0)))) NoX := cl_of (W := Evl.Ex) (C := okRef K) (f := wRef K) (.over n q r) ⟨hn, hq, hr⟩
end
end U

namespace U
open PySem PySem.Spec PyProof.Rows L2
/-! ### the same within an except suite -/
section
variable {P : Program} {w : World} {K : PySem.W.Frag} {mg : Str → Option Value} {base : Heap} {CX : Addrs}
theorem okH_is_whole {f : Addr} {fd : FuncData} (F : Fun K "is_whole" "is_whole" s_is_whole f fd) (T : Txt P w K mg CX) : L2H.FnH P w K mg base (L2N.CX P w) 1 f fd ["thing"] (sp_is_whole K) := by
  refine okWH F sc_is_whole (fun i => rfl) (by decide) (fun cdv A outer s H E p hp hr => ⟨_, (pss_one (ps_ret (pe_and (pe_callB call_isi (by rfl) T.n_isinstance (by decide +kernel) (pa_cons (pv 0) (pa_cons (pe_bltn (v := .ty "int") (by rfl) T.n_int (by decide +kernel) rfl) pa_nil))) (pe_one (pe_not (pe_callB call_isi (by rfl) T.n_isinstance (by decide +kernel) (pa_cons (pv 0) (pa_cons (pe_bltn (v := .ty "bool") (by rfl) T.n_bool (by decide +kernel) rfl) pa_nil)))))))), fun i c => ⟨Dead, ?_, fun _ _ h => (dead h).elim⟩⟩)
  obtain ⟨P, t, b1, b2⟩ := i
  obtain ⟨⟨m, ty⟩, k1, k2⟩ := c
  haveI := m
  show St (RsE E NoX 1) [some P] _ Dead (Is (.bl (b1 && !b2)))
  exact st_ret (ev_andV (ev_cb (ea_cons (ev_var rfl) (ea_cons ev_c ea_nil)) (opA_isi ty k1)) fun _ => ev_notV (ev_cb (ea_cons (ev_var rfl) (ea_cons ev_c ea_nil)) (opA_isi ty k2)))
theorem okH_is_ratio {f : Addr} {fd : FuncData} (F : Fun K "is_ratio" "is_ratio" s_is_ratio f fd) (T : Txt P w K mg CX) (DH_is_whole : DfH P w K mg base 1 "is_whole" ["thing"] (sp_is_whole K)) :
    L2H.FnH P w K mg base (L2N.CX P w) 2 f fd ["thing"] (sp_is_ratio K) := by
  refine okWH F sc_is_ratio (fun i => by cases i <;> rfl) (by decide) (fun cdv A outer s H E p hp hr => ⟨_, (pss_cons (ps_if (pt_not (pt_val (pe_callB call_isi (by rfl) T.n_isinstance (by decide +kernel) (pa_cons (pv 0) (pa_cons (pe_bltn (v := .ty "tuple") (by rfl) T.n_tuple (by decide +kernel) rfl) pa_nil))))) (pss_one (ps_ret (pe_dfH DH_is_whole (L2H.RoomH.mono hr (by decide)) (hot_cx hp) (L2N.takes_of rfl rfl rfl rfl) (pa_cons (pv 0) pa_nil)))) pss_nil) (pss_one (ps_ret (pe_and (pe_cmpR (op_eqA (units_h hr)) (pe_callB call_lenA (by rfl) T.n_len (by decide +kernel) (pa_cons (pv 0) pa_nil)) pe_int (nomark _)) (pe_and (pe_dfH DH_is_whole (L2H.RoomH.mono hr (by decide)) (hot_cx hp) (L2N.takes_of rfl rfl rfl rfl) (pa_cons (pe_ix ix_seq (pv 0) pe_int (fun _ _ => rfl)) pa_nil)) (pe_and (pe_dfH DH_is_whole (L2H.RoomH.mono hr (by decide)) (hot_cx hp) (L2N.takes_of rfl rfl rfl rfl) (pa_cons (pe_ix ix_seq (pv 0) pe_int (fun _ _ => rfl)) pa_nil)) (pe_one (pe_cmpR op_ge (pe_ix ix_seq (pv 0) pe_int (fun _ _ => rfl)) pe_int (nomark _))))))))), fun i c => ⟨Dead, ?_, fun _ _ h => (dead h).elim⟩⟩)
  cases i with
  | int i =>
    show St (RsE E NoX 1) [some (Is (.int i))] _ Dead (Is (.bl true))
    refine st_seq (M := Dead) (st_if (et_not (et_B (ev_cb (ea_cons (ev_var rfl) (ea_cons ev_c ea_nil)) (opA_isi hasTy_int (b := false) (by decide +kernel))))) (fun _ => st_ret (ev_call (ea_cons (ev_var rfl) ea_nil) cl_whole)) (fun h => by cases h)) ?_
    exact fun s H D ty => (dead ty).elim
  | tup a b =>
    have hb : 0 < b := c
    show St (RsE E NoX 1) [some (Tup K [Is (.int a), Is (.int b)])] _ Dead (Is (.bl true))
    refine st_seq (st_if (et_not (et_B (ev_cb (ea_cons (ev_var rfl) (ea_cons ev_c ea_nil)) (opA_isi hasTy_tup (b := true) (by decide +kernel))))) (fun h => by cases h) (fun _ => st_next)) ?_
    refine st_ret (Ev.to (ev_andV (ev_op (ev_cb (ea_cons (ev_var rfl) ea_nil) opA_lenT) ev_c o_eqI) fun _ => ev_andV (ev_call (ea_cons (ev_op (ev_var rfl) ev_c (o_ixT (i := 0) rfl)) ea_nil) cl_whole) fun _ => ev_andV (ev_call (ea_cons (ev_op (ev_var rfl) ev_c (o_ixT (i := 1) rfl)) ea_nil) cl_whole) fun _ => (ev_op (ev_op (ev_var rfl) ev_c (o_ixT (i := 1) rfl)) ev_c op2_I0)) ?_)
    show V.bl (true && (true && (true && decide (1 ≤ b)))) = V.bl true
    rw [decide_eq_true (show 1 ≤ b by omega)]
    rfl
  | odd o =>
    haveI := OddW.mn (K := K) (o := o) c
    have ist : ∀ {Ps : List Pr} [MnL Evl.Ex Ps] {ts : TS}, EvT (RsE E NoX 1) [some (Tup K Ps)] (tNot (tB (tCB (rIsi K) (tCons (tVar 0) (tCons (tC (.ty "tuple")) tNil))))) (!true) := fun {Ps} _ {ts} => et_not (et_B (ev_cb (ea_cons (ev_var rfl) (ea_cons ev_c ea_nil)) (opA_isi hasTy_tup (b := true) (by decide +kernel))))
    cases o with
    | other P t =>
      obtain ⟨k, nw, kt⟩ := (c : KindOf K P t ∧ notWhole t ∧ kitB t "tuple" = some false)
      haveI := k.mn
      show St (RsE E NoX 1) [some P] _ Dead (Is (.bl false))
      refine st_seq (M := Dead) (st_if (et_not (et_B (ev_cb (ea_cons (ev_var rfl) (ea_cons ev_c ea_nil)) (opA_isi k.ty kt)))) (fun _ => st_ret (ev_call (ea_cons (ev_var rfl) ea_nil) (cl_notWhole k nw))) (fun h => by cases h)) (fun s H D ty => (dead ty).elim)
    | len Ps =>
      obtain ⟨m, l⟩ := (c : MnL Evl.Ex Ps ∧ Ps.length ≠ 2)
      haveI := m
      show St (RsE E NoX 1) [some (Tup K Ps)] _ Dead (Is (.bl false))
      refine st_seq (st_if (ist (ts := tNext)) (fun h => by cases h) (fun _ => st_next)) ?_
      refine st_ret (Ev.to (ev_andV (b := false) (ev_op (ev_cb (ea_cons (ev_var rfl) ea_nil) opA_lenT) ev_c o_eqI) fun h => absurd (of_decide_eq_true h) (by omega)) ?_)
      rw [Bool.and_false]
    | fst P Q t =>
      obtain ⟨k, mq, nw⟩ := (c : KindOf K P t ∧ Mn Evl.Ex Q ∧ notWhole t)
      haveI := k.mn
      haveI := mq
      show St (RsE E NoX 1) [some (Tup K [P, Q])] _ Dead (Is (.bl false))
      refine st_seq (st_if (ist (ts := tNext)) (fun h => by cases h) (fun _ => st_next)) ?_
      exact st_ret (Ev.to (ev_andV (b := false && false) (ev_op (ev_cb (ea_cons (ev_var rfl) ea_nil) opA_lenT) ev_c o_eqI) fun _ => ev_andV (ev_call (ea_cons (ev_op (ev_var rfl) ev_c (o_ixT (i := 0) rfl)) ea_nil) (cl_notWhole k nw)) fun h => by cases h) rfl)
    | snd i Q t =>
      obtain ⟨k, nw⟩ := (c : KindOf K Q t ∧ notWhole t)
      haveI := k.mn
      show St (RsE E NoX 1) [some (Tup K [Is (.int i), Q])] _ Dead (Is (.bl false))
      refine st_seq (st_if (ist (ts := tNext)) (fun h => by cases h) (fun _ => st_next)) ?_
      exact st_ret (Ev.to (ev_andV (b := true && (false && false)) (ev_op (ev_cb (ea_cons (ev_var rfl) ea_nil) opA_lenT) ev_c o_eqI) fun _ => ev_andV (ev_call (ea_cons (ev_op (ev_var rfl) ev_c (o_ixT (i := 0) rfl)) ea_nil) cl_whole) fun _ => ev_andV (ev_call (ea_cons (ev_op (ev_var rfl) ev_c (o_ixT (i := 1) rfl)) ea_nil) (cl_notWhole k nw)) fun h => by cases h) rfl)
    | low a b =>
      have hb : b < 1 := c
      show St (RsE E NoX 1) [some (Tup K [Is (.int a), Is (.int b)])] _ Dead (Is (.bl false))
      refine st_seq (st_if (ist (ts := tNext)) (fun h => by cases h) (fun _ => st_next)) ?_
      refine st_ret (Ev.to (ev_andV (ev_op (ev_cb (ea_cons (ev_var rfl) ea_nil) opA_lenT) ev_c o_eqI) fun _ => ev_andV (ev_call (ea_cons (ev_op (ev_var rfl) ev_c (o_ixT (i := 0) rfl)) ea_nil) cl_whole) fun _ => ev_andV (ev_call (ea_cons (ev_op (ev_var rfl) ev_c (o_ixT (i := 1) rfl)) ea_nil) cl_whole) fun _ => (ev_op (ev_op (ev_var rfl) ev_c (o_ixT (i := 1) rfl)) ev_c op2_I0)) ?_)
      show V.bl (true && (true && (true && decide (1 ≤ b)))) = V.bl false
      rw [decide_eq_false (show ¬ 1 ≤ b by omega)]
      rfl
theorem okH_lowest_terms {f : Addr} {fd : FuncData} (F : Fun K "lowest_terms" "lowest_terms" s_lowest_terms f fd) (T : Txt P w K mg CX) : L2H.FnH P w K mg base (L2N.CX P w) 1 f fd ["top", "bottom"] (sp_lowest_terms K) := by
  refine okWH F sc_lowest_terms (fun i => rfl) (by decide) (fun cdv A outer s H E p hp hr => ⟨_, (pss_cons (ps_set (i := 2) sc_lowest_terms.nd rfl (by first | exact Or.inl rfl | exact Or.inr rfl) (pe_callBfun cr_gcd (by rfl) T.i_gcd (pa_cons (pv 0) (pa_cons (pv 1) pa_nil)))) (pss_cons (ps_if (pt_cmpR op_lt (pv 1) pe_int (nomark _)) (pss_one (ps_set (i := 2) sc_lowest_terms.nd rfl (by first | exact Or.inl rfl | exact Or.inr rfl) (pe_un un_neg (pv 2)))) pss_nil) (pss_one (ps_ret (pe_tup (pa_cons (pe_op op_fd (pv 0) (pv 2)) (pa_cons (pe_op op_fd (pv 1) (pv 2)) pa_nil))))))), fun i c => ⟨Dead, ?_, fun _ _ h => (dead h).elim⟩⟩)
  obtain ⟨t, b⟩ := i
  obtain ⟨hb, bb⟩ := c
  show St (RsE E NoX 3) [some (Is (.int t)), some (Is (.int b)), none] _ Dead (Told K (Rat.divInt t b))
  obtain ⟨c0, c1, c2⟩ := low_terms (t := t) hb _ rfl
  have cb : Big 8000 (if b < 0 then -((Nat.gcd t.natAbs b.natAbs : Nat) : Int) else ((Nat.gcd t.natAbs b.natAbs : Nat) : Int)) := by
    have hle : Nat.gcd t.natAbs b.natAbs ≤ b.natAbs := Nat.gcd_le_right _ (by omega)
    have : (if b < 0 then -((Nat.gcd t.natAbs b.natAbs : Nat) : Int) else ((Nat.gcd t.natAbs b.natAbs : Nat) : Int)).natAbs = Nat.gcd t.natAbs b.natAbs := by split <;> omega
    unfold Big at *
    rw [this]
    exact Nat.lt_of_le_of_lt hle bb
  refine st_seq (st_set (ev_cb (ea_cons (ev_var rfl) (ea_cons (ev_var rfl) ea_nil)) opA_gcd)) ?_
  refine st_seq (M := [some (Is (.int t)), some (Is (.int b)), some (Is (.int (if b < 0 then -((Nat.gcd t.natAbs b.natAbs : Nat) : Int) else ((Nat.gcd t.natAbs b.natAbs : Nat) : Int))))]) (st_if (et_test (ev_op (ev_var rfl) ev_c op2_I0)) (fun h => ?_) (fun h => ?_)) ?_
  · have hn : b < 0 := of_decide_eq_true h
    rw [if_pos hn]
    exact st_set (ev_un (ev_var rfl) op1_neg)
  · have hn : ¬ b < 0 := of_decide_eq_false h
    rw [if_neg hn]
    exact st_next
  · refine st_ret (Ev.sub (ev_tup (K := K) (ea_cons (ev_op (ev_var rfl) (ev_var rfl) (o_fd c0 cb (Nat.le_refl _))) (ea_cons (ev_op (ev_var rfl) (ev_var rfl) (o_fd c0 cb (Nat.le_refl _))) ea_nil))) ?_)
    rw [c1, c2]
    exact fun _ _ h => h
theorem okH_bot {f : Addr} {fd : FuncData} (F : Fun K "common_bottom" "common_bottom" s_common_bottom f fd) (T : Txt P w K mg CX) : L2H.FnH P w K mg base (L2N.CX P w) 1 f fd ["told"] (sp_bot K) := by
  refine okWH F sc_common_bottom (fun i => rfl) (by decide) (fun cdv A outer s H E p hp hr => ⟨_, (pss_cons (ps_set (i := 1) sc_common_bottom.nd rfl (by first | exact Or.inl rfl | exact Or.inr rfl) pe_int) (pss_cons (L2H.ps_forH (passes_of rfl) (hot_cx hp) (pi_listH (pv 0)) (pg_tupH (hot_cx hp) (pgs_cons (pg_name (i := 2) sc_common_bottom.nd rfl (by first | exact Or.inl rfl | exact Or.inr rfl)) (pgs_cons (pg_name (i := 3) sc_common_bottom.nd rfl (by first | exact Or.inl rfl | exact Or.inr rfl)) pgs_nil))) (pss_one (ps_set (i := 1) sc_common_bottom.nd rfl (by first | exact Or.inl rfl | exact Or.inr rfl) (pe_callBfun cr_lcm (by rfl) T.i_lcm (pa_cons (pv 1) (pa_cons (pv 3) pa_nil)))))) (pss_one (ps_ret (pv 1))))), fun i c => ⟨Dead, ?_, fun _ _ h => (dead h).elim⟩⟩)
  obtain ⟨n, m, q⟩ := i
  obtain ⟨hn, hs, hm⟩ := c
  replace hn : n ≤ 12 := hn
  replace hs : ∀ i, Sz m (q i) := hs
  replace hm : m ≤ 500 := hm
  show St (RsE E NoX 4) [some (Lst K (each n fun i => Told K (q i))), none, none, none] _ Dead (Is (.int (lcmN (fun i => (q i).den) n : Int)))
  have bits := lcmN_bits (d := fun i => (q i).den) (fun i => (q i).den_pos) (fun i => (hs i).2)
  have le : ∀ i, i ≤ n → lcmN (fun i => (q i).den) i < 2 ^ 7000 := fun i hi => Nat.lt_of_lt_of_le (bits i) (Nat.pow_le_pow_right (by decide) (by
    have : m * i ≤ 500 * 12 := Nat.mul_le_mul hm (by omega)
    omega))
  refine st_seq (st_set ev_c) ?_
  refine st_seq (M := [some (Lst K (each n fun i => Told K (q i))), some (Is (.int (lcmN (fun i => (q i).den) n : Int))), none, none]) ?_ (st_ret (ev_var rfl))
  have fe := st_for2 (K := K) (Y := RsE E NoX 4) (G := [some (Lst K (each n fun i => Told K (q i))), some (Is (.int 1)), none, none]) (j := 2) (l := 3) (R := Is (.int (lcmN (fun i => (q i).den) n : Int))) (tu := tAsg (tCB rLcm (tCons (tVar 1) (tCons (tVar 3) tNil))) (gName 1)) (I1 := fun i => Is (.int (q i).num)) (I2 := fun i => Is (.int (q i).den)) (ei_sub (ei_list (Y := RsE E NoX 4) (K := K) (Ps := each n fun i => Told K (q i)) (ev_var (i := 0) rfl)) (fun i hi v H h => by rw [each_len] at hi; rw [nth_each hi] at h; exact h)) (fun i => [some (Lst K (each n fun i => Told K (q i))), some (Is (.int (lcmN (fun i => (q i).den) i : Int))), none, none]) sub_refl (fun i hi => by
    rw [each_len] at hi
    exact st_post (st_set (ev_cb (ea_cons (ev_var rfl) (ea_cons (ev_var rfl) ea_nil)) (opA_lcmN (le i (by omega)) (Nat.lt_of_lt_of_le (hs i).2 (Nat.pow_le_pow_right (by decide) (by omega))) (le (i + 1) hi)))) (sub_keep (sub_keep (sub_drop (sub_drop sub_nil)))) (fun _ _ h => h))
  rw [each_len] at fe
  exact fe
theorem okH_wc {f : Addr} {fd : FuncData} (F : Fun K "without_common" "without_common" s_without_common f fd) (T : Txt P w K mg CX) : L2H.FnH P w K mg base (L2N.CX P w) 1 f fd ["wholes"] (sp_wc K) := by
  refine okWH F sc_without_common (fun i => rfl) (by decide) (fun cdv A outer s H E p hp hr => ⟨_, (pss_cons (ps_set (i := 1) sc_without_common.nd rfl (by first | exact Or.inl rfl | exact Or.inr rfl) pe_int) (pss_cons (L2H.ps_forH (passes_of rfl) (hot_cx hp) (pi_listH (pv 0)) (pg_name (i := 2) sc_without_common.nd rfl (by first | exact Or.inl rfl | exact Or.inr rfl)) (pss_cons (ps_set (i := 1) sc_without_common.nd rfl (by first | exact Or.inl rfl | exact Or.inr rfl) (pe_callBfun cr_gcd (by rfl) T.i_gcd (pa_cons (pv 1) (pa_cons (pv 2) pa_nil)))) (pss_one (ps_if (pt_cmpR (op_eqA (units_h hr)) (pv 1) pe_int (nomark _)) (pss_one (ps_ret (pe_callTy call_tupA (by rfl) T.n_tuple (by decide +kernel) (pa_cons (pv 0) pa_nil)))) pss_nil)))) (pss_cons (ps_if (pt_cmpR (op_eqA (units_h hr)) (pv 1) pe_int (nomark _)) (pss_one (ps_ret (pe_callTy call_tupA (by rfl) T.n_tuple (by decide +kernel) (pa_cons (pv 0) pa_nil)))) pss_nil) (pss_one (ps_ret (pe_callTy call_tupA (by rfl) T.n_tuple (by decide +kernel) (pa_cons (pe_lcH (own := [("whole", 2)]) (g := gName 2) (hot_cx hp) sc_without_common.nd (pi_listH (pv 0)) (blkOk_by (own := [("whole", 2)]) (N := ["wholes", "common", "whole"]) (sc := defScope s_without_common) (by decide +kernel)) (fun _ _ _ _ _ => pg_name (i := 2) sc_without_common.nd rfl (by first | exact Or.inl rfl | exact Or.inr rfl)) (fun _ _ _ _ _ => pts_nil) (fun _ _ _ _ _ => (pe_op op_fd (pv 2) (pv 1)))) pa_nil))))))), fun i c => ⟨Dead, ?_, fun _ _ h => (dead h).elim⟩⟩)
  obtain ⟨n, z⟩ := i
  obtain ⟨hn, hb⟩ := c
  replace hn : n ≤ 12 := hn
  replace hb : ∀ i, Big 8000 (z i) := hb
  show St (RsE E NoX 3) [some (Lst K (each n fun i => Is (.int (z i)))), none, none] _ Dead (Tup K (each n fun i => Is (.int (lows z n i))))
  have same : (∀ i, i < n → lows z n i = z i) → (each n fun i => Is (.int (lows z n i))) = each n fun i => Is (.int (z i)) := fun h => each_congr fun i hi => by rw [h i hi]
  refine st_seq (st_set ev_c) ?_
  refine st_seq (M := [some (Lst K (each n fun i => Is (.int (z i)))), some (Is (.int (gN z n : Int))), none]) ?_ ?_
  · have fe := st_for (Y := RsE E NoX 3) (G := [some (Lst K (each n fun i => Is (.int (z i)))), some (Is (.int 0)), none]) (j := 2) (R := Tup K (each n fun i => Is (.int (lows z n i)))) (tu := tSeq (tAsg (tCB rGcd (tCons (tVar 1) (tCons (tVar 2) tNil))) (gName 1)) (tIfS (tTest (tOp (rEqA K) (tVar 1) (tC (.int 1)))) (tRet (tCB (rTupOf K) (tCons (tVar 0) tNil))) tNext)) (ei_sub (It' := fun i => Is (.int (z i))) (ei_list (Y := RsE E NoX 3) (K := K) (Ps := each n fun i => Is (.int (z i))) (ev_var (i := 0) rfl)) (fun i hi v H h => by rw [each_len] at hi; rw [nth_each hi] at h; exact h)) (fun i => [some (Lst K (each n fun i => Is (.int (z i)))), some (Is (.int (gN z i : Int))), none]) sub_refl (fun i hi => by
      rw [each_len] at hi
      refine st_seq (st_set (P := Is (.int (gN z (i + 1) : Int))) (Ev.to (ev_cb (ea_cons (ev_var rfl) (ea_cons (ev_var rfl) ea_nil)) opA_gcd) (by rw [Int.natAbs_natCast]; rfl))) ?_
      refine st_post (N' := [some (Lst K (each n fun i => Is (.int (z i)))), some (Is (.int (gN z (i + 1) : Int))), some (Is (.int (z i)))]) (st_if (et_test (ev_op (ev_var rfl) ev_c o_eqI)) (fun h => ?_) (fun _ => st_next)) (sub_keep (sub_keep (sub_drop sub_nil))) (fun _ _ h => h)
      have h1 : gN z (i + 1) = 1 := by have := of_decide_eq_true h; omega
      have h2 : gN z n = 1 := by have := gN_one h1 (n - (i + 1)); rwa [show i + 1 + (n - (i + 1)) = n by omega] at this
      rw [same fun i _ => lows_one h2 i]
      exact st_ret (ev_cb (ea_cons (ev_var rfl) ea_nil) opA_tupL))
    rw [each_len] at fe
    exact fe
  by_cases h0 : gN z n = 0
  · refine st_seq (M := Dead) (st_if (et_test (ev_op (ev_var rfl) ev_c o_eqI)) (fun _ => ?_) (fun h => absurd (show (gN z n : Int) = 0 by omega) (of_decide_eq_false h))) (fun s H D ty => (dead ty).elim)
    rw [same fun i hi => lows_zero h0 hi]
    exact st_ret (ev_cb (ea_cons (ev_var rfl) ea_nil) opA_tupL)
  refine st_seq (st_if (et_test (ev_op (ev_var rfl) ev_c o_eqI)) (fun h => absurd (show gN z n = 0 by have := of_decide_eq_true h; omega) h0) (fun _ => st_next)) ?_
  refine st_ret (ev_cb (ea_cons (P1 := Lst K (each n fun i => Is (.int (lows z n i)))) (Ev.sub (P := New (each n fun i => Is (.int (lows z n i)))) ?_ fun v H h => own_lst (new_own (fun vs H a => safe_each (fun _ => plain_is) a) h)) ea_nil) opA_tupL)
  have le := ev_lc (Y := RsE E NoX 3) (G := [some (Lst K (each n fun i => Is (.int (z i)))), some (Is (.int (gN z n : Int))), none]) (te := tOp rFd (tVar 2) (tVar 1)) (j := 2) (P := fun i => Is (.int (lows z n i))) (ei_sub (It' := fun i => Is (.int (z i))) (ei_list (Y := RsE E NoX 3) (K := K) (Ps := each n fun i => Is (.int (z i))) (ev_var (i := 0) rfl)) (fun i hi v H h => by rw [each_len] at hi; rw [nth_each hi] at h; exact h)) (by rw [each_len]; omega) (fun i => mn_is) (fun i => mn_is) (fun i hi => by
    refine Ev.to (ev_op (ev_var rfl) (ev_var rfl) (o_fd (n := 8000) (by omega) (by unfold Big; rw [Int.natAbs_natCast]; exact gN_bits hb n) (Nat.le_refl _))) ?_
    rw [Int.fdiv_eq_ediv_of_nonneg _ (by omega)]
    rfl) (fun i acc H hi a => safe_each (fun _ => plain_is) a)
  rw [each_len] at le
  exact le
/-- good ratios alone -/
inductive RofG
  | int (i : Int)
  | tup (a b : Int)
def wRofG (K : PySem.W.Frag) : RofG → Way
  | .int i => ⟨[Is (.int i)], Told K (i : Rat), NoX⟩
  | .tup a b => ⟨[Tup K [Is (.int a), Is (.int b)]], Told K (Rat.divInt a b), NoX⟩
def okRofG : RofG → Prop
  | .int _ => True
  | .tup _ b => 0 < b ∧ Big 8000 b
def sp_rofH (K : PySem.W.Frag) : Sp := SpW Evl.Ex okRofG (wRofG K)
theorem okH_ratio_of {f : Addr} {fd : FuncData} (F : Fun K "ratio_of" "ratio_of" s_ratio_of f fd) (T : Txt P w K mg CX) (DH_is_ratio : DfH P w K mg base 2 "is_ratio" ["thing"] (sp_is_ratio K)) (DH_lowest_terms : DfH P w K mg base 1 "lowest_terms" ["top", "bottom"] (sp_lowest_terms K)) :
    L2H.FnH P w K mg base (L2N.CX P w) 3 f fd ["thing"] (sp_rofH K) := by
  refine okWH F sc_ratio_of (fun i => by cases i <;> rfl) (by decide) (fun cdv A outer s H E p hp hr => ⟨_, (pss_cons (ps_if (pt_not (pt_val (pe_dfH DH_is_ratio (L2H.RoomH.mono hr (by decide)) (hot_cx hp) (L2N.takes_of rfl rfl rfl rfl) (pa_cons (pv 0) pa_nil)))) (pss_one ps_never) pss_nil) (pss_cons (ps_if (pt_val (pe_callB call_isi (by rfl) T.n_isinstance (by decide +kernel) (pa_cons (pv 0) (pa_cons (pe_bltn (v := .ty "tuple") (by rfl) T.n_tuple (by decide +kernel) rfl) pa_nil)))) (pss_one (ps_ret (pe_dfH DH_lowest_terms (L2H.RoomH.mono hr (by decide)) (hot_cx hp) (L2N.takes_of rfl rfl rfl rfl) (pa_cons (pe_ix ix_seq (pv 0) pe_int (fun _ _ => rfl)) (pa_cons (pe_ix ix_seq (pv 0) pe_int (fun _ _ => rfl)) pa_nil))))) pss_nil) (pss_one (ps_ret (pe_tup (pa_cons (pv 0) (pa_cons pe_int pa_nil))))))), fun i c => ⟨Dead, ?_, fun _ _ h => (dead h).elim⟩⟩)
  cases i with
  | int i =>
    show St (RsE E NoX 1) [some (Is (.int i))] _ Dead (Told K (i : Rat))
    refine st_seq (st_if (et_not (et_B (ev_call (ea_cons (ev_var rfl) ea_nil) cl_is_ratio_i))) (fun h => by cases h) (fun _ => st_next)) ?_
    refine st_seq (st_if (et_B (ev_cb (ea_cons (ev_var rfl) (ea_cons ev_c ea_nil)) (opA_isi hasTy_int (b := false) (by decide +kernel)))) (fun h => by cases h) (fun _ => st_next)) ?_
    exact st_ret (ev_tup (K := K) (ea_cons (ev_var rfl) (ea_cons ev_c ea_nil)))
  | tup a b =>
    obtain ⟨hb, bb⟩ := (c : 0 < b ∧ Big 8000 b)
    show St (RsE E NoX 1) [some (Tup K [Is (.int a), Is (.int b)])] _ Dead (Told K (Rat.divInt a b))
    refine st_seq (st_if (et_not (et_B (ev_call (ea_cons (ev_var rfl) ea_nil) (cl_is_ratio_t hb)))) (fun h => by cases h) (fun _ => st_next)) ?_
    refine st_seq (M := Dead) (st_if (et_B (ev_cb (ea_cons (ev_var rfl) (ea_cons ev_c ea_nil)) (opA_isi hasTy_tup (b := true) (by decide +kernel)))) (fun _ => ?_) (fun h => by cases h)) (fun s H D ty => (dead ty).elim)
    exact st_ret (ev_call (ea_cons (ev_op (ev_var rfl) ev_c (o_ixT (i := 0) rfl)) (ea_cons (ev_op (ev_var rfl) ev_c (o_ixT (i := 1) rfl)) ea_nil)) (cl_low (by omega) bb))
theorem cl_rofH {W : HR} [Pre W] {n : Nat} {q : Rat} {X : XP} (hn : n ≤ 8000) : Cl W (sp_rofH K) [IsR K n q] (Told K q) X := fun vs H al Q E k e => by
  obtain ⟨v, rfl, h⟩ := allp1 al
  rcases h with ⟨i, rfl, _, rfl⟩ | ⟨a, b, t, h0, h1, h2, rfl⟩
  · exact cl_of (W := Evl.Ex) (W' := W) (C := okRofG) (f := wRofG K) (.int i) True.intro _ H (show AllP [Is (.int i)] [V.int i] H from ⟨rfl, True.intro⟩) Q E k fun _ _ _ _ z => z.elim
  · exact cl_of (W := Evl.Ex) (W' := W) (C := okRofG) (f := wRofG K) (.tup a b) ⟨h0, big_mono h2 hn⟩ _ H (show AllP [Tup K [Is (.int a), Is (.int b)]] [v] H from ⟨t, True.intro⟩) Q E k fun _ _ _ _ z => z.elim
def sp_lowH (K : PySem.W.Frag) : Sp := SpW Evl.Ex Row.ok fun r => ⟨[Lst K (each r.n fun i => IsR K r.m (r.q i))], Tup K (each r.n fun i => Is (.int (lows r.whole r.n i))), NoX⟩
theorem okH_low_row {f : Addr} {fd : FuncData} (F : Fun K "lowest_row" "lowest_row" s_lowest_row f fd) (T : Txt P w K mg CX) (DH_ratio_of : DfH P w K mg base 3 "ratio_of" ["thing"] (sp_rofH K)) (DH_common_bottom : DfH P w K mg base 1 "common_bottom" ["told"] (sp_bot K)) (DH_without_common : DfH P w K mg base 1 "without_common" ["wholes"] (sp_wc K)) :
    L2H.FnH P w K mg base (L2N.CX P w) 4 f fd ["numbers"] (sp_lowH K) := by
  refine okWH F sc_lowest_row (fun i => rfl) (by decide) (fun cdv A outer s H E p hp hr => ⟨_, (pss_cons (ps_setLcH (i := 1) (own := [("number", 2)]) (g := gName 2) (hot_cx hp) sc_lowest_row.nd rfl rfl (sw_true rfl rfl rfl (by decide +kernel)) (pi_listH (pv 0)) (blkOk_by (own := [("number", 2)]) (N := ["numbers", "told", "number", "bottom", "top", "part"]) (sc := defScope s_lowest_row) (by decide +kernel)) (fun _ _ _ _ _ => pg_name (i := 2) sc_lowest_row.nd rfl (by first | exact Or.inl rfl | exact Or.inr rfl)) (fun _ _ _ _ _ => pts_nil) (fun _ _ _ _ _ => (pe_dfH DH_ratio_of (L2H.RoomH.mono hr (by decide)) (HotC.blk (hot_cx hp)) takesF (pa_cons (pv 2) pa_nil)))) (pss_cons (ps_set (i := 3) sc_lowest_row.nd rfl (by first | exact Or.inl rfl | exact Or.inr rfl) (pe_dfH DH_common_bottom (L2H.RoomH.mono hr (by decide)) (hot_cx hp) (L2N.takes_of rfl rfl rfl rfl) (pa_cons (pv 1) pa_nil))) (pss_one (ps_ret (pe_dfH DH_without_common (L2H.RoomH.mono hr (by decide)) (hot_cx hp) (L2N.takes_of rfl rfl rfl rfl) (pa_cons (pe_lcH (own := [("top", 4), ("part", 5)]) (g := (gTup _ 2 (gCons (gName 4) (gCons (gName 5) gNil)))) (hot_cx hp) sc_lowest_row.nd (pi_listH (pv 1)) (blkOk_by (own := [("top", 4), ("part", 5)]) (N := ["numbers", "told", "number", "bottom", "top", "part"]) (sc := defScope s_lowest_row) (by decide +kernel)) (fun _ _ _ _ _ => (pg_tupH (HotC.blk (hot_cx hp)) (pgs_cons (pg_name (i := 4) sc_lowest_row.nd rfl (by first | exact Or.inl rfl | exact Or.inr rfl)) (pgs_cons (pg_name (i := 5) sc_lowest_row.nd rfl (by first | exact Or.inl rfl | exact Or.inr rfl)) pgs_nil)))) (fun _ _ _ _ _ => pts_nil) (fun _ _ _ _ _ => (pe_op op_mulA (pv 4) (pe_op op_fd (pv 3) (pv 5))))) pa_nil)))))), fun r c => ⟨Dead, ?_, fun _ _ h => (dead h).elim⟩⟩)
  have h : r.ok := c
  show St (RsE E NoX 6) [some (Lst K (each r.n fun i => IsR K r.m (r.q i))), none, none, none, none, none] _ Dead (Tup K (each r.n fun i => Is (.int (lows r.whole r.n i))))
  refine st_seq (st_set (P := Lst K (each r.n fun i => Told K (r.q i))) (Ev.sub (P := New (each r.n fun i => Told K (r.q i))) ?_ fun v H h => own_lst (new_own (fun vs H a => safe_each (fun _ => plain_tup (K := K)) a) h))) ?_
  · have le := ev_lc (Y := RsE E NoX 6) (G := [some (Lst K (each r.n fun i => IsR K r.m (r.q i))), none, none, none, none, none]) (te := tCallS (sp_rofH K) (fun _ _ _ _ => False) (tCons (tVar 2) tNil)) (j := 2) (P := fun i => Told K (r.q i)) (ei_sub (It' := fun i => IsR K r.m (r.q i)) (ei_list (Y := RsE E NoX 6) (K := K) (Ps := each r.n fun i => IsR K r.m (r.q i)) (ev_var (i := 0) rfl)) (fun i hi v H h => by rw [each_len] at hi; rw [nth_each hi] at h; exact h)) (by rw [each_len]; have := h.n; omega) (fun i => mn_told) (fun i => mn_told) (fun i hi => ev_call (ea_cons (ev_var rfl) ea_nil) (cl_rofH (by have := h.b; omega))) (fun i acc H hi a => safe_each (fun _ => plain_tup (K := K)) a)
    rw [each_len] at le
    exact le
  refine st_seq (st_set (ev_call (ea_cons (ev_var rfl) ea_nil) (cl_bot h))) ?_
  refine st_ret (ev_call (ea_cons (P1 := Lst K (each r.n fun i => Is (.int (r.whole i)))) (Ev.sub (P := New (each r.n fun i => Is (.int (r.whole i)))) ?_ fun v H h => own_lst (new_own (fun vs H a => safe_each (fun _ => plain_is) a) h)) ea_nil) (cl_wc h.n (whole_big h)))
  have le := ev_lc2 (K := K) (Y := RsE E NoX 6) (G := [some (Lst K (each r.n fun i => IsR K r.m (r.q i))), some (Lst K (each r.n fun i => Told K (r.q i))), none, some (Is (.int (r.bot : Int))), none, none]) (te := tOp rMulA (tVar 4) (tOp rFd (tVar 3) (tVar 5))) (j := 4) (l := 5) (I1 := fun i => Is (.int (r.q i).num)) (I2 := fun i => Is (.int ((r.q i).den : Int))) (P := fun i => Is (.int (r.whole i))) (ei_sub (ei_list (Y := RsE E NoX 6) (K := K) (Ps := each r.n fun i => Told K (r.q i)) (ev_var (i := 1) rfl)) (fun i hi v H h => by rw [each_len] at hi; rw [nth_each hi] at h; exact h)) (by rw [each_len]; have := h.n; omega) (fun i => mn_is) (fun i => mn_is) (by decide) (fun i hi => by
    have dp := (r.q i).den_pos
    refine Ev.to (ev_op (ev_var rfl) (ev_op (ev_var rfl) (ev_var rfl) (o_fd (n := 8000) (by omega) (big_mono (sz_den (h.s i)) (by have := h.b; omega)) (Nat.le_refl _))) (o_mul (n := 500) (m := 7000) (big_mono (h.s i).1 h.b) ?_ (by decide))) ?_
    · rw [Int.fdiv_eq_ediv_of_nonneg _ (by omega)]
      exact quot_big h i
    · rw [Int.fdiv_eq_ediv_of_nonneg _ (by omega)]
      rfl) (fun i acc H hi a => safe_each (fun _ => plain_is) a)
  rw [each_len] at le
  exact le
theorem cl_lowH {W : HR} [Pre W] {r : Row} (h : r.ok) : Cl W (sp_lowH K) [Lst K (each r.n fun i => IsR K r.m (r.q i))] (Tup K (each r.n fun i => Is (.int (lows r.whole r.n i)))) NoX :=
  cl_of (W := Evl.Ex) (C := Row.ok) (f := fun r => ⟨[Lst K (each r.n fun i => IsR K r.m (r.q i))], Tup K (each r.n fun i => Is (.int (lows r.whole r.n i))), NoX⟩) r h
end
end U

namespace U
open PySem PySem.Spec PyProof.Rows L2
/-! ### the law -/
abbrev s_law : Stmt := top 28
theorem sc_law : FnScope ["_law_script", "_law_hand_here", "_law_near", "_law_far", "_law_odd_here", "_law_good", "_law_name", "_law_row_here", "_law_kept", "_law_told", "_law_size", "_law_larger", "_law_x", "_law_at"] ["_law_script"] (defScope s_law) := ⟨rfl, rfl, rfl, by decide +kernel, rfl, by decide +kernel, by decide +kernel⟩
section
variable {P : Program} {w : World} {K : PySem.W.Frag} {mg : Str → Option Value} {base : Heap} {CX : Addrs}
theorem ok_low {f : Addr} {fd : FuncData} (F : Fun K "_law_low" "_law_low" s__law_low f fd) (T : Txt P w K mg CX) : FnOk P w K mg base (L2N.CX P w) 1 f fd ["_law_top", "_law_bottom"] (sp_lowest_terms K) := by
  refine okW F sc__law_low (fun i => rfl) (by decide) (fun cdv A outer s H E hr => ⟨_, (pss_cons (ps_set (i := 2) sc__law_low.nd rfl (by first | exact Or.inl rfl | exact Or.inr rfl) (pe_callB call_abs (by rfl) T.n_abs (by decide +kernel) (pa_cons (pv 0) pa_nil))) (pss_cons (ps_set (i := 3) sc__law_low.nd rfl (by first | exact Or.inl rfl | exact Or.inr rfl) (pe_callB call_abs (by rfl) T.n_abs (by decide +kernel) (pa_cons (pv 1) pa_nil))) (pss_cons (ps_while (passes_of rfl) (pt_truth (pv 3) (fun _ => rfl)) (pss_one (ps_par (i := 2) (j := 3) rfl sc__law_low.nd rfl rfl (by decide) rfl rfl (pa_cons (pv 3) (pa_cons (pe_op op_mod (pe_callTy call_int1 (by rfl) T.n_int (by decide +kernel) (pa_cons (pv 2) pa_nil)) (pv 3)) pa_nil)) rfl))) (pss_cons (ps_if (pt_cmpR op_lt (pv 1) pe_int (nomark _)) (pss_one (ps_set (i := 2) sc__law_low.nd rfl (by first | exact Or.inl rfl | exact Or.inr rfl) (pe_un un_neg (pv 2)))) pss_nil) (pss_one (ps_ret (pe_tup (pa_cons (pe_op op_fd (pv 0) (pv 2)) (pa_cons (pe_op op_fd (pv 1) (pv 2)) pa_nil))))))))), fun i c => ⟨Dead, ?_, fun _ _ h => (dead h).elim⟩⟩)
  obtain ⟨t, b⟩ := i
  obtain ⟨hb, bb⟩ := c
  replace hb : b ≠ 0 := hb
  replace bb : Big 8000 b := bb
  show St (RsE E NoX 4) [some (Is (.int t)), some (Is (.int b)), none, none] _ Dead (Told K (Rat.divInt t b))
  obtain ⟨c0, c1, c2⟩ := low_terms (t := t) hb _ rfl
  have cb : Big 8000 (if b < 0 then -((Nat.gcd t.natAbs b.natAbs : Nat) : Int) else ((Nat.gcd t.natAbs b.natAbs : Nat) : Int)) := by
    have hle : Nat.gcd t.natAbs b.natAbs ≤ b.natAbs := Nat.gcd_le_right _ (by omega)
    have : (if b < 0 then -((Nat.gcd t.natAbs b.natAbs : Nat) : Int) else ((Nat.gcd t.natAbs b.natAbs : Nat) : Int)).natAbs = Nat.gcd t.natAbs b.natAbs := by split <;> omega
    unfold Big at *
    rw [this]
    exact Nat.lt_of_le_of_lt hle bb
  refine st_seq (st_set (ev_cb (ea_cons (ev_var rfl) ea_nil) opA_abs)) ?_
  refine st_seq (st_set (ev_cb (ea_cons (ev_var rfl) ea_nil) opA_abs)) ?_
  refine st_seq (M := [some (Is (.int t)), some (Is (.int b)), some (Is (.int ((Nat.gcd t.natAbs b.natAbs : Nat) : Int))), none]) ?_ ?_
  · refine st_while (A := Nat × Nat) (b := fun a => ((a.2 : Nat) : Int) != 0) (fun a => [some (Is (.int t)), some (Is (.int b)), some (Is (.int (a.1 : Int))), some (Is (.int (a.2 : Int)))]) (fun a => a.2) (fun a => Nat.gcd a.1 a.2 = Nat.gcd t.natAbs b.natAbs) (t.natAbs, b.natAbs) rfl sub_refl (fun a c => et_truI (ev_var rfl)) (fun a c h => ?_) (fun a c h => ?_)
    · have h2 : 0 < a.2 := by
        have : ((a.2 : Nat) : Int) ≠ 0 := by simpa using h
        omega
      refine ⟨(a.2, a.1 % a.2), (gcd_step a.1 a.2).trans c, Nat.mod_lt _ h2, ?_⟩
      refine st_post (st_par (ea_cons (ev_var rfl) (ea_cons (ev_op (ev_cb (ea_cons (ev_var rfl) ea_nil) opA_int) (ev_var rfl) (o_mod (by omega))) ea_nil))) (fun s H ty => ?_) (fun _ _ h => h)
      exact ty
    · have h2 : a.2 = 0 := by
        have : ((a.2 : Nat) : Int) = 0 := by simpa using h
        omega
      have e : a.1 = Nat.gcd t.natAbs b.natAbs := by rw [← c, h2, Nat.gcd_zero_right]
      rw [← e]
      exact sub_keep (sub_keep (sub_keep (sub_drop sub_nil)))
  refine st_seq (M := [some (Is (.int t)), some (Is (.int b)), some (Is (.int (if b < 0 then -((Nat.gcd t.natAbs b.natAbs : Nat) : Int) else ((Nat.gcd t.natAbs b.natAbs : Nat) : Int)))), none]) (st_if (et_test (ev_op (ev_var rfl) ev_c op2_I0)) (fun h => ?_) (fun h => ?_)) ?_
  · have hn : b < 0 := of_decide_eq_true h
    rw [if_pos hn]
    exact st_set (ev_un (ev_var rfl) op1_neg)
  · have hn : ¬ b < 0 := of_decide_eq_false h
    rw [if_neg hn]
    exact st_next
  · refine st_ret (Ev.sub (ev_tup (K := K) (ea_cons (ev_op (ev_var rfl) (ev_var rfl) (o_fd c0 cb (Nat.le_refl _))) (ea_cons (ev_op (ev_var rfl) (ev_var rfl) (o_fd c0 cb (Nat.le_refl _))) ea_nil))) ?_)
    rw [c1, c2]
    exact fun _ _ h => h
theorem oddW_mnW {W : HR} [Pre W] {n : Int} : ∀ i, Mn W ((oddW K n i).pr K)
  | 0 => mn_is
  | 1 => mn_is
  | 2 => mn_is
  | 3 => mn_is
  | 4 => mn_lst (K := K)
  | 5 => mn_tup (K := K)
  | 6 => mn_tup (K := K)
  | 7 => mn_tup (K := K)
  | 8 => mn_tup (K := K)
  | 9 => mn_tup (K := K)
  | 10 => mn_tup (K := K)
  | 11 => mn_tup (K := K)
  | 12 => mn_tup (K := K)
  | _ + 13 => mn_tup (K := K)
instance inst_odd {W : HR} [Pre W] {n : Int} {k : Nat} : Mn W ((oddW K n k).pr K) := oddW_mnW k
theorem cl_oddI {n : Int} (hn : 0 < n) : Cl WL (sp_odd K) [Hand, Is (.int n)] (Some (fun i : Nat => i < 14) fun i => (oddW K n i).pr K) NoX :=
  cl_of (W := WL) (C := fun n : Int => 0 < n) (f := fun n => ⟨[Hand, Is (.int n)], Some (fun i : Nat => i < 14) fun i => (oddW K n i).pr K, NoX⟩) n hn
theorem cl_rowI : Cl WL (sp_row K) [Hand] (Some (fun r : Nat × (Nat → Rat) => r.1 ≤ 6 ∧ ∀ j, Sz 60 (r.2 j)) fun r => Own (each r.1 fun j => El K (r.2 j))) NoX :=
  cl_of (W := WL) (C := fun _ : Unit => True) (f := fun _ => ⟨[Hand], Some (fun r : Nat × (Nat → Rat) => r.1 ≤ 6 ∧ ∀ j, Sz 60 (r.2 j)) fun r => Own (each r.1 fun j => El K (r.2 j)), NoX⟩) () True.intro
theorem cl_rightI {W : HR} [Pre W] {r : Row} (h : r.ok) : Cl W (sp_right K) [Tup K (each r.n fun i => Is (.int (lows r.whole r.n i))), Lst K (each r.n fun i => El K (r.q i))] (Is (.bl true)) NoX :=
  cl_of (W := Evl.Ex) (C := fun r : Row => r.ok) (f := fun r => ⟨[Tup K (each r.n fun i => Is (.int (lows r.whole r.n i))), Lst K (each r.n fun i => El K (r.q i))], Is (.bl true), NoX⟩) r h
/-- the good ratio, as it is passed -/
def Gd (K : PySem.W.Frag) (a b : Int) : Pr := fun v H => (b = 1 ∧ v = .int a) ∨ Tup K [Is (.int a), Is (.int b)] v H
instance mn_gd {W : HR} [w : PreT W] {a b : Int} : Mn W (Gd K a b) := ⟨fun v H H' h p => p.elim .inl fun z => .inr (mn_tup.mn v H H' h z)⟩
theorem divInt_one (a : Int) : Rat.divInt a 1 = (a : Rat) := by first | exact Rat.num_divInt_den (a : Rat) | exact Rat.divInt_self (a : Rat)
theorem gd_isR {a b : Int} {n : Nat} (hb : 0 < b) (ha : Big n a) (hb' : Big n b) {v : V} {H : Hp} (h : Gd K a b v H) : IsR K n (Rat.divInt a b) v H := by
  rcases h with ⟨rfl, e⟩ | h
  · exact .inl ⟨a, e, ha, (divInt_one a).symm⟩
  · exact .inr ⟨a, b, h, hb, ha, hb', rfl⟩
theorem cl_isR {W : HR} [Pre W] {n : Nat} {q : Rat} : Cl W (sp_is_ratio K) [IsR K n q] (Is (.bl true)) NoX := fun vs H al Q E k e => by
  obtain ⟨v, rfl, h⟩ := allp1 al
  rcases h with ⟨i, rfl, _, rfl⟩ | ⟨a, b, t, h0, h1, h2, rfl⟩
  · exact cl_is_ratio_i (K := K) (W := W) _ H (show AllP [Is (.int i)] [V.int i] H from ⟨rfl, True.intro⟩) Q E k e
  · exact cl_is_ratio_t (K := K) (W := W) h0 _ H (show AllP [Tup K [Is (.int a), Is (.int b)]] [v] H from ⟨t, True.intro⟩) Q E k e
theorem cl_pairG {W : HR} [Pre W] {a b : Int} : Cl W (sp_pair K) [Gd K a b] (Tup K [Is (.int a), Is (.int b)]) NoX := fun vs H al Q E k e => by
  obtain ⟨v, rfl, h⟩ := allp1 al
  rcases h with ⟨rfl, rfl⟩ | h
  · exact cl_of (W := Evl.Ex) (W' := W) (C := okPair) (f := wPairW K) (.int a) True.intro _ H (show AllP [Is (.int a)] [V.int a] H from ⟨rfl, True.intro⟩) Q E k e
  · exact cl_of (W := Evl.Ex) (W' := W) (C := okPair) (f := wPairW K) (.tup [Is (.int a), Is (.int b)]) (show MnL Evl.Ex [Is (.int a), Is (.int b)] from inferInstance) _ H (show AllP [Tup K [Is (.int a), Is (.int b)]] [v] H from ⟨h, True.intro⟩) Q E k e
/-- an odd thing is not whole -/
theorem cl_oddWhole {W : HR} [Pre W] : ∀ {o : OddW}, o.ok K → Cl W (sp_is_whole K) [o.pr K] (Is (.bl false)) NoX
  | .other P t, h => cl_notWhole h.1 h.2.1
  | .len Ps, h => by haveI := h.1; exact cl_notWhole (P := Tup K Ps) ⟨mn_tup (K := K), hasTy_tup⟩ nw_tuple
  | .fst P Q t, h => by haveI := h.1.mn; haveI := h.2.1; exact cl_notWhole (P := Tup K [P, Q]) ⟨mn_tup (K := K), hasTy_tup⟩ nw_tuple
  | .snd i Q t, h => by haveI := h.1.mn; exact cl_notWhole (P := Tup K [Is (.int i), Q]) ⟨mn_tup (K := K), hasTy_tup⟩ nw_tuple
  | .low a b, h => cl_notWhole (P := Tup K [Is (.int a), Is (.int b)]) ⟨mn_tup (K := K), hasTy_tup⟩ nw_tuple
/-! entries of the row, as they are -/
inductive Ed
  | i (n : Int)
  | q (r : Rat)
def Ed.val : Ed → Rat
  | .i n => (n : Rat)
  | .q r => r
def Ed.pr (K : PySem.W.Frag) : Ed → Pr
  | .i n => Is (.int n)
  | .q r => Told K r
def Ed.dat : Ed → PyData
  | .i n => .int n
  | .q r => .tuple [.int r.num, .int r.den]
instance mn_ed {W : HR} [PreT W] : ∀ {e : Ed}, Mn W (e.pr K)
  | .i _ => mn_is
  | .q _ => mn_told
theorem Ed.isD : ∀ e : Ed, IsD K (e.pr K) e.dat
  | .i _ => isD_int
  | .q _ => isD_told
theorem Ed.flat : ∀ e : Ed, Flat 1 e.dat
  | .i _ => flat_int
  | .q _ => flat_told
theorem Ed.el : ∀ (e : Ed) (v : V) (H : Hp), e.pr K v H → El K e.val v H
  | .i n, _, _, h => .inl ⟨n, h, rfl⟩
  | .q _, _, _, h => .inr h
theorem Ed.plain : ∀ e : Ed, Plain (e.pr K)
  | .i _ => plain_is
  | .q _ => plain_tup (K := K)
theorem el_isR {n : Nat} {q : Rat} {v : V} {H : Hp} (s : Sz n q) (h : El K q v H) : IsR K n q v H := by
  rcases h with ⟨i, e, rfl⟩ | h
  · exact .inl ⟨i, e, s.1, rfl⟩
  · refine .inr ⟨q.num, q.den, h, by have := q.den_pos; omega, s.1, sz_den s, by simp⟩
theorem el_eds {q : Nat → Rat} {H : Hp} : ∀ {n : Nat} {xs : List V}, AllP (each n fun i => El K (q i)) xs H → ∃ e : Nat → Ed, (∀ i, i < n → (e i).val = q i) ∧ AllP (each n fun i => (e i).pr K) xs H
  | 0, xs, h => ⟨fun _ => .i 0, fun i hi => by omega, h⟩
  | n + 1, xs, h => by
    rw [each_succ] at h
    obtain ⟨ys, zs, rfl, h1, h2⟩ := allp_split h
    obtain ⟨z, rfl, hz⟩ := allp1 h2
    obtain ⟨e, he, ha⟩ := el_eds (n := n) h1
    obtain ⟨d, hd, hp⟩ : ∃ d : Ed, d.val = q n ∧ d.pr K z H := by
      rcases hz with ⟨i, rfl, k⟩ | hz
      · exact ⟨.i i, k, rfl⟩
      · exact ⟨.q (q n), rfl, hz⟩
    refine ⟨fun i => if i < n then e i else d, fun i hi => ?_, ?_⟩
    · dsimp only
      by_cases l : i < n
      · rw [if_pos l]; exact he i l
      · rw [if_neg l, hd]; congr 1; omega
    · rw [each_succ]
      refine allp_app ?_ ⟨by show (if n < n then e n else d).pr K z H; rw [if_neg (Nat.lt_irrefl n)]; exact hp, True.intro⟩
      exact each_imp (fun i hi v hv => by dsimp only; rw [if_pos hi]; exact hv) ha
/-- the row that was drawn -/
structure RowE where
  n : Nat
  e : Nat → Ed
structure RowE.ok (r : RowE) : Prop where
  n : r.n ≤ 6
  s : ∀ j, Sz 60 (r.e j).val
def RowE.row (r : RowE) : Row := ⟨r.n, 60, fun i => (r.e i).val⟩
theorem RowE.rok {r : RowE} (h : r.ok) : r.row.ok := ⟨show r.n ≤ 12 by have := h.n; omega, h.s, show 60 ≤ 500 by decide⟩
def RowE.pr (K : PySem.W.Frag) (r : RowE) : Pr := Own (each r.n fun i => (r.e i).pr K)
instance mn_rowE {W : HR} [Pre W] {r : RowE} : Mn W (r.pr K) := mn_own
theorem rowE_of {n : Nat} {q : Nat → Rat} (hn : n ≤ 6) (hq : ∀ j, Sz 60 (q j)) {v : V} {H : Hp} (h : Own (each n fun j => El K (q j)) v H) : Some RowE.ok (RowE.pr K) v H := by
  obtain ⟨p, xs, e, hp, hs, ha⟩ := h
  obtain ⟨d, hd, hb⟩ := el_eds ha
  have z0 : Sz 60 0 := ⟨by unfold Big; decide, by decide⟩
  refine ⟨⟨n, fun i => if i < n then d i else .i 0⟩, ⟨hn, fun j => ?_⟩, p, xs, e, hp, hs, each_imp (fun i hi v hv => by dsimp only; rw [if_pos hi]; exact hv) hb⟩
  dsimp only
  by_cases l : j < n
  · rw [if_pos l, hd j l]; exact hq j
  · rw [if_neg l]; exact z0
theorem rowE_el {r : RowE} {v : V} {H : Hp} (h : r.pr K v H) : Lst K (each r.n fun i => El K (r.e i).val) v H := by
  obtain ⟨p, xs, e, hp, hs, ha⟩ := h
  exact ⟨p, xs, e, SqL.of hp, hs, each_imp (fun i _ v hv => (r.e i).el v H hv) ha⟩
theorem rowE_isR {r : RowE} (k : r.ok) {v : V} {H : Hp} (h : r.pr K v H) : Lst K (each r.n fun i => IsR K 60 (r.e i).val) v H := by
  obtain ⟨p, xs, e, hp, hs, ha⟩ := rowE_el h
  exact ⟨p, xs, e, hp, hs, each_imp (fun i _ v hv => el_isR (k.s i) hv) ha⟩
theorem rowE_D {r : RowE} : IsD K (r.pr K) (.list (eachD r.n fun i => (r.e i).dat)) := isD_own (all2_each fun i _ => (r.e i).isD)
theorem rowE_flat {r : RowE} : Flat 60 (.list (eachD r.n fun i => (r.e i).dat)) := (flat_list (k := 1) fun d hd => by obtain ⟨i, _, rfl⟩ := eachD_mem hd; exact (r.e i).flat).mono (by decide)
theorem ints_D {n : Nat} {z : Nat → Int} : IsD K (Tup K (each n fun i => Is (.int (z i)))) (.tuple (eachD n fun i => .int (z i))) := isD_tup (all2_each fun i _ => isD_int)
theorem ints_flat {n : Nat} {z : Nat → Int} : Flat 60 (.tuple (eachD n fun i => .int (z i))) := (flat_tup (k := 0) fun d hd => by obtain ⟨i, _, rfl⟩ := eachD_mem hd; exact flat_int).mono (by decide)
/-- the bits of a least row -/
theorem lows_bits {r : RowE} (h : r.ok) {i : Nat} (hi : i < r.n) : Big 430 (lows r.row.whole r.n i) := by
  have b1 := lcmN_bits (d := fun i => (r.row.q i).den) (m := 60) (fun i => (r.row.q i).den_pos) (fun i => (h.s i).2) r.n
  have b2 : Big 361 ((r.row.bot : Int) / ((r.row.q i).den : Int)) := by
    unfold Big
    rw [← Int.natCast_ediv, Int.natAbs_natCast]
    refine Nat.lt_of_le_of_lt (Nat.div_le_self _ _) (Nat.lt_of_lt_of_le b1 (Nat.pow_le_pow_right (by decide) ?_))
    have : 60 * r.n ≤ 60 * 6 := Nat.mul_le_mul (Nat.le_refl _) h.n
    omega
  have b3 : Big 421 (r.row.whole i) := big_mul (h.s i).1 b2
  have a := lows_mul (z := r.row.whole) hi
  unfold Big at *
  by_cases g0 : gN r.row.whole r.n = 0
  · have z : lows r.row.whole r.n i = 0 := by unfold lows; rw [g0]; exact Int.ediv_zero _
    rw [z]; exact Nat.pow_pos (by decide)
  · refine Nat.lt_of_le_of_lt ?_ (Nat.lt_of_lt_of_le b3 (Nat.pow_le_pow_right (by decide) (by decide)))
    rw [← a, Int.natAbs_mul, Int.natAbs_natCast]
    exact Nat.le_mul_of_pos_right _ (by omega)
/-- the least row, as a row -/
def lowZ (r : RowE) (i : Nat) : Int := if i < r.n then r.row.whole i else 0
theorem lowZ_lows {r : RowE} {i : Nat} (hi : i < r.n) : lows (lowZ r) r.n i = lows r.row.whole r.n i := by
  unfold lows
  rw [gN_congr (z := lowZ r) (z' := r.row.whole) (n := r.n) fun j hj => if_pos hj]
  show (if i < r.n then r.row.whole i else 0) / _ = _
  rw [if_pos hi]
def RowE.low (r : RowE) : Row := ⟨r.n, 430, fun i => ((lows (lowZ r) r.n i : Int) : Rat)⟩
theorem RowE.lowok {r : RowE} (h : r.ok) : r.low.ok := by
  refine ⟨show r.n ≤ 12 by have := h.n; omega, fun i => ?_, show 430 ≤ 500 by decide⟩
  have o : (1 : Nat) < 2 ^ 430 := Nat.one_lt_two_pow (by decide)
  by_cases hi : i < r.n
  · exact ⟨by show Big 430 (lows (lowZ r) r.n i); rw [lowZ_lows hi]; exact lows_bits h hi, o⟩
  · refine ⟨?_, o⟩
    show Big 430 (lows (lowZ r) r.n i)
    have : lows (lowZ r) r.n i = 0 := by
      unfold lows
      show (if i < r.n then r.row.whole i else 0) / _ = _
      rw [if_neg hi]; exact Int.zero_ediv _
    rw [this]; unfold Big; exact Nat.pow_pos (by decide)
theorem low_low {r : RowE} {i : Nat} (hi : i < r.n) : lows r.low.whole r.n i = lows r.row.whole r.n i := by
  have := lows_told (r := r.low) (z := lowZ r) (fun i => rfl) (i := i) hi
  exact this.trans (lowZ_lows hi)
theorem lowT_isR {r : RowE} (h : r.ok) {v : V} {H : Hp} (k : Tup K (each r.n fun i => Is (.int (lows r.row.whole r.n i))) v H) : Tup K (each r.n fun i => IsR K 430 (r.low.q i)) v H := by
  obtain ⟨p, xs, e, hp, ha⟩ := k
  refine ⟨p, xs, e, hp, each_imp (fun i hi v hv => .inl ⟨lows r.row.whole r.n i, hv, lows_bits h hi, ?_⟩) ha⟩
  show ((lows r.row.whole r.n i : Int) : Rat) = ((lows (lowZ r) r.n i : Int) : Rat)
  rw [lowZ_lows hi]
/-- the row times a ratio -/
def RowE.larger (r : RowE) (c : Rat) : Row := ⟨r.n, 200, fun i => c * (r.e i).val⟩
theorem sz_times {q c : Rat} (hq : Sz 60 q) (hc : Sz 110 c) : Sz 200 (c * q) := by
  rw [← rat_mul]
  exact sz_mono (sz_divInt (n := 170) (den_ne c q) (big_mono (big_mul hc.1 hq.1) (by decide)) (big_mono (big_mul (sz_den hc) (sz_den hq)) (by decide))) (by decide)
theorem RowE.largerok {r : RowE} (h : r.ok) {c : Rat} (hc : Sz 110 c) : (r.larger c).ok := ⟨show r.n ≤ 12 by have := h.n; omega, fun i => sz_times (h.s i) hc, show 200 ≤ 500 by decide⟩
theorem larger_low {r : RowE} {c : Rat} (hc : 0 < c.num) {i : Nat} (hi : i < r.n) : lows (r.larger c).whole r.n i = lows r.row.whole r.n i := lows_scale (r := r.row) (r' := r.larger c) hc rfl (fun i _ => rfl) hi
/-- the row with an odd thing put in -/
theorem put_in {r : RowE} (k : r.ok) {o : OddW} {at_ : Nat} (ha : at_ ≤ r.n) {xs ys : List V} {z : V} {H : Hp} (h : AllP (each r.n fun i => (r.e i).pr K) (xs ++ ys) H) (l : xs.length = at_) (hz : o.pr K z H) :
    AllP (each (r.n + 1) (badP K 60 at_ (fun j => if j < at_ then (r.e j).val else (r.e (j - 1)).val) o)) (xs ++ [z] ++ ys) H := by
  have app : ∀ {l : List V} {m : Nat} {f : Nat → Pr} {l2 : List V}, AllP (each m f) (l ++ l2) H → AllP (each l.length f) l H ∧ ∀ j v, l2[j]? = some v → f (l.length + j) v H := fun {l m f l2} a => by
    have ln := allp_len a
    rw [each_len, List.length_append] at ln
    have e : each m f = each l.length f ++ (List.range l2.length).map fun j => f (l.length + j) := by
      unfold each
      rw [← ln, List.range_add, List.map_append, List.map_map]
      rfl
    rw [e] at a
    obtain ⟨ys, zs, ee, h1, h2⟩ := allp_split a
    have ly := allp_len h1
    rw [each_len] at ly
    obtain ⟨rfl, rfl⟩ := List.append_inj ee ly.symm
    refine ⟨h1, fun j v hv => ?_⟩
    obtain ⟨hj, hv'⟩ := List.getElem?_eq_some_iff.mp hv
    obtain ⟨u, hu, hp⟩ := allp_get (i := j) (P := f (l.length + j)) h2 (by simp [hj])
    rw [hv] at hu
    cases hu
    exact hp
  obtain ⟨h1, h2⟩ := app h
  have lens := allp_len h
  rw [each_len, List.length_append] at lens
  have all : ∀ {m : Nat} {f : Nat → Pr} {l : List V}, l.length = m → (∀ j v, l[j]? = some v → f j v H) → AllP (each m f) l H := fun {m} => by
    induction m with
    | zero => intro f l e _; rw [List.length_eq_zero_iff.mp e]; exact True.intro
    | succ m ih =>
      intro f l e k
      rw [each_succ]
      have ne : l ≠ [] := fun z => by rw [z] at e; cases e
      rw [← List.dropLast_concat_getLast ne]
      have ld : l.dropLast.length = m := by rw [List.length_dropLast, e]; rfl
      refine allp_app (ih ld fun j v hv => ?_) ⟨?_, True.intro⟩
      · obtain ⟨hj, _⟩ := List.getElem?_eq_some_iff.mp hv
        refine k j v ?_
        rw [← List.dropLast_concat_getLast ne, List.getElem?_append_left hj]
        exact hv
      · refine k m _ ?_
        simp [List.getLast_eq_getElem, e]
  refine all (by rw [List.length_append, List.length_append, List.length_singleton]; omega) fun j v hv => ?_
  have ed : ∀ i w, (r.e i).pr K w H → IsR K 60 (r.e i).val w H := fun i w hw => el_isR (k.s i) ((r.e i).el w H hw)
  unfold badP
  by_cases c1 : j < at_
  · rw [if_neg (by omega)]
    dsimp only
    rw [if_pos c1]
    rw [List.append_assoc, List.getElem?_append_left (by omega)] at hv
    obtain ⟨u, hu, hp⟩ := allp_get (i := j) (P := (r.e j).pr K) h1 (by unfold each; simp [show j < xs.length by omega])
    rw [hv] at hu
    cases hu
    exact ed j v hp
  · by_cases c2 : j = at_
    · rw [if_pos c2]
      rw [List.append_assoc, List.getElem?_append_right (by omega), show j - xs.length = 0 by omega] at hv
      cases hv
      exact hz
    · rw [if_neg c2]
      dsimp only
      rw [if_neg c1]
      rw [List.getElem?_append_right (by rw [List.length_append, List.length_singleton]; omega), List.length_append, List.length_singleton] at hv
      have := h2 _ v hv
      rw [show xs.length + (j - (xs.length + 1)) = j - 1 by omega] at this
      exact ed (j - 1) v this
end
end U

namespace U
open PySem PySem.Spec PyProof.Rows L2
def sp_law (K : PySem.W.Frag) : Sp := SpW WL (fun ns : List Int => ns.length ≤ 63) fun ns => ⟨[Lst K (ns.map fun n => Is (.int n))], Is (.bl true), NoX⟩
abbrev Ex0 (E : L2.St → XK) (GX : Ctx) (X : XP) : Rs := ⟨Evl.Ex, E, GX, X⟩
theorem divInt_ne {a b : Int} (ha : a ≠ 0) (hb : b ≠ 0) : Rat.divInt a b ≠ 0 := fun z => by
  have e : Rat.divInt a b = Rat.divInt 0 1 := z
  have := (Rat.divInt_eq_divInt_iff hb (by decide)).mp e
  simp at this
  exact ha this
theorem divInt_z {b : Int} (hb : b ≠ 0) : Rat.divInt 0 b = 0 := by
  have : Rat.divInt 0 b = Rat.divInt 0 1 := (Rat.divInt_eq_divInt_iff hb (by decide)).mpr (by simp)
  rw [this]; rfl
section
variable {P : Program} {w : World} {K : PySem.W.Frag} {mg : Str → Option Value} {base : Heap} {CX : Addrs}
abbrev larT (K : PySem.W.Frag) (E : XK) : TE := tCallS (sp_lowest_terms K) (fun _ => E) (tCons (tOp rMulA (tOp (rIx K) (tCallS (sp_pair K) (fun _ => E) (tCons (tVar 12) tNil)) (tC (.int 0))) (tOp (rIx K) (tVar 10) (tC (.int 0)))) (tCons (tOp rMulA (tOp (rIx K) (tCallS (sp_pair K) (fun _ => E) (tCons (tVar 12) tNil)) (tC (.int 1))) (tOp (rIx K) (tVar 10) (tC (.int 1)))) tNil))
theorem mul_told {c q : Rat} : Rat.divInt (q.num * c.num) ((q.den : Int) * (c.den : Int)) = c * q := by
  have := rat_mul q c
  rw [this]
  grind
theorem lar_el {E : XK} {Y : Rs} [w : Pre Y.W] {G : Ctx} [mc : MnC Y.W G] {q c : Rat} (sq : Sz 60 q) (sc : Sz 110 c) (h12 : G[12]? = some (some (El K q))) (h10 : G[10]? = some (some (Told K c))) : Ev Y G (larT K E) (Told K (c * q)) := by
  have p0 : Ev Y G (tOp (rIx K) (tCallS (sp_pair K) (fun _ => E) (tCons (tVar 12) tNil)) (tC (.int 0))) (Is (.int q.num)) := ev_op (ev_call (ea_cons (ev_var h12) ea_nil) cl_pair) ev_c (o_ixT (Ps := [Is (.int q.num), Is (.int q.den)]) (i := 0) rfl)
  have p1 : Ev Y G (tOp (rIx K) (tCallS (sp_pair K) (fun _ => E) (tCons (tVar 12) tNil)) (tC (.int 1))) (Is (.int q.den)) := ev_op (ev_call (ea_cons (ev_var h12) ea_nil) cl_pair) ev_c (o_ixT (Ps := [Is (.int q.num), Is (.int q.den)]) (i := 1) rfl)
  have c0 : Ev Y G (tOp (rIx K) (tVar 10) (tC (.int 0))) (Is (.int c.num)) := ev_op (ev_var h10) ev_c (o_ixT (Ps := [Is (.int c.num), Is (.int c.den)]) (i := 0) rfl)
  have c1 : Ev Y G (tOp (rIx K) (tVar 10) (tC (.int 1))) (Is (.int c.den)) := ev_op (ev_var h10) ev_c (o_ixT (Ps := [Is (.int c.num), Is (.int c.den)]) (i := 1) rfl)
  have m0 : Ev Y G (tOp rMulA (tOp (rIx K) (tCallS (sp_pair K) (fun _ => E) (tCons (tVar 12) tNil)) (tC (.int 0))) (tOp (rIx K) (tVar 10) (tC (.int 0)))) (Is (.int (q.num * c.num))) := ev_op p0 c0 (o_mul (n := 60) (m := 110) sq.1 sc.1 (by decide))
  have m1 : Ev Y G (tOp rMulA (tOp (rIx K) (tCallS (sp_pair K) (fun _ => E) (tCons (tVar 12) tNil)) (tC (.int 1))) (tOp (rIx K) (tVar 10) (tC (.int 1)))) (Is (.int ((q.den : Int) * (c.den : Int)))) := ev_op p1 c1 (o_mul (n := 60) (m := 110) (sz_den sq) (sz_den sc) (by decide))
  have := ev_call (E := fun _ => E) (ea_cons m0 (ea_cons m1 ea_nil)) (cl_low (W := Y.W) (K := K) (den_ne q c) (big_mono (big_mul (sz_den sq) (sz_den sc)) (by decide)))
  rw [mul_told] at this
  exact this
theorem lar_lc {E : XK} {Y : Rs} [w : Pre Y.W] {G : Ctx} [mc : MnC Y.W G] {r : RowE} (hr : r.ok) {c : Rat} (sc : Sz 110 c) (h8 : G[8]? = some (some (r.pr K))) (h12 : 12 < G.length) (h10 : G[10]? = some (some (Told K c))) : Ev Y G (tLc (iList K (tVar 8)) (gName 12) tYes (larT K E) [12]) (Own (each r.n fun i => Told K (c * (r.e i).val))) := by
  have le := ev_lc (Y := Y) (G := G) (te := larT K E) (j := 12) (P := fun i => Told K (c * (r.e i).val)) (ei_sub (It' := fun i => El K (r.e i).val) (ei_list (Y := Y) (K := K) (Ps := each r.n fun i => (r.e i).pr K) (Ev.sub (ev_var h8) fun v H h => own_lst (K := K) h)) (fun i hi v H h => by rw [each_len] at hi; rw [nth_each hi] at h; exact (r.e i).el v H h)) (by rw [each_len]; have := hr.n; omega) (fun i => mn_told) (fun i => mn_told) (fun i hi => lar_el (hr.s i) sc (by simp [h12]) (by simp [h10])) (fun i acc H hi a => safe_each (fun _ => plain_tup (K := K)) a)
  rw [each_len] at le
  exact Ev.sub le fun v H h => new_own (fun vs H a => safe_each (fun _ => plain_tup (K := K)) a) h
instance mn_hand_ex : Mn Evl.Ex Hand := ⟨fun v H H' w ⟨p, e, c, xs, a, r, t, h⟩ => ⟨p, e, c, xs, a, r, t, h.mono w⟩⟩
theorem ea_one {Y : Rs} {G : Ctx} {te : TE} {P : Pr} (h : Ev Y G te P) : EvA Y G (tCons te tNil) [P] := fun s H ty hx Q q => h s H ty hx _ fun x H1 w1 p1 => q [x] H1 w1 ⟨p1, True.intro⟩
theorem mnl_of {W : HR} {Ps : List Pr} (h : ∀ P ∈ Ps, Mn W P) : MnL W Ps := ⟨fun vs H H' w a => allp_mn h w a⟩
theorem cutL_take {A : Type} {xs : List A} {m : Nat} (h : m ≤ xs.length) : cutL xs none (some (m : Int)) = xs.take m := by
  unfold cutL
  rw [HT.sIx_none, HT.sIx_nat, List.drop_zero, Nat.sub_zero, Nat.min_eq_left h]
theorem cutL_drop {A : Type} {xs : List A} {m : Nat} (h : m ≤ xs.length) : cutL xs (some (m : Int)) none = xs.drop m := by
  unfold cutL
  rw [HT.sIx_none, HT.sIx_nat, Nat.min_eq_left h]
  exact List.take_of_length_le (by rw [List.length_drop]; omega)
abbrev putT (K : PySem.W.Frag) : TE := tOp (rAddA K) (tOp (rAddA K) (tSl (rSlL K) (tVar 8) tNoPart (tPart (tVar 13))) (tLst (tCons (tVar 4) tNil))) (tSl (rSlL K) (tVar 8) (tPart (tVar 13)) tNoPart)
theorem put_ev {E : L2.St → XK} {GX : Ctx} {X : XP} {G : Ctx} [mc : MnC Evl.Ex G] {r : RowE} (k : r.ok) {o : OddW} (ho : o.ok K) {m : Nat} (hm : m ≤ r.n) (h8 : G[8]? = some (some (r.pr K))) (h4 : G[4]? = some (some (o.pr K))) (h13 : G[13]? = some (some (Is (.int (m : Int))))) :
    Ev ⟨Evl.Ex, E, GX, X⟩ G (putT K) (LstN K (each (r.n + 1) (badP K 60 m (fun j => if j < m then (r.e j).val else (r.e (j - 1)).val) o))) := by
  haveI mo := OddW.mn ho
  have lm : m ≤ (each r.n fun i => (r.e i).pr K).length := by rw [each_len]; exact hm
  have mem : ∀ P ∈ (each r.n fun i => (r.e i).pr K), Mn Evl.Ex P := fun P hP => by obtain ⟨i, _, rfl⟩ := each_mem hP; exact mn_ed
  haveI mT : MnL Evl.Ex ((each r.n fun i => (r.e i).pr K).take m) := mnl_of fun P hP => mem P (List.mem_of_mem_take hP)
  haveI mD : MnL Evl.Ex ((each r.n fun i => (r.e i).pr K).drop m) := mnl_of fun P hP => mem P (List.mem_of_mem_drop hP)
  have rv : Ev ⟨Evl.Ex, E, GX, X⟩ G (tVar 8) (LstN K (each r.n fun i => (r.e i).pr K)) := Ev.sub (ev_var h8) fun v H h => lst_n (own_lst (K := K) h)
  have s1 := ev_slN rv eo_none (eo_some (ev_var h13)) (by rw [cutL_take lm]; exact mT)
  have s2 := ev_slN rv (eo_some (ev_var h13)) eo_none (by rw [cutL_drop lm]; exact mD)
  rw [cutL_take lm] at s1
  rw [cutL_drop lm] at s2
  have l1 : ((each r.n fun i => (r.e i).pr K).take m).length = m := by rw [List.length_take, each_len]; omega
  have l2 : ((each r.n fun i => (r.e i).pr K).drop m).length = r.n - m := by rw [List.length_drop, each_len]
  have n6 := k.n
  have od : Ev ⟨Evl.Ex, E, GX, X⟩ G (tLst (tCons (tVar 4) tNil)) (New [o.pr K]) := ev_newL (ea_one (ev_var h4)) (by simp)
  have c1 := ev_op s1 od (o_catN (K := K) (by rw [l1]; simp; omega))
  have c2 := ev_op c1 s2 (o_catN (K := K) (by rw [List.length_append, l1, l2]; simp; omega))
  refine Ev.sub c2 fun v H ⟨p, xs, e, hp, ha⟩ => ⟨p, xs, e, SqL.of hp, ?_⟩
  obtain ⟨ab, ys, rfl, h1, h2⟩ := allp_split ha
  obtain ⟨as, zs, rfl, h3, h5⟩ := allp_split h1
  obtain ⟨z, rfl, hz⟩ := allp1 h5
  have la := allp_len h3
  rw [l1] at la
  refine put_in k hm ?_ la hz
  have := allp_app h3 h2
  rw [List.take_append_drop] at this
  exact this
theorem ok_law {f : Addr} {fd : FuncData} (F : Fun K "law" "law" s_law f fd) (T : Txt P w K mg CX)
    (D_is_whole : Df P w K mg base 1 "is_whole" ["thing"] (sp_is_whole K)) (D_is_ratio : Df P w K mg base 2 "is_ratio" ["thing"] (sp_is_ratio K)) (D_ratio_of : Df P w K mg base 3 "ratio_of" ["thing"] (sp_ratio_of K CX)) (D_lowest_row : Df P w K mg base 4 "lowest_row" ["numbers"] (sp_low K CX))
    (DH_lowest_row : DfH P w K mg base 4 "lowest_row" ["numbers"] (sp_lowH K)) (D__law_hand : Df P w K mg base 1 "_law_hand" ["_law_script"] (sp_hand K)) (D__law_draw : Df P w K mg base 2 "_law_draw" ["_law_hand_here", "_law_many"] sp_draw)
    (D__law_low : Df P w K mg base 1 "_law_low" ["_law_top", "_law_bottom"] (sp_lowest_terms K)) (D__law_odd : Df P w K mg base 3 "_law_odd" ["_law_hand_here", "_law_near"] (sp_odd K)) (D__law_refused : Df P w K mg base 5 "_law_refused" ["_law_name", "_law_one", "_law_other"] (sp_ref K))
    (D__law_row : Df P w K mg base 3 "_law_row" ["_law_hand_here"] (sp_row K)) (D__law_pair : Df P w K mg base 1 "_law_pair" ["_law_x"] (sp_pair K)) (D__law_right : Df P w K mg base 2 "_law_right" ["_law_told", "_law_row_here"] (sp_right K)) :
    FnOk P w K mg base (L2N.CX P w) 6 f fd ["_law_script"] (sp_law K) := by
  refine okW F sc_law (fun i => rfl) (by decide) (fun cdv A outer s H E hr => ⟨_, (pss_cons (ps_set (i := 1) sc_law.nd rfl (by first | exact Or.inl rfl | exact Or.inr rfl) (pe_df D__law_hand (hr.mono (by decide)) (L2N.takes_of rfl rfl rfl rfl) (pa_cons (pv 0) pa_nil))) (pss_cons (ps_set (i := 2) sc_law.nd rfl (by first | exact Or.inl rfl | exact Or.inr rfl) (pe_op op_addA pe_int (pe_df D__law_draw (hr.mono (by decide)) (L2N.takes_of rfl rfl rfl rfl) (pa_cons (pv 1) (pa_cons (pe_op op_pow pe_int pe_int) pa_nil))))) (pss_cons (ps_set (i := 3) sc_law.nd rfl (by first | exact Or.inl rfl | exact Or.inr rfl) (pe_op op_sub (pe_df D__law_draw (hr.mono (by decide)) (L2N.takes_of rfl rfl rfl rfl) (pa_cons (pv 1) (pa_cons (pe_op op_pow pe_int pe_int) pa_nil))) (pe_op op_mulA pe_int (pe_op op_pow pe_int pe_int)))) (pss_cons (ps_set (i := 4) sc_law.nd rfl (by first | exact Or.inl rfl | exact Or.inr rfl) (pe_df D__law_odd (hr.mono (by decide)) (L2N.takes_of rfl rfl rfl rfl) (pa_cons (pv 1) (pa_cons (pv 2) pa_nil)))) (pss_cons (ps_set (i := 5) sc_law.nd rfl (by first | exact Or.inl rfl | exact Or.inr rfl) (pe_ifExp (pt_cmpR (op_eqA hr.units) (pe_df D__law_draw (hr.mono (by decide)) (L2N.takes_of rfl rfl rfl rfl) (pa_cons (pv 1) (pa_cons pe_int pa_nil))) pe_int (nomark _)) (pv 3) (pe_tup (pa_cons (pv 3) (pa_cons (pv 2) pa_nil))))) (pss_cons (ps_if (PW.pt (pw_or (pt_cmpR op_notB (pe_df D_is_ratio (hr.mono (by decide)) (L2N.takes_of rfl rfl rfl rfl) (pa_cons (pv 4) pa_nil)) pe_bl (nomark _)) (pw_or (pt_cmpR op_notB (pe_df D_is_ratio (hr.mono (by decide)) (L2N.takes_of rfl rfl rfl rfl) (pa_cons (pv 5) pa_nil)) pe_bl (nomark _)) (pw_or (pt_cmpR op_notB (pe_df D_is_ratio (hr.mono (by decide)) (L2N.takes_of rfl rfl rfl rfl) (pa_cons (pe_tup (pa_cons (pv 3) (pa_cons pe_int pa_nil))) pa_nil)) pe_bl (nomark _)) (pw_or1 (pt_cmpR op_notB (pe_df D_is_ratio (hr.mono (by decide)) (L2N.takes_of rfl rfl rfl rfl) (pa_cons pe_int pa_nil)) pe_bl (nomark _))))))) (pss_one (ps_ret pe_bl)) pss_nil) (pss_cons (ps_if (PW.pt (pw_or (pt_cmpR op_notB (pe_df D_is_whole (hr.mono (by decide)) (L2N.takes_of rfl rfl rfl rfl) (pa_cons (pv 4) pa_nil)) pe_bl (nomark _)) (pw_or (pt_cmpR op_notB (pe_df D_is_whole (hr.mono (by decide)) (L2N.takes_of rfl rfl rfl rfl) (pa_cons (pv 3) pa_nil)) pe_bl (nomark _)) (pw_or (pt_cmpR op_notB (pe_df D_is_whole (hr.mono (by decide)) (L2N.takes_of rfl rfl rfl rfl) (pa_cons (pe_tup (pa_cons (pv 3) (pa_cons (pv 2) pa_nil))) pa_nil)) pe_bl (nomark _)) (pw_or1 (pt_cmpR op_notB (pe_df D_is_whole (hr.mono (by decide)) (L2N.takes_of rfl rfl rfl rfl) (pa_cons (pe_un un_neg (pv 2)) pa_nil)) pe_bl (nomark _))))))) (pss_one (ps_ret pe_bl)) pss_nil) (pss_cons (ps_if (pt_cmpR (op_neA hr.units) (pe_df D_ratio_of (hr.mono (by decide)) (L2N.takes_of rfl rfl rfl rfl) (pa_cons (pv 5) pa_nil)) (pe_df D__law_low (hr.mono (by decide)) (L2N.takes_of rfl rfl rfl rfl) (pa_cons (pe_ix ix_seq (pe_df D__law_pair (hr.mono (by decide)) (L2N.takes_of rfl rfl rfl rfl) (pa_cons (pv 5) pa_nil)) pe_int (fun _ _ => rfl)) (pa_cons (pe_ix ix_seq (pe_df D__law_pair (hr.mono (by decide)) (L2N.takes_of rfl rfl rfl rfl) (pa_cons (pv 5) pa_nil)) pe_int (fun _ _ => rfl)) pa_nil))) (nomark _)) (pss_one (ps_ret pe_bl)) pss_nil) (pss_cons (ps_for (passes_of rfl) rfl (pi_list (pe_lst (pa_cons pe_str (pa_cons pe_str (pa_cons pe_str (pa_cons pe_str (pa_cons pe_str (pa_cons pe_str (pa_cons pe_str pa_nil))))))))) (pg_name (i := 6) sc_law.nd rfl (by first | exact Or.inl rfl | exact Or.inr rfl)) (pss_cons (ps_if (PW.pt (pw_or (pt_not (pt_val (pe_df D__law_refused (hr.mono (by decide)) (L2N.takes_of rfl rfl rfl rfl) (pa_cons (pv 6) (pa_cons (pv 4) (pa_cons (pv 5) pa_nil)))))) (pw_or1 (PW.pt (pw_and (pt_cmpR (op_neA hr.units) (pv 6) pe_str (nomark _)) (pw_and1 (pt_not (pt_val (pe_df D__law_refused (hr.mono (by decide)) (L2N.takes_of rfl rfl rfl rfl) (pa_cons (pv 6) (pa_cons (pv 5) (pa_cons (pv 4) pa_nil)))))))))))) (pss_one (ps_ret pe_bl)) pss_nil) (pss_one (ps_if (PW.pt (pw_and (pt_cmpR (op_neA hr.units) (pv 6) pe_str (nomark _)) (pw_and1 (pt_val (pe_df D__law_refused (hr.mono (by decide)) (L2N.takes_of rfl rfl rfl rfl) (pa_cons (pv 6) (pa_cons (pv 5) (pa_cons (pv 5) pa_nil)))))))) (pss_one (ps_ret pe_bl)) pss_nil)))) (pss_cons (ps_if (PW.pt (pw_or (pt_val (pe_df D__law_refused (hr.mono (by decide)) (L2N.takes_of rfl rfl rfl rfl) (pa_cons pe_str (pa_cons (pv 5) (pa_cons (pe_tup (pa_cons (pv 2) (pa_cons (pe_op op_addA (pv 2) pe_int) pa_nil))) pa_nil))))) (pw_or1 (pt_not (pt_val (pe_df D__law_refused (hr.mono (by decide)) (L2N.takes_of rfl rfl rfl rfl) (pa_cons pe_str (pa_cons (pv 5) (pa_cons (pe_tup (pa_cons pe_int (pa_cons (pv 2) pa_nil))) pa_nil))))))))) (pss_one (ps_ret pe_bl)) pss_nil) (pss_cons (ps_set (i := 7) sc_law.nd rfl (by first | exact Or.inl rfl | exact Or.inr rfl) (pe_df D__law_row (hr.mono (by decide)) (L2N.takes_of rfl rfl rfl rfl) (pa_cons (pv 1) pa_nil))) (pss_cons (ps_set (i := 8) sc_law.nd rfl (by first | exact Or.inl rfl | exact Or.inr rfl) (pe_callTy call_lstA (by rfl) T.n_list (by decide +kernel) (pa_cons (pv 7) pa_nil))) (pss_cons (ps_set (i := 9) sc_law.nd rfl (by first | exact Or.inl rfl | exact Or.inr rfl) (pe_df D_lowest_row (hr.mono (by decide)) (L2N.takes_of rfl rfl rfl rfl) (pa_cons (pv 7) pa_nil))) (pss_cons (ps_if (PW.pt (pw_or (pt_not (pt_val (pe_df D__law_right (hr.mono (by decide)) (L2N.takes_of rfl rfl rfl rfl) (pa_cons (pv 9) (pa_cons (pv 8) pa_nil))))) (pw_or1 (pt_cmpR (op_neA hr.units) (pv 7) (pv 8) (nomark _))))) (pss_one (ps_ret pe_bl)) pss_nil) (pss_cons (ps_set (i := 10) sc_law.nd rfl (by first | exact Or.inl rfl | exact Or.inr rfl) (pe_df D__law_low (hr.mono (by decide)) (L2N.takes_of rfl rfl rfl rfl) (pa_cons (pv 2) (pa_cons (pe_op op_addA pe_int (pe_df D__law_draw (hr.mono (by decide)) (L2N.takes_of rfl rfl rfl rfl) (pa_cons (pv 1) (pa_cons (pe_op op_pow pe_int pe_int) pa_nil)))) pa_nil)))) (pss_cons (ps_setLc (i := 11) (own := [("_law_x", 12)]) (g := gName 12) (by rfl) sc_law.nd rfl rfl (sw_true rfl rfl rfl (by decide +kernel)) (pi_list (pv 8)) (blkOk_by (own := [("_law_x", 12)]) (N := ["_law_script", "_law_hand_here", "_law_near", "_law_far", "_law_odd_here", "_law_good", "_law_name", "_law_row_here", "_law_kept", "_law_told", "_law_size", "_law_larger", "_law_x", "_law_at"]) (sc := defScope s_law) (by decide +kernel)) (fun _ _ _ _ _ => pg_name (i := 12) sc_law.nd rfl (by first | exact Or.inl rfl | exact Or.inr rfl)) (fun _ _ _ _ _ => pts_nil) (fun _ _ _ _ _ => (pe_df D__law_low (hr.mono (by decide)) takesF (pa_cons (pe_op op_mulA (pe_ix ix_seqB (pe_df D__law_pair (hr.mono (by decide)) takesF (pa_cons (pv 12) pa_nil)) pe_int (fun _ _ => rfl)) (pe_ix ix_seqB (pv 10) pe_int (fun _ _ => rfl))) (pa_cons (pe_op op_mulA (pe_ix ix_seqB (pe_df D__law_pair (hr.mono (by decide)) takesF (pa_cons (pv 12) pa_nil)) pe_int (fun _ _ => rfl)) (pe_ix ix_seqB (pv 10) pe_int (fun _ _ => rfl))) pa_nil))))) (pss_cons (ps_if (PW.pt (pw_or (pt_cmpR (op_neA hr.units) (pe_df D_lowest_row (hr.mono (by decide)) (L2N.takes_of rfl rfl rfl rfl) (pa_cons (pe_callTy call_tupA (by rfl) T.n_tuple (by decide +kernel) (pa_cons (pv 11) pa_nil)) pa_nil)) (pv 9) (nomark _)) (pw_or1 (pt_cmpR (op_neA hr.units) (pe_df D_lowest_row (hr.mono (by decide)) (L2N.takes_of rfl rfl rfl rfl) (pa_cons (pv 9) pa_nil)) (pv 9) (nomark _))))) (pss_one (ps_ret pe_bl)) pss_nil) (pss_cons (ps_set (i := 13) sc_law.nd rfl (by first | exact Or.inl rfl | exact Or.inr rfl) (pe_df D__law_draw (hr.mono (by decide)) (L2N.takes_of rfl rfl rfl rfl) (pa_cons (pv 1) (pa_cons (pe_op op_addA (pe_callB call_lenA (by rfl) T.n_len (by decide +kernel) (pa_cons (pv 8) pa_nil)) pe_int) pa_nil)))) (pss_one (L2N.ps_try_many rfl rfl takesF (fun W pn xe tk _ => (pss_cons (ps_expr (pe_df D_lowest_row (hr.mono (by decide)) tk (pa_cons (pe_op op_addAT (pe_op op_addAT (pe_slice sl_listT (pv 8) po_none (po_some (pv 13))) (pe_lst (pa_cons (pv 4) pa_nil))) (pe_slice sl_listT (pv 8) (po_some (pv 13)) po_none)) pa_nil))) (pss_one (ps_ret pe_bl)))) (L2N.HdsOk.cons ⟨rfl, by decide, Or.inl T.g_BadRatio⟩ (fun a oe cls d pn hz hf => (pss_one (ps_ret (pe_cmpR (op_eqU (units_h (room_mark hr))) (pe_dfH DH_lowest_row (L2H.RoomH.mono (room_mark hr) (by decide)) (hot_suite hz hf) takesF (pa_cons (pv 7) pa_nil)) (pv 9) (nomark _))))) L2N.HdsOk.nil))))))))))))))))))))), fun ns c => ⟨Dead, ?_, fun _ _ h => (dead h).elim⟩⟩)
  have hl : ns.length ≤ 63 := c
  show St (RsW WL E NoX 14) [some (Lst K (ns.map fun n => Is (.int n))), none, none, none, none, none, none, none, none, none, none, none, none, none] _ Dead (Is (.bl true))
  have bs : ∀ {m : Int}, -(2 ^ 110) < m ∧ m < 2 ^ 110 → Big 300 m := fun h => big_mono (n := 110) (big_of h.1 h.2) (by decide)
  have e30 : (10 : Int) ^ 30 = 1000000000000000000000000000000 := by decide
  have e110 : (2 : Int) ^ 110 = 1298074214633706907132624082305024 := by decide
  have tst : ∀ {G : Ctx} {te : TE} {m j : Int}, MnC WL G → Ev (RsW WL E NoX 14) G te (Rng 0 m) → EvU (RsW WL E NoX 14) G (tTest (tOp (rEqA K) te (tC (.int j)))) := fun g h => by
    haveI := g
    exact eu_test (ev_op h ev_c (op2_some1 fun a _ => op2_sub o_eqI fun v H e => ⟨_, True.intro, e⟩))
  refine st_seq (st_set (ev_call (ea_cons (ev_var rfl) ea_nil) (cl_hand hl))) ?_
  refine st_seq (st_set (P := Some (fun i : Int => 0 < i ∧ i ≤ 10 ^ 30) fun i => Is (.int i)) (ev_op ev_c (ev_call (ea_cons (ev_var rfl) (ea_cons (ev_op ev_c ev_c (o_pow ⟨by decide, by decide, by decide⟩)) ea_nil)) (cl_draw (m := 10 ^ 30) (by decide) (bs (by decide)))) (op2_some2 fun a ha => op2_sub o_add fun v H e => ⟨1 + a, by omega, e⟩))) ?_
  refine st_open 2 rfl fun n hn => ?_
  refine st_seq (st_set (P := Some (fun i : Int => -10 ^ 30 ≤ i ∧ i ≤ 10 ^ 30) fun i => Is (.int i)) (ev_op (ev_call (ea_cons (ev_var rfl) (ea_cons (ev_op ev_c ev_c (o_pow ⟨by decide, by decide, by decide⟩)) ea_nil)) (cl_draw (m := 10 ^ 30) (by decide) (bs (by decide)))) (ev_op ev_c (ev_op ev_c ev_c (o_pow ⟨by decide, by decide, by decide⟩)) (o_mul (n := 3) (m := 110) (big_of (by decide) (by decide)) (big_of (by decide) (by decide)) (by decide))) (op2_some1 fun a ha => op2_sub op2_I0 fun v H e => ⟨_, ?_, e⟩))) ?_
  · have e29 : (10 : Int) ^ (29 : Int).toNat = 100000000000000000000000000000 := by decide
    rw [e29]; omega
  refine st_open 3 rfl fun fa hf => ?_
  have nb : Big 110 n := big_of (by omega) (by omega)
  have fb : Big 110 fa := big_of (by omega) (by omega)
  have n0 : 0 < n := hn.1
  have one : Big 110 1 := big_of (by decide) (by decide)
  refine st_seq (st_set (ev_call (ea_cons (ev_var rfl) (ea_cons (ev_var rfl) ea_nil)) (cl_oddI n0))) ?_
  refine st_open 4 rfl fun k hk => ?_
  have ok := oddW_ok (K := K) n0 k
  refine st_seq (st_set (P := Some (fun p : Int × Int => 0 < p.2 ∧ Big 110 p.1 ∧ Big 110 p.2) fun p => Gd K p.1 p.2) (ev_ifU (tst inferInstance (ev_call (ea_cons (ev_var rfl) (ea_cons ev_c ea_nil)) (cl_draw (m := 2) (by decide) (bs (by decide))))) (ev_some (fa, 1) ⟨show (0 : Int) < 1 by decide, fb, one⟩ (Ev.sub (ev_var rfl) fun v H e => .inl ⟨rfl, e⟩)) (ev_some (fa, n) ⟨n0, fb, nb⟩ (Ev.sub (ev_tup (K := K) (ea_cons (ev_var rfl) (ea_cons (ev_var rfl) ea_nil))) fun v H h => .inr h)))) ?_
  refine st_open 5 rfl fun g hg => ?_
  obtain ⟨ga, gb⟩ := g
  obtain ⟨g0, gba, gbb⟩ := (hg : 0 < gb ∧ Big 110 ga ∧ Big 110 gb)
  have good : ∀ {G : Ctx} {Y : Rs} [PreT Y.W], G[5]? = some (some (Gd K ga gb)) → Ev Y G (tVar 5) (IsR K 110 (Rat.divInt ga gb)) := fun h => Ev.sub (ev_var h) fun v H h => gd_isR g0 gba gbb h
  have gs : Sz 110 (Rat.divInt ga gb) := sz_divInt (by omega) gba gbb
  refine st_seq (st_if (et_or (et_test (ev_op (ev_call (ea_cons (ev_var rfl) ea_nil) (cl_is_ratio_o ok)) ev_c o_notB)) fun _ => et_or (et_test (ev_op (ev_call (ea_cons (good rfl) ea_nil) cl_isR) ev_c o_notB)) fun _ => et_or (et_test (ev_op (ev_call (ea_cons (ev_tup (K := K) (ea_cons (ev_var rfl) (ea_cons ev_c ea_nil))) ea_nil) (cl_is_ratio_t (by decide))) ev_c o_notB)) fun _ => et_test (ev_op (ev_call (ea_cons ev_c ea_nil) cl_is_ratio_i) ev_c o_notB)) (fun h => absurd h (by decide)) (fun _ => st_next)) ?_
  refine st_seq (st_if (et_or (et_test (ev_op (ev_call (ea_cons (ev_var rfl) ea_nil) (cl_oddWhole ok)) ev_c o_notB)) fun _ => et_or (et_test (ev_op (ev_call (ea_cons (ev_var rfl) ea_nil) cl_whole) ev_c o_notB)) fun _ => et_or (et_test (ev_op (ev_call (ea_cons (ev_tup (K := K) (Ps := [Is (.int fa), Is (.int n)]) (ea_cons (ev_var rfl) (ea_cons (ev_var rfl) ea_nil))) ea_nil) (cl_notWhole (P := Tup K [Is (.int fa), Is (.int n)]) ⟨mn_tup (K := K), hasTy_tup⟩ nw_tuple)) ev_c o_notB)) fun _ => et_test (ev_op (ev_call (ea_cons (ev_un (ev_var rfl) op1_neg) ea_nil) cl_whole) ev_c o_notB)) (fun h => absurd h (by decide)) (fun _ => st_next)) ?_
  have pairI : ∀ {G : Ctx} {i : Nat} {P : Pr} (hP : [Is (.int ga), Is (.int gb)][i]? = some P) [MnC WL G], G[5]? = some (some (Gd K ga gb)) → Ev (RsW WL E NoX 14) G (tOp (rIx K) (tCallS (sp_pair K) (fun _ => E) (tCons (tVar 5) tNil)) (tC (.int (i : Int)))) P := fun hP _ h => ev_op (ev_call (ea_cons (ev_var h) ea_nil) cl_pairG) ev_c (o_ixT (K := K) hP)
  refine st_seq (st_if (et_test (ev_op (ev_call (ea_cons (good rfl) ea_nil) (cl_ratio_of (by decide))) (ev_call (ea_cons (pairI (i := 0) rfl rfl) (ea_cons (pairI (i := 1) rfl rfl) ea_nil)) (cl_low (by omega) (big_mono gbb (by decide)))) o_neTold)) (fun h => ?_) (fun _ => st_next)) ?_
  · rw [decide_eq_true rfl] at h
    cases h
  have gsz := gs
  let C0 : Ctx := [some (Lst K (ns.map fun n => Is (.int n))), some Hand, some (Is (.int n)), some (Is (.int fa)), some ((oddW K n k).pr K), some (Gd K ga gb), none, none, none, none, none, none, none, none]
  refine st_seq (M := C0) ?_ ?_
  · have names : ∀ i, i < 7 → nth [Is (.str "of"), Is (.str "plus"), Is (.str "minus"), Is (.str "times"), Is (.str "over"), Is (.str "compare"), Is (.str "row")] i = Is (.str (nmOf i)) := fun i hi => by
      match i, hi with
      | 0, _ => rfl
      | 1, _ => rfl
      | 2, _ => rfl
      | 3, _ => rfl
      | 4, _ => rfl
      | 5, _ => rfl
      | 6, _ => rfl
    refine st_for (Y := RsW WL E NoX 14) (ei_list (Y := RsW WL E NoX 14) (K := K) (Ps := [Is (.str "of"), Is (.str "plus"), Is (.str "minus"), Is (.str "times"), Is (.str "over"), Is (.str "compare"), Is (.str "row")]) (ev_lst (Y := RsW WL E NoX 14) (ea_cons ev_c (ea_cons ev_c (ea_cons ev_c (ea_cons ev_c (ea_cons ev_c (ea_cons ev_c (ea_cons ev_c ea_nil))))))) (fun vs H a => ?_))) (fun _ => C0) sub_refl (fun j hj => ?_)
    · match vs, a with
      | v :: vs, a => cases a.1; exact .inl rfl
    have hj' : j < 7 := hj
    rw [names j hj']
    show St (RsW WL E NoX 14) [some (Lst K (ns.map fun n => Is (.int n))), some Hand, some (Is (.int n)), some (Is (.int fa)), some ((oddW K n k).pr K), some (Gd K ga gb), some (Is (.str (nmOf j))), none, none, none, none, none, none, none] _ C0 (Is (.bl true))
    refine st_seq (st_if (et_or (et_not (et_B (ev_call (ea_cons (ev_var rfl) (ea_cons (ev_var rfl) (ea_cons (good rfl) ea_nil))) (cl_ref1 hj' ok (by decide))))) fun _ => et_and (et_test (ev_op (ev_var rfl) ev_c o_neS)) fun h => et_not (et_B (ev_call (ea_cons (ev_var rfl) (ea_cons (good rfl) (ea_cons (ev_var rfl) ea_nil))) (cl_ref2 hj' (fun z => by subst z; exact absurd h (by decide)) ok (by decide))))) (fun h => by simp at h) (fun _ => st_next)) ?_
    exact st_post (N' := [some (Lst K (ns.map fun n => Is (.int n))), some Hand, some (Is (.int n)), some (Is (.int fa)), some ((oddW K n k).pr K), some (Gd K ga gb), some (Is (.str (nmOf j))), none, none, none, none, none, none, none]) (st_if (et_and (et_test (ev_op (ev_var rfl) ev_c o_neS)) fun h => et_B (ev_call (ea_cons (ev_var rfl) (ea_cons (good rfl) (ea_cons (good rfl) ea_nil))) (cl_refG hj' (fun z => by subst z; exact absurd h (by decide)) (by decide) gs gs))) (fun h => by simp at h) (fun _ => st_next)) (sub_keep (sub_keep (sub_keep (sub_keep (sub_keep (sub_keep (sub_drop (sub_keep (sub_keep (sub_keep (sub_keep (sub_keep (sub_keep (sub_keep sub_nil)))))))))))))) (fun _ _ h => h)
  have n1b : Big 110 (n + 1) := big_of (by omega) (by omega)
  have z0 : Sz 110 0 := ⟨by unfold Big; decide, Nat.one_lt_two_pow (by decide)⟩
  have tupR : ∀ {G : Ctx} {tr : TA} {a b : Int}, 0 < b → Big 110 a → Big 110 b → EvA (RsW WL E NoX 14) G tr [Is (.int a), Is (.int b)] → Ev (RsW WL E NoX 14) G (tTup tr) (IsR K 110 (Rat.divInt a b)) := fun h0 h1 h2 h => Ev.sub (ev_tup (K := K) h) fun v H z => .inr ⟨_, _, z, h0, h1, h2, rfl⟩
  refine st_seq (st_if (et_or (et_B (ev_call (ea_cons ev_c (ea_cons (good rfl) (ea_cons (tupR (a := n) (b := n + 1) (by omega) nb n1b (ea_cons (ev_var rfl) (ea_cons (ev_op (ev_var rfl) ev_c o_add) ea_nil))) ea_nil))) (cl_refO (by decide) gs (sz_divInt (by omega) nb n1b)))) fun _ => et_not (et_B (ev_call (ea_cons ev_c (ea_cons (good rfl) (ea_cons (tupR (a := 0) (b := n) n0 z0.1 nb (ea_cons ev_c (ea_cons (ev_var rfl) ea_nil))) ea_nil))) (cl_refO (by decide) gs (sz_divInt (by omega) z0.1 nb))))) (fun h => ?_) (fun _ => st_next)) ?_
  · rw [decide_eq_false (divInt_ne (by omega) (by omega)), decide_eq_true (divInt_z (by omega))] at h
    cases h
  refine st_seq (st_set (P := Some RowE.ok (RowE.pr K)) (Ev.sub (ev_call (ea_cons (ev_var rfl) ea_nil) cl_rowI) fun v H ⟨r, ⟨h1, h2⟩, h⟩ => rowE_of h1 h2 h)) ?_
  refine st_open 7 rfl fun r hr' => ?_
  refine st_seq (st_set (P := r.pr K) (ev_cb (ea_cons (Ev.sub (ev_var rfl) fun v H h => own_lst (K := K) (show Own (each r.n fun i => (r.e i).pr K) v H from h)) ea_nil) opA_lstL)) ?_
  have rowL : ∀ {G : Ctx} {Y : Rs} {i : Nat} [PreT Y.W], G[i]? = some (some (r.pr K)) → Ev Y G (tVar i) (Lst K (each r.row.n fun i => IsR K r.row.m (r.row.q i))) := fun h => Ev.sub (ev_var h) fun v H h => rowE_isR hr' h
  refine st_seq (st_set (ev_call (ea_cons (rowL rfl) ea_nil) (cl_lowL (RowE.rok hr')))) ?_
  refine st_seq (st_if (et_or (et_not (et_B (ev_call (ea_cons (ev_var rfl) (ea_cons (Ev.sub (P' := Lst K (each r.row.n fun i => El K (r.row.q i))) (ev_var rfl) fun v H h => rowE_el h) ea_nil)) (cl_rightI (r := r.row) (RowE.rok hr'))))) fun _ => et_test (ev_op (ev_var rfl) (ev_var rfl) (o_neSame rowE_D rowE_D rowE_flat))) (fun h => by cases h) (fun _ => st_next)) ?_
  have low : Cl WL (sp_lowest_terms K) [Is (.int n), Some (fun b : Int => 0 < b ∧ b ≤ 10 ^ 6) fun b => Is (.int b)] (Some (fun c : Rat => 0 < c.num ∧ Sz 110 c) (Told K)) NoX := cl_some2 fun b hb => cl_sub (cl_low (by omega) (big_mono (n := 50) (big_of (by omega) (by omega)) (by decide))) fun v H h => ⟨Rat.divInt n b, ⟨?_, sz_divInt (by omega) nb (big_of (by omega) (by omega))⟩, h⟩
  · refine st_seq (st_set (P := Some (fun c : Rat => 0 < c.num ∧ Sz 110 c) (Told K)) (ev_call (ea_cons (ev_var rfl) (ea_cons (ev_op ev_c (ev_call (ea_cons (ev_var rfl) (ea_cons (ev_op ev_c ev_c (o_pow ⟨by decide, by decide, by decide⟩)) ea_nil)) (cl_draw (m := 10 ^ 6) (by decide) (bs (by decide)))) (op2_some2 fun a ha => op2_sub o_add fun v H e => ⟨1 + a, by omega, e⟩)) ea_nil)) low)) ?_
    refine st_open 10 rfl fun c hc => ?_
    refine st_seq (st_set (P := Own (each r.n fun i => Told K (c * (r.e i).val))) (lar_lc hr' hc.2 rfl (show 12 < 14 by decide) rfl)) ?_
    have eL : (each r.n fun i => Is (.int (lows (r.larger c).whole r.n i))) = each r.n fun i => Is (.int (lows r.row.whole r.n i)) := each_congr fun i hi => by rw [larger_low hc.1 hi]
    have eT : (each r.n fun i => Is (.int (lows r.low.whole r.n i))) = each r.n fun i => Is (.int (lows r.row.whole r.n i)) := each_congr fun i hi => by rw [low_low hi]
    have clL : Cl WL (sp_low K CX) [Tup K (each r.n fun i => IsR K 200 (c * (r.e i).val))] (Tup K (each r.n fun i => Is (.int (lows r.row.whole r.n i)))) NoX := by
      rw [← eL]
      exact cl_lowT (r := r.larger c) (RowE.largerok hr' hc.2)
    have clT : Cl WL (sp_low K CX) [Tup K (each r.n fun i => IsR K 430 (r.low.q i))] (Tup K (each r.n fun i => Is (.int (lows r.row.whole r.n i)))) NoX := by
      rw [← eT]
      exact cl_lowT (r := r.low) (RowE.lowok hr')
    refine st_seq (st_if (et_or (et_test (ev_op (ev_call (ea_cons (Ev.sub (P' := Tup K (each r.n fun i => IsR K 200 (c * (r.e i).val))) (ev_cb (ea_cons (Ev.sub (ev_var rfl) fun v H h => own_lst (K := K) h) ea_nil) opA_tupL) fun v H ⟨p, xs, e, hp, ha⟩ => ⟨p, xs, e, hp, each_imp (fun i hi v hv => el_isR (sz_times (hr'.s i) hc.2) (.inr hv)) ha⟩) ea_nil) clL) (ev_var rfl) (o_neSame ints_D ints_D ints_flat))) fun _ => et_test (ev_op (ev_call (ea_cons (Ev.sub (ev_var rfl) fun v H h => lowT_isR hr' h) ea_nil) clT) (ev_var rfl) (o_neSame ints_D ints_D ints_flat))) (fun h => by cases h) (fun _ => st_next)) ?_
    refine st_seq (st_set (ev_call (ea_cons (ev_var rfl) (ea_cons (ev_op (ev_cb (ea_cons (Ev.sub (ev_var rfl) fun v H h => own_lst (K := K) (show Own (each r.n fun i => (r.e i).pr K) v H from h)) ea_nil) opA_lenL) ev_c o_add) ea_nil)) (cl_draw (by omega) (bs ?_)))) ?_
    · rw [each_len]; have := hr'.n; omega
    refine st_open 13 rfl fun a ha => ?_
    obtain ⟨m, rfl⟩ : ∃ m : Nat, a = (m : Int) := ⟨a.toNat, by omega⟩
    have hm : m ≤ r.n := by have := ha.2; rw [each_len] at this; omega
    refine st_tryM (Y := RsW WL E NoX 14) (G' := [none, none, none, none, none, none, none, some (r.pr K), none, some (Tup K (each r.row.n fun i => Is (.int (lows r.row.whole r.row.n i)))), none, none, none, none]) (X' := RX CX) (tb := fun W => tSeq (tDrop (tCallS (sp_low K CX) (WE W) (tCons (putT K) tNil))) (tRet (tC (.bl false)))) (ts := fun _ _ _ => tRet (tOp (rEqA K) (tCallS (sp_lowH K) (WE fun _ _ _ _ => False) (tCons (tVar 7) tNil)) (tVar 9))) (fun W => ?_) (fun cls d H z => ⟨by rw [z.1]; exact T.m_BadRatio, fun a => ?_⟩)
    · refine st_seq (M := Dead) (st_dropX (ev_callX (Y := ⟨WL, WE W, [none, none, none, none, none, none, none, some (r.pr K), none, some (Tup K (each r.row.n fun i => Is (.int (lows r.row.whole r.row.n i)))), none, none, none, none], RX CX⟩) (ea_one (Ev.up (put_ev hr' ok hm rfl rfl rfl))) (cl_lowX (by omega) (by have := hr'.n; omega) (by decide) ok) ?_)) (fun s H D ty => (dead ty).elim)
      exact sub_drop (sub_drop (sub_drop (sub_drop (sub_drop (sub_drop (sub_keep (sub_keep (sub_drop (sub_keep (sub_drop (sub_drop (sub_keep (sub_drop sub_nil)))))))))))))
    · exact st_ret (ev_op (ev_call (ea_cons (rowL rfl) ea_nil) (cl_lowH (RowE.rok hr'))) (ev_var rfl) (o_eqSame ints_D ints_D ints_flat))
  · have ne : Rat.divInt n b ≠ 0 := divInt_ne (by omega) (by omega)
    have h0 : 0 ≤ (Rat.divInt n b).num := Rat.num_nonneg.mpr ((Rat.divInt_nonneg_iff_of_pos_right (by omega)).mpr (by omega))
    have h1 : (Rat.divInt n b).num ≠ 0 := fun z => ne (Rat.num_eq_zero.mp z)
    omega
end
end U

namespace U
open PySem PySem.Spec PyProof.Rows L2
/-! ### all defs -/
theorem has_dfH {P : Program} {w : World} {K : PySem.W.Frag} {mg : Str → Option Value} {base h : Heap} {x : Str} {st : Stmt} {k : Nat} {ps : List Str} {sp : Sp} (F : HasFn K x st) (X : K.In h) (G : h.Ns mainGlobals mg) (ok : ∀ f fd, Fun K x x st f fd → L2H.FnH P w K mg base (L2N.CX P w) k f fd ps sp)
    (b : ∀ (kV doc pm : Value) (an : Option Addr) (cdv ct : Value) (us : List Value), us.length = ps.length → bindArgs (PySem.W.fnOf x x (defArgs st) (defBody st) (defScope st) .none kV doc pm an cdv ct) ⟨us, []⟩ = pure (ps.zip us)) : DfH P w K mg base k x ps sp := by
  obtain ⟨f, fd, a, F⟩ := F
  exact dfH_of (ok f fd F) F (PySem.W.mg_of X G a) (F.binds b)
theorem all_mk {P : Program} {w : World} {K : PySem.W.Frag} {h : Heap} {mg : Str → Option Value} {fa : Addr} {CX : Addrs} (X : K.In h) (G : h.Ns mainGlobals mg) (hfa : mg "law" = some (.ref fa))
    (H_is_whole : HasFn K "is_whole" s_is_whole)
    (H_is_ratio : HasFn K "is_ratio" s_is_ratio)
    (H_lowest_terms : HasFn K "lowest_terms" s_lowest_terms)
    (H_ratio_of : HasFn K "ratio_of" s_ratio_of)
    (H_plus : HasFn K "plus" s_plus)
    (H_minus : HasFn K "minus" s_minus)
    (H_times : HasFn K "times" s_times)
    (H_over : HasFn K "over" s_over)
    (H_compare : HasFn K "compare" s_compare)
    (H_common_bottom : HasFn K "common_bottom" s_common_bottom)
    (H_without_common : HasFn K "without_common" s_without_common)
    (H_lowest_row : HasFn K "lowest_row" s_lowest_row)
    (H__law_mix : HasFn K "_law_mix" s__law_mix)
    (H__law_hand : HasFn K "_law_hand" s__law_hand)
    (H__law_draw : HasFn K "_law_draw" s__law_draw)
    (H__law_low : HasFn K "_law_low" s__law_low)
    (H__law_odd : HasFn K "_law_odd" s__law_odd)
    (H__law_refused : HasFn K "_law_refused" s__law_refused)
    (H__law_row : HasFn K "_law_row" s__law_row)
    (H__law_pair : HasFn K "_law_pair" s__law_pair)
    (H__law_common : HasFn K "_law_common" s__law_common)
    (H__law_right : HasFn K "_law_right" s__law_right)
    (H_law : HasFn K "law" s_law)
    (T : Txt P w K mg CX) : ∃ fd : FuncData, (∀ (s : Shared) (v : Value), BindsTo s fd ⟨[v], []⟩ [("_law_script", v)]) ∧ ∀ base : Heap, K.In base → base.Ns mainGlobals mg → FnOk P w K mg base (L2N.CX P w) 6 fa fd ["_law_script"] (sp_law K) := by
  obtain ⟨f, fd, a, F⟩ := H_law
  have e := hfa.symm.trans (PySem.W.mg_of X G a)
  cases e
  refine ⟨fd, ?_, fun base _ _ => ?_⟩
  · obtain ⟨oc, od, kV, doc, pm, an, cdv, ct, osl, rfl, lk, hcd⟩ := F.ex
    exact fun s v => .of_eq rfl
  have D_is_whole := has_df (P := P) (w := w) (base := base) H_is_whole X G (fun f fd F => ok_is_whole F T) (fun _ _ _ _ _ _ us hl => match us, hl with | [_], _ => rfl)
  have D_is_ratio := has_df (P := P) (w := w) (base := base) H_is_ratio X G (fun f fd F => ok_is_ratio F T D_is_whole) (fun _ _ _ _ _ _ us hl => match us, hl with | [_], _ => rfl)
  have D_lowest_terms := has_df (P := P) (w := w) (base := base) H_lowest_terms X G (fun f fd F => ok_lowest_terms F T) (fun _ _ _ _ _ _ us hl => match us, hl with | [_, _], _ => rfl)
  have D_ratio_of := has_df (P := P) (w := w) (base := base) H_ratio_of X G (fun f fd F => ok_ratio_of F T D_is_ratio D_lowest_terms) (fun _ _ _ _ _ _ us hl => match us, hl with | [_], _ => rfl)
  have D_plus := has_df (P := P) (w := w) (base := base) H_plus X G (fun f fd F => ok_plus F D_ratio_of D_lowest_terms) (fun _ _ _ _ _ _ us hl => match us, hl with | [_, _], _ => rfl)
  have D_minus := has_df (P := P) (w := w) (base := base) H_minus X G (fun f fd F => ok_minus F D_ratio_of D_lowest_terms) (fun _ _ _ _ _ _ us hl => match us, hl with | [_, _], _ => rfl)
  have D_times := has_df (P := P) (w := w) (base := base) H_times X G (fun f fd F => ok_times F D_ratio_of D_lowest_terms) (fun _ _ _ _ _ _ us hl => match us, hl with | [_, _], _ => rfl)
  have D_over := has_df (P := P) (w := w) (base := base) H_over X G (fun f fd F => ok_over F T D_ratio_of D_lowest_terms) (fun _ _ _ _ _ _ us hl => match us, hl with | [_, _], _ => rfl)
  have D_compare := has_df (P := P) (w := w) (base := base) H_compare X G (fun f fd F => ok_compare F D_ratio_of) (fun _ _ _ _ _ _ us hl => match us, hl with | [_, _], _ => rfl)
  have D_common_bottom := has_df (P := P) (w := w) (base := base) H_common_bottom X G (fun f fd F => ok_bot F T) (fun _ _ _ _ _ _ us hl => match us, hl with | [_], _ => rfl)
  have D_without_common := has_df (P := P) (w := w) (base := base) H_without_common X G (fun f fd F => ok_wc F T) (fun _ _ _ _ _ _ us hl => match us, hl with | [_], _ => rfl)
  have D_lowest_row := has_df (P := P) (w := w) (base := base) H_lowest_row X G (fun f fd F => ok_low_row F T D_ratio_of D_common_bottom D_without_common) (fun _ _ _ _ _ _ us hl => match us, hl with | [_], _ => rfl)
  have D__law_mix := has_df (P := P) (w := w) (base := base) H__law_mix X G (fun f fd F => ok_mix F T) (fun _ _ _ _ _ _ us hl => match us, hl with | [_, _], _ => rfl)
  have D__law_hand := has_df (P := P) (w := w) (base := base) H__law_hand X G (fun f fd F => ok_hand F T) (fun _ _ _ _ _ _ us hl => match us, hl with | [_], _ => rfl)
  have D__law_draw := has_df (P := P) (w := w) (base := base) H__law_draw X G (fun f fd F => ok_draw F T D__law_mix) (fun _ _ _ _ _ _ us hl => match us, hl with | [_, _], _ => rfl)
  have D__law_low := has_df (P := P) (w := w) (base := base) H__law_low X G (fun f fd F => ok_low F T) (fun _ _ _ _ _ _ us hl => match us, hl with | [_, _], _ => rfl)
  have D__law_odd := has_df (P := P) (w := w) (base := base) H__law_odd X G (fun f fd F => ok_odd F D__law_draw) (fun _ _ _ _ _ _ us hl => match us, hl with | [_, _], _ => rfl)
  have D__law_refused := has_df (P := P) (w := w) (base := base) H__law_refused X G (fun f fd F => ok_refused F T D_ratio_of D_plus D_minus D_times D_over D_compare D_lowest_row) (fun _ _ _ _ _ _ us hl => match us, hl with | [_, _, _], _ => rfl)
  have D__law_row := has_df (P := P) (w := w) (base := base) H__law_row X G (fun f fd F => ok_row F T D__law_draw D__law_low) (fun _ _ _ _ _ _ us hl => match us, hl with | [_], _ => rfl)
  have D__law_pair := has_df (P := P) (w := w) (base := base) H__law_pair X G (fun f fd F => ok_pair F T) (fun _ _ _ _ _ _ us hl => match us, hl with | [_], _ => rfl)
  have D__law_common := has_df (P := P) (w := w) (base := base) H__law_common X G (fun f fd F => ok_common F T) (fun _ _ _ _ _ _ us hl => match us, hl with | [_, _], _ => rfl)
  have D__law_right := has_df (P := P) (w := w) (base := base) H__law_right X G (fun f fd F => ok_right F T D__law_common D__law_pair) (fun _ _ _ _ _ _ us hl => match us, hl with | [_, _], _ => rfl)
  have DH_is_whole := has_dfH (P := P) (w := w) (base := base) H_is_whole X G (fun f fd F => okH_is_whole F T) (fun _ _ _ _ _ _ us hl => match us, hl with | [_], _ => rfl)
  have DH_is_ratio := has_dfH (P := P) (w := w) (base := base) H_is_ratio X G (fun f fd F => okH_is_ratio F T DH_is_whole) (fun _ _ _ _ _ _ us hl => match us, hl with | [_], _ => rfl)
  have DH_lowest_terms := has_dfH (P := P) (w := w) (base := base) H_lowest_terms X G (fun f fd F => okH_lowest_terms F T) (fun _ _ _ _ _ _ us hl => match us, hl with | [_, _], _ => rfl)
  have DH_ratio_of := has_dfH (P := P) (w := w) (base := base) H_ratio_of X G (fun f fd F => okH_ratio_of F T DH_is_ratio DH_lowest_terms) (fun _ _ _ _ _ _ us hl => match us, hl with | [_], _ => rfl)
  have DH_common_bottom := has_dfH (P := P) (w := w) (base := base) H_common_bottom X G (fun f fd F => okH_bot F T) (fun _ _ _ _ _ _ us hl => match us, hl with | [_], _ => rfl)
  have DH_without_common := has_dfH (P := P) (w := w) (base := base) H_without_common X G (fun f fd F => okH_wc F T) (fun _ _ _ _ _ _ us hl => match us, hl with | [_], _ => rfl)
  have DH_lowest_row := has_dfH (P := P) (w := w) (base := base) H_lowest_row X G (fun f fd F => okH_low_row F T DH_ratio_of DH_common_bottom DH_without_common) (fun _ _ _ _ _ _ us hl => match us, hl with | [_], _ => rfl)
  exact ok_law F T D_is_whole D_is_ratio D_ratio_of D_lowest_row DH_lowest_row D__law_hand D__law_draw D__law_low D__law_odd D__law_refused D__law_row D__law_pair D__law_right
/-! ### the error -/
abbrev s_BadRatio : Stmt := inClass (top 3) 0
theorem it_BadRatio {cc cda fI : Addr} {kV doc pm ct : Value} {an : Option Addr} : ∃ msg, PySem.USup.InitText (supFn "BadRatio.__init__" s_BadRatio cc kV doc pm an cda ct) fI [] msg [] ∧ ∃ x j p, msg = .Constant (.str x) j p :=
  ⟨_, { body := ⟨_, _, _, _, _, _, rfl, fun L => ⟨.nil, rfl, ⟨_, rfl⟩, rfl, rfl, rfl⟩⟩, kind := rfl, co := rfl, gen := rfl, cell := (show ∀ x ∈ (defScope s_BadRatio).names, x.2 ≠ NameKind.cell by decide +kernel), ks := rfl, kc := rfl, kf := rfl, kp := (fun x h => by cases h), pp := ⟨_, rfl, rfl⟩, bind := (fun us hl => match us, hl with | [_], _ => rfl), nself := (fun h => by cases h) }, _, _, _, rfl⟩
theorem er_BadRatio {P : Program} {w : World} {K : PySem.W.Frag} {mg : Str → Option Value} {h : Heap} {C : Addr} {cc cda fI : Addr} {kV doc pm ct : Value} {an : Option Addr} (X : K.In h) (G : h.Ns mainGlobals mg) (E : ErK K "BadRatio" C) (F : ErF P K C "BadRatio.__init__" s_BadRatio cc cda fI (supFn "BadRatio.__init__" s_BadRatio cc kV doc pm an cda ct))
    (gS : PySem.W.nsIn K mainGlobals "super" = some none) : Er P w K mg "BadRatio" C [] [] fun _ => True := by
  obtain ⟨msg, IT, x, j, p, rfl⟩ := it_BadRatio (cc := cc) (cda := cda) (fI := fI) (kV := kV) (doc := doc) (pm := pm) (ct := ct) (an := an)
  exact er_of X G E F gS IT (fun _ _ _ _ _ _ _ => PySem.USup.msg_const) (fun _ h => by cases h) (by decide) (by decide)
theorem txt_mk {P : Program} {w : World} {K : PySem.W.Frag} {mg : Str → Option Value} {h : Heap} {C C0 : Addr} {cc cda fI : Addr} {kV doc pm ct : Value} {an : Option Addr} (X : K.In h) (G : h.Ns mainGlobals mg) (E : ErK K "BadRatio" C) (F : ErF P K C "BadRatio.__init__" s_BadRatio cc cda fI (supFn "BadRatio.__init__" s_BadRatio cc kV doc pm an cda ct))
    (g0 : PySem.W.nsIn K mainGlobals "GapError" = some (some (.ref C0))) (i0 : PySem.W.isClsIn K C0 = true) (t0 : PySem.W.typeIn K (.ref C0) = some (.type "type")) (s0 : PySem.W.subIn K (.ref C) (.ref C0) = some true)
    (zs : PySem.W.nsIn K mainGlobals "super" = some none)
    (z1 : PySem.W.nsIn K mainGlobals "isinstance" = some none)
    (z2 : PySem.W.nsIn K mainGlobals "len" = some none)
    (z3 : PySem.W.nsIn K mainGlobals "int" = some none)
    (z4 : PySem.W.nsIn K mainGlobals "bool" = some none)
    (z5 : PySem.W.nsIn K mainGlobals "tuple" = some none)
    (z6 : PySem.W.nsIn K mainGlobals "abs" = some none)
    (z7 : PySem.W.nsIn K mainGlobals "enumerate" = some none)
    (z8 : PySem.W.nsIn K mainGlobals "list" = some none)
    (z9 : PySem.W.nsIn K mainGlobals "range" = some none)
    (z10 : PySem.W.nsIn K mainGlobals "ValueError" = some none)
    (g1 : PySem.W.nsIn K mainGlobals "gcd" = some (some (.builtin "math.gcd")))
    (g2 : PySem.W.nsIn K mainGlobals "lcm" = some (some (.builtin "math.lcm"))) : Txt P w K mg ⟨C, C0⟩ :=
  { n_isinstance := PySem.W.mg_none_of X G z1, n_len := PySem.W.mg_none_of X G z2, n_int := PySem.W.mg_none_of X G z3, n_bool := PySem.W.mg_none_of X G z4, n_tuple := PySem.W.mg_none_of X G z5, n_abs := PySem.W.mg_none_of X G z6, n_enumerate := PySem.W.mg_none_of X G z7, n_list := PySem.W.mg_none_of X G z8, n_range := PySem.W.mg_none_of X G z9, n_ValueError := PySem.W.mg_none_of X G z10,
    i_gcd := PySem.W.mg_of X G g1, i_lcm := PySem.W.mg_of X G g2,
    g_BadRatio := PySem.W.mg_of X G E.gC, g_GapError := PySem.W.mg_of X G g0, c_BadRatio := er_BadRatio X G E F zs, x_BadRatio := E.exC', m_BadRatio := E.exm, k_BadRatio_GapError := kit_own i0 t0 s0, k_BadRatio_ValueError := kit_bt (by decide +kernel) F.hB }
theorem allp_ints {H : Hp} : ∀ ns : List Int, AllP (ns.map fun n => Is (.int n)) (ns.map V.int) H
  | [] => True.intro
  | _ :: ns => ⟨rfl, allp_ints ns⟩
theorem walk {l : PySem.W.OpenLaw} {q : Program} {loose : List Str} {XP : (Str → Option Value) → Heap → Prop} {YP : World → Heap → Prop} {d : DefRec} {K : Params → PySem.W.Frag} (hn : l.most = some 63) (hdf : d.params.defaults = [])
    (hY : ∀ (w : World) (h : Heap), YP w h → (K w.params).In h)
    (F : ∀ (w : World) (mg : Str → Option Value) (fa : Addr) (h : Heap), (K w.params).In h → h.Ns mainGlobals mg → mg d.name = some (.ref fa) →
      ∃ fd : FuncData, (∀ (s : Shared) (u : Value), BindsTo s fd ⟨[u], []⟩ [("_law_script", u)]) ∧ ∀ base : Heap, (K w.params).In base → base.Ns mainGlobals mg → FnOk l.prog w (K w.params) mg base (L2N.CX l.prog w) 6 fa fd ["_law_script"] (sp_law (K w.params))) :
    PySem.W.WalkO q loose XP YP l.row.toRowW d [] (fun f vs => PySem.call f vs) :=
  L2.walk_of (n := 63) (k := 6) (x := "_law_script") (CX := fun w => L2N.CX l.prog w) (sp := fun w => sp_law (K w.params)) hn (by decide) hdf ⟨rfl, by decide, by decide⟩ hY F
    (fun _ _ a ns hl _ hS => ⟨ns, hl, ⟨⟨a, ns.map V.int, rfl, hS, .inl (hs_ints ns), allp_ints ns⟩, True.intro⟩, fun _ _ _ e => e, fun _ _ _ _ z => z.elim⟩)
    fun _ _ _ _ _ z => by
      obtain ⟨_, _, _, _, _, _, _, _, _, _, _, z⟩ := z
      exact z.2
end U

open PySem PySem.W PyProof.Rows
set_option maxRecDepth 100000 in
set_option maxHeartbeats 0 in
theorem PySem.Challenge.cw_untoldgaps_k02_things_that_are_no_ratios_holds : PySem.Challenge.rw_untoldgaps_k02_things_that_are_no_ratios.Holds := by
  w_on; o_law; k_head; (case hw => w_witness2)
  k_fill
  refine U.walk (l := PySem.Challenge.rw_untoldgaps_k02_things_that_are_no_ratios) rfl rfl (fun w h Y => PySem.W.kIn_of Y) ?F
  case F =>
    intro w mg fa h KX G hmg
    refine' U.all_mk KX G hmg ?h_is_whole ?h_is_ratio ?h_lowest_terms ?h_ratio_of ?h_plus ?h_minus ?h_times ?h_over ?h_compare ?h_common_bottom ?h_without_common ?h_lowest_row ?h__law_mix ?h__law_hand ?h__law_draw ?h__law_low ?h__law_odd ?h__law_refused ?h__law_row ?h__law_pair ?h__law_common ?h__law_right ?h_law ?T
    (case h_is_whole => refine' U.has_fn ?a ?l ?c ?k; (case a => k_is); (case l => k_is); (case c => k_is); (case k => k_is))
    (case h_is_ratio => refine' U.has_fn ?a ?l ?c ?k; (case a => k_is); (case l => k_is); (case c => k_is); (case k => k_is))
    (case h_lowest_terms => refine' U.has_fn ?a ?l ?c ?k; (case a => k_is); (case l => k_is); (case c => k_is); (case k => k_is))
    (case h_ratio_of => refine' U.has_fn ?a ?l ?c ?k; (case a => k_is); (case l => k_is); (case c => k_is); (case k => k_is))
    (case h_plus => refine' U.has_fn ?a ?l ?c ?k; (case a => k_is); (case l => k_is); (case c => k_is); (case k => k_is))
    (case h_minus => refine' U.has_fn ?a ?l ?c ?k; (case a => k_is); (case l => k_is); (case c => k_is); (case k => k_is))
    (case h_times => refine' U.has_fn ?a ?l ?c ?k; (case a => k_is); (case l => k_is); (case c => k_is); (case k => k_is))
    (case h_over => refine' U.has_fn ?a ?l ?c ?k; (case a => k_is); (case l => k_is); (case c => k_is); (case k => k_is))
    (case h_compare => refine' U.has_fn ?a ?l ?c ?k; (case a => k_is); (case l => k_is); (case c => k_is); (case k => k_is))
    (case h_common_bottom => refine' U.has_fn ?a ?l ?c ?k; (case a => k_is); (case l => k_is); (case c => k_is); (case k => k_is))
    (case h_without_common => refine' U.has_fn ?a ?l ?c ?k; (case a => k_is); (case l => k_is); (case c => k_is); (case k => k_is))
    (case h_lowest_row => refine' U.has_fn ?a ?l ?c ?k; (case a => k_is); (case l => k_is); (case c => k_is); (case k => k_is))
    (case h__law_mix => refine' U.has_fn ?a ?l ?c ?k; (case a => k_is); (case l => k_is); (case c => k_is); (case k => k_is))
    (case h__law_hand => refine' U.has_fn ?a ?l ?c ?k; (case a => k_is); (case l => k_is); (case c => k_is); (case k => k_is))
    (case h__law_draw => refine' U.has_fn ?a ?l ?c ?k; (case a => k_is); (case l => k_is); (case c => k_is); (case k => k_is))
    (case h__law_low => refine' U.has_fn ?a ?l ?c ?k; (case a => k_is); (case l => k_is); (case c => k_is); (case k => k_is))
    (case h__law_odd => refine' U.has_fn ?a ?l ?c ?k; (case a => k_is); (case l => k_is); (case c => k_is); (case k => k_is))
    (case h__law_refused => refine' U.has_fn ?a ?l ?c ?k; (case a => k_is); (case l => k_is); (case c => k_is); (case k => k_is))
    (case h__law_row => refine' U.has_fn ?a ?l ?c ?k; (case a => k_is); (case l => k_is); (case c => k_is); (case k => k_is))
    (case h__law_pair => refine' U.has_fn ?a ?l ?c ?k; (case a => k_is); (case l => k_is); (case c => k_is); (case k => k_is))
    (case h__law_common => refine' U.has_fn ?a ?l ?c ?k; (case a => k_is); (case l => k_is); (case c => k_is); (case k => k_is))
    (case h__law_right => refine' U.has_fn ?a ?l ?c ?k; (case a => k_is); (case l => k_is); (case c => k_is); (case k => k_is))
    (case h_law => refine' U.has_fn ?a ?l ?c ?k; (case a => k_is); (case l => k_is); (case c => k_is); (case k => k_is))
    (case T =>
      refine' U.txt_mk KX G ?E ?Fe ?g0 ?i0 ?t0 ?s0 ?zs ?z1 ?z2 ?z3 ?z4 ?z5 ?z6 ?z7 ?z8 ?z9 ?z10 ?g1 ?g2
      (case E => refine' ⟨?q1, ?q2, ?q3, ?q4, ?q5, ?q6, ?q7, ?q8, ?q9, ?q10, ?q11, ?q12⟩; (case q1 => k_is); (case q2 => k_is); (case q3 => k_is); (case q4 => k_is); (case q5 => k_is); (case q6 => k_is); (case q7 => k_is); (case q8 => k_is); (case q9 => k_is); (case q10 => k_is); (case q11 => k_is); (case q12 => k_is))
      (case Fe =>
        refine' ⟨?f1, ?f2, ?f3, ?f4, ?f5, ?f6, ?f7, ?f8, ?f9, ?f10, ?f11, ?f12, ?f13⟩
        (case f1 => refine' U.cls_ex ?x ?y; (case x => k_is); (case y => decide +kernel))
        (case f2 => k_is); (case f3 => k_is); (case f4 => k_is)
        (case f5 => refine' U.fn_ex ?x; (case x => k_is))
        (case f6 => k_is)
        (case f7 => refine' U.cell_ex ?x; (case x => k_is))
        (case f8 => refine' U.code_ex ?x ?y ?z; (case x => k_is); (case y => rfl); (case z => decide +kernel))
        (case f9 => k_is); (case f10 => ks_is); (case f11 => k_is); (case f12 => k_is); (case f13 => decide +kernel))
      (case g0 => k_is); (case i0 => k_is); (case t0 => k_is); (case s0 => k_is); (case zs => k_is); (case z1 => k_is); (case z2 => k_is); (case z3 => k_is); (case z4 => k_is); (case z5 => k_is); (case z6 => k_is); (case z7 => k_is); (case z8 => k_is); (case z9 => k_is); (case z10 => k_is); (case g1 => k_is); (case g2 => k_is))

