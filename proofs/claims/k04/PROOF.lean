import PyProof.Rows.All
import Wide.All
import OpenK.AllK
import Wide.FinOn
import KE.KExcSuper
import HandS.Base
import HandS.Call
import PyProof.FString
import PyProof.FitsInt
import HandS.Exc
import HandS.ExcInit
import HandS.ExcCtx
import HandS.ForExc
import HandS.Evl
import HandS.Wide
import HandS.Gcd
import HandS.IsInst
import HandS.Walk
import HandS.Iter
import HandS.ExcIs
import HandS.Ends
import HandS.List
import KE.KMathG
import KE.KMathGC
import HandS.HotCalls
import HandS.Zip
import HandS.SetFor
import HandS.Conv
import HandS.OwnEq
import KE.KExcIs
import HandS.ExcField
import HandS.TryOnly
import HandS.Style
import HandS.Defaults
import PyProof.StrBlock2
import PyProof.Rows.StrMul
import KE.KRevSl
import KE.KTupSum
import PySem.Challenge.RW_untoldgaps_k04_whole_rows_turned_mirrore
set_option Elab.async false
set_option linter.all false
set_option maxRecDepth 100000
set_option maxHeartbeats 4000000
/-! ## an own error over an own base over ValueError: super().__init__(text), then fields -/
namespace PySem
namespace USup
open PySem.W PySem.Calls PyProof.Rows PySem.HandSPX
abbrev cRec (C t : Addr) (d : Option Addr) : Obj := { cls := .ref C, dict := d, data := .fields #[.ref t, .none, .none, .none, .bool false, .none] }
/-- what the written part says of an error class at C and its __init__ at fI -/
structure SupCls (prog : Program) (K : Frag) (C fI cc cda : Addr) (fd : FuncData) : Prop where
  cls : ∃ nm q N bs bm sn sub ab col dd k0 k1 k2 k3 k5, K.lookup C = some (excClassObj nm q C N bs bm true sn sub ab col dd k0 k1 k2 k3 k5 "ValueError.__new__") ∧ refsVE bm = true
  sa : findIn K (.ref C) "__setattr__" = some (some (.builtin "object.__setattr__"))
  iC : findIn K (.ref C) "__init__" = some (some (.ref fI))
  tC : typeIn K (.ref fI) = some (.type "function")
  fn : ∃ oc od osl, K.lookup fI = some ⟨oc, od, .func fd, osl⟩
  clo : fd.closure = [(("__class__" : Str), cc)]
  gl : fd.globals = mainGlobals
  bl : fd.builtins = builtinsNs
  cdv : fd.code = .ref cda
  hcd : codeIn K (.ref cda) fd.qualname = true
  cell : ∃ cl cld csl, K.lookup cc = some ⟨cl, cld, .cell (some (.ref C)), csl⟩
  code : ∃ ccl cdd vs ccs file tf, K.lookup cda = some ⟨ccl, cdd, .fields vs, ccs⟩ ∧ vs[2]? = some (.str file tf) ∧ ((prog.main.file : Str) == file) = true
  third : nsIn K cStatics "thirdparty.any" = some none
  hm : ks_superIn K C C "__init__" = some (some (.builtin "ValueError.__init__"))
  hB : subIn K (.ref C) (.type "ValueError") = some true
  hsub : mroIn K C (.ref C) = some true
  top : (prog.main.scope.names.lookup ("super" : Str)).isSome = false
section
variable {prog : Program} {w : World} {A : Around} {E : Value → Shared → Prop} {R : Result → Shared → Prop} {s : Shared} {K : Frag} {C fI cc cda : Addr} {fd : FuncData}
/-- super().__init__(e): the statement -/
theorem sup_stmt (T : SupCls prog K C fI cc cda fd) {env : Env} {x t0 : Addr} {m mb mg : Str → Option Value} {e : Expr} {p0 p1 p2 pos pos' : Pos} {first : Str} {Q : Flow → Shared → Prop} {body : List Stmt}
    (X : K.In s.heap) (hx : s.heap.get? x = some (cRec C t0 none)) (hn : s.heap.Ns env.locals m) (hmx : m first = some (.ref x))
    (hG : s.heap.Ns mainGlobals mg) (hgs : mg "super" = none) (hBn : s.heap.Ns builtinsNs mb) (hbs : mb "super" = bootBuiltins "super")
    (hk : env.scope.kind = .function) (hks : env.kindOf "super" = some .globalImplicit) (hkc : env.kindOf "__class__" = some .free) (hkf : env.kindOf first = some .local)
    (hcl : env.cells.lookup ("__class__" : Str) = some cc) (hfu : env.func = some fI) (hco : env.code = .ref cda) (hgl : env.globals = mainGlobals) (hbl : env.builtins = builtinsNs)
    (hp : ∃ an, (fd.params.posonlyargs ++ fd.params.args).head? = some an ∧ an.arg = first)
    (hi : interactive env = false)
    (he : ∀ s' : Shared, s'.heap.Ns env.locals m → s'.os = s.os → (∀ Q' : Value → Shared → Prop, (∀ v tk, Q' v { s' with toks := tk }) → wpAny (model prog w) A (eval e env) Q' E s'))
    (hq : ∀ h' tk t1, (∀ b o, b ≠ x → s.heap.get? b = some o → h'.get? b = some o) → h'.get? x = some (cRec C t1 none) → s.heap.objs.size ≤ h'.objs.size → Q .next { s with heap := h', toks := tk })
    (hs1 : swapsWith (.Call (.Attribute (.Call (.Name "super" p0) [] [] p1) "__init__" p2) [e] [] pos) none pos'.line env = pure false)
    (hmc : ∃ pl, eval (.Call (.Attribute (.Call (.Name "super" p0) [] [] p1) "__init__" p2) [e] [] pos) env = (do
      let ov ← attributeBase (.Call (.Name "super" p0) [] [] p1) "__init__" env (eval (.Call (.Name "super" p0) [] [] p1) env)
      standAt p2.atName
      let (f, fst) ← holding [ov] (getMethod ov "__init__" pl)
      callWith pos f fst (backTo pos (starEach [e] env)) []))
    (hst : starEach [e] env = (false, eval e env) :: starEach [] env) (hpl : (backTo pos (starEach [] env)).any (·.1) = false) :
    _root_.PySem.wpAt (model prog w) A (.func body env) (exec (.Expr (.Call (.Attribute (.Call (.Name "super" p0) [] [] p1) "__init__" p2) [e] [] pos) pos') env) Q E s := by
  obtain ⟨nm, q, N, bs, bm, sn, sub, ab, col, dd, k0, k1, k2, k3, k5, hC, hbm⟩ := T.cls
  obtain ⟨oc, od, osl, ho⟩ := T.fn
  obtain ⟨cl, cld, csl, hcell⟩ := T.cell
  obtain ⟨ccl, cdd, vs, ccs, file, tf, hcode, hvs, hfile⟩ := T.code
  obtain ⟨an, han, hanx⟩ := hp
  obtain ⟨pl, hmc⟩ := hmc
  subst hanx
  have hCc : clsIn K C = some { name := nm, bases := bs, mro := .ref C :: bm, ns := N, qualname := q, hasDict := true, slotNames := sn, subclasses := sub, abstract := ab, collection := col, hasDel := false } := by unfold clsIn; rw [hC] <;> rfl
  have I : InstAt s.heap x (cRec C t0 none) C none := ⟨hx, rfl, rfl, trivial⟩
  refine ks_wpAt_Expr_any ?_ hi hs1
  refine ks_wpAt_MethodCall ?_ hmc
  refine ks_wpAt_super_base hks hkc (by decide) hfu (X _ _ ho) rfl han hco (X _ _ hcode) rfl hvs hfile T.top ?_
  refine ks_loadName_global hk hks (loadGlobal_builtin (env := env) (by rw [hgl]; exact hG) hgs (by rw [hbl]; exact hBn) (hbs.trans (by first | boot_by_name | rfl | kernel_rfl)) ⟨rfl, ?_⟩)
  refine wpAny_loadName_free hk hkc hcl ⟨_, X _ _ hcell, rfl⟩ ?_
  refine wpAny_loadName_local hk hkf hn hmx ?_
  refine ks_wpAny_isType_cls (X _ _ hC) rfl ⟨rfl, ?_⟩
  obtain ⟨hh, g, d, t, os⟩ := s
  refine ks_wpAny_call_super (X _ _ hC) rfl hx rfl (fun c z => by cases z) (looks_mroIn X T.hsub) (fun h1 e1 k1' => ?_)
  have X1 : K.In h1 := X.keeps k1'
  have hx1 := k1' _ _ hx
  have I1 : InstAt h1 x (cRec C t0 none) C none := ⟨hx1, rfl, rfl, trivial⟩
  have hm := T.hm
  unfold ks_superIn at hm
  rw [hCc] at hm
  refine kxs_getMethod kxs_ValueError e1 (looks_opaque X1 T.third) (l₀ := .ref C :: bm) ?_ rfl X1 hm (I1.type.andThen (looks_subIn X1 T.hB)) (ks_ne X1 I1 hCc) (by decide) ?_
  · exact fun A Q E s k q => wpAny_bind ((looks_clsIn X1 hCc) A _ E s k (wpAny_pure q))
  show wpAny _ _ (callWith pos (.ref h1.objs.size) [] (backTo pos (starEach [e] env)) []) _ _ _
  have k2' : ∀ b o, hh.get? b = some o → (h1.push (kxs_mw "ValueError.__init__" x)).get? b = some o := fun b o z => Heap.get?_push_of_some _ (k1' b o z)
  have hu : (h1.push (kxs_mw "ValueError.__init__" x)).get? h1.objs.size = some (kxs_mw "ValueError.__init__" x) := Heap.get?_push_at rfl rfl
  have hx2 := k2' _ _ hx
  have key : wpAny (model prog w) A (spliced (backTo pos (starEach [e] env))) (fun vs s₁ => KxsAt "ValueError.__init__" h1.objs.size x s₁.heap ∧ wpAny (model prog w) A (call (.ref h1.objs.size) vs) (fun _ => Q Flow.next) E s₁) E
      ⟨h1.push (kxs_mw "ValueError.__init__" x), g, d, t + 1, os⟩ := by
    refine spliced_more ?_ hst
    refine he ⟨h1.push (kxs_mw "ValueError.__init__" x), g, d, t + 1, os⟩ (hn.keeps k2') rfl _ fun v tk => ?_
    refine spliced_none ?_
    refine ⟨hu, ?_⟩
    show wpAny _ _ (call (.ref h1.objs.size) [v]) _ _ _
    refine wpAny_call (codeAny_of_tree ?_)
    show wpAny _ A.in1 (callAny (.ref h1.objs.size) ⟨[v], []⟩) _ _ _
    simp only [callAny]
    refine wpAny_bind (wpAny_load hu ?_)
    simp only [kxs_mw, show (Value.type "method-wrapper" == Value.type "method" || Value.type "method-wrapper" == Value.type "builtin_function_or_method" || Value.type "method-wrapper" == Value.type "method-wrapper") = true by decide, if_true]
    refine KFB.if_so (by decide) ?_
    refine wpAny_bind (check_bound_init F.excBase_ValueError.toExcCallFacts (k2' _ _ (X _ _ hC)) hx2 rfl ?_)
    refine wpAny_bind (wpAny_pure (wpAny_pure ?_))
    refine ⟨plainId_quiet F.excBase_ValueError.init.plain _, codeAny_builtin F.excBase_ValueError.initEntry ?_⟩
    refine exc_init_tree (cls := .ref C) (t0 := t0) (dv := none) (c2 := .none) (c3 := .none) (b4 := .bool false) hx2 (by show 1 ≤ sizeLine; rw [sizeLine_eq]; decide) (fun h' k3 e3 e4 => ?_)
    exact hq h' tk _ (fun b o hb z => k3 b o hb (k2' b o z)) e3 (Nat.le_of_lt (Nat.lt_trans (Nat.lt_trans (Heap.lt_size e1) (Heap.lt_size hu)) (Heap.lt_size e4)))
  rw [hst] at key ⊢
  refine kxs_callWith (i := "ValueError.__init__") (x := x) (by show (false || (backTo pos (starEach [] env)).any (·.1)) = false; rw [hpl]; rfl) ?_
  exact evalArgs_plain key

/-! ### self.f = p, one after another -/
inductive FS (env : Env) (first : Str) : List Stmt → List (Str × Str) → Prop
  | nil : FS env first [] []
  | cons {q1 q2 q3 q4 : Pos} {f p : Str} {rest : List Stmt} {fs : List (Str × Str)} (hk : env.kindOf p = some .local) (hd : (p == ("__debug__" : Str)) = false)
      (hs : swapsWith (.Name p q3) (some (.Attribute (.Name first q1) f q2)) q4.line env = pure false) (r : FS env first rest fs) :
      FS env first (.Assign [.Attribute (.Name first q1) f q2] (.Name p q3) q4 :: rest) ((f, p) :: fs)
/-- the exception at x with the fields acc so far, its dict d -/
def ExcSt (h0 h : Heap) (x C t : Addr) (acc : List (Str × Value)) : Option Addr → Prop
  | none => acc = [] ∧ h.get? x = some (cRec C t none) ∧ h0.objs.size ≤ h.objs.size
  | some dx => h0.objs.size ≤ dx ∧ dx ≠ x ∧ h.get? x = some (cRec C t (some dx)) ∧ h.Ns1 dx (fun y => acc.lookup y)
def Kp (h0 h : Heap) (x : Addr) : Prop := ∀ b o, b ≠ x → h0.get? b = some o → h.get? b = some o
theorem look_cons (f : Str) (v : Value) (acc : List (Str × Value)) : (fun y => if y = f then some v else acc.lookup y) = fun y => ((f, v) :: acc).lookup y := by
  funext y
  by_cases e : y = f
  · subst e; simp [List.lookup]
  · have e' : (y == f) = false := by simpa using e
    rw [if_neg e]; simp [List.lookup, e']
theorem within_look : ∀ (acc : List (Str × Value)), Within (fun y => acc.lookup y) (acc.map (·.1)) := fun acc y hy => by
  induction acc with
  | nil => exact absurd rfl hy
  | cons a r ih =>
    obtain ⟨f, v⟩ := a
    by_cases e : y = f
    · subst e; exact List.mem_cons_self
    · have e' : (y == f) = false := by simpa using e
      have h2 : List.lookup y r ≠ none := by
        intro z; apply hy; show List.lookup y ((f, v) :: r) = none; simp [List.lookup, e', z]
      exact List.mem_cons_of_mem _ (ih h2)
theorem kIn_but {h0 h : Heap} {x : Addr} (X : K.In h0) (hx : K.lookup x = none) (k : Kp h0 h x) : K.In h := fun a o e => k a o (fun z => by rw [z, hx] at e; cases e) (X a o e)
theorem fields_run (T : SupCls prog K C fI cc cda fd) {env : Env} {x t : Addr} {m : Str → Option Value} {first : Str} {h0 : Heap}
    (X0 : K.In h0) (hxK : K.lookup x = none) (hn0 : h0.Ns env.locals m) (hLx : env.locals ≠ x) (hx0 : x < h0.objs.size) (hmx : m first = some (.ref x)) (hkf : env.kindOf first = some .local) (hdf : (first == ("__debug__" : Str)) = false) (hk : env.scope.kind = .function) :
    ∀ {rest : List Stmt} {fs : List (Str × Str)}, FS env first rest fs → ∀ (acc : List (Str × Value)) (d : Option Addr) (s : Shared) (Q : Flow → Shared → Prop), (∀ fp ∈ fs, findIn K (.ref C) fp.1 = some none ∧ ∃ v, m fp.2 = some v) → acc.length + fs.length ≤ 100 →
      Kp h0 s.heap x → ExcSt h0 s.heap x C t acc d →
      (∀ h' tk d', Kp h0 h' x → ExcSt h0 h' x C t ((fs.map fun fp => (fp.1, (m fp.2).getD .none)).reverse ++ acc) d' → ((fs ≠ [] ∨ d ≠ none) ↔ d' ≠ none) → Q .next { s with heap := h', toks := tk }) →
      wpAny (model prog w) A (execs rest env) Q E s := by
  obtain ⟨nm, q, N, bs, bm, sn, sub, ab, col, dd, k0, k1, k2, k3, k5, hC, hbm⟩ := T.cls
  have hCc : clsIn K C = some { name := nm, bases := bs, mro := .ref C :: bm, ns := N, qualname := q, hasDict := true, slotNames := sn, subclasses := sub, abstract := ab, collection := col, hasDel := false } := by unfold clsIn; rw [hC] <;> rfl
  have hmro : refsVE (.ref C :: bm) = true := hbm
  intro rest fs F
  induction F with
  | nil =>
    intro acc d s Q _ _ kp st hq
    refine wpAny_execs_nil ?_
    have := hq s.heap s.toks d kp (by simpa using st) ⟨fun z => z.elim (fun y => absurd rfl y) id, .inr⟩
    exact this
  | @cons q1 q2 q3 q4 f p rest fs hkp hdp hs r ih =>
    intro acc d s Q hf hl kp st hq
    obtain ⟨hno, v, hv⟩ := hf (f, p) List.mem_cons_self
    have X : K.In s.heap := kIn_but X0 hxK kp
    have hn : s.heap.Ns env.locals m := by
      obtain ⟨o, es, ep, e, r⟩ := hn0
      exact ⟨o, es, ep, kp _ _ hLx e, r⟩
    refine wpAny_execs_cons (plainObj_wpAny_Assign_Attribute ?_ hs)
    refine wpAny_Name (wpAny_loadName_local hk hkp hn hv ?_) hdp
    refine wpAny_Name (wpAny_loadName_local hk hkf hn hmx ?_) hdf
    have hl' : ((f, v) :: acc).length + fs.length ≤ 100 := by simp only [List.length_cons] at hl ⊢; omega
    have fin : ∀ (h3 : Heap) (tk3 : Nat) (d3 : Addr), Kp h0 h3 x → ExcSt h0 h3 x C t ((f, v) :: acc) (some d3) → wpAny (model prog w) A (execs rest env) Q E { s with heap := h3, toks := tk3 } := fun h3 tk3 d3 kp3 st3 => by
      refine ih ((f, v) :: acc) (some d3) _ Q (fun fp h => hf fp (List.mem_cons_of_mem _ h)) hl' kp3 st3 fun h' tk d' kp' st' hd' => ?_
      refine hq h' tk d' kp' ?_ ⟨fun _ => hd'.mp (.inr (fun z => by cases z)), fun _ => .inl (fun z => by cases z)⟩
      have e : (List.map (fun fp : Str × Str => (fp.1, (m fp.2).getD .none)) ((f, p) :: fs)).reverse ++ acc = (List.map (fun fp : Str × Str => (fp.1, (m fp.2).getD .none)) fs).reverse ++ (f, v) :: acc := by
        rw [List.map_cons, List.reverse_cons, List.append_assoc]
        show _ ++ ((f, (m p).getD .none) :: acc) = _
        rw [hv]
        rfl
      rw [e]
      exact st'
    cases d with
    | none =>
      obtain ⟨ea, hx, hsz⟩ := st
      subst ea
      refine set_plain X (ox := cRec C t none) (od := none) ⟨hx, rfl, rfl, trivial⟩ T.sa ?_
      obtain ⟨hh, g, dr, tk, os⟩ := s
      refine exc_osa X hx hCc hmro rfl hno (fun h3 tk3 dx k3 dn dne hx3 hn3 => ?_)
      have sz : h0.objs.size ≤ dx := Nat.le_trans hsz dn
      refine fin h3 tk3 dx (fun b o hb z => k3 b o hb (kp b o hb z)) ⟨sz, dne, hx3, ?_⟩
      rw [← look_cons]
      exact hn3
    | some dx =>
      obtain ⟨sz, dne, hx, hns⟩ := st
      obtain ⟨oD, esD, epD, hoD, hdD, _⟩ := hns.count (within_look acc)
      refine set_plain X (ox := cRec C t (some dx)) (od := some oD) ⟨hx, rfl, rfl, hoD⟩ T.sa ?_
      obtain ⟨hh, g, dr, tk, os⟩ := s
      refine OEX.osa_old X hx hns (within_look acc) (by rw [List.length_map]; omega) hCc hmro rfl hno (fun h3 tk3 k3 hn3 => ?_)
      refine fin h3 tk3 dx (fun b o hb z => k3 b o (fun y => ?_) (kp b o hb z)) ⟨sz, dne, k3 x _ (Ne.symm dne) hx, ?_⟩
      · rw [y] at z
        exact absurd (Heap.lt_size z) (Nat.not_lt.mpr sz)
      · rw [← look_cons]
        exact hn3
end

/-! ### the text of the message -/
section
variable {prog : Program} {w : World}
def PartOk (prog : Program) (w : World) (env : Env) (m : Str → Option Value) (e : Expr) (n : Nat) : Prop :=
  ∀ (A : Around) (E : Value → Shared → Prop) (s : Shared) (Q : Value → Shared → Prop), s.heap.Ns env.locals m → (∀ (x : Str) (t : Tok) (tk : Nat), x.length ≤ n → Q (.str x t) { s with toks := tk }) → wpAny (model prog w) A (eval e env) Q E s
theorem part_const {env : Env} {m : Str → Option Value} {x : Str} {j : Nat} {p : Pos} {n : Nat} (hx : x.length ≤ n) : PartOk prog w env m (.Constant (.str x) j p) n := fun A E s Q _ h => Calls.Constant_str (h x _ _ hx)
theorem part_str {env : Env} {m : Str → Option Value} {y x : Str} {t : Tok} {p p2 : Pos} {n : Nat} (hk : env.scope.kind = .function) (hl : env.kindOf y = some .local) (hd : (y == ("__debug__" : Str)) = false) (hm : m y = some (.str x t)) (hx : x.length ≤ n) (hn : n ≤ 100000) :
    PartOk prog w env m (.FormattedValue (.Name y p) (-1) none p2) n := fun A E s Q ns h => by
  refine wpAny_FormattedValue_plain (wpAny_Name (wpAny_loadName_local hk hl ns hm ?_) hd)
  exact wpAny_formatField_str (h x t s.toks hx) (h x _ _ hx) (by rw [sizeLine_eq]; omega)
theorem part_int {env : Env} {m : Str → Option Value} {y : Str} {i : Int} {t : Tok} {p p2 : Pos} (hk : env.scope.kind = .function) (hl : env.kindOf y = some .local) (hd : (y == ("__debug__" : Str)) = false) (hm : m y = some (.int i t)) (hx : i.natAbs < 10 ^ 100) :
    PartOk prog w env m (.FormattedValue (.Name y p) (-1) none p2) 1000 := fun A E s Q ns h => by
  have h2 : i.natAbs.log2 < 1920 := by
    rcases Nat.eq_zero_or_pos i.natAbs with z | z
    · rw [z]; decide
    · exact (Nat.log2_lt (Nat.ne_of_gt z)).mpr (Nat.lt_trans hx (by decide))
  refine wpAny_FormattedValue_plain (wpAny_Name (wpAny_loadName_local hk hl ns hm ?_) hd)
  refine wpAny_formatField_int h2 (h _ _ _ ?_)
  rw [ofString_length]
  have := int_text_length_le10 (k := 100) (by decide) hx
  omega
inductive PartsOk (prog : Program) (w : World) (env : Env) (m : Str → Option Value) : List Expr → Prop
  | nil : PartsOk prog w env m []
  | cons {e : Expr} {es : List Expr} {n : Nat} (h : PartOk prog w env m e n) (hn : n ≤ 1000) (r : PartsOk prog w env m es) : PartsOk prog w env m (e :: es)
def MsgOk (prog : Program) (w : World) (env : Env) (m : Str → Option Value) (e : Expr) : Prop :=
  ∀ (A : Around) (E : Value → Shared → Prop) (s : Shared) (Q : Value → Shared → Prop), s.heap.Ns env.locals m → (∀ v tk, Q v { s with toks := tk }) → wpAny (model prog w) A (eval e env) Q E s
theorem msg_const {env : Env} {m : Str → Option Value} {x : Str} {j : Nat} {p : Pos} : MsgOk prog w env m (.Constant (.str x) j p) := fun A E s Q _ h => Calls.Constant_str (h _ _)
theorem joins_ok {env : Env} {m : Str → Option Value} {A : Around} {E : Value → Shared → Prop} : ∀ {es : List Expr}, PartsOk prog w env m es → ∀ (acc : Str) (s : Shared) (R : Str → Shared → Prop), s.heap.Ns env.locals m → acc.length + 1000 * es.length ≤ 100000 →
    (∀ out tk, out.length ≤ 100000 → R out { s with toks := tk }) → Joins (model prog w) A E (evalEach es env) acc R s := by
  intro es h
  induction h with
  | nil =>
    intro acc s R ns hl k
    have e0 : evalEach [] env = [] := by first | rfl | simp [evalEach]
    rw [e0]
    exact k acc s.toks (by simpa using hl)
  | @cons e es n he hn r ih =>
    intro acc s R ns hl k
    have e0 : evalEach (e :: es) env = eval e env :: evalEach es env := by first | rfl | simp [evalEach]
    rw [e0]
    rw [List.length_cons] at hl
    refine he A E s _ ns fun x t tk hx => ⟨x, t, rfl, ?_, ?_⟩
    · rw [strLen_append, sizeLine_eq]; omega
    · exact ih (acc ++ x) _ R ns (by rw [strLen_append]; omega) fun out tk' ho => k out tk' ho
theorem msg_join {env : Env} {m : Str → Option Value} {e1 e2 : Expr} {es : List Expr} {p : Pos} (h : PartsOk prog w env m (e1 :: e2 :: es)) (hl : es.length ≤ 50) : MsgOk prog w env m (.JoinedStr (e1 :: e2 :: es) p) := fun A E s Q ns q => by
  refine wpAny_JoinedStr (joins_ok h Str.empty s _ ns (by show 0 + 1000 * (es.length + 1 + 1) ≤ 100000; omega) fun out tk ho => ⟨by rw [sizeLine_eq]; omega, q _ _⟩)
end

/-! ### the whole __init__, the making -/
/-- the text of an __init__: super().__init__(e), then the fields -/
structure InitText (fd : FuncData) (fI : Addr) (ps : List Str) (e : Expr) (fs : List (Str × Str)) : Prop where
  body : ∃ p0 p1 p2 pos pos' rest, fd.body = .stmts (.Expr (.Call (.Attribute (.Call (.Name "super" p0) [] [] p1) "__init__" p2) [e] [] pos) pos' :: rest) ∧ ∀ L, FS (callEnv fd L fI) "self" rest fs ∧
    swapsWith (.Call (.Attribute (.Call (.Name "super" p0) [] [] p1) "__init__" p2) [e] [] pos) none pos'.line (callEnv fd L fI) = pure false ∧
    (∃ pl, eval (.Call (.Attribute (.Call (.Name "super" p0) [] [] p1) "__init__" p2) [e] [] pos) (callEnv fd L fI) = (do
      let ov ← attributeBase (.Call (.Name "super" p0) [] [] p1) "__init__" (callEnv fd L fI) (eval (.Call (.Name "super" p0) [] [] p1) (callEnv fd L fI))
      standAt p2.atName
      let (f, fst) ← holding [ov] (getMethod ov "__init__" pl)
      callWith pos f fst (backTo pos (starEach [e] (callEnv fd L fI))) [])) ∧
    starEach [e] (callEnv fd L fI) = (false, eval e (callEnv fd L fI)) :: starEach [] (callEnv fd L fI) ∧ (backTo pos (starEach [] (callEnv fd L fI))).any (·.1) = false ∧ interactive (callEnv fd L fI) = false
  kind : fd.scope.kind = .function
  co : fd.scope.isCoroutine = false
  gen : fd.scope.isGenerator = false
  cell : ∀ x ∈ fd.scope.names, x.2 ≠ .cell
  ks : fd.scope.names.lookup ("super" : Str) = some .globalImplicit
  kc : fd.scope.names.lookup ("__class__" : Str) = some .free
  kf : fd.scope.names.lookup ("self" : Str) = some .local
  kp : ∀ x ∈ ps, fd.scope.names.lookup x = some .local
  pp : ∃ an, (fd.params.posonlyargs ++ fd.params.args).head? = some an ∧ an.arg = "self"
  bind : ∀ us : List Value, us.length = ps.length + 1 → bindArgs fd ⟨us, []⟩ = pure ((("self" : Str) :: ps).zip us)
  nself : ("self" : Str) ∉ ps
theorem nskeep {h h' : Heap} {x a : Addr} {m : Str → Option Value} (n : h.Ns a m) (hx : a ≠ x) (k : Kp h h' x) : h'.Ns a m := by
  obtain ⟨o, es, ep, e, r⟩ := n
  exact ⟨o, es, ep, k _ _ hx e, r⟩
section
variable {prog : Program} {w : World} {A : Around} {R : Result → Shared → Prop} {s : Shared} {K : Frag} {C fI cc cda : Addr} {fd : FuncData}
theorem sup_init (T : SupCls prog K C fI cc cda fd) {ps : List Str} {e : Expr} {fs : List (Str × Str)} (I : InitText fd fI ps e fs) {x t0 : Addr} {us : List Value} {mg mb : Str → Option Value}
    (X : K.In s.heap) (hlim : s.heap.NoLimit) (hG : s.heap.Ns mainGlobals mg) (hgs : mg "super" = none) (hBn : s.heap.Ns builtinsNs mb) (hbs : mb "super" = bootBuiltins "super") (hGx : mainGlobals ≠ x) (hBx : builtinsNs ≠ x)
    (hx : s.heap.get? x = some (cRec C t0 none)) (hxK : K.lookup x = none) (hroom : A.depth < recursionLimit) (hlen : us.length = ps.length)
    (hmsg : ∀ L, MsgOk prog w (callEnv fd L fI) (fun y => (((("self" : Str) :: ps).zip (Value.ref x :: us)).reverse).lookup y) e)
    (hf : ∀ fp ∈ fs, findIn K (.ref C) fp.1 = some none ∧ ∃ v, (((("self" : Str) :: ps).zip (Value.ref x :: us)).reverse).lookup fp.2 = some v) (hfl : fs.length ≤ 100)
    (hq : ∀ h' tk t d', Kp s.heap h' x → ExcSt s.heap h' x C t (fs.map fun fp => (fp.1, ((((("self" : Str) :: ps).zip (Value.ref x :: us)).reverse).lookup fp.2).getD .none)).reverse d' → (fs ≠ [] ↔ d' ≠ none) → R (.ok (.ret .none)) { s with heap := h', toks := tk }) :
    codeAny (model prog w) A (.call (.ref fI) ⟨.ref x :: us, []⟩) R s := by
  obtain ⟨oc, od, osl, ho⟩ := T.fn
  obtain ⟨p0, p1, p2, pos, pos', rest, hbody, hL⟩ := I.body
  have hself : (((("self" : Str) :: ps).zip (Value.ref x :: us)).reverse).lookup ("self" : Str) = some (.ref x) := by
    rw [List.zip_cons_cons, List.reverse_cons]
    have : ∀ l : List (Str × Value), (∀ y ∈ l, y.1 ≠ ("self" : Str)) → (l ++ [(("self" : Str), Value.ref x)]).lookup ("self" : Str) = some (.ref x) := by
      intro l
      induction l with
      | nil => intro _; simp [List.lookup]
      | cons a r ih =>
        intro h
        obtain ⟨f, v⟩ := a
        have ne : (("self" : Str) == f) = false := by
          have := h (f, v) List.mem_cons_self
          simpa using fun z => this z.symm
        show List.lookup ("self" : Str) ((f, v) :: (r ++ _)) = _
        simp only [List.lookup, ne]
        exact ih fun y hy => h y (List.mem_cons_of_mem _ hy)
    refine this _ fun y hy => ?_
    rw [List.mem_reverse] at hy
    intro z
    have := (List.of_mem_zip hy).1
    rw [z] at this
    exact I.nself this
  refine ks_codeAny_call_defAt (fd := fd) (binds := (("self" : Str) :: ps).zip (Value.ref x :: us)) hroom (X _ _ ho) rfl hlim (codeRec_of X (by rw [T.cdv]; exact T.hcd)) hbody (.of_eq (I.bind _ (by rw [List.length_cons, hlen]))) I.cell ?_ (fun h1 hns k1 => ?_) I.co I.gen I.kind
  · intro y hy
    have := (List.of_mem_zip hy).1
    rcases List.mem_cons.mp this with z | z
    · rw [z]; exact I.kf
    · exact I.kp _ z
  obtain ⟨hFS, hsw, hmc, hst, hpl, hint⟩ := hL s.heap.objs.size
  have X1 : K.In h1 := X.keeps k1
  have hLx : s.heap.objs.size ≠ x := Nat.ne_of_gt (Heap.lt_size hx)
  refine ks_wpAt_execs_cons ?_
  refine sup_stmt (s := ⟨h1, s.gens, s.drawn, s.toks + _, s.os⟩) T (env := callEnv fd s.heap.objs.size fI) (x := x) (t0 := t0) (m := fun y => (((("self" : Str) :: ps).zip (Value.ref x :: us)).reverse).lookup y) (mg := mg) (mb := mb) (first := "self")
    X1 (k1 _ _ hx) hns hself (hG.keeps k1) hgs (hBn.keeps k1) hbs I.kind I.ks I.kc I.kf ?_ rfl T.cdv T.gl T.bl I.pp hint (fun s' hn' _ Q' hq' => hmsg _ _ _ _ _ hn' hq') (fun h2 tk2 t2 k2 hx2 hsz => ?_) hsw hmc hst hpl
  · show List.lookup ("__class__" : Str) fd.closure = some cc
    rw [T.clo]; simp [List.lookup]
  refine wpAt_of_wpAny ?_
  have sz1 : s.heap.objs.size < h1.objs.size := hns.lt
  refine fields_run T (env := callEnv fd s.heap.objs.size fI) (m := fun y => (((("self" : Str) :: ps).zip (Value.ref x :: us)).reverse).lookup y) (h0 := h1) (x := x) (t := t2) (first := "self") X1 hxK hns hLx (Heap.lt_size (k1 _ _ hx)) hself I.kf (by decide) I.kind hFS [] none _ _ hf (by simpa using hfl) k2 ⟨rfl, hx2, hsz⟩ (fun h' tk d' kp st hd => ?_)
  refine hq h' tk t2 d' (fun b o hb z => kp b o hb (k1 b o z)) ?_ ⟨fun z => hd.mp (.inl z), fun z => (hd.mpr z).elim id fun y => absurd rfl y⟩
  rw [List.append_nil] at st
  cases d' with
  | none => exact ⟨st.1, st.2.1, Nat.le_trans (Nat.le_of_lt sz1) st.2.2⟩
  | some dx => exact ⟨Nat.le_trans (Nat.le_of_lt sz1) st.1, st.2.1, st.2.2.1, st.2.2.2⟩
end
end USup
end PySem
namespace L2
open PySem PySem.Spec PyProof.Rows PySem.USup
abbrev KV1 : List (Str × V) → List (Str × Value) → Prop := Paired fun p q => p.1 = q.1 ∧ RelV p.2 q.2
theorem kv1_zip : ∀ {ps : List Str} {vs : List V} {us : List Value}, Vals vs us → KV1 (ps.zip vs) (ps.zip us)
  | [], _, _, _ => by rw [List.zip_nil_left, List.zip_nil_left]; exact .nil
  | _ :: _, [], _, .nil => .nil
  | p :: ps, v :: vs, _, .cons r t => .cons ⟨rfl, r⟩ (kv1_zip t)
theorem kv1_rev : ∀ {l : List (Str × V)} {l' : List (Str × Value)}, KV1 l l' → KV1 l.reverse l'.reverse
  | _, _, .nil => .nil
  | _, _, .cons r t => by rw [List.reverse_cons, List.reverse_cons]; exact (kv1_rev t).snoc r
theorem kv1_look {x : Str} : ∀ {l : List (Str × V)} {l' : List (Str × Value)}, KV1 l l' → RelO (l.lookup x) (l'.lookup x)
  | _, _, .nil => True.intro
  | (f, v) :: l, (g, u) :: l', .cons ⟨e, r⟩ t => by
    have e' : f = g := e
    subst e'
    by_cases h : x = f
    · subst h; simp only [List.lookup, beq_self_eq_true]; exact r
    · have h' : (x == f) = false := by simpa using h
      simp only [List.lookup, h']
      exact kv1_look t
theorem relO_getD {o : Option V} {o' : Option Value} (r : RelO o o') : RelV (o.getD .non) (o'.getD .none) := by
  cases o <;> cases o' <;> first | exact r | exact r.elim | rfl
theorem look_app_ne {x f : Str} {u : Value} (h : x ≠ f) : ∀ (l : List (Str × Value)), (l ++ [(f, u)]).lookup x = l.lookup x
  | [] => by
    have h' : (x == f) = false := by simpa using h
    show List.lookup x [(f, u)] = none
    simp only [List.lookup, h']
  | (g, w) :: l => by
    by_cases e : x = g
    · subst e; simp only [List.cons_append, List.lookup, beq_self_eq_true]
    · have e' : (x == g) = false := by simpa using e
      simp only [List.cons_append, List.lookup, e']
      exact look_app_ne h l
/-- the fields of a made exception, the last stored first -/
def fldV (ps : List Str) (vs : List V) (fs : List (Str × Str)) : List (Str × V) := (fs.map fun fp => (fp.1, (((ps.zip vs).reverse).lookup fp.2).getD .non)).reverse
/-- C(e, ..): what is asked, and the exception's class, dict, heap -/
def tMkSup (C : Addr) (ps : List Str) (fs : List (Str × Str)) (MV : List V → Prop) (ta : TA) : St → Hp → XK → Prop := fun σ H Q => ta σ H fun vs H1 => vs.length = ps.length ∧ MV vs ∧
  (fs = [] → Q (.ref C) none H1) ∧ (fs ≠ [] → ∀ d, H1 d = none → Q (.ref C) (some d) (upd H1 d (.xd (fldV ps vs fs))))
section
variable {X : Cx} {C fI cc cda : Addr} {fd : FuncData} {x : Str} {p pos : Pos} {e : Expr} {es : List Expr} {ta : TA} {msg : Expr} {ps : List Str} {fs : List (Str × Str)} {MV : List V → Prop} {k : Nat}
theorem made_sup (T : SupCls X.prog X.K C fI cc cda fd) (IT : InitText fd fI ps msg fs) (gS : X.mg "super" = none) (exC : PySem.W.subIn X.K (.ref C) (.type "BaseException") = some true) (tyC : PySem.W.typeIn X.K (.ref C) = some (.type "type")) (hr : Room (k + 1) X.A)
    (hps : ∀ fp ∈ fs, PySem.W.findIn X.K (.ref C) fp.1 = some none ∧ fp.2 ∈ ps) (hfl : fs.length ≤ 100) (hpl : ps.length ≤ 1000)
    (hmsg : ∀ (vs : List V) (us : List Value) (a : Addr) (L : Addr), Vals vs us → vs.length = ps.length → MV vs → MsgOk X.prog X.w (callEnv fd L fI) (fun y => (((("self" : Str) :: ps).zip (Value.ref a :: us)).reverse).lookup y) msg)
    {pins : List (Addr × Obj)} {σ : St} {H : Hp} {s : Shared} {vs : List V} {us : List Value} {Q : XK} (I : Inv X pins σ H s) (r : Vals vs us) (hl : vs.length = ps.length) (hMV : MV vs)
    (q0 : fs = [] → Q (.ref C) none H) (q1 : fs ≠ [] → ∀ d, H d = none → Q (.ref C) (some d) (upd H d (.xd (fldV ps vs fs)))) :
    wpAny (model X.prog X.w) X.A (call (.ref C) us) (L2N.MkP X pins σ Q) X.xe s := by
  obtain ⟨nm, q, N, bs, bm, sn, sub, ab, col, dd, k0, k1, k2, k3, k5, hC, hbm⟩ := T.cls
  have KI := I.kIn
  have hlim := I.nolimit
  have hus : us.length = ps.length := r.length.symm.trans hl
  obtain ⟨mb, hB, hbb⟩ := I.ok.mod.blt
  have hG := I.ok.mod.glob.keeps I.bk
  have hB' := hB.keeps I.bk
  have bk := I.bk
  obtain ⟨hp, g, dr, tk, os⟩ := s
  have kk : ∀ b o, hp.get? b = some o → ((hp.push (PySem.W.kdv_tup us)).push (PySem.HandSPX.excO C hp.objs.size)).get? b = some o := fun b o e => Heap.get?_push_of_some _ (Heap.get?_push_of_some _ e)
  have hget : ((hp.push (PySem.W.kdv_tup us)).push (PySem.HandSPX.excO C hp.objs.size)).get? (hp.objs.size + 1) = some (PySem.HandSPX.excO C hp.objs.size) := by heap_get
  have fresh : ∀ {b : Addr} {o : Obj}, hp.get? b = some o → b ≠ hp.objs.size + 1 := fun {b o} z => Nat.ne_of_lt (Nat.lt_succ_of_lt (Heap.lt_size z))
  have hnx : X.K.lookup (hp.objs.size + 1) = none := by
    cases e : X.K.lookup (hp.objs.size + 1) with
    | none => rfl
    | some o => exact absurd rfl (fresh (KI _ _ e))
  have sz2 : ((hp.push (PySem.W.kdv_tup us)).push (PySem.HandSPX.excO C hp.objs.size)).objs.size = hp.objs.size + 2 := by rw [Heap.size_push, Heap.size_push]
  have zself : ∀ (a : Addr), ((("self" : Str) :: ps).zip (Value.ref a :: us)).reverse = (ps.zip us).reverse ++ [(("self" : Str), Value.ref a)] := fun a => by rw [List.zip_cons_cons, List.reverse_cons]
  have lk : ∀ (a : Addr) (y : Str), y ∈ ps → (((("self" : Str) :: ps).zip (Value.ref a :: us)).reverse).lookup y = ((ps.zip us).reverse).lookup y := fun a y hy => by
    rw [zself]
    exact look_app_ne (fun z => IT.nself (by rw [← z]; exact hy)) _
  have some_of : ∀ y ∈ ps, ∃ v, ((ps.zip us).reverse).lookup y = some v := fun y hy => by
    cases z : ((ps.zip us).reverse).lookup y with
    | some v => exact ⟨v, rfl⟩
    | none =>
      exfalso
      rw [List.lookup_eq_none_iff] at z
      obtain ⟨i, hi, e⟩ := List.getElem_of_mem hy
      have hi2 : i < us.length := by rw [hus]; exact hi
      have := z (y, us[i]) (List.mem_reverse.mpr (by
        rw [List.mem_iff_getElem]
        exact ⟨i, by rw [List.length_zip]; omega, by rw [List.getElem_zip, e]⟩))
      simp at this
  refine wpAny_call (PySem.HandSPX.call_own F.excBase_ValueError (fun Y => PySem.HandSPX.refsVE_contains Y bm hbm) (KI _ _ hC) (PySem.W.looks_findIn KI T.iC) (fun self => PySem.W.bind_fn KI self T.tC) (by rw [sizeLine_eq]; omega) ?_)
  refine sup_init T IT (x := hp.objs.size + 1) (t0 := hp.objs.size) (us := us) (mg := X.mg) (mb := mb) (s := ⟨(hp.push (PySem.W.kdv_tup us)).push (PySem.HandSPX.excO C hp.objs.size), g, dr, tk, os⟩) (KI.keeps kk) (hlim.keeps kk) (hG.keeps kk) gS (hB'.keeps kk) (hbb _ (by decide))
    ?_ ?_ hget hnx (by have := hr.dp; show X.A.depth + 1 < recursionLimit; omega) hus (fun L => hmsg vs us _ L r hl hMV) (fun fp hfp => ⟨(hps fp hfp).1, by rw [lk _ _ (hps fp hfp).2]; exact some_of _ (hps fp hfp).2⟩) hfl (fun h' tk' t d' kp st hd => ?_)
  · obtain ⟨o, es', ep, e, _⟩ := hG
    exact fresh e
  · obtain ⟨o, es', ep, e, _⟩ := hB'
    exact fresh e
  show PySem.W.InitBack _ _ _ _
  have kh : ∀ b o, hp.get? b = some o → h'.get? b = some o := fun b o z => kp b o (fresh z) (kk b o z)
  obtain ⟨G', g1, g2⟩ := restrict h' fun b => decide (b ≠ hp.objs.size + 1)
  have gk : ∀ b, b ≠ hp.objs.size + 1 → G'.get? b = h'.get? b := fun b hb => g1 b (decide_eq_true hb)
  have ge : G'.get? (hp.objs.size + 1) = none := g2 _ (by simp)
  have old : ∀ b o, hp.get? b = some o → G'.get? b = some o := fun b o z => (gk b (fresh z)).trans (kh b o z)
  have back : ∀ b o, G'.get? b = some o → h'.get? b = some o := fun b o z => by
    by_cases hb : b = hp.objs.size + 1
    · rw [hb, ge] at z; cases z
    · exact (gk b hb).symm.trans z
  have hnone : H (hp.objs.size + 1) = none := I.hok.fresh (Nat.le_succ _)
  cases d' with
  | none =>
    have fe : fs = [] := Classical.byContradiction fun z => hd.mp z rfl
    have J : Inv X pins σ H ⟨G', g, dr, tk', os⟩ := I.kept (t' := tk') old
    exact ⟨rfl, hp.objs.size + 1, _, _, ⟨G', g, dr, tk', os⟩, H, .ref C, none, rfl, J, back, ge, st.2.1, ⟨rfl, rfl, fun vs e => by cases e; rfl⟩, rfl, rfl, hnone, rfl, I.bare, raises_own exC tyC, q0 fe⟩
  | some dx =>
    obtain ⟨sz, dne, hx3, hns⟩ := st
    have dn : hp.objs.size ≤ dx := by rw [sz2] at sz; exact Nat.le_trans (Nat.le_add_right _ 2) sz
    have fne : fs ≠ [] := hd.mpr (fun z => by cases z)
    have rel : ∀ f, RelO (List.lookup f (fldV ps vs fs)) (List.lookup f (fs.map fun fp => (fp.1, ((((("self" : Str) :: ps).zip (Value.ref (hp.objs.size + 1) :: us)).reverse).lookup fp.2).getD .none)).reverse) := fun f => by
      refine kv1_look (kv1_rev ?_)
      have : ∀ l : List (Str × Str), (∀ fp ∈ l, fp.2 ∈ ps) → KV1 (l.map fun fp => (fp.1, (((ps.zip vs).reverse).lookup fp.2).getD .non)) (l.map fun fp => (fp.1, ((((("self" : Str) :: ps).zip (Value.ref (hp.objs.size + 1) :: us)).reverse).lookup fp.2).getD .none)) := by
        intro l
        induction l with
        | nil => intro _; exact .nil
        | cons a r' ih =>
          intro h
          refine .cons ⟨rfl, ?_⟩ (ih fun fp hfp => h fp (List.mem_cons_of_mem _ hfp))
          show RelV ((List.lookup a.2 (ps.zip vs).reverse).getD V.non) ((List.lookup a.2 ((("self" : Str) :: ps).zip (Value.ref (hp.objs.size + 1) :: us)).reverse).getD Value.none)
          rw [lk _ _ (h a List.mem_cons_self)]
          exact relO_getD (kv1_look (kv1_rev (kv1_zip r)))
      exact this fs fun fp hfp => (hps fp hfp).2
    have ob : ObjOk X.prog X.w (upd H dx (.xd (fldV ps vs fs))) G' dx (.xd (fldV ps vs fs)) := ⟨_, hns.at (fun o z => (gk dx dne).trans z), rel⟩
    have J : Inv X pins σ (upd H dx (.xd (fldV ps vs fs))) ⟨G', g, dr, tk', os⟩ := I.laid (t' := tk') old dn ob
    refine ⟨rfl, hp.objs.size + 1, _, _, ⟨G', g, dr, tk', os⟩, _, .ref C, some dx, rfl, J, back, ge, hx3, ⟨rfl, rfl, fun vs e => by cases e; rfl⟩, rfl, rfl, ?_, rfl, I.bare, raises_own exC tyC, q1 fne dx (I.hok.fresh dn)⟩
    rw [upd_ne (Ne.symm dne)]
    exact hnone
end
end L2
namespace L2
open PySem PySem.Spec PyProof.Rows PySem.USup
theorem pmk_sup {X : Cx} {C fI cc cda : Addr} {fd : FuncData} {x : Str} {p pos : Pos} {e : Expr} {es : List Expr} {ta : TA} {msg : Expr} {ps : List Str} {fs : List (Str × Str)} {MV : List V → Prop} {k : Nat}
    (T : SupCls X.prog X.K C fI cc cda fd) (IT : InitText fd fI ps msg fs) (gS : X.mg "super" = none) (gC : X.mg x = some (.ref C)) (kC : PySem.W.keepIn X.K (.ref C) = true) (exC : PySem.W.subIn X.K (.ref C) (.type "BaseException") = some true) (tyC : PySem.W.typeIn X.K (.ref C) = some (.type "type")) (hr : Room (k + 1) X.A)
    (hps : ∀ fp ∈ fs, PySem.W.findIn X.K (.ref C) fp.1 = some none ∧ fp.2 ∈ ps) (hfl : fs.length ≤ 100) (hpl : ps.length ≤ 1000)
    (hmsg : ∀ (vs : List V) (us : List Value) (a : Addr) (L : Addr), Vals vs us → vs.length = ps.length → MV vs → MsgOk X.prog X.w (callEnv fd L fI) (fun y => (((("self" : Str) :: ps).zip (Value.ref a :: us)).reverse).lookup y) msg)
    (ha : PA X (e :: es) ta) (hg : Gl X x) (hdb : (x == ("__debug__" : Str)) = false) (he : starEach (e :: es) X.env = (false, eval e X.env) :: starEach es X.env) (hpl2 : (backTo pos (starEach es X.env)).any (·.1) = false) :
    L2N.PMk X (.Call (.Name x p) (e :: es) [] pos) (tMkSup C ps fs MV ta) := by
  intro pins s σ H Q I h
  refine wpAny_Call_Name_kw (ld_glob I hg gC ?_ hdb)
  refine PySem.W.callWith_K (h₀ := X.base) I.ok.mod.kin kC (thn (ha.run pos pins s σ H _ I h) fun us s1 hh => ?_) he hpl2
  obtain ⟨vs, H1, I1, r1, l1, m1, q0, q1⟩ := hh
  exact ⟨I1.kIn, made_sup T IT gS exC tyC hr hps hfl hpl hmsg I1 r1 l1 m1 q0 q1⟩
theorem pmk_sup0 {X : Cx} {C fI cc cda : Addr} {fd : FuncData} {x : Str} {p pos : Pos} {msg : Expr} {ps : List Str} {fs : List (Str × Str)} {MV : List V → Prop} {k : Nat}
    (T : SupCls X.prog X.K C fI cc cda fd) (IT : InitText fd fI ps msg fs) (gS : X.mg "super" = none) (gC : X.mg x = some (.ref C)) (kC : PySem.W.keepIn X.K (.ref C) = true) (exC : PySem.W.subIn X.K (.ref C) (.type "BaseException") = some true) (tyC : PySem.W.typeIn X.K (.ref C) = some (.type "type")) (hr : Room (k + 1) X.A)
    (hps : ∀ fp ∈ fs, PySem.W.findIn X.K (.ref C) fp.1 = some none ∧ fp.2 ∈ ps) (hfl : fs.length ≤ 100) (hpl : ps.length ≤ 1000)
    (hmsg : ∀ (vs : List V) (us : List Value) (a : Addr) (L : Addr), Vals vs us → vs.length = ps.length → MV vs → MsgOk X.prog X.w (callEnv fd L fI) (fun y => (((("self" : Str) :: ps).zip (Value.ref a :: us)).reverse).lookup y) msg)
    (hg : Gl X x) (hdb : (x == ("__debug__" : Str)) = false) : L2N.PMk X (.Call (.Name x p) [] [] pos) (tMkSup C ps fs MV tNil) := by
  intro pins s σ H Q I h
  refine wpAny_Call_Name_kw (ld_glob I hg gC ?_ hdb)
  obtain ⟨l1, m1, q0, q1⟩ := h
  exact PySem.W.callWith_K0 I.kIn kC (made_sup (us := []) T IT gS exC tyC hr hps hfl hpl hmsg I .nil l1 m1 q0 q1)
/-- an error class of the text as the top has made it -/
structure Er (P : Program) (w : World) (K : PySem.W.Frag) (mg : Str → Option Value) (x : Str) (C : Addr) (ps : List Str) (fs : List (Str × Str)) (MV : List V → Prop) : Prop where
  ex : ∃ fI cc cda fd msg, SupCls P K C fI cc cda fd ∧ InitText fd fI ps msg fs ∧
    ∀ (vs : List V) (us : List Value) (a : Addr) (L : Addr), Vals vs us → vs.length = ps.length → MV vs → MsgOk P w (callEnv fd L fI) (fun y => (((("self" : Str) :: ps).zip (Value.ref a :: us)).reverse).lookup y) msg
  gS : mg "super" = none
  gC : mg x = some (.ref C)
  kC : PySem.W.keepIn K (.ref C) = true
  exC : PySem.W.subIn K (.ref C) (.type "BaseException") = some true
  tyC : PySem.W.typeIn K (.ref C) = some (.type "type")
  hdC : PySem.W.hasDictIn K C = true
  hps : ∀ fp ∈ fs, PySem.W.findIn K (.ref C) fp.1 = some none ∧ fp.2 ∈ ps
  hfl : fs.length ≤ 100
  hpl : ps.length ≤ 1000
theorem pmk_er {X : Cx} {C : Addr} {x : Str} {p pos : Pos} {e : Expr} {es : List Expr} {ta : TA} {ps : List Str} {fs : List (Str × Str)} {MV : List V → Prop} (T : Er X.prog X.w X.K X.mg x C ps fs MV) (hr : Room 1 X.A) (ha : PA X (e :: es) ta) (hg : Gl X x := by rfl)
    (hdb : (x == ("__debug__" : Str)) = false := by decide) (he : starEach (e :: es) X.env = (false, eval e X.env) :: starEach es X.env := by rfl) (hpl2 : (backTo pos (starEach es X.env)).any (·.1) = false := by rfl) :
    L2N.PMk X (.Call (.Name x p) (e :: es) [] pos) (tMkSup C ps fs MV ta) := by
  obtain ⟨fI, cc, cda, fd, msg, S, IT, hm⟩ := T.ex
  exact pmk_sup S IT T.gS T.gC T.kC T.exC T.tyC hr T.hps T.hfl T.hpl hm ha hg hdb he hpl2
theorem pmk_er0 {X : Cx} {C : Addr} {x : Str} {p pos : Pos} {ps : List Str} {fs : List (Str × Str)} {MV : List V → Prop} (T : Er X.prog X.w X.K X.mg x C ps fs MV) (hr : Room 1 X.A) (hg : Gl X x := by rfl)
    (hdb : (x == ("__debug__" : Str)) = false := by decide) : L2N.PMk X (.Call (.Name x p) [] [] pos) (tMkSup C ps fs MV tNil) := by
  obtain ⟨fI, cc, cda, fd, msg, S, IT, hm⟩ := T.ex
  exact pmk_sup0 S IT T.gS T.gC T.kC T.exC T.tyC hr T.hps T.hfl T.hpl hm hg hdb
end L2

/-! ## typed readings: every slot bears a predicate that stands while the heap grows -/
namespace U
open PySem PySem.Spec PyProof.Rows L2
abbrev Pr := V → Hp → Prop
abbrev HR := Hp → Hp → Prop
/-- a list that is a draw's hand: it may be written -/
def hs : List V → Bool
  | [.ref _, .int _, .int _, .int _] => true
  | _ => false
/-- a relation of heaps along which what is known stands -/
class PreT (W : HR) : Prop where
  refl : ∀ H, W H H
  trans : ∀ {a b c : Hp}, W a b → W b c → W a c
  ext : ∀ {a b : Hp}, Evl.Ex a b → W a b
  tup : ∀ {H H' : Hp} {a : Addr} {xs : List V}, W H H' → Rd H a (.tup xs) → Rd H' a (.tup xs)
/-- (nothing is asked of a list's items) -/
def Safe (_ : Hp) (_ : List V) : Prop := True
theorem Safe.mono {W : HR} [w : PreT W] {H H' : Hp} {xs : List V} (_ : Safe H xs) (_ : W H H') : Safe H' xs := True.intro
class Pre (W : HR) : Prop extends PreT W where
  lst : ∀ {K : PySem.W.Frag} {H H' : Hp} {a : Addr} {xs : List V}, W H H' → Safe H xs → SqL K H a xs → SqL K H' a xs
  wrt : ∀ {a b : Hp} {p : Addr} {o : HO}, W a b → a p = none → W a (upd b p o)
  own : ∀ {H H' : Hp} {a : Addr} {xs : List V}, W H H' → Safe H xs → H a = some (.lst xs) → H' a = some (.lst xs)
/-- what may be written: all else stands -/
def wrO : HO → Bool
  | .lst _ => true
  | .dK _ => true
  | .dT _ => true
  | .set _ _ => true
  | _ => false
def WT (H H' : Hp) : Prop := ∀ b o, H b = some o → wrO o = false → H' b = some o
instance preT_wt : PreT WT := ⟨fun _ _ _ h _ => h, fun a b x o h n => b x o (a x o h n) n, fun e b o h _ => e b o h, fun w h => by
  rcases h with h | ⟨o, h⟩
  · exact .inl (w _ _ h rfl)
  · exact .inr ⟨o, w _ _ h rfl⟩⟩
theorem wt_put {H : Hp} {p : Addr} {o o' : HO} (h : H p = some o) (n : wrO o = true) : WT H (upd H p o') := fun b u e m => by
  by_cases z : b = p
  · subst z; rw [h] at e; cases e; rw [n] at m; cases m
  · rw [upd_ne z]; exact e
class Mn (W : HR) (P : Pr) : Prop where
  mn : ∀ v H H', W H H' → P v H → P v H'
abbrev Ctx := List (Option Pr)
def Ty : Ctx → L2.St → Hp → Prop
  | [], [], _ => True
  | none :: G, _ :: s, H => Ty G s H
  | some P :: G, x :: s, H => (∃ v, x = some v ∧ P v H) ∧ Ty G s H
  | _, _, _ => False
class MnC (W : HR) (G : Ctx) : Prop where
  all : ∀ P, some P ∈ G → Mn W P
instance mnc_nil {W : HR} : MnC W [] := ⟨fun _ h => by cases h⟩
instance mnc_none {W : HR} {G : Ctx} [g : MnC W G] : MnC W (none :: G) := ⟨fun P h => by
  rcases List.mem_cons.mp h with e | e
  · cases e
  · exact g.all P e⟩
instance mnc_some {W : HR} {P : Pr} {G : Ctx} [p : Mn W P] [g : MnC W G] : MnC W (some P :: G) := ⟨fun Q h => by
  rcases List.mem_cons.mp h with e | e
  · cases e; exact p
  · exact g.all Q e⟩
instance mnc_set {W : HR} {P : Pr} {G : Ctx} {i : Nat} [p : Mn W P] [g : MnC W G] : MnC W (G.set i (some P)) := ⟨fun Q h => by
  rcases List.mem_or_eq_of_mem_set h with e | e
  · exact g.all Q e
  · cases e; exact p⟩
theorem ty_mn {W : HR} : ∀ {G : Ctx} {s : L2.St} {H H' : Hp}, (∀ P, some P ∈ G → Mn W P) → W H H' → Ty G s H → Ty G s H'
  | [], [], _, _, _, _, h => h
  | [], _ :: _, _, _, _, _, h => h.elim
  | none :: _, [], _, _, _, _, h => h.elim
  | some _ :: _, [], _, _, _, _, h => h.elim
  | none :: G, _ :: s, _, _, g, w, h => ty_mn (G := G) (s := s) (fun P e => g P (List.mem_cons_of_mem _ e)) w h
  | some P :: G, _ :: s, _, _, g, w, h => ⟨let ⟨v, e, p⟩ := h.1; ⟨v, e, (g P List.mem_cons_self).mn v _ _ w p⟩, ty_mn (G := G) (s := s) (fun P e => g P (List.mem_cons_of_mem _ e)) w h.2⟩
theorem MnC.mn {W : HR} {G : Ctx} (g : MnC W G) (s : L2.St) (H H' : Hp) (w : W H H') (h : Ty G s H) : Ty G s H' := ty_mn g.all w h
theorem Ty.get : ∀ {G : Ctx} {s : L2.St} {H : Hp} {i : Nat} {P : Pr}, Ty G s H → G[i]? = some (some P) → ∃ v, s[i]? = some (some v) ∧ P v H
  | [], _, _, _, _, _, e => by simp at e
  | none :: G, [], _, _, _, h, _ => h.elim
  | some _ :: G, [], _, _, _, h, _ => h.elim
  | none :: G, x :: s, H, 0, P, _, e => by simp at e
  | none :: G, x :: s, H, i + 1, P, h, e => by
    obtain ⟨v, a, b⟩ := Ty.get (G := G) (s := s) (i := i) h (by simpa using e)
    exact ⟨v, by simpa using a, b⟩
  | some Q :: G, x :: s, H, 0, P, h, e => by
    obtain ⟨⟨v, a, b⟩, _⟩ := h
    have e' : Q = P := by simpa using e
    subst e'
    exact ⟨v, by simpa using a, b⟩
  | some Q :: G, x :: s, H, i + 1, P, h, e => by
    obtain ⟨v, a, b⟩ := Ty.get (G := G) (s := s) (i := i) h.2 (by simpa using e)
    exact ⟨v, by simpa using a, b⟩
theorem Ty.put : ∀ {G : Ctx} {s : L2.St} {H : Hp} {i : Nat} {P : Pr} {v : V}, Ty G s H → P v H → Ty (G.set i (some P)) (s.set i (some v)) H
  | [], [], _, _, _, _, h, _ => h
  | [], _ :: _, _, _, _, _, h, _ => h.elim
  | none :: G, [], _, _, _, _, h, _ => h.elim
  | some _ :: G, [], _, _, _, _, h, _ => h.elim
  | none :: G, x :: s, H, 0, P, v, h, p => ⟨⟨v, rfl, p⟩, h⟩
  | some _ :: G, x :: s, H, 0, P, v, h, p => ⟨⟨v, rfl, p⟩, h.2⟩
  | none :: G, x :: s, H, i + 1, P, v, h, p => Ty.put (G := G) (s := s) (i := i) h p
  | some _ :: G, x :: s, H, i + 1, P, v, h, p => ⟨h.1, Ty.put (G := G) (s := s) (i := i) h.2 p⟩
/-- what may be raised, and where it goes: W the heaps' relation, E the wish, GX the slots there, X the exception -/
abbrev XP := Value → Option Addr → Hp → Prop
structure Rs where
  W : HR
  E : L2.St → XK
  GX : Ctx
  X : XP
def NoX : XP := fun _ _ _ => False
def Hx (Y : Rs) (H : Hp) : Prop := ∀ s cls d H', Y.W H H' → Ty Y.GX s H' → Y.X cls d H' → Y.E s cls d H'
theorem Hx.mono {Y : Rs} [w : PreT Y.W] {H H' : Hp} (h : Hx Y H) (e : Y.W H H') : Hx Y H' := fun s cls d H2 e2 t x => h s cls d H2 (w.trans e e2) t x
/-- what e evaluates to, wherever the slots are so -/
def Ev (Y : Rs) (G : Ctx) (te : TE) (P : Pr) : Prop := ∀ s H, Ty G s H → Hx Y H → ∀ Q : VK, (∀ v H2, Y.W H H2 → P v H2 → Q v H2) → te s H Q
def EvT (Y : Rs) (G : Ctx) (tt : TT) (b : Bool) : Prop := ∀ s H, Ty G s H → Hx Y H → ∀ Q : Bool → Hp → Prop, (∀ H2, Y.W H H2 → Q b H2) → tt s H Q
def AllP : List Pr → List V → Hp → Prop
  | [], [], _ => True
  | P :: Ps, v :: vs, H => P v H ∧ AllP Ps vs H
  | _, _, _ => False
class MnL (W : HR) (Ps : List Pr) : Prop where
  mn : ∀ vs H H', W H H' → AllP Ps vs H → AllP Ps vs H'
instance mnl_nil {W : HR} : MnL W [] := ⟨fun vs H H' _ h => by cases vs <;> exact h⟩
instance mnl_cons {W : HR} {P : Pr} {Ps : List Pr} [p : Mn W P] [g : MnL W Ps] : MnL W (P :: Ps) := ⟨fun vs H H' w h => by
  cases vs with
  | nil => exact h
  | cons x vs => exact ⟨p.mn x H H' w h.1, g.mn vs H H' w h.2⟩⟩
def EvA (Y : Rs) (G : Ctx) (ta : TA) (Ps : List Pr) : Prop := ∀ s H, Ty G s H → Hx Y H → ∀ Q : List V → Hp → Prop, (∀ vs H2, Y.W H H2 → AllP Ps vs H2 → Q vs H2) → ta s H Q
/-- an operation on values -/
def Op2 (W : HR) (r : R2) (P1 P2 P : Pr) : Prop := ∀ x y H, P1 x H → P2 y H → ∀ Q : VK, (∀ v H2, W H H2 → P v H2 → Q v H2) → r x y H Q
def Op1 (W : HR) (r : V → Hp → VK → Prop) (P1 P : Pr) : Prop := ∀ x H, P1 x H → ∀ Q : VK, (∀ v H2, W H H2 → P v H2 → Q v H2) → r x H Q
def OpA (W : HR) (r : List V → Hp → VK → Prop) (Ps : List Pr) (P : Pr) : Prop := ∀ vs H, AllP Ps vs H → ∀ Q : VK, (∀ v H2, W H H2 → P v H2 → Q v H2) → r vs H Q
/-- a def called: it yields P, or raises X (where one cannot be, it is shown as False) -/
def Cl (W : HR) (sp : Sp) (Ps : List Pr) (P : Pr) (X : XP) : Prop := ∀ vs H, AllP Ps vs H → ∀ (Q : VK) (E : XK), (∀ v H2, W H H2 → P v H2 → Q v H2) → (∀ cls d H2, W H H2 → X cls d H2 → E cls d H2) → sp vs H Q E
/-- just this value -/
def Is (z : V) : Pr := fun v _ => v = z
instance mn_is {W : HR} {z : V} : Mn W (Is z) := ⟨fun _ _ _ _ h => h⟩
def Sub (G G' : Ctx) : Prop := ∀ s H, Ty G s H → Ty G' s H
section
variable {Y : Rs} [w : PreT Y.W] {G : Ctx} {ta tb te : TE} {t u : TT} {P P1 P2 P' : Pr} {r : R2} {K : PySem.W.Frag}
omit w in
theorem Ev.sub (h : Ev Y G te P) (k : ∀ v H, P v H → P' v H) : Ev Y G te P' := fun s H ty hx Q q => h s H ty hx Q fun v H2 w p => q v H2 w (k v H2 p)
theorem ev_var {i : Nat} (h : G[i]? = some (some P)) : Ev Y G (tVar i) P := fun s H ty hx Q q => by
  obtain ⟨v, e, p⟩ := ty.get h
  exact ⟨v, e, q v H (w.refl H) p⟩
theorem ev_c {z : V} : Ev Y G (tC z) (Is z) := fun s H _ _ Q q => q z H (w.refl H) rfl
theorem ev_op [mc : MnC Y.W G] [m1 : Mn Y.W P1] (ha : Ev Y G ta P1) (hb : Ev Y G tb P2) (ho : Op2 Y.W r P1 P2 P) : Ev Y G (tOp r ta tb) P := fun s H ty hx Q q =>
  ha s H ty hx _ fun x H1 w1 p1 => hb s H1 (mc.mn s H H1 w1 ty) (hx.mono w1) _ fun y H2 w2 p2 => ho x y H2 (m1.mn x H1 H2 w2 p1) p2 Q fun v H3 w3 p => q v H3 (w.trans (w.trans w1 w2) w3) p
theorem ev_un {r : V → Hp → VK → Prop} (ha : Ev Y G ta P1) (ho : Op1 Y.W r P1 P) : Ev Y G (tUn r ta) P := fun s H ty hx Q q =>
  ha s H ty hx _ fun x H1 w1 p1 => ho x H1 p1 Q fun v H3 w3 p => q v H3 (w.trans w1 w3) p
theorem ea_nil : EvA Y G tNil [] := fun s H _ _ Q q => q [] H (w.refl H) True.intro
theorem ea_cons [mc : MnC Y.W G] [m1 : Mn Y.W P1] {tr : TA} {Ps : List Pr} (ha : Ev Y G ta P1) (hr : EvA Y G tr Ps) : EvA Y G (tCons ta tr) (P1 :: Ps) := fun s H ty hx Q q =>
  ha s H ty hx _ fun x H1 w1 p1 => hr s H1 (mc.mn s H H1 w1 ty) (hx.mono w1) _ fun vs H2 w2 p2 => q (x :: vs) H2 (w.trans w1 w2) ⟨m1.mn x H1 H2 w2 p1, p2⟩
theorem ev_cb {r : List V → Hp → VK → Prop} {tr : TA} {Ps : List Pr} (ha : EvA Y G tr Ps) (ho : OpA Y.W r Ps P) : Ev Y G (tCB r tr) P := fun s H ty hx Q q =>
  ha s H ty hx _ fun vs H1 w1 p1 => ho vs H1 p1 Q fun v H2 w2 p => q v H2 (w.trans w1 w2) p
theorem ev_call {sp : Sp} {tr : TA} {E : L2.St → XK} {Ps : List Pr} (ha : EvA Y G tr Ps) (ho : Cl Y.W sp Ps P NoX) : Ev Y G (tCallS sp E tr) P := fun s H ty hx Q q =>
  ha s H ty hx _ fun vs H1 w1 p1 => ho vs H1 p1 Q _ (fun v H2 w2 p => q v H2 (w.trans w1 w2) p) fun _ _ _ _ z => z.elim
theorem ev_callX [mc : MnC Y.W G] {sp : Sp} {tr : TA} {Ps : List Pr} (ha : EvA Y G tr Ps) (ho : Cl Y.W sp Ps P Y.X) (sb : Sub G Y.GX) : Ev Y G (tCallS sp Y.E tr) P := fun s H ty hx Q q =>
  ha s H ty hx _ fun vs H1 w1 p1 => ho vs H1 p1 Q _ (fun v H2 w2 p => q v H2 (w.trans w1 w2) p) fun cls d H2 w2 x => hx s cls d H2 (w.trans w1 w2) (sb s H2 (mc.mn s H H2 (w.trans w1 w2) ty)) x
omit w in
theorem et_test {b : Bool} (h : Ev Y G te (Is (.bl b))) : EvT Y G (tTest te) b := fun s H ty hx Q q => h s H ty hx _ fun v H2 w e => ⟨b, e, q H2 w⟩
omit w in
theorem et_B {b : Bool} (h : Ev Y G te (Is (.bl b))) : EvT Y G (tB te) b := fun s H ty hx Q q => h s H ty hx _ fun v H2 w e => ⟨b, e, q H2 w⟩
theorem et_and [mc : MnC Y.W G] {a b : Bool} (h1 : EvT Y G t a) (h2 : a = true → EvT Y G u b) : EvT Y G (tAnd t u) (a && b) := fun s H ty hx Q q => h1 s H ty hx _ fun H1 w1 => by
  cases a with
  | true => exact h2 rfl s H1 (mc.mn s H H1 w1 ty) (hx.mono w1) Q fun H2 w2 => q H2 (w.trans w1 w2)
  | false => exact q H1 w1
theorem et_or [mc : MnC Y.W G] {a b : Bool} (h1 : EvT Y G t a) (h2 : a = false → EvT Y G u b) : EvT Y G (tOr t u) (a || b) := fun s H ty hx Q q => h1 s H ty hx _ fun H1 w1 => by
  cases a with
  | true => exact q H1 w1
  | false => exact h2 rfl s H1 (mc.mn s H H1 w1 ty) (hx.mono w1) Q fun H2 w2 => q H2 (w.trans w1 w2)
omit w in
theorem et_not {a : Bool} (h1 : EvT Y G t a) : EvT Y G (tNot t) (!a) := fun s H ty hx Q q => h1 s H ty hx _ fun H2 w2 => q H2 w2
omit w in
theorem EvT.to {a b : Bool} (h : EvT Y G t a) (e : a = b) : EvT Y G t b := e ▸ h
omit w in
theorem Ev.to {z z' : V} (h : Ev Y G te (Is z)) (e : z = z') : Ev Y G te (Is z') := e ▸ h
theorem ev_andV [mc : MnC Y.W G] {a b : Bool} (h1 : Ev Y G ta (Is (.bl a))) (h2 : a = true → Ev Y G tb (Is (.bl b))) : Ev Y G (tAndV ta tb) (Is (.bl (a && b))) := fun s H ty hx Q q => h1 s H ty hx _ fun v H1 w1 e => ⟨a, e, by
  cases a with
  | true => exact h2 rfl s H1 (mc.mn s H H1 w1 ty) (hx.mono w1) Q fun v2 H2 w2 e2 => q v2 H2 (w.trans w1 w2) e2
  | false => exact q _ H1 w1 rfl⟩
theorem ev_orV [mc : MnC Y.W G] {a b : Bool} (h1 : Ev Y G ta (Is (.bl a))) (h2 : a = false → Ev Y G tb (Is (.bl b))) : Ev Y G (tOrV ta tb) (Is (.bl (a || b))) := fun s H ty hx Q q => h1 s H ty hx _ fun v H1 w1 e => ⟨a, e, by
  cases a with
  | true => exact q _ H1 w1 rfl
  | false => exact h2 rfl s H1 (mc.mn s H H1 w1 ty) (hx.mono w1) Q fun v2 H2 w2 e2 => q v2 H2 (w.trans w1 w2) e2⟩
omit w in
theorem ev_notV {a : Bool} (h1 : Ev Y G ta (Is (.bl a))) : Ev Y G (tNotV ta) (Is (.bl (!a))) := fun s H ty hx Q q => h1 s H ty hx _ fun v H1 w1 e => ⟨a, e, q _ H1 w1 rfl⟩
theorem ev_if [mc : MnC Y.W G] {b : Bool} (h : EvT Y G t b) (h1 : b = true → Ev Y G ta P) (h2 : b = false → Ev Y G tb P) : Ev Y G (tIf t ta tb) P := fun s H ty hx Q q => h s H ty hx _ fun H1 w1 => by
  cases b with
  | true => exact h1 rfl s H1 (mc.mn s H H1 w1 ty) (hx.mono w1) Q fun v2 H2 w2 e2 => q v2 H2 (w.trans w1 w2) e2
  | false => exact h2 rfl s H1 (mc.mn s H H1 w1 ty) (hx.mono w1) Q fun v2 H2 w2 e2 => q v2 H2 (w.trans w1 w2) e2
/-- a tuple, its items -/
def Tup (K : PySem.W.Frag) (Ps : List Pr) : Pr := fun v H => ∃ p xs, v = .ref p ∧ Rd H p (.tup xs) ∧ AllP Ps xs H
instance mn_tup {W : HR} [w : PreT W] {K : PySem.W.Frag} {Ps : List Pr} [ml : MnL W Ps] : Mn W (Tup K Ps) := ⟨fun v H H' h ⟨p, xs, e, hs, hp⟩ => ⟨p, xs, e, w.tup h hs, ml.mn xs H H' h hp⟩⟩
theorem allp_len : ∀ {Ps : List Pr} {vs : List V} {H : Hp}, AllP Ps vs H → vs.length = Ps.length
  | [], [], _, _ => rfl
  | [], _ :: _, _, h => h.elim
  | _ :: _, [], _, h => h.elim
  | _ :: _, _ :: _, _, h => by rw [List.length_cons, List.length_cons, allp_len h.2]
theorem ev_tup {tr : TA} {Ps : List Pr} [ml : MnL Y.W Ps] (ha : EvA Y G tr Ps) (hl : Ps.length ≤ 100000 := by first | decide | (simp only [List.length_cons, List.length_nil]; decide)) : Ev Y G (tTup tr) (Tup K Ps) := fun s H ty hx Q q =>
  ha s H ty hx _ fun vs H1 w1 p1 => ⟨by rw [allp_len p1]; exact Evl.sz_of hl, fun p hp => by
    have w2 : Y.W H1 (upd H1 p (.tup vs)) := w.ext (Evl.Ex.new hp)
    exact q _ _ (w.trans w1 w2) ⟨p, vs, rfl, Rd.of upd_same, ml.mn vs _ _ w2 p1⟩⟩

/-! ### statements -/
/-- from the typed slots: where it goes on (N), what it returns (R) -/
def St (Y : Rs) (G : Ctx) (ts : TS) (N : Ctx) (R : Pr) : Prop := ∀ s H (D : Ends), Ty G s H → Hx Y H → (∀ s' H', Y.W H H' → Ty N s' H' → D.nx s' H') → (∀ v H', Y.W H H' → R v H' → D.rt v H') → ts D s H
variable {ts tu tr : TS} {N M : Ctx} {R : Pr}
theorem st_seq (h1 : St Y G ts M R) (h2 : St Y M tu N R) : St Y G (tSeq ts tu) N R := fun s H D ty hx n r =>
  h1 s H _ ty hx (fun s' H' w1 ty' => h2 s' H' D ty' (hx.mono w1) (fun s2 H2 w2 t2 => n s2 H2 (w.trans w1 w2) t2) fun v H2 w2 p => r v H2 (w.trans w1 w2) p) r
omit w in
theorem st_ret (h : Ev Y G te R) : St Y G (tRet te) N R := fun s H D ty hx _ r => h s H ty hx _ fun v H2 w p => r v H2 w p
theorem st_next : St Y G tNext G R := fun s H D ty hx n _ => n s H (w.refl H) ty
theorem st_set [mc : MnC Y.W G] {i : Nat} (h : Ev Y G te P) : St Y G (tAsg te (gName i)) (G.set i (some P)) R := fun s H D ty hx n _ =>
  h s H ty hx _ fun v H2 w2 p => n _ H2 w2 ((mc.mn s H H2 w2 ty).put p)
theorem st_drop [mc : MnC Y.W G] (h : Ev Y G te P) : St Y G (tDrop te) G R := fun s H D ty hx n _ =>
  h s H ty hx _ fun v H2 w2 p => n _ H2 w2 (mc.mn s H H2 w2 ty)
theorem st_if [mc : MnC Y.W G] {b : Bool} (h : EvT Y G t b) (h1 : b = true → St Y G ts N R) (h2 : b = false → St Y G tu N R) : St Y G (tIfS t ts tu) N R := fun s H D ty hx n r => h s H ty hx _ fun H1 w1 => by
  cases b with
  | true => exact h1 rfl s H1 D (mc.mn s H H1 w1 ty) (hx.mono w1) (fun s2 H2 w2 t2 => n s2 H2 (w.trans w1 w2) t2) fun v H2 w2 p => r v H2 (w.trans w1 w2) p
  | false => exact h2 rfl s H1 D (mc.mn s H H1 w1 ty) (hx.mono w1) (fun s2 H2 w2 t2 => n s2 H2 (w.trans w1 w2) t2) fun v H2 w2 p => r v H2 (w.trans w1 w2) p
/-- a, b = a tuple of two -/
theorem st_un2 [mc : MnC Y.W G] {i j : Nat} (h : Ev Y G te (Tup K [P1, P2])) :
    St Y G (tAsg te (gTup K 2 (gCons (gName i) (gCons (gName j) gNil)))) ((G.set i (some P1)).set j (some P2)) R := fun s H D ty hx n _ =>
  h s H ty hx _ fun v H2 w2 ⟨p, xs, e, hs, hp⟩ => by
    obtain ⟨a, b, rfl⟩ : ∃ a b, xs = [a, b] := by
      have l := allp_len hp
      match xs, l with
      | [a, b], _ => exact ⟨a, b, rfl⟩
    exact ⟨p, [a, b], e, .inl hs, rfl, a, [b], rfl, b, [], rfl, rfl, n _ H2 w2 (((mc.mn s H H2 w2 ty).put hp.1).put hp.2.1)⟩
/-- a, b = x, y -/
theorem st_par [mc : MnC Y.W G] {i j : Nat} {tr : TA} (h : EvA Y G tr [P1, P2]) : St Y G (tPar i j tr) ((G.set i (some P1)).set j (some P2)) R := fun s H D ty hx n _ =>
  h s H ty hx _ fun vs H2 w2 hp => by
    obtain ⟨a, b, rfl⟩ : ∃ a b, vs = [a, b] := by
      have l := allp_len hp
      match vs, l with
      | [a, b], _ => exact ⟨a, b, rfl⟩
    exact ⟨a, b, rfl, n _ H2 w2 (((mc.mn s H H2 w2 ty).put hp.1).put hp.2.1)⟩
/-- raise -/
theorem st_raise {tm : L2.St → Hp → XK → Prop} (sb : Sub G Y.GX) (h : ∀ s H (Q : XK), Ty G s H → (∀ cls d H', Y.W H H' → Ty G s H' → Y.X cls d H' → Q cls d H') → tm s H Q) : St Y G (fun _ s H => tm s H fun cls d H' => Y.E s cls d H') N R := fun s H D ty hx _ _ =>
  h s H _ ty fun cls d H' w2 ty2 x => hx s cls d H' w2 (sb s H' ty2) x
end
/-! ### defs -/
/-- a promise: with arguments so (one of several), such a value, or such an exception -/
structure Way where
  Ps : List Pr
  P : Pr
  X : XP
class LeR (W W' : HR) : Prop where
  le : ∀ a b, W a b → W' a b
instance le_ex {W : HR} [w : PreT W] : LeR Evl.Ex W := ⟨fun _ _ h => w.ext h⟩
instance le_self {W : HR} : LeR W W := ⟨fun _ _ h => h⟩
def SpW (W : HR) {I : Type} (C : I → Prop) (f : I → Way) : Sp := fun vs H Q E => ∃ i, C i ∧ AllP (f i).Ps vs H ∧ (∀ v H', W H H' → (f i).P v H' → Q v H') ∧ ∀ cls d H', W H H' → (f i).X cls d H' → E cls d H'
theorem cl_of {W W' : HR} [l : LeR W W'] {I : Type} {C : I → Prop} {f : I → Way} (i : I) (c : C i) : Cl W' (SpW W C f) (f i).Ps (f i).P (f i).X := fun vs H h Q E q e => ⟨i, c, h, fun v H' x p => q v H' (l.le _ _ x) p, fun cls d H' x p => e cls d H' (l.le _ _ x) p⟩
/-- the def at the global name x -/
structure Df (P : Program) (w : World) (K : PySem.W.Frag) (mg : Str → Option Value) (base : Heap) (k : Nat) (x : Str) (ps : List Str) (sp : Sp) : Prop where
  ex : ∃ f fd, FnOk P w K mg base (L2N.CX P w) k f fd ps sp ∧ mg x = some (.ref f) ∧ PySem.W.keepIn K (.ref f) = true ∧ Binds K fd ps []
theorem pe_df {X : Cx} {k : Nat} {ps : List Str} {sp : Sp} {W : WX} {x : Str} {p pos : Pos} {e : Expr} {es : List Expr} {t : TA} (F : Df X.prog X.w X.K X.mg X.base k x ps sp) (hr : Room k X.A) (tk : L2N.Takes X W) (ha : PA X (e :: es) t) (hg : Gl X x := by rfl)
    (hdb : (x == ("__debug__" : Str)) = false := by decide) (he : starEach (e :: es) X.env = (false, eval e X.env) :: starEach es X.env := by rfl) (hpl : (backTo pos (starEach es X.env)).any (·.1) = false := by rfl) :
    PE X (.Call (.Name x p) (e :: es) [] pos) (tCallS sp (WE W) t) := by
  obtain ⟨f, fd, F1, F2, F3, F4⟩ := F.ex
  exact pe_callS F1 hr hg F2 F3 F4 (fun σ => L2N.passAt tk σ) ha hdb he hpl
/-- the slots at a def's entry -/
def entry (Ps : List Pr) (n : Nat) : Ctx := Ps.map some ++ List.replicate (n - Ps.length) none
theorem ty_none : ∀ (n : Nat) (H : Hp), Ty (List.replicate n none) (List.replicate n none) H
  | 0, _ => True.intro
  | n + 1, H => ty_none n H
theorem ty_entry : ∀ {Ps : List Pr} {vs : List V} {H : Hp} {n : Nat}, AllP Ps vs H → Ty (Ps.map some ++ List.replicate n none) (vs.map some ++ List.replicate n none) H
  | [], [], H, n, _ => ty_none n H
  | [], _ :: _, _, _, h => h.elim
  | _ :: _, [], _, _, h => h.elim
  | P :: Ps, v :: vs, H, n, h => ⟨⟨v, rfl, h.1⟩, ty_entry h.2⟩
/-- never reached -/
def Dead : Ctx := [some fun _ _ => False]
theorem dead {s : L2.St} {H : Hp} (h : Ty Dead s H) : False := by
  cases s with
  | nil => exact h
  | cons x s => obtain ⟨⟨_, _, z⟩, _⟩ := h; exact z
abbrev RsW (W : HR) (E : XK) (X : XP) (n : Nat) : Rs := ⟨W, fun _ => E, List.replicate n none, X⟩
abbrev RsE (E : XK) (X : XP) (n : Nat) : Rs := RsW Evl.Ex E X n
theorem sub_none : ∀ {G : Ctx} {n : Nat}, G.length = n → Sub G (List.replicate n none)
  | [], 0, _, s, H, h => by cases s <;> exact h
  | none :: G, n + 1, l, [], H, h => h
  | some _ :: G, n + 1, l, [], H, h => h
  | none :: G, n + 1, l, _ :: s, H, h => sub_none (G := G) (n := n) (by simpa using l) s H h
  | some _ :: G, n + 1, l, _ :: s, H, h => sub_none (G := G) (n := n) (by simpa using l) s H h.2
instance pre_ex : Pre Evl.Ex where
  refl := Evl.Ex.refl
  trans := fun a b => a.trans b
  ext := fun h => h
  tup := fun w h => Evl.ex_rd w h
  lst := fun w _ h => Evl.ex_l w h
  wrt := fun w h => w.mut h
  own := fun w _ h => w _ _ h
section
variable {P : Program} {w : World} {K : PySem.W.Frag} {mg : Str → Option Value} {base : Heap}
theorem _root_.L2.Fun.okN {x qual : Str} {st : Stmt} {f : Addr} {fd : FuncData} {N ps : List Str} {k : Nat} {sp : Sp} (F : Fun K x qual st f fd) (S : FnScope N ps (defScope st)) (len : ∀ vs H Q E, sp vs H Q E → vs.length = ps.length)
    (body : ∀ (cdv : Value) (A : Around) (outer : List Env) (s : Shared) (H : Hp) (vs : List V) (Q : VK) (E : XK), Room k (A.deeper (envOfC qual (defScope st) s.heap.objs.size f cdv)) → sp vs H Q E →
      ∃ t, PSs (cxOf (L2N.CX P w) P w K mg base N qual (defScope st) f cdv A outer s H E) (defBody st) t ∧ t { nx := fun _ H' => Q .non H', rt := Q } (L2.start N vs) H) : FnOk P w K mg base (L2N.CX P w) (k + 1) f fd ps sp := by
  obtain ⟨oc, od, kV, doc, pm, an, cdv, ct, osl, rfl, lk, hcd⟩ := F.ex
  exact fn_of lk hcd S len fun A outer s H vs Q E hr hsp => body cdv A outer s H vs Q E hr hsp
theorem okW {W : HR} {x qual : Str} {st : Stmt} {f : Addr} {fd : FuncData} {N ps : List Str} {k : Nat} {I : Type} {C : I → Prop} {fw : I → Way} (F : Fun K x qual st f fd) (S : FnScope N ps (defScope st)) (hlen : ∀ i, (fw i).Ps.length = ps.length) (hN : ps.length ≤ N.length)
    (body : ∀ (cdv : Value) (A : Around) (outer : List Env) (s : Shared) (H : Hp) (E : XK), Room k (A.deeper (envOfC qual (defScope st) s.heap.objs.size f cdv)) →
      ∃ t, PSs (cxOf (L2N.CX P w) P w K mg base N qual (defScope st) f cdv A outer s H E) (defBody st) t ∧ ∀ i, C i → ∃ M, St (RsW W E (fw i).X N.length) (entry (fw i).Ps N.length) t M (fw i).P ∧ ∀ s H', Ty M s H' → (fw i).P .non H') :
    FnOk P w K mg base (L2N.CX P w) (k + 1) f fd ps (SpW W C fw) := by
  refine F.okN S (fun vs H Q E h => ?_) (fun cdv A outer s H vs Q E hr h => ?_)
  · obtain ⟨i, _, a, _⟩ := h
    rw [allp_len a, hlen]
  · obtain ⟨i, c, a, q, e⟩ := h
    obtain ⟨t, ht, hb⟩ := body cdv A outer s H E hr
    obtain ⟨M, hs, hm⟩ := hb i c
    refine ⟨t, ht, hs _ H _ ?_ (fun s cls d H' x _ y => e cls d H' x y) (fun s' H' x ty => q _ H' x (hm s' H' ty)) q⟩
    have l1 := allp_len a
    have := ty_entry (n := N.length - (fw i).Ps.length) a
    unfold L2.start entry
    rw [l1]
    exact this
theorem df_of {x qual : Str} {st : Stmt} {f : Addr} {fd : FuncData} {ps : List Str} {k : Nat} {sp : Sp} (h : FnOk P w K mg base (L2N.CX P w) k f fd ps sp) (F : Fun K x qual st f fd) (g : mg x = some (.ref f)) (b : Binds K fd ps []) : Df P w K mg base k x ps sp := ⟨f, fd, h, g, F.kp, b⟩
end
end U

namespace U
open PySem PySem.Spec PyProof.Rows L2
/-! ### operators, whatever their operands are -/
def ror (r r' : R2) : R2 := fun x y H Q => r x y H Q ∨ r' x y H Q
theorem opr_or {X : Cx} {f : Value → Value → Sem Value} {r r' : R2} (h : OpR X f r) (h' : OpR X f r') : OpR X f (ror r r') := fun pins s σ H x y u v Q I rx ry q =>
  q.elim (h pins s σ H x y u v Q I rx ry) (h' pins s σ H x y u v Q I rx ry)
section
variable {W : HR} [w : PreT W] {K : PySem.W.Frag}
theorem op2_l {r r' : R2} {P1 P2 P : Pr} (h : Op2 W r P1 P2 P) : Op2 W (ror r r') P1 P2 P := fun x y H a b Q q => .inl (h x y H a b Q q)
theorem op2_r {r r' : R2} {P1 P2 P : Pr} (h : Op2 W r' P1 P2 P) : Op2 W (ror r r') P1 P2 P := fun x y H a b Q q => .inr (h x y H a b Q q)
theorem op2_I0 {g : Int → Int → V} {i j : Int} : Op2 W (rI0 g) (Is (.int i)) (Is (.int j)) (Is (g i j)) := fun x y H a b Q q => ⟨i, j, a, b, q _ H (w.refl H) rfl⟩
theorem op2_I {C : Int → Int → Prop} {g : Int → Int → V} {i j : Int} (c : C i j) : Op2 W (rI C g) (Is (.int i)) (Is (.int j)) (Is (g i j)) := fun x y H a b Q q => ⟨i, j, a, b, c, q _ H (w.refl H) rfl⟩
theorem op2_eq {x y : V} (h : scal x y = true) : Op2 W rEq (Is x) (Is y) (Is (.bl (decide (x = y)))) := fun x' y' H a b Q q => by
  cases a; cases b
  exact ⟨h, q _ H (w.refl H) rfl⟩
theorem op2_ne {x y : V} (h : scal x y = true) : Op2 W rNe (Is x) (Is y) (Is (.bl (!decide (x = y)))) := fun x' y' H a b Q q => by
  cases a; cases b
  exact ⟨h, q _ H (w.refl H) rfl⟩
theorem op1_neg {i : Int} : Op1 W (rU fun i => .int (-i)) (Is (.int i)) (Is (.int (-i))) := fun x H a Q q => ⟨i, a, q _ H (w.refl H) rfl⟩
/-- an item of a tuple -/
theorem allp_get : ∀ {Ps : List Pr} {xs : List V} {H : Hp} {i : Nat} {P : Pr}, AllP Ps xs H → Ps[i]? = some P → ∃ v, xs[i]? = some v ∧ P v H
  | [], _, _, _, _, _, e => by simp at e
  | Q :: Ps, [], _, _, _, h, _ => h.elim
  | Q :: Ps, x :: xs, H, 0, P, h, e => by
    have e' : Q = P := by simpa using e
    subst e'
    exact ⟨x, by simp, h.1⟩
  | Q :: Ps, x :: xs, H, i + 1, P, h, e => by
    obtain ⟨v, a, b⟩ := allp_get (Ps := Ps) (xs := xs) (i := i) h.2 (by simpa using e)
    exact ⟨v, by simpa using a, b⟩
theorem op2_ixT {Ps : List Pr} {i : Nat} {P : Pr} (h : Ps[i]? = some P) : Op2 W (rIxT K) (Tup K Ps) (Is (.int (i : Int))) P := fun x y H ⟨p, xs, e, hs, hp⟩ b Q q => by
  obtain ⟨v, a, c⟩ := allp_get hp h
  exact ⟨p, xs, _, v, e, b, .inl hs, atI_nat a, q v H (w.refl H) c⟩
end
/-! ### the operators of the text -/
def rFd : R2 := rI (fun _ j => j ≠ 0 ∧ j.natAbs.log2 < 9000) fun i j => .int (i.fdiv j)
theorem op_fd {X : Cx} : OpR X (binaryOp .FloorDiv) rFd := opI fun i j _ _ _ _ _ hc q => floordiv_int hc.1 q (.inl (PyProof.noPylong_of_log2 hc.2))
/-! ### ratios -/
def Big (n : Nat) (i : Int) : Prop := i.natAbs < 2 ^ n
def Sz (n : Nat) (q : Rat) : Prop := Big n q.num ∧ q.den < 2 ^ n
/-- a told ratio -/
def Told (K : PySem.W.Frag) (q : Rat) : Pr := Tup K [Is (.int q.num), Is (.int q.den)]
instance mn_told {W : HR} [w : PreT W] {K : PySem.W.Frag} {q : Rat} : Mn W (Told K q) := mn_tup
/-- what may be passed as the ratio q -/
def IsR (K : PySem.W.Frag) (n : Nat) (q : Rat) : Pr := fun v H => (∃ i : Int, v = .int i ∧ Big n i ∧ (i : Rat) = q) ∨ ∃ a b : Int, Tup K [Is (.int a), Is (.int b)] v H ∧ 0 < b ∧ Big n a ∧ Big n b ∧ Rat.divInt a b = q
instance mn_isR {W : HR} [w : PreT W] {K : PySem.W.Frag} {n : Nat} {q : Rat} : Mn W (IsR K n q) := ⟨fun v H H' h p => p.elim .inl fun ⟨a, b, t, r⟩ => .inr ⟨a, b, mn_tup.mn v H H' h t, r⟩⟩
theorem isR_told {K : PySem.W.Frag} {q : Rat} {v : V} {H : Hp} (h : Told K q v H) : ∃ p, v = .ref p ∧ SqT K H p [.int q.num, .int q.den] := by
  obtain ⟨p, xs, e, hs, hp⟩ := h
  match xs, hp with
  | [a, b], hp =>
    obtain ⟨rfl, rfl, _⟩ := hp
    exact ⟨p, e, .inl hs⟩
theorem told_isR {K : PySem.W.Frag} {n : Nat} {q : Rat} (s : Sz n q) {v : V} {H : Hp} (h : Told K q v H) : IsR K n q v H := .inr ⟨q.num, q.den, h, by have := q.den_pos; omega, s.1, by have := s.2; unfold Big; omega, by simp⟩
theorem big_mono {n m : Nat} {i : Int} (h : Big n i) (l : n ≤ m) : Big m i := Nat.lt_of_lt_of_le h (Nat.pow_le_pow_right (by decide) l)
theorem big_mul {n m : Nat} {i j : Int} (h : Big n i) (k : Big m j) : Big (n + m) (i * j) := by
  unfold Big at *
  rw [Int.natAbs_mul, Nat.pow_add]
  exact Nat.mul_lt_mul'' h k
theorem big_add {n m : Nat} {i j : Int} (h : Big n i) (k : Big n j) : Big (n + 1) (i + j) := by
  unfold Big at *
  have := Int.natAbs_add_le i j
  rw [Nat.pow_succ]; omega
theorem big_neg {n : Nat} {i : Int} (h : Big n i) : Big n (-i) := by unfold Big at *; rw [Int.natAbs_neg]; exact h
theorem big_sub {n m : Nat} {i j : Int} (h : Big n i) (k : Big n j) : Big (n + 1) (i - j) := by rw [Int.sub_eq_add_neg]; exact big_add (m := n) h (big_neg k)
theorem sz_divInt {n : Nat} {a b : Int} (hb : b ≠ 0) (h : Big n a) (k : Big n b) : Sz n (Rat.divInt a b) := by
  constructor
  · unfold Big at *
    rw [Rat.num_divInt]
    refine Nat.lt_of_le_of_lt ?_ h
    rw [Int.natAbs_ediv_of_dvd]
    · rw [Int.natAbs_mul, Int.natAbs_natCast]
      have : b.sign.natAbs = 1 := by rcases Int.lt_trichotomy b 0 with z | z | z <;> simp_all [Int.sign_eq_neg_one_of_neg, Int.sign_eq_one_of_pos]
      rw [this, Nat.one_mul]
      exact Nat.div_le_self _ _
    · exact Int.dvd_trans (Int.gcd_dvd_right ..) (Int.dvd_mul_left ..)
  · unfold Big at k
    rw [Rat.den_divInt, if_neg hb]
    exact Nat.lt_of_le_of_lt (Nat.div_le_self _ _) k
end U

namespace U
open PySem PySem.Spec PyProof.Rows L2
/-! ### operators of several kinds -/
def rAddS : R2 := fun x y H Q => ∃ i j, x = .str i ∧ y = .str j ∧ i.length + j.length ≤ sizeLine ∧ Q (.str (i ++ j)) H
def rAddA (K : PySem.W.Frag) : R2 := ror (rI0 fun i j => .int (i + j)) (ror rAddS (ror rCat (rCatT K)))
theorem op_addA {X : Cx} : OpR X (binaryOp .Add) (rAddA X.K) := opr_or op_add (opr_or op_add_str (opr_or op_cat op_catT))
def rMulI : R2 := rI IntMulOk fun i j => .int (i * j)
theorem op_mulI {X : Cx} : OpR X (binaryOp .Mult) rMulI := opI fun _ _ _ _ _ _ _ hc q => mul_int q hc
def rMulA : R2 := ror rMulI rRep
theorem op_mulA {X : Cx} : OpR X (binaryOp .Mult) rMulA := opr_or op_mulI op_rep
def rEqA (K : PySem.W.Frag) : R2 := ror rEq (rEqD K)
def rNeA (K : PySem.W.Frag) : R2 := ror rNe (rNeD K)
theorem op_eqA {X : Cx} (hu : X.A.units + 64 < cLine) : OpR X (compareOp .Eq) (rEqA X.K) := opr_or op_eq (op_eqD hu)
theorem op_neA {X : Cx} (hu : X.A.units + 64 < cLine) : OpR X (compareOp .NotEq) (rNeA X.K) := opr_or op_ne (op_neD hu)
section
variable {W : HR} [w : PreT W] {K : PySem.W.Frag}
theorem o_add {i j : Int} : Op2 W (rAddA K) (Is (.int i)) (Is (.int j)) (Is (.int (i + j))) := op2_l op2_I0
theorem o_sub {i j : Int} : Op2 W (rI0 fun i j => .int (i - j)) (Is (.int i)) (Is (.int j)) (Is (.int (i - j))) := op2_I0
theorem o_mul {n m : Nat} {i j : Int} (h : Big n i) (k : Big m j) (l : n + m ≤ 900000) : Op2 W rMulA (Is (.int i)) (Is (.int j)) (Is (.int (i * j))) :=
  op2_l (op2_I (wide_mul (a := n + 1) (b := m + 1) (big_mono h (Nat.le_succ n)) (big_mono k (Nat.le_succ m)) (Nat.succ_pos _) (Nat.succ_pos _) (by omega)).ok)
/-- one factor is small -/
theorem o_mulS {i j : Int} (h : -(2 ^ 64) < j ∧ j < 2 ^ 64) : Op2 W rMulA (Is (.int i)) (Is (.int j)) (Is (.int (i * j))) := op2_l (op2_I (IntMulOk.of_right (intBits_le_64 h.1 h.2)))
theorem o_fd {n : Nat} {i j : Int} (h : j ≠ 0) (k : Big n j) (l : n ≤ 8000) : Op2 W rFd (Is (.int i)) (Is (.int j)) (Is (.int (i.fdiv j))) :=
  op2_I ⟨h, Nat.lt_of_lt_of_le (PySem.Flt.log2_lt_of (Nat.succ_pos n) (big_mono k (Nat.le_succ n))) (by omega)⟩
theorem o_mod {i j : Int} (h : 0 < j) : Op2 W (rI (fun _ j => 0 < j) fun i j => .int (i % j)) (Is (.int i)) (Is (.int j)) (Is (.int (i % j))) := op2_I h
theorem o_eqI {i j : Int} : Op2 W (rEqA K) (Is (.int i)) (Is (.int j)) (Is (.bl (decide (i = j)))) := op2_l (by
  have := op2_eq (W := W) (x := .int i) (y := .int j) rfl
  have e : decide (V.int i = V.int j) = decide (i = j) := by by_cases h : i = j <;> simp [h]
  rw [e] at this; exact this)
theorem o_neI {i j : Int} : Op2 W (rNeA K) (Is (.int i)) (Is (.int j)) (Is (.bl (decide (i ≠ j)))) := op2_l (by
  have := op2_ne (W := W) (x := .int i) (y := .int j) rfl
  have e : (!decide (V.int i = V.int j)) = decide (i ≠ j) := by by_cases h : i = j <;> simp [h]
  rw [e] at this; exact this)
theorem o_eqS {i j : Str} : Op2 W (rEqA K) (Is (.str i)) (Is (.str j)) (Is (.bl (decide (i = j)))) := op2_l (by
  have := op2_eq (W := W) (x := .str i) (y := .str j) rfl
  have e : decide (V.str i = V.str j) = decide (i = j) := by by_cases h : i = j <;> simp [h]
  rw [e] at this; exact this)
/-! ### kinds -/
def HasTy (K : PySem.W.Frag) (t : String) (P : Pr) : Prop := ∀ v H, P v H → TyX K H v (.type t)
theorem hasTy_int {i : Int} : HasTy K "int" (Is (.int i)) := fun v H h => by cases h; exact .base (.int i)
theorem hasTy_bool {b : Bool} : HasTy K "bool" (Is (.bl b)) := fun v H h => by cases h; exact .base (.bl b)
theorem hasTy_str {x : Str} : HasTy K "str" (Is (.str x)) := fun v H h => by cases h; exact .base (.str x)
theorem hasTy_none : HasTy K "NoneType" (Is .non) := fun v H h => by cases h; exact .base .non
theorem hasTy_tup {Ps : List Pr} : HasTy K "tuple" (Tup K Ps) := fun v H ⟨p, xs, e, hs, _⟩ => by
  subst e
  rcases hs with h | ⟨o, h⟩
  · exact .base (.tup h)
  · exact .fTuple h
theorem opA_isi {P : Pr} {t T : String} {b : Bool} (h : HasTy K t P) (k : kitB t T = some b) : OpA W (rIsi K) [P, Is (.ty T)] (Is (.bl b)) := fun vs H a Q q => by
  match vs, a with
  | [x, c], ⟨p, e, _⟩ =>
    cases e
    exact ⟨x, .ty T, .type t, .type T, b, rfl, .ty T, h x H p, kit_ty k, q _ H (w.refl H) rfl⟩
def rLenA (K : PySem.W.Frag) : List V → Hp → VK → Prop := fun xs H Q => ∃ x n, xs = [x] ∧ LenV K x H n ∧ Q (.int n) H
theorem call_lenA {X : Cx} : CallR X (.builtin "len") (rLenA X.K) := call_len
theorem lenv_t {p : Addr} {xs : List V} {H : Hp} (hs : SqT K H p xs) : LenV K (.ref p) H xs.length := Or.inr ⟨xs, hs, rfl⟩
theorem rlen_t {p : Addr} {xs : List V} {H : Hp} (lv : LenV K (.ref p) H xs.length) (Q : VK) (z : Q (.int (xs.length : Int)) H) : rLenA K [.ref p] H Q := ⟨V.ref p, xs.length, rfl, lv, z⟩
theorem allp1 {P : Pr} {vs : List V} {H : Hp} (a : AllP [P] vs H) : ∃ x, vs = [x] ∧ P x H := by
  cases vs with
  | nil => exact a.elim
  | cons x vs =>
    cases vs with
    | nil => exact ⟨x, rfl, a.1⟩
    | cons y vs => exact a.2.elim
theorem opA_lenT {Ps : List Pr} : OpA W (rLenA K) [Tup K Ps] (Is (.int (Ps.length : Int))) := fun vs H a Q q => by
  obtain ⟨x, ev, p, xs, e, hs, hp⟩ := allp1 a
  have l := allp_len hp
  have z := q (.int (Ps.length : Int)) H (w.refl H) rfl
  rw [← l] at z
  rw [ev, e]
  exact rlen_t (lenv_t (.inl hs)) Q z
theorem opA_int {i : Int} : OpA W (fun xs H Q => (∃ i, xs = [.int i] ∧ Q (.int i) H) ∨ ∃ k, xs = [.bl k] ∧ Q (.int (if k then 1 else 0)) H) [Is (.int i)] (Is (.int i)) := fun vs H a Q q => by
  match vs, a with
  | [x], ⟨e, _⟩ => cases e; exact .inl ⟨i, rfl, q _ H (w.refl H) rfl⟩
theorem opA_abs {i : Int} : OpA W (fun xs H Q => ∃ i, xs = [.int i] ∧ Q (.int (if i < 0 then -i else i)) H) [Is (.int i)] (Is (.int (i.natAbs : Int))) := fun vs H a Q q => by
  match vs, a with
  | [x], ⟨e, _⟩ =>
    cases e
    refine ⟨i, rfl, ?_⟩
    have : (if i < 0 then -i else i) = (i.natAbs : Int) := by split <;> omega
    rw [this]
    exact q _ H (w.refl H) rfl
theorem opA_gcd {i j : Int} : OpA W rGcd [Is (.int i), Is (.int j)] (Is (.int ((Nat.gcd i.natAbs j.natAbs : Nat) : Int))) := fun vs H a Q q => by
  match vs, a with
  | [x, y], ⟨e, e2, _⟩ => cases e; cases e2; exact ⟨i, j, rfl, q _ H (w.refl H) rfl⟩
theorem o_ixT {Ps : List Pr} {i : Nat} {P : Pr} (h : Ps[i]? = some P) : Op2 W (rIx K) (Tup K Ps) (Is (.int (i : Int))) P := fun x y H a b Q q => .inr (.inl (op2_ixT h x y H a b Q q))
end
/-! ### lowest terms -/
theorem low_terms {t b : Int} (hb : b ≠ 0) : ∀ c : Int, c = (if b < 0 then -((Nat.gcd t.natAbs b.natAbs : Nat) : Int) else ((Nat.gcd t.natAbs b.natAbs : Nat) : Int)) → c ≠ 0 ∧ t.fdiv c = (Rat.divInt t b).num ∧ b.fdiv c = ((Rat.divInt t b).den : Int) := by
  intro c hc
  have g0 : 0 < Nat.gcd t.natAbs b.natAbs := Nat.gcd_pos_of_pos_right _ (by omega)
  have gc : (b.gcd t : Nat) = Nat.gcd t.natAbs b.natAbs := by rw [Int.gcd_comm]; rfl
  have d1 : ((Nat.gcd t.natAbs b.natAbs : Nat) : Int) ∣ t := by rw [← gc]; exact Int.gcd_dvd_right ..
  have d2 : ((Nat.gcd t.natAbs b.natAbs : Nat) : Int) ∣ b := by rw [← gc]; exact Int.gcd_dvd_left ..
  rw [Rat.num_divInt, Rat.den_divInt, if_neg hb, gc]
  by_cases hn : b < 0
  · rw [if_pos hn] at hc
    subst hc
    refine ⟨by omega, ?_, ?_⟩
    · rw [Int.fdiv_eq_ediv_of_dvd (Int.neg_dvd.mpr d1), Int.ediv_neg, Int.sign_eq_neg_one_of_neg hn, Int.neg_one_mul, Int.neg_ediv_of_dvd d1]
    · rw [Int.fdiv_eq_ediv_of_dvd (Int.neg_dvd.mpr d2), Int.ediv_neg, Int.natCast_ediv, ← Int.neg_ediv_of_dvd d2]
      congr 1
      omega
  · rw [if_neg hn] at hc
    subst hc
    have hp : 0 < b := by omega
    refine ⟨by omega, ?_, ?_⟩
    · rw [Int.fdiv_eq_ediv_of_dvd d1, Int.sign_eq_one_of_pos hp, Int.one_mul]
    · rw [Int.fdiv_eq_ediv_of_dvd d2, Int.natCast_ediv]
      congr 1
      omega
end U

namespace U
open PySem PySem.Spec PyProof.Rows L2
/-- a list, its items -/
def Lst (K : PySem.W.Frag) (Ps : List Pr) : Pr := fun v H => ∃ p xs, v = .ref p ∧ SqL K H p xs ∧ Safe H xs ∧ AllP Ps xs H
instance mn_lst {W : HR} [w : Pre W] {K : PySem.W.Frag} {Ps : List Pr} [ml : MnL W Ps] : Mn W (Lst K Ps) := ⟨fun v H H' h ⟨p, xs, e, hq, hn, hp⟩ => ⟨p, xs, e, w.lst h hn hq, hn.mono h, ml.mn xs H H' h hp⟩⟩
/-- some of several -/
def Some {A : Type} (C : A → Prop) (P : A → Pr) : Pr := fun v H => ∃ a, C a ∧ P a v H
instance mn_some {W : HR} {A : Type} {C : A → Prop} {P : A → Pr} [m : ∀ a, Mn W (P a)] : Mn W (Some C P) := ⟨fun v H H' h ⟨a, c, p⟩ => ⟨a, c, (m a).mn v H H' h p⟩⟩
section
variable {Y : Rs} [w : PreT Y.W] {G : Ctx} {ta tb te : TE} {t u : TT} {P P1 P2 P' : Pr} {r : R2} {K : PySem.W.Frag} {ts tu : TS} {N M : Ctx} {R : Pr}
theorem Ty.alt {A : Type} {C : A → Prop} {P : A → Pr} : ∀ {G : Ctx} {s : L2.St} {H : Hp} {i : Nat}, Ty G s H → G[i]? = some (some (Some C P)) → ∃ a, C a ∧ Ty (G.set i (some (P a))) s H
  | [], _, _, _, _, e => by simp at e
  | none :: G, [], _, _, h, _ => h.elim
  | some _ :: G, [], _, _, h, _ => h.elim
  | none :: G, x :: s, H, 0, _, e => by simp at e
  | none :: G, x :: s, H, i + 1, h, e => by
    obtain ⟨a, c, z⟩ := Ty.alt (G := G) (s := s) (i := i) h (by simpa using e)
    exact ⟨a, c, z⟩
  | some Q :: G, x :: s, H, 0, h, e => by
    have e' : Q = Some C P := by simpa using e
    subst e'
    obtain ⟨⟨v, e, a, c, p⟩, z⟩ := h
    exact ⟨a, c, ⟨v, e, p⟩, z⟩
  | some Q :: G, x :: s, H, i + 1, h, e => by
    obtain ⟨a, c, z⟩ := Ty.alt (G := G) (s := s) (i := i) h.2 (by simpa using e)
    exact ⟨a, c, h.1, z⟩
omit w in
/-- a slot's letter is taken out -/
theorem st_open {A : Type} {C : A → Prop} {P : A → Pr} (i : Nat) (h : G[i]? = some (some (Some C P))) (k : ∀ a, C a → St Y (G.set i (some (P a))) ts N R) : St Y G ts N R := fun s H D ty hx n r => by
  obtain ⟨a, c, z⟩ := ty.alt h
  exact k a c s H D z hx n r
omit w in
theorem ev_some {A : Type} {C : A → Prop} {P : A → Pr} (a : A) (c : C a) (h : Ev Y G te (P a)) : Ev Y G te (Some C P) := h.sub fun v H p => ⟨a, c, p⟩
omit w in
theorem st_sub (h : Sub G M) (k : St Y M ts N R) : St Y G ts N R := fun s H D ty => k s H D (h s H ty)
omit w in
theorem st_post {N' : Ctx} {R' : Pr} (k : St Y G ts N' R') (h : Sub N' N) (hr : ∀ v H, R' v H → R v H) : St Y G ts N R := fun s H D ty hx n r => k s H D ty hx (fun s' H' w t => n s' H' w (h s' H' t)) fun v H' w p => r v H' w (hr v H' p)
theorem op2_some1 {W : HR} {A : Type} {C : A → Prop} {P : A → Pr} {P2 P' : Pr} {r : R2} (h : ∀ a, C a → Op2 W r (P a) P2 P') : Op2 W r (Some C P) P2 P' := fun x y H ⟨a, c, p⟩ b Q q => h a c x y H p b Q q
theorem op2_some2 {W : HR} {A : Type} {C : A → Prop} {P : A → Pr} {P1 P' : Pr} {r : R2} (h : ∀ a, C a → Op2 W r P1 (P a) P') : Op2 W r P1 (Some C P) P' := fun x y H b ⟨a, c, p⟩ Q q => h a c x y H b p Q q
theorem op2_sub {W : HR} {P1 P2 P P' : Pr} {r : R2} (h : Op2 W r P1 P2 P) (k : ∀ v H, P v H → P' v H) : Op2 W r P1 P2 P' := fun x y H a b Q q => h x y H a b Q fun v H2 w p => q v H2 w (k v H2 p)
/-! ### displays of lists, items -/
theorem ev_lst {tr : TA} {Ps : List Pr} [ml : MnL Y.W Ps] (ha : EvA Y G tr Ps) (hn : ∀ vs H, AllP Ps vs H → Safe H vs) (hl : Ps.length ≤ 100000 := by first | decide | (simp only [List.length_cons, List.length_nil]; decide)) : Ev Y G (tLst tr) (Lst K Ps) := fun s H ty hx Q q =>
  ha s H ty hx _ fun vs H1 w1 p1 => ⟨by rw [allp_len p1]; exact Evl.sz_of hl, fun p hp => by
    have w2 : Y.W H1 (upd H1 p (.lst vs)) := w.ext (Evl.Ex.new hp)
    exact q _ _ (w.trans w1 w2) ⟨p, vs, rfl, SqL.of upd_same, (hn vs H1 p1).mono w2, ml.mn vs _ _ w2 p1⟩⟩
theorem o_ixL {W : HR} [w : PreT W] {Ps : List Pr} {i : Nat} {P : Pr} (h : Ps[i]? = some P) : Op2 W (rIx K) (Lst K Ps) (Is (.int (i : Int))) P := fun x y H ⟨p, xs, e, hq, hn, hp⟩ b Q q => by
  obtain ⟨v, a, c⟩ := allp_get hp h
  exact .inl ⟨p, xs, _, v, e, b, hq, atI_nat a, q v H (w.refl H) c⟩
theorem opA_lenL {W : HR} [w : PreT W] {Ps : List Pr} : OpA W (rLenA K) [Lst K Ps] (Is (.int (Ps.length : Int))) := fun vs H a Q q => by
  obtain ⟨x, ev, p, xs, e, hq, hn, hp⟩ := allp1 a
  have l := allp_len hp
  have z := q (.int (Ps.length : Int)) H (w.refl H) rfl
  rw [← l] at z
  rw [ev, e]
  have lv : LenV K (.ref p) H xs.length := Or.inl ⟨xs, hq, rfl⟩
  exact rlen_t lv Q z
theorem hasTy_lst {Ps : List Pr} : HasTy K "list" (Lst K Ps) := fun v H ⟨p, xs, e, hq, _, _⟩ => by
  subst e
  rcases hq with (h | ⟨o, h⟩) | ⟨o, its, n, h, hc, _⟩
  · exact .base (.lst h)
  · exact .base (.frz h)
  · exact .kList h hc
/-! ### truth -/
omit w in
theorem et_truI {i : Int} (h : Ev Y G te (Is (.int i))) : EvT Y G (fun σ H Q => te σ H fun x H' => ∃ k, TruV K x H' k ∧ Q k H') (i != 0) := fun s H ty hx Q q => h s H ty hx _ fun v H2 w e => by
  cases e
  exact ⟨_, rfl, q H2 w⟩
omit w in
theorem et_truB {b : Bool} (h : Ev Y G te (Is (.bl b))) : EvT Y G (fun σ H Q => te σ H fun x H' => ∃ k, TruV K x H' k ∧ Q k H') b := fun s H ty hx Q q => h s H ty hx _ fun v H2 w e => by
  cases e
  exact ⟨_, rfl, q H2 w⟩
/-! ### loops -/
/-- what a for walks: n turns, the item of each -/
def EvI (Y : Rs) (G : Ctx) (wi : TI) (n : Nat) (It : Nat → Pr) : Prop := ∀ s H, Ty G s H → Hx Y H → ∀ R : L2.It → Hp → Prop,
  (∀ J H2 (Gd : Hp → Prop), Y.W H H2 → Gd H2 → (∀ a b, Y.W a b → Gd a → Gd b) → Walk J n Gd (fun i Ha x Hb => Y.W Ha Hb ∧ It i x Hb) → R J H2) → wi s H R
def nth (Ps : List Pr) (i : Nat) : Pr := (Ps[i]?).getD fun _ _ => False
theorem allp_nth {Ps : List Pr} {xs : List V} {H : Hp} {i : Nat} {x : V} (h : AllP Ps xs H) (e : xs[i]? = some x) : nth Ps i x H := by
  have l := allp_len h
  have hi : i < Ps.length := by rw [← l]; exact (List.getElem?_eq_some_iff.mp e).1
  obtain ⟨v, a, b⟩ := allp_get (i := i) (P := Ps[i]) h (by simp)
  rw [e] at a
  cases a
  unfold nth
  rw [List.getElem?_eq_getElem hi]
  exact b
omit w in
theorem ei_list [w : Pre Y.W] {Ps : List Pr} [ml : MnL Y.W Ps] (h : Ev Y G te (Lst K Ps)) : EvI Y G (iList K te) Ps.length (nth Ps) := fun s H ty hx R k =>
  h s H ty hx _ fun v H2 w2 ⟨p, xs, e, hq, hn, hp⟩ => by
    refine ⟨p, e, ⟨xs, hq⟩, k _ H2 (fun H => SqL K H p xs ∧ AllP Ps xs H ∧ Safe H xs) w2 ⟨hq, hp, hn⟩ (fun a b x z => ⟨w.lst x z.2.2 z.1, ml.mn xs a b x z.2.1, z.2.2.mono x⟩) ?_⟩
    rw [← allp_len hp]
    refine ⟨fun i H hi z => walk_list.goes i H hi z.1, fun H z => walk_list.stops H z.1, fun i Ha x Hb hi z y => ?_⟩
    obtain ⟨e1, e2⟩ := walk_list.yields i Ha x Hb hi z.1 y
    subst e1
    exact ⟨w.refl _, allp_nth z.2.1 e2⟩
theorem ei_tup {Ps : List Pr} [ml : MnL Y.W Ps] (h : Ev Y G te (Tup K Ps)) : EvI Y G (iTup K te) Ps.length (nth Ps) := fun s H ty hx R k =>
  h s H ty hx _ fun v H2 w2 ⟨p, xs, e, hq, hp⟩ => by
    refine ⟨p, e, ⟨xs, .inl hq⟩, k _ H2 (fun H => Rd H p (.tup xs) ∧ AllP Ps xs H) w2 ⟨hq, hp⟩ (fun a b x z => ⟨w.tup x z.1, ml.mn xs a b x z.2⟩) ?_⟩
    rw [← allp_len hp]
    refine ⟨fun i H hi z => walk_tup.goes i H hi (.inl z.1), fun H z => walk_tup.stops H (.inl z.1), fun i Ha x Hb hi z y => ?_⟩
    obtain ⟨e1, e2⟩ := walk_tup.yields i Ha x Hb hi (.inl z.1) y
    subst e1
    exact ⟨w.refl _, allp_nth z.2 e2⟩
theorem ei_range1 {tr : TA} {j : Int} (h : EvA Y G tr [Is (.int j)]) (l : -(2 ^ 62) ≤ j ∧ j < 2 ^ 62) : EvI Y G (iRng1 tr) j.toNat (fun i => Is (.int (i : Int))) := fun s H ty hx R k =>
  h s H ty hx _ fun vs H2 w2 hp => by
    obtain ⟨x, ev, e⟩ := allp1 hp
    cases e
    refine ⟨j, ev, l.1, l.2, k _ H2 (fun _ => True) w2 True.intro (fun _ _ _ _ => True.intro) ⟨fun i H hi z => walk_range.goes i H hi True.intro, fun H z => walk_range.stops H True.intro, fun i Ha x Hb hi z y => ?_⟩⟩
    obtain ⟨e1, e2⟩ := walk_range.yields i Ha x Hb hi True.intro y
    subst e1
    refine ⟨w.refl _, ?_⟩
    show x = V.int (i : Int)
    have e3 : (fun i : Nat => V.int (0 + (i : Int))) i = V.int (i : Int) := congrArg V.int (Int.zero_add _)
    exact e2.trans e3
omit w in
theorem ei_enum [w : Pre Y.W] {tr : TA} {Ps : List Pr} [ml : MnL Y.W Ps] [mi : ∀ i, Mn Y.W (nth Ps i)] (h : EvA Y G tr [Lst K Ps]) : EvI Y G (iEnum K tr) Ps.length (fun i => Tup K [Is (.int (i : Int)), nth Ps i]) := fun s H ty hx R k =>
  h s H ty hx _ fun vs H2 w2 ha => by
    obtain ⟨x, ev, p, xs, e, hq, hn, hp⟩ := allp1 ha
    subst e
    refine ⟨p, xs, ev, hq, k _ H2 (fun H => SqL K H p xs ∧ AllP Ps xs H ∧ Safe H xs) w2 ⟨hq, hp, hn⟩ (fun a b x z => ⟨w.lst x z.2.2 z.1, ml.mn xs a b x z.2.1, z.2.2.mono x⟩) ?_⟩
    rw [← allp_len hp]
    refine ⟨fun i H hi z => walk_enum.goes i H hi z.1, fun H z => walk_enum.stops H z.1, fun i Ha x Hb hi z y => ?_⟩
    obtain ⟨T, a, b, e1, e2, e3, e4, e5⟩ := walk_enum.yields i Ha x Hb hi z.1 y
    subst e3
    have w3 : Y.W Ha (upd Ha T (.tup [a, b])) := w.ext (Evl.Ex.new e2)
    cases e4
    exact ⟨w3, T, _, e1, Rd.of upd_same, rfl, (mi i).mn _ _ _ w3 (allp_nth z.2.1 e5), True.intro⟩
theorem st_for {wi : TI} {n : Nat} {It : Nat → Pr} {j : Nat} (hi : EvI Y G wi n It) (L : Nat → Ctx) (h0 : Sub G (L 0)) [mc : MnC Y.W G] [ml : ∀ i, MnC Y.W (L i)] (body : ∀ i, i < n → St Y ((L i).set j (some (It i))) tu (L (i + 1)) R) : St Y G (tFor wi (gName j) tu) (L n) R := fun s H D ty hx nx rt =>
  hi s H ty hx _ fun J H2 Gd w2 g2 gm wk => by
    refine for_it wk (fun i s' H' => Y.W H H' ∧ Gd H' ∧ Ty (L i) s' H') ⟨w2, g2, h0 s H2 (mc.mn s H H2 w2 ty)⟩ (fun i s' H' _ z => z.2.1) (fun i x s' Ha Hb hi z y => ?_) fun s' H' z => nx s' H' z.1 z.2.2
    obtain ⟨z1, z2, z3⟩ := z
    obtain ⟨y1, y2⟩ := y
    have wb := w.trans z1 y1
    refine body i hi _ Hb _ (((ml i).mn s' Ha Hb y1 z3).put y2) (hx.mono wb) (fun s2 H3 w3 t3 => ⟨w.trans wb w3, gm _ _ (w.trans y1 w3) z2, t3⟩) fun v H3 w3 p => rt v H3 (w.trans wb w3) p
theorem st_for2 {wi : TI} {n : Nat} {I1 I2 : Nat → Pr} {j l : Nat} (hi : EvI Y G wi n fun i => Tup K [I1 i, I2 i]) (L : Nat → Ctx) (h0 : Sub G (L 0)) [mc : MnC Y.W G] [ml : ∀ i, MnC Y.W (L i)] (body : ∀ i, i < n → St Y (((L i).set j (some (I1 i))).set l (some (I2 i))) tu (L (i + 1)) R) :
    St Y G (tFor wi (gTup K 2 (gCons (gName j) (gCons (gName l) gNil))) tu) (L n) R := fun s H D ty hx nx rt =>
  hi s H ty hx _ fun J H2 Gd w2 g2 gm wk => by
    refine for_it wk (fun i s' H' => Y.W H H' ∧ Gd H' ∧ Ty (L i) s' H') ⟨w2, g2, h0 s H2 (mc.mn s H H2 w2 ty)⟩ (fun i s' H' _ z => z.2.1) (fun i x s' Ha Hb hi z y => ?_) fun s' H' z => nx s' H' z.1 z.2.2
    obtain ⟨z1, z2, z3⟩ := z
    obtain ⟨y1, p, xs, e, hq, hp⟩ := y
    have wb := w.trans z1 y1
    obtain ⟨a, b, rfl⟩ : ∃ a b, xs = [a, b] := by
      have l := allp_len hp
      match xs, l with
      | [a, b], _ => exact ⟨a, b, rfl⟩
    refine ⟨p, [a, b], e, .inl hq, rfl, a, [b], rfl, b, [], rfl, rfl, ?_⟩
    exact body i hi _ Hb _ ((((ml i).mn s' Ha Hb y1 z3).put hp.1).put hp.2.1) (hx.mono wb) (fun s2 H3 w3 t3 => ⟨w.trans wb w3, gm _ _ (w.trans y1 w3) z2, t3⟩) fun v H3 w3 p => rt v H3 (w.trans wb w3) p
theorem st_while {A : Type} {b : A → Bool} (L : A → Ctx) (m : A → Nat) (C : A → Prop) (a0 : A) (c0 : C a0) (h0 : Sub G (L a0)) [ml : ∀ a, MnC Y.W (L a)] (tst : ∀ a, C a → EvT Y (L a) t (b a)) (body : ∀ a, C a → b a = true → ∃ a', C a' ∧ m a' < m a ∧ St Y (L a) tu (L a') R) (done : ∀ a, C a → b a = false → Sub (L a) N) : St Y G (tWhile t tu) N R := fun s H D ty hx nx rt => by
  refine ⟨fun k s' H' => Y.W H H' ∧ ∃ a, C a ∧ m a = k ∧ Ty (L a) s' H', ⟨m a0, w.refl H, a0, c0, rfl, h0 s H ty⟩, fun k s' H' ⟨w1, a, c, e, t1⟩ => ?_⟩
  refine tst a c s' H' t1 (hx.mono w1) _ fun H2 w2 => ?_
  have w12 := w.trans w1 w2
  have t2 := (ml a).mn s' H' H2 w2 t1
  cases hb : b a with
  | true =>
    rw [if_pos rfl]
    obtain ⟨a', c', lt, sb⟩ := body a c hb
    refine ⟨fun s3 H3 => Y.W H H3 ∧ Ty (L a') s3 H3, fun s3 H3 z => ⟨m a', by omega, z.1, a', c', rfl, z.2⟩, ?_⟩
    exact sb s' H2 _ t2 (hx.mono w12) (fun s3 H3 w3 t3 => ⟨w.trans w12 w3, t3⟩) fun v H3 w3 p => rt v H3 (w.trans w12 w3) p
  | false =>
    rw [if_neg Bool.false_ne_true]
    exact nx s' H2 w12 (done a c hb s' H2 t2)
end
/-! ### what is known may be forgotten -/
theorem sub_refl {G : Ctx} : Sub G G := fun _ _ h => h
theorem sub_nil : Sub [] [] := fun _ _ h => h
theorem sub_keep {o : Option Pr} {G G' : Ctx} (h : Sub G G') : Sub (o :: G) (o :: G') := fun s H t => by
  cases s with
  | nil => cases o <;> exact t.elim
  | cons x s =>
    cases o with
    | none => exact h s H t
    | some P => exact ⟨t.1, h s H t.2⟩
theorem sub_drop {o : Option Pr} {G G' : Ctx} (h : Sub G G') : Sub (o :: G) (none :: G') := fun s H t => by
  cases s with
  | nil => cases o <;> exact t.elim
  | cons x s =>
    cases o with
    | none => exact h s H t
    | some P => exact h s H t.2
theorem sub_imp {P Q : Pr} {G G' : Ctx} (k : ∀ v H, P v H → Q v H) (h : Sub G G') : Sub (some P :: G) (some Q :: G') := fun s H t => by
  cases s with
  | nil => exact t.elim
  | cons x s =>
    obtain ⟨⟨v, e, p⟩, z⟩ := t
    exact ⟨⟨v, e, k v H p⟩, h s H z⟩
/-! ### list comprehensions: one for, no test -/
section
variable {Y : Rs} [w : Pre Y.W] {G : Ctx} {te : TE} {K : PySem.W.Frag}
/-- a new list that nobody else holds -/
def New (Ps : List Pr) : Pr := fun v H => ∃ p xs, v = .ref p ∧ H p = some (.lst xs) ∧ AllP Ps xs H
instance mn_new {Ps : List Pr} [ml : MnL Evl.Ex Ps] : Mn Evl.Ex (New Ps) := ⟨fun v H H' h ⟨p, xs, e, hq, hp⟩ => ⟨p, xs, e, h _ _ hq, ml.mn xs H H' h hp⟩⟩
theorem ty_wipe : ∀ {G : Ctx} {s : L2.St} {H : Hp} (j : Nat), Ty G s H → Ty (G.set j none) (s.set j none) H
  | [], [], _, _, h => h
  | [], _ :: _, _, _, h => h.elim
  | none :: G, [], _, _, h => h.elim
  | some _ :: G, [], _, _, h => h.elim
  | none :: G, x :: s, H, 0, h => h
  | some _ :: G, x :: s, H, 0, h => h.2
  | none :: G, x :: s, H, i + 1, h => ty_wipe (G := G) (s := s) i h
  | some _ :: G, x :: s, H, i + 1, h => ⟨h.1, ty_wipe (G := G) (s := s) i h.2⟩
instance mnc_wipe {W : HR} {G : Ctx} {i : Nat} [g : MnC W G] : MnC W (G.set i none) := ⟨fun Q h => by
  rcases List.mem_or_eq_of_mem_set h with e | e
  · exact g.all Q e
  · cases e⟩
theorem allp_snoc : ∀ {Ps : List Pr} {vs : List V} {P : Pr} {v : V} {H : Hp}, AllP Ps vs H → P v H → AllP (Ps ++ [P]) (vs ++ [v]) H
  | [], [], _, _, _, _, p => ⟨p, True.intro⟩
  | [], _ :: _, _, _, _, h, _ => h.elim
  | _ :: _, [], _, _, _, h, _ => h.elim
  | _ :: Ps, _ :: vs, _, _, _, h, p => ⟨h.1, allp_snoc (Ps := Ps) (vs := vs) h.2 p⟩
theorem allp_mn {W : HR} : ∀ {Ps : List Pr} {vs : List V} {H H' : Hp}, (∀ P ∈ Ps, Mn W P) → W H H' → AllP Ps vs H → AllP Ps vs H'
  | [], [], _, _, _, _, h => h
  | [], _ :: _, _, _, _, _, h => h.elim
  | _ :: _, [], _, _, _, _, h => h.elim
  | P :: Ps, v :: vs, _, _, m, w, h => ⟨(m P List.mem_cons_self).mn v _ _ w h.1, allp_mn (Ps := Ps) (vs := vs) (fun Q e => m Q (List.mem_cons_of_mem _ e)) w h.2⟩
/-- the predicates of n items -/
def each (n : Nat) (P : Nat → Pr) : List Pr := (List.range n).map P
theorem each_succ (n : Nat) (P : Nat → Pr) : each (n + 1) P = each n P ++ [P n] := by unfold each; rw [List.range_succ, List.map_append]; rfl
theorem each_len (n : Nat) (P : Nat → Pr) : (each n P).length = n := by unfold each; rw [List.length_map, List.length_range]
theorem each_mem {n : Nat} {P : Nat → Pr} {Q : Pr} (h : Q ∈ each n P) : ∃ i, i < n ∧ Q = P i := by
  unfold each at h
  obtain ⟨i, hi, e⟩ := List.mem_map.mp h
  exact ⟨i, List.mem_range.mp hi, e.symm⟩
theorem ev_lc {wi : TI} {n : Nat} {It : Nat → Pr} {P : Nat → Pr} {j : Nat} (hi : EvI Y G wi n It) (hn : n < 100000) [mc : MnC Y.W G] (mt : ∀ i, Mn WT (P i)) (mw : ∀ i, Mn Y.W (P i)) (he : ∀ i, i < n → Ev Y ((G.set j none).set j (some (It i))) te (P i)) (hh : ∀ i acc H, i ≤ n → AllP (each i P) acc H → Safe H acc) :
    Ev Y G (tLc wi (gName j) tYes te [j]) (New (each n P)) := fun s H ty hx Q q =>
  hi s H ty hx _ fun J H1 Gd w1 g1 gm wk D hD => by
    refine lc_it wk (fun i H' => Y.W H1 H' ∧ ∃ acc, H' D = some (.lst acc) ∧ AllP (each i P) acc H') ⟨w.wrt (w.refl H1) hD, [], upd_same, True.intro⟩ (fun i H' _ z => gm _ _ z.1 g1) (fun i x Ha Hb hi z y => ?_) (fun H' ⟨z, acc, e, a⟩ => q _ H' (w.trans w1 z) ⟨D, acc, rfl, e, a⟩)
    obtain ⟨z, acc, e, a⟩ := z
    obtain ⟨y1, y2⟩ := y
    have nh := hh i acc Ha (Nat.le_of_lt hi) a
    have wb := w.trans z y1
    have tyb : Ty ((G.set j none).set j (some (It i))) ((wipe s [j]).set j (some x)) Hb := (ty_wipe j (mc.mn s H Hb (w.trans w1 wb) ty)).put y2
    refine ⟨by show ((s.set j none).set j (some x)).set j none = s.set j none; rw [List.set_set, List.set_set], ?_⟩
    dsimp only [tYes]
    rw [if_pos (rfl : true = true)]
    refine he i hi _ Hb tyb (hx.mono (w.trans w1 wb)) _ fun v H4 w4 p4 => ?_
    have e4 := w.own (w.trans y1 w4) nh e
    have ma : ∀ R ∈ each i P, Mn Y.W R := fun R h => by obtain ⟨k, _, rfl⟩ := each_mem h; exact mw k
    have ta : ∀ R ∈ each i P, Mn WT R := fun R h => by obtain ⟨k, _, rfl⟩ := each_mem h; exact mt k
    have a4 := allp_mn ma (w.trans y1 w4) a
    have wt : WT H4 (upd H4 D (.lst (acc ++ [v]))) := wt_put e4 rfl
    have l4 := allp_len a4
    rw [each_len] at l4
    refine ⟨acc, e4, Evl.sz_lt (by omega), w.wrt (w.trans wb w4) hD, _, upd_same, ?_⟩
    rw [each_succ]
    exact allp_snoc (allp_mn ta wt a4) ((mt i).mn v _ _ wt p4)
end
end U

/-! ## the hand of a law's draws: a list that every draw writes -/
namespace U
open PySem PySem.Spec PyProof.Rows L2
/-- a hand's object: a list of four -/
def hphi (p : Addr) (xs : List V) : Heap → Prop := fun h => ∃ (its : List Value) (n : Nat), Vals xs its ∧ h.get? p = some { cls := .type "list", data := .seq its.toArray n }
/-- a hand as a list, within a draw -/
structure HandV (H : Hp) (p c : Addr) (xs : List Int) (a r t : Int) : Prop where
  at_ : H p = some (.lst [.ref c, .int a, .int r, .int t])
  cells : H c = some (.lst (xs.map V.int))
  pos : ∀ x ∈ xs, 0 ≤ x
  len : xs.length ≤ 63
  a0 : 0 ≤ a
  al : a ≤ xs.length
  r0 : 0 ≤ r
  t0 : 0 ≤ t
  tl : t < 2147483629
/-- a hand outside of draws: no list among the tracked ones -/
structure HandX (H : Hp) (p c : Addr) (xs : List Int) (a r t : Int) : Prop where
  at_ : H p = some (.ext (hphi p [.ref c, .int a, .int r, .int t]))
  cells : H c = some (.lst (xs.map V.int))
  pos : ∀ x ∈ xs, 0 ≤ x
  len : xs.length ≤ 63
  a0 : 0 ≤ a
  al : a ≤ xs.length
  r0 : 0 ≤ r
  t0 : 0 ≤ t
  tl : t < 2147483629
def HandAt (H : Hp) (p : Addr) : Prop := ∃ c xs a r t, HandX H p c xs a r t
def isX : HO → Bool
  | .ext _ => true
  | _ => false
/-- all stands but hands, and hands stay hands -/
def WL (H H' : Hp) : Prop := (∀ b o, H b = some o → isX o = false → H' b = some o) ∧ ∀ p c xs a r t, HandX H p c xs a r t → ∃ a' r' t', HandX H' p c xs a' r' t'
theorem HandV.mono {H H' : Hp} {p c : Addr} {xs : List Int} {a r t : Int} (h : HandV H p c xs a r t) (e : Evl.Ex H H') : HandV H' p c xs a r t := { h with at_ := e _ _ h.at_, cells := e _ _ h.cells }
theorem HandX.mono {H H' : Hp} {p c : Addr} {xs : List Int} {a r t : Int} (h : HandX H p c xs a r t) (e : Evl.Ex H H') : HandX H' p c xs a r t := { h with at_ := e _ _ h.at_, cells := e _ _ h.cells }
theorem wl_rd {H H' : Hp} {a : Addr} {ys : List V} (w : WL H H') (h : Rd H a (.tup ys)) : Rd H' a (.tup ys) := by
  rcases h with h | ⟨o, h⟩
  · exact .inl (w.1 _ _ h rfl)
  · exact .inr ⟨o, w.1 _ _ h rfl⟩
instance pre_wl : Pre WL where
  refl := fun H => ⟨fun _ _ h _ => h, fun p c xs a r t h => ⟨a, r, t, h⟩⟩
  trans := fun a b => ⟨fun x o h n => b.1 x o (a.1 x o h n) n, fun p c xs x r t h => let ⟨x', r', t', h'⟩ := a.2 p c xs x r t h; b.2 p c xs x' r' t' h'⟩
  ext := fun e => ⟨fun b o h _ => e b o h, fun p c xs a r t h => ⟨a, r, t, h.mono e⟩⟩
  tup := fun w h => wl_rd w h
  lst := fun w n h => by
    rcases h with (h | ⟨o, h⟩) | h
    · exact .inl (.inl (w.1 _ _ h rfl))
    · exact .inl (.inr ⟨o, w.1 _ _ h rfl⟩)
    · exact .inr h
  own := fun w n h => w.1 _ _ h rfl
  wrt := fun w h => ⟨fun b o e n => by rw [upd_ne (ne_of_none e h)]; exact w.1 b o e n, fun p c xs a r t hv => by
    obtain ⟨a', r', t', hv'⟩ := w.2 p c xs a r t hv
    exact ⟨a', r', t', { hv' with at_ := by rw [upd_ne (ne_of_none hv.at_ h)]; exact hv'.at_, cells := by rw [upd_ne (ne_of_none hv.cells h)]; exact hv'.cells }⟩⟩
def Hand : Pr := fun v H => ∃ p, v = .ref p ∧ HandAt H p
instance mn_hand : Mn WL Hand := ⟨fun v H H' w ⟨p, e, c, xs, a, r, t, h⟩ => ⟨p, e, c, xs, w.2 p c xs a r t h⟩⟩
instance mn_handE : Mn Evl.Ex Hand := ⟨fun v H H' w ⟨p, e, c, xs, a, r, t, h⟩ => ⟨p, e, c, xs, a, r, t, h.mono w⟩⟩
def isL : HO → Bool
  | .lst _ => true
  | _ => false
/-- within a draw: all stands but the list at p -/
def WD (p : Addr) (H H' : Hp) : Prop := ∀ b o, H b = some o → (b ≠ p ∨ isL o = false) → H' b = some o
instance pre_wd {p : Addr} : PreT (WD p) where
  refl := fun H b o h _ => h
  trans := fun a b c o h n => b c o (a c o h n) n
  ext := fun e b o h _ => e b o h
  tup := fun w h => by
    rcases h with h | ⟨o, h⟩
    · exact .inl (w _ _ h (.inr rfl))
    · exact .inr ⟨o, w _ _ h (.inr rfl)⟩
/-- the hand is written: nothing else -/
theorem wd_put {H : Hp} {p c : Addr} {xs : List Int} {a r t a' r' t' : Int} (h : HandV H p c xs a r t) (a0 : 0 ≤ a') (al : a' ≤ xs.length) (r0 : 0 ≤ r') (t0 : 0 ≤ t') (tl : t' < 2147483629) :
    HandV (upd H p (.lst [.ref c, .int a', .int r', .int t'])) p c xs a' r' t' ∧ WD p H (upd H p (.lst [.ref c, .int a', .int r', .int t'])) := by
  have ne : c ≠ p := ne_of h.cells h.at_ (by
    intro z
    have := HO.lst.inj z
    cases xs with
    | nil => cases this
    | cons x l => cases this)
  refine ⟨⟨upd_same, by rw [upd_ne ne]; exact h.cells, h.pos, h.len, a0, al, r0, t0, tl⟩, fun b o e n => ?_⟩
  by_cases z : b = p
  · subst z
    rw [h.at_] at e
    cases e
    rcases n with n | n
    · exact absurd rfl n
    · cases n
  · rw [upd_ne z]; exact e
/-- a whole number from lo to below hi -/
def Rng (lo hi : Int) : Pr := Some (fun i : Int => lo ≤ i ∧ i < hi) fun i => Is (.int i)
theorem big_of {n : Nat} {i : Int} (h : -(2 ^ n) < i) (k : i < 2 ^ n) : Big n i := by
  unfold Big
  have : (2 : Int) ^ n = ((2 ^ n : Nat) : Int) := by simp
  omega
theorem big_rng {n : Nat} {i m : Int} (h : 0 ≤ i ∧ i < m) (k : m ≤ 2 ^ n) : Big n i := big_of (by have : (0 : Int) < 2 ^ n := Int.pow_pos (by decide); omega) (by omega)
theorem mod_rng {i m : Int} (h : 0 < m) : 0 ≤ i % m ∧ i % m < m := ⟨Int.emod_nonneg _ (by omega), Int.emod_lt_of_pos _ h⟩
/-! ### expressions that only grow the heap, in a text that also writes -/
abbrev Rs.ex (Y : Rs) : Rs := ⟨Evl.Ex, Y.E, Y.GX, Y.X⟩
instance mnl_ints {W : HR} {l : List Int} : MnL W (l.map fun x => Is (.int x)) := ⟨fun vs H H' w h => allp_mn (fun P hP => by obtain ⟨n, _, rfl⟩ := List.mem_map.mp hP; exact mn_is) w h⟩
section
variable {Y : Rs} [w : PreT Y.W] {G : Ctx} {te : TE} {t : TT} {P : Pr} {ts tu : TS} {N : Ctx} {R : Pr} {K : PySem.W.Frag}
theorem hx_ex {H : Hp} (h : Hx Y H) : Hx Y.ex H := fun s cls d H' e ty x => h s cls d H' (w.ext e) ty x
theorem Ev.up (h : Ev Y.ex G te P) : Ev Y G te P := fun s H ty hx Q q => h s H ty (hx_ex hx) Q fun v H2 e p => q v H2 (w.ext e) p
theorem st_setE [mc : MnC Evl.Ex G] {i : Nat} (h : Ev Y.ex G te P) : St Y G (tAsg te (gName i)) (G.set i (some P)) R := fun s H D ty hx n _ =>
  h s H ty (hx_ex hx) _ fun v H2 e p => n _ H2 (w.ext e) ((mc.mn s H H2 e ty).put p)
theorem st_ifE [mc : MnC Evl.Ex G] {b : Bool} (h : EvT Y.ex G t b) (h1 : b = true → St Y G ts N R) (h2 : b = false → St Y G tu N R) : St Y G (tIfS t ts tu) N R := fun s H D ty hx n r => h s H ty (hx_ex hx) _ fun H1 e => by
  have w1 := w.ext e
  cases b with
  | true => exact h1 rfl s H1 D (mc.mn s H H1 e ty) (hx.mono w1) (fun s2 H2 w2 t2 => n s2 H2 (w.trans w1 w2) t2) fun v H2 w2 p => r v H2 (w.trans w1 w2) p
  | false => exact h2 rfl s H1 D (mc.mn s H H1 e ty) (hx.mono w1) (fun s2 H2 w2 t2 => n s2 H2 (w.trans w1 w2) t2) fun v H2 w2 p => r v H2 (w.trans w1 w2) p
end
/-! ### inside a draw -/
def HV (p c : Addr) (xs : List Int) (a r t : Int) : Pr := fun v H => v = .ref p ∧ HandV H p c xs a r t
instance mn_hv {p c : Addr} {xs : List Int} {a r t : Int} : Mn Evl.Ex (HV p c xs a r t) := ⟨fun v H H' e h => ⟨h.1, h.2.mono e⟩⟩
def Cells (c : Addr) (xs : List Int) : Pr := fun v H => v = .ref c ∧ H c = some (.lst (xs.map V.int))
instance mn_cells {c : Addr} {xs : List Int} : Mn Evl.Ex (Cells c xs) := ⟨fun v H H' e h => ⟨h.1, e _ _ h.2⟩⟩
section
variable {K : PySem.W.Frag} {p c : Addr} {xs : List Int} {a r t : Int}
theorem o_hv0 : Op2 Evl.Ex (rIx K) (HV p c xs a r t) (Is (.int 0)) (Cells c xs) := fun x y H h e Q q => .inl ⟨p, _, _, _, h.1, e, SqL.of h.2.at_, atI_nat (xs := ([.ref c, .int a, .int r, .int t] : List V)) (j := 0) rfl, q _ H (Evl.Ex.refl H) ⟨rfl, h.2.cells⟩⟩
theorem o_hv1 : Op2 Evl.Ex (rIx K) (HV p c xs a r t) (Is (.int 1)) (Is (.int a)) := fun x y H h e Q q => .inl ⟨p, _, _, _, h.1, e, SqL.of h.2.at_, atI_nat (xs := ([.ref c, .int a, .int r, .int t] : List V)) (j := 1) rfl, q _ H (Evl.Ex.refl H) rfl⟩
theorem o_hv2 : Op2 Evl.Ex (rIx K) (HV p c xs a r t) (Is (.int 2)) (Is (.int r)) := fun x y H h e Q q => .inl ⟨p, _, _, _, h.1, e, SqL.of h.2.at_, atI_nat (xs := ([.ref c, .int a, .int r, .int t] : List V)) (j := 2) rfl, q _ H (Evl.Ex.refl H) rfl⟩
theorem o_hv3 : Op2 Evl.Ex (rIx K) (HV p c xs a r t) (Is (.int 3)) (Is (.int t)) := fun x y H h e Q q => .inl ⟨p, _, _, _, h.1, e, SqL.of h.2.at_, atI_nat (xs := ([.ref c, .int a, .int r, .int t] : List V)) (j := 3) rfl, q _ H (Evl.Ex.refl H) rfl⟩
theorem o_cell {i : Int} (h0 : 0 ≤ i) (h1 : i < xs.length) : Op2 Evl.Ex (rIx K) (Cells c xs) (Is (.int i)) (Some (fun z : Int => z ∈ xs) fun z => Is (.int z)) := fun x y H h e Q q => by
  have hi : i.toNat < xs.length := by omega
  have e2 : (i.toNat : Int) = i := by omega
  have g : (xs.map V.int)[i.toNat]? = some (.int xs[i.toNat]) := by simp [hi]
  have at2 := atI_nat (xs := xs.map V.int) (j := i.toNat) g
  rw [e2] at at2
  exact .inl ⟨c, _, i, _, h.1, e, SqL.of h.2, at2, q _ H (Evl.Ex.refl H) ⟨xs[i.toNat], List.getElem_mem _, rfl⟩⟩
theorem o_cellsLen : OpA Evl.Ex (rLenA K) [Cells c xs] (Is (.int (xs.length : Int))) := fun vs H al Q q => by
  obtain ⟨x, ev, e, h⟩ := allp1 al
  have z := q (.int (xs.length : Int)) H (Evl.Ex.refl H) rfl
  have l : (xs.map V.int).length = xs.length := List.length_map _
  rw [← l] at z
  rw [ev, e]
  exact rlen_t (Or.inl ⟨_, SqL.of h, rfl⟩) Q z
theorem opA_intR {lo hi : Int} {W : HR} [w : PreT W] : OpA W (fun xs H Q => (∃ i, xs = [.int i] ∧ Q (.int i) H) ∨ ∃ k, xs = [.bl k] ∧ Q (.int (if k then 1 else 0)) H) [Rng lo hi] (Rng lo hi) := fun vs H a Q q => by
  obtain ⟨x, ev, i, hi, e⟩ := allp1 a
  cases e
  exact .inl ⟨i, ev, q _ H (w.refl H) ⟨i, hi, rfl⟩⟩
theorem o_modR {lo hi m : Int} {W : HR} [w : PreT W] (h : 0 < m) : Op2 W (rI (fun _ j => 0 < j) fun i j => .int (i % j)) (Rng lo hi) (Is (.int m)) (Rng 0 m) := fun x y H ⟨i, hi, e⟩ e2 Q q => by
  cases e; cases e2
  exact ⟨i, m, rfl, rfl, h, q _ H (w.refl H) ⟨_, mod_rng h, rfl⟩⟩
instance mn_rng {lo hi : Int} {W : HR} : Mn W (Rng lo hi) := mn_some
/-- hand[k] = e -/
theorem st_hset {Y : Rs} {G : Ctx} {te : TE} {k z a' r' t' : Int} {R : Pr} (hW : Y.W = WD p) [mc : MnC Evl.Ex G] [mt : MnC (fun _ _ => True) G] (h : Ev Y.ex (some (HV p c xs a r t) :: G) te (Is (.int z))) {j : Nat} (hk : k = (j : Int)) (hs : ([.ref c, .int a, .int r, .int t] : List V).set j (.int z) = [.ref c, .int a', .int r', .int t']) (hj : j < 4)
    (a0 : 0 ≤ a') (al : a' ≤ xs.length) (r0 : 0 ≤ r') (t0 : 0 ≤ t') (tl : t' < 2147483629) : St Y (some (HV p c xs a r t) :: G) (tAsg te (gSub (tVar 0) (tC (.int k)) rSetL)) (some (HV p c xs a' r' t') :: G) R := fun s H D ty hx n _ => by
  obtain ⟨W, E, GX, X⟩ := Y
  have hW' : W = WD p := hW
  subst hW'
  refine h s H ty (hx_ex hx) _ fun v H2 e p2 => ?_
  cases p2
  have ty2 := (mnc_some (P := HV p c xs a r t) (G := G) (W := Evl.Ex)).mn s H H2 e ty
  cases s with
  | nil => exact ty2.elim
  | cons x s =>
    obtain ⟨⟨v, ex, ev, hv⟩, tr⟩ := ty2
    subst ex
    obtain ⟨p1, p2⟩ := wd_put hv a0 al r0 t0 tl
    refine ⟨v, rfl, ?_⟩
    refine ⟨p, _, k, j, ev, rfl, hv.at_, by rw [hk]; exact Evl.ixN_nat hj, ?_⟩
    rw [hs]
    refine n _ _ (PreT.trans (PreT.ext e) p2) ⟨⟨v, rfl, ev, p1⟩, mt.mn s _ _ True.intro tr⟩
end
/-- a new hand as it is laid -/
def HandN (H0 : Hp) : Pr := fun v H => ∃ p, v = .ref p ∧ H0 p = none ∧ ∃ c xs a r t, HandV H p c xs a r t
theorem ev_hand {Y : Rs} [w : Pre Y.W] {H0 : Hp} {G : Ctx} (hg : ∀ s H, Ty G s H → Evl.Ex H0 H) (hW : ∀ a b, Y.W a b → Evl.Ex a b) {tr : TA} {xs : List Int} (h0 : ∀ x ∈ xs, 0 ≤ x) (hl : xs.length ≤ 63) {lo hi : Int} (l0 : 0 ≤ lo) (h1 : hi ≤ 2147483629) (ha : EvA Y G tr [New (xs.map fun x => Is (.int x)), Is (.int 0), Is (.int 0), Rng lo hi]) : Ev Y G (tLst tr) (HandN H0) := fun s H ty hx Q q =>
  ha s H ty hx _ fun vs H1 w1 p1 => by
    obtain ⟨v0, v1, v2, v3, rfl⟩ : ∃ a b c d, vs = [a, b, c, d] := by
      have l := allp_len p1
      match vs, l with
      | [a, b, c, d], _ => exact ⟨a, b, c, d, rfl⟩
    obtain ⟨⟨c, ys, e0, hc, hp⟩, e1, e2, ⟨t, ht, e3⟩, _⟩ := p1
    have ey : ys = xs.map V.int := by
      clear hc h0 hl ha
      induction xs generalizing ys with
      | nil =>
        cases ys with
        | nil => rfl
        | cons _ _ => exact hp.elim
      | cons x xs ih =>
        cases ys with
        | nil => exact hp.elim
        | cons y ys => rw [List.map_cons, ← ih ys hp.2, show y = V.int x from hp.1]
    subst ey
    cases e0; cases e1; cases e2; cases e3
    refine ⟨by show 4 ≤ sizeLine; decide, fun p hp0 => ?_⟩
    have w2 : Y.W H1 (upd H1 p (.lst [.ref c, .int 0, .int 0, .int t])) := w.ext (Evl.Ex.new hp0)
    have n0 : H0 p = none := by
      cases e : H0 p with
      | none => rfl
      | some o =>
        have := hW _ _ w1 _ _ (hg s H ty _ _ e)
        rw [hp0] at this
        cases this
    refine q _ _ (w.trans w1 w2) ⟨p, rfl, n0, c, xs, 0, 0, t, upd_same, ?_, h0, hl, Int.le_refl _, by omega, Int.le_refl _, by omega, by omega⟩
    rw [upd_ne (ne_of_none hc hp0)]
    exact hc
/-- a hand, its numbers not told -/
def HVs (p c : Addr) (xs : List Int) : Pr := fun v H => ∃ a r t, HV p c xs a r t v H
theorem st_openHV {Y : Rs} {G : Ctx} {ts : TS} {N : Ctx} {R : Pr} {p c : Addr} {xs : List Int} (k : ∀ a r t, 0 ≤ a → a ≤ (xs.length : Int) → xs.length ≤ 63 → (∀ x ∈ xs, 0 ≤ x) → 0 ≤ r → 0 ≤ t → t < 2147483629 → St Y (some (HV p c xs a r t) :: G) ts N R) : St Y (some (HVs p c xs) :: G) ts N R := fun s H D ty hx n r => by
  cases s with
  | nil => exact ty.elim
  | cons x s =>
    obtain ⟨⟨v, e, a, rr, t, ev, hv⟩, tr⟩ := ty
    exact k a rr t hv.a0 hv.al hv.len hv.pos hv.r0 hv.t0 hv.tl (x :: s) H D ⟨⟨v, e, ev, hv⟩, tr⟩ hx n r
theorem hv_hvs {p c : Addr} {xs : List Int} {a r t : Int} : ∀ v H, HV p c xs a r t v H → HVs p c xs v H := fun v H h => ⟨a, r, t, h⟩
/-- return e, the hand at hand -/
theorem st_retHV {Y : Rs} {G N : Ctx} {te : TE} {P : Pr} {p c : Addr} {xs : List Int} {a r t : Int} [mc : MnC Evl.Ex G] [w : PreT Y.W] (h : Ev Y.ex (some (HV p c xs a r t) :: G) te P) : St Y (some (HV p c xs a r t) :: G) (tRet te) N (fun v H => P v H ∧ ∃ a r t, HandV H p c xs a r t) := fun s H D ty hx _ rt =>
  h s H ty (hx_ex hx) _ fun v H2 e pv => rt v H2 (w.ext e) ⟨pv, by
    have ty2 := (mnc_some (P := HV p c xs a r t) (G := G) (W := Evl.Ex)).mn s H H2 e ty
    cases s with
    | nil => exact ty2.elim
    | cons x s =>
      obtain ⟨⟨_, _, _, hv⟩, _⟩ := ty2
      exact ⟨a, r, t, hv⟩⟩
/-! ### a hand seen from outside -/
section
variable {P : Program} {w : World} {K : PySem.W.Frag} {mg : Str → Option Value} {base : Heap} {k : Nat} {f : Addr} {fd : FuncData} {ps : List Str}
theorem hphi_stay {p : Addr} {xs : List V} : ∀ h1 h2 : Heap, hphi p xs h1 → (∀ o, h1.get? p = some o → h2.get? p = some o) → hphi p xs h2 := fun h1 h2 ⟨its, n, r, e⟩ k => ⟨its, n, r, k _ e⟩
theorem ok_asL {H : Hp} {h : Heap} {p : Addr} {xs : List V} (hl : xs.length ≤ sizeLine) (x : HOk P w H h) (e : H p = some (.ext (hphi p xs))) : HOk P w (upd H p (.lst xs)) h := by
  obtain ⟨⟨its, n, r, g⟩, _, _⟩ := x p _ e
  exact HOk.write x (by rw [e]; exact True.intro) (.inl rfl) (fun _ _ _ z => z) ⟨_, g⟩ ⟨hl, its, n, r, g⟩
theorem ok_asX {H : Hp} {h : Heap} {p : Addr} {xs : List V} (x : HOk P w H h) (e : H p = some (.lst xs)) : HOk P w (upd H p (.ext (hphi p xs))) h := by
  obtain ⟨_, its, n, r, g⟩ := x p _ e
  exact HOk.write x (by rw [e]; exact True.intro) (.inl rfl) (fun _ _ _ z => z) ⟨_, g⟩ ⟨⟨its, n, r, g⟩, ⟨_, g⟩, hphi_stay⟩
theorem un_as {fs ex : List Addr} {H : Hp} {h : Heap} {p : Addr} {o o' : HO} (x : HOk P w H h) (e : H p = some o) (m : Mut (some o)) (hl : isL o = true ∨ isX o = true) : Un fs ex H (upd H p o') h h :=
  Un.write (e := p) (by rw [e]; exact m) (.inl rfl) (fun _ _ _ z => z) (by
    have l := x p _ e
    cases o with
    | lst xs => obtain ⟨_, _, _, _, g⟩ := l; exact ⟨_, g⟩
    | ext φ => obtain ⟨_, g, _⟩ := l; exact g
    | _ => exact (hl.elim (fun z => by cases z) fun z => by cases z))
/-- what a draw does, from within -/
def sp_draw1 : Sp := fun vs H Q _ => ∃ (m : Int) (p c : Addr) (xs : List Int) (a r t : Int), 0 < m ∧ Big 300 m ∧ vs = [.ref p, .int m] ∧ HandV H p c xs a r t ∧ ∀ v H', WD p H H' → (Rng 0 m v H' ∧ ∃ a r t, HandV H' p c xs a r t) → Q v H'
/-- a draw below many -/
def sp_draw : Sp := SpW WL (fun m : Int => 0 < m ∧ Big 300 m) fun m => ⟨[Hand, Is (.int m)], Rng 0 m, NoX⟩
theorem draw_ext (F : FnOk P w K mg base (L2N.CX P w) k f fd ps sp_draw1) : FnOk P w K mg base (L2N.CX P w) k f fd ps sp_draw := by
  have key : ∀ vs H Q E, sp_draw vs H Q E → ∃ (m : Int) (p c : Addr) (xs : List Int) (a r t : Int), 0 < m ∧ Big 300 m ∧ vs = [.ref p, .int m] ∧ HandX H p c xs a r t ∧ ∀ v H', WL H H' → Rng 0 m v H' → Q v H' := by
    rintro vs H Q E ⟨m, ⟨h1, h2⟩, al, q, _⟩
    obtain ⟨v0, v1, rfl⟩ : ∃ a b, vs = [a, b] := by
      have l := allp_len al
      match vs, l with
      | [a, b], _ => exact ⟨a, b, rfl⟩
    obtain ⟨⟨p, e, c, xs, a, r, t, h⟩, e2, _⟩ := al
    cases e; cases e2
    exact ⟨m, p, c, xs, a, r, t, h1, h2, rfl, h, q⟩
  refine ⟨fun vs H Q E h => ?_, fun A outer s H args us vs Q E hr he hb hv hs => ?_⟩
  · obtain ⟨m, p, c, xs, a, r, t, h1, h2, e, hx, q⟩ := key vs H Q E h
    refine F.len vs (upd H p (.lst [.ref c, .int a, .int r, .int t])) (fun _ _ => True) E ⟨m, p, c, xs, a, r, t, h1, h2, e, ⟨upd_same, ?_, hx.pos, hx.len, hx.a0, hx.al, hx.r0, hx.t0, hx.tl⟩, fun _ _ _ _ => True.intro⟩
    rw [upd_ne (ne_of hx.cells hx.at_ (fun z => by cases z))]
    exact hx.cells
  · obtain ⟨m, p, c, xs, a, r, t, h1, h2, e, hx, q⟩ := key vs H Q E hs
    have ncp : c ≠ p := ne_of hx.cells hx.at_ (fun z => by cases z)
    have hok1 := ok_asL (by show 4 ≤ sizeLine; decide) he.hok hx.at_
    have e0 : Env0 P w K mg base A outer s (upd H p (.lst [.ref c, .int a, .int r, .int t])) := ⟨he.frames, he.mod, fun b o z => by
      obtain ⟨z1, z2⟩ := he.bs b o z
      refine ⟨z1, ?_⟩
      rw [upd_ne (fun y => by rw [y, hx.at_] at z2; cases z2)]
      exact z2, he.bsz, he.funs, fun b z => by
      have z2 := he.frf b z
      rw [upd_ne (fun y => by rw [y, hx.at_] at z2; cases z2)]
      exact z2, hok1, he.bare⟩
    refine codeAny_mono (F.run A outer s _ args us vs (fun v H' => ∃ H0, WD p (upd H p (.lst [.ref c, .int a, .int r, .int t])) H' ∧ (Rng 0 m v H' ∧ ∃ a r t, HandV H' p c xs a r t) ∧ H0 = H) (fun _ _ _ => False) hr e0 hb hv
      ⟨m, p, c, xs, a, r, t, h1, h2, e, ⟨upd_same, by rw [upd_ne ncp]; exact hx.cells, hx.pos, hx.len, hx.a0, hx.al, hx.r0, hx.t0, hx.tl⟩, fun v H' wd rr => ⟨H, wd, rr, rfl⟩⟩) fun res s' hq => ?_
    cases res with
    | error u =>
      obtain ⟨_, _, _, _, _, _, _, _, _, _, _, _, z⟩ := hq
      exact z.elim
    | ok fl =>
      cases fl with
      | ret u =>
        obtain ⟨v, H', q1, q2, un, hok, rv, _, wd, ⟨rg, a', r', t', hv'⟩, _⟩ := hq
        refine ⟨v, upd H' p (.ext (hphi p [.ref c, .int a', .int r', .int t'])), q1, q2, ?_, ok_asX hok hv'.at_, rv, ?_⟩
        · exact (un_as (o' := .lst [.ref c, .int a, .int r, .int t]) he.hok hx.at_ True.intro (.inr rfl)).trans (un.trans (un_as hok hv'.at_ True.intro (.inl rfl)))
        · refine q _ _ ⟨fun b o z n => ?_, fun p2 c2 xs2 a2 r2 t2 h2 => ?_⟩ ?_
          · by_cases y : b = p
            · subst y
              rw [hx.at_] at z
              cases z
              cases n
            · rw [upd_ne y]
              exact wd b o (by rw [upd_ne y]; exact z) (.inl y)
          · by_cases y : p2 = p
            · subst y
              have e1 := hx.at_.symm.trans h2.at_
              have e2 : hphi p2 [.ref c, .int a, .int r, .int t] = hphi p2 [.ref c2, .int a2, .int r2, .int t2] := HO.ext.inj (Option.some.inj e1)
              -- the same object holds both
              obtain ⟨⟨its, n, rr, g⟩, _, _⟩ := he.hok p2 _ hx.at_
              have g2 : hphi p2 [.ref c2, .int a2, .int r2, .int t2] s.heap := by rw [← e2]; exact ⟨its, n, rr, g⟩
              obtain ⟨its2, n2, rr2, g3⟩ := g2
              have ec : c = c2 := by
                have e3 := g.symm.trans g3
                have e4 : its.toArray = its2.toArray := by
                  have := Option.some.inj e3
                  injection this with _ _ d _
                  injection d
                have e5 : its = its2 := by simpa using e4
                subst e5
                cases rr with
                | cons x1 _ =>
                  cases rr2 with
                  | cons x2 _ =>
                    have := (show _ = Value.ref c from x1).symm.trans (show _ = Value.ref c2 from x2)
                    injection this
              subst ec
              have ex : xs = xs2 := by
                have := HO.lst.inj (Option.some.inj (hx.cells.symm.trans h2.cells))
                exact (List.map_inj_right (fun x y z => V.int.inj z)).mp this
              subst ex
              exact ⟨a', r', t', upd_same, by rw [upd_ne ncp]; exact hv'.cells, hx.pos, hx.len, hv'.a0, hv'.al, hv'.r0, hv'.t0, hv'.tl⟩
            · have nc2 : c2 ≠ p := ne_of h2.cells hx.at_ (fun z => by cases z)
              refine ⟨a2, r2, t2, ?_, ?_, h2.pos, h2.len, h2.a0, h2.al, h2.r0, h2.t0, h2.tl⟩
              · rw [upd_ne y]; exact wd _ _ (by rw [upd_ne y]; exact h2.at_) (.inl y)
              · rw [upd_ne nc2]; exact wd _ _ (by rw [upd_ne nc2]; exact h2.cells) (.inl nc2)
          · obtain ⟨i, hi, ei⟩ := rg
            exact ⟨i, hi, ei⟩
      | next => exact False.elim hq
      | brk => exact False.elim hq
      | cont => exact False.elim hq
/-- what the hand's maker does, from within -/
def sp_hand1 (K : PySem.W.Frag) : Sp := fun vs H Q _ => ∃ ns : List Int, ns.length ≤ 63 ∧ AllP [Lst K (ns.map fun n => Is (.int n))] vs H ∧ ∀ v H', Evl.Ex H H' → HandN H v H' → Q v H'
def sp_hand (K : PySem.W.Frag) : Sp := SpW Evl.Ex (fun ns : List Int => ns.length ≤ 63) fun ns => ⟨[Lst K (ns.map fun n => Is (.int n))], Hand, NoX⟩
theorem hand_ext (F : FnOk P w K mg base (L2N.CX P w) k f fd ps (sp_hand1 K)) : FnOk P w K mg base (L2N.CX P w) k f fd ps (sp_hand K) := by
  refine ⟨fun vs H Q E h => ?_, fun A outer s H args us vs Q E hr he hb hv hs => ?_⟩
  · obtain ⟨ns, h1, al, q, _⟩ := h
    exact F.len vs H (fun _ _ => True) E ⟨ns, h1, al, fun _ _ _ _ => True.intro⟩
  · obtain ⟨ns, h1, al, q, _⟩ := hs
    refine codeAny_mono (F.run A outer s H args us vs (fun v H' => Evl.Ex H H' ∧ HandN H v H') (fun _ _ _ => False) hr he hb hv ⟨ns, h1, al, fun v H' a b => ⟨a, b⟩⟩) fun res s' hq => ?_
    cases res with
    | error u =>
      obtain ⟨_, _, _, _, _, _, _, _, _, _, _, _, z⟩ := hq
      exact z.elim
    | ok fl =>
      cases fl with
      | ret u =>
        obtain ⟨v, H', q1, q2, un, hok, rv, ex, p, ev, np, c, xs, a, r, t, hv'⟩ := hq
        have ncp : c ≠ p := ne_of hv'.cells hv'.at_ (by
          intro z
          have := HO.lst.inj z
          cases xs with
          | nil => cases this
          | cons x l => cases this)
        refine ⟨v, upd H' p (.ext (hphi p [.ref c, .int a, .int r, .int t])), q1, q2, un.trans (un_as hok hv'.at_ True.intro (.inl rfl)), ok_asX hok hv'.at_, rv, q _ _ (fun b o z => ?_) ?_⟩
        · rw [upd_ne (fun y => by rw [y, np] at z; cases z)]
          exact ex b o z
        · exact ⟨p, ev, c, xs, a, r, t, upd_same, by rw [upd_ne ncp]; exact hv'.cells, hv'.pos, hv'.len, hv'.a0, hv'.al, hv'.r0, hv'.t0, hv'.tl⟩
      | next => exact False.elim hq
      | brk => exact False.elim hq
      | cont => exact False.elim hq
end
theorem o_pow {i j : Int} {W : HR} [w : PreT W] (h : CPow i j) : Op2 W (rI CPow fun i j => .int (i ^ j.toNat)) (Is (.int i)) (Is (.int j)) (Is (.int (i ^ j.toNat))) := op2_I h
end U

/-! ## tries, tests whose end is not known, told ratios compared -/
namespace U
open PySem PySem.Spec PyProof.Rows L2
theorem takesF {X : Cx} : L2N.Takes X (fun _ _ _ _ => False) := fun _ _ x => by
  obtain ⟨_, _, _, _, _, _, _, _, _, _, _, _, _, _, _, _, _, z⟩ := x
/-- a suite for just one class -/
def tWhen (p : Prop) (t : TS) : TS := fun D σ H => p ∧ t D σ H
theorem pss_when {X : Cx} {b : List Stmt} {p q : Prop} {t : TS} (k : p → q → PSs X b t) : PSs X b (tWhen (p ∧ q) t) := ⟨fun pins s σ H D I h => by
  obtain ⟨⟨z1, z2⟩, h⟩ := h
  exact (k z1 z2).run pins s σ H D I h⟩
theorem call_isE2 {X : Cx} {a C : Addr} {oe : Obj} {cls : Value} {d : Option Addr} {pn : List (Addr × Obj)} (E : ExcC X.K C) (z1 : cls = .ref C) (z2 : d = none) (hz : L2N.Zn cls d oe) (hf : ∃ vs, oe.data = .fields vs) : CallR (X.suite a ((a, oe) :: pn)) (.builtin "isinstance") (rIsE X.K C a) := by
  subst z1 z2
  exact call_isE E hz.zc hf
section
variable {Y : Rs} [w : PreT Y.W] {G : Ctx} {ta tb te : TE} {t u : TT} {P P1 P2 P3 P4 P' : Pr} {r : R2} {K : PySem.W.Frag} {ts tu : TS} {N M : Ctx} {R : Pr}
theorem st_try {G' M' : Ctx} {X' : XP} {i : Nat} {c : Value} {tb : WX → TS} {ts : Addr → Value → Option Addr → TS} {Wout : WX} [mg : MnC Y.W G'] (body : ∀ W : WX, St ⟨Y.W, WE W, G', X'⟩ G (tb W) N R)
    (hd : ∀ cls d H, X' cls d H → PySem.W.exmOne K cls c = some true ∧ ∀ a, St Y (G'.set i (some (Is (.ref a)))) (ts a cls d) M' R) (hm : ∀ s H, Ty M' s H → Ty N (s.set i none) H) : St Y G (fun D σ H => tb (wAs K c i ts Wout D) D σ H) N R := fun s H D ty hx n r =>
  body (wAs K c i ts Wout D) s H D ty (fun s' cls d H' w1 ty' x => by
    obtain ⟨e, k⟩ := hd cls d H' x
    exact ⟨true, e, fun _ a _ => k a _ H' _ (ty'.put (P := Is (.ref a)) rfl) (hx.mono w1) (fun s2 H2 w2 t2 => n _ H2 (w.trans w1 w2) (hm s2 H2 t2)) (fun v H2 w2 p => r v H2 (w.trans w1 w2) p), fun z => nomatch z⟩) n r
theorem ei_isE {D a : Addr} {cv : Value} {c : V} {b : Bool} (k : PySem.W.kitOne K (.ref D) cv = some b) (e : ∀ u, RelV c u → u = cv) : OpA Y.W (rIsE K D a) [Is (.ref a), Is c] (Is (.bl b)) := fun vs H al Q q => by
  match vs, al with
  | [x, y], ⟨e1, e2, _⟩ =>
    cases e1
    cases e2
    exact ⟨c, cv, b, rfl, e, k, q _ H (w.refl H) rfl⟩
/-! ### tests, either way -/
def EvU (Y : Rs) (G : Ctx) (tt : TT) : Prop := ∀ s H, Ty G s H → Hx Y H → ∀ Q : Bool → Hp → Prop, (∀ b H2, Y.W H H2 → Q b H2) → tt s H Q
def Boo : Pr := Some (fun _ : Bool => True) fun b => Is (.bl b)
omit w in
theorem eu_test (h : Ev Y G te Boo) : EvU Y G (tTest te) := fun s H ty hx Q q => h s H ty hx _ fun v H2 w ⟨b, _, e⟩ => ⟨b, e, q b H2 w⟩
theorem st_ifU [mc : MnC Y.W G] (h : EvU Y G t) (h1 : St Y G ts N R) (h2 : St Y G tu N R) : St Y G (tIfS t ts tu) N R := fun s H D ty hx n r => h s H ty hx _ fun b H1 w1 => by
  cases b with
  | true => exact h1 s H1 D (mc.mn s H H1 w1 ty) (hx.mono w1) (fun s2 H2 w2 t2 => n s2 H2 (w.trans w1 w2) t2) fun v H2 w2 p => r v H2 (w.trans w1 w2) p
  | false => exact h2 s H1 D (mc.mn s H H1 w1 ty) (hx.mono w1) (fun s2 H2 w2 t2 => n s2 H2 (w.trans w1 w2) t2) fun v H2 w2 p => r v H2 (w.trans w1 w2) p
theorem ev_ifU [mc : MnC Y.W G] (h : EvU Y G t) (h1 : Ev Y G ta P) (h2 : Ev Y G tb P) : Ev Y G (tIf t ta tb) P := fun s H ty hx Q q => h s H ty hx _ fun b H1 w1 => by
  cases b with
  | true => exact h1 s H1 (mc.mn s H H1 w1 ty) (hx.mono w1) Q fun v2 H2 w2 e2 => q v2 H2 (w.trans w1 w2) e2
  | false => exact h2 s H1 (mc.mn s H H1 w1 ty) (hx.mono w1) Q fun v2 H2 w2 e2 => q v2 H2 (w.trans w1 w2) e2
/-- a, b, c, d = a tuple of four -/
theorem st_un4 [mc : MnC Y.W G] {i j k l : Nat} (h : Ev Y G te (Tup K [P1, P2, P3, P4])) :
    St Y G (tAsg te (gTup K 4 (gCons (gName i) (gCons (gName j) (gCons (gName k) (gCons (gName l) gNil)))))) ((((G.set i (some P1)).set j (some P2)).set k (some P3)).set l (some P4)) R := fun s H D ty hx n _ =>
  h s H ty hx _ fun v H2 w2 ⟨p, xs, e, hs, hp⟩ => by
    obtain ⟨a, b, c, d, rfl⟩ : ∃ a b c d, xs = [a, b, c, d] := by
      have l := allp_len hp
      match xs, l with
      | [a, b, c, d], _ => exact ⟨a, b, c, d, rfl⟩
    exact ⟨p, [a, b, c, d], e, .inl hs, rfl, a, [b, c, d], rfl, b, [c, d], rfl, c, [d], rfl, d, [], rfl, rfl, n _ H2 w2 (((((mc.mn s H H2 w2 ty).put hp.1).put hp.2.1).put hp.2.2.1).put hp.2.2.2.1)⟩
end
section
variable {W : HR} [w : PreT W] {K : PySem.W.Frag}
theorem dp_told {q : Rat} {v : V} {H : Hp} (h : Told K q v H) : Dp K H v (.tuple [.int q.num, .int q.den]) := by
  obtain ⟨p, rfl, hs⟩ := isR_told h
  exact .tup hs (.cons (.int _) (.cons (.int _) .nil))
theorem eqv_told {q r : Rat} : PyData.eqv (.tuple [.int q.num, .int q.den]) (.tuple [.int r.num, .int r.den]) = decide (q = r) := by
  by_cases h : q = r
  · subst h; simp [PyData.eqv, PyData.eqvAll]
  · have : ¬ (q.num = r.num ∧ q.den = r.den) := fun z => h (Rat.ext z.1 z.2)
    simp [PyData.eqv, PyData.eqvAll, h]
    omega
theorem shaped_told {q : Rat} : SeqAt.shaped (.tuple [.int q.num, .int q.den]) = true := rfl
theorem o_eqTold {q r : Rat} : Op2 W (rEqA K) (Told K q) (Told K r) (Is (.bl (decide (q = r)))) := op2_r fun x y H a b Q q' =>
  ⟨_, _, dp_told a, dp_told b, shaped_told, shaped_told, by rw [eqv_told]; exact q' _ H (w.refl H) rfl⟩
theorem o_neTold {q r : Rat} : Op2 W (rNeA K) (Told K q) (Told K r) (Is (.bl (!decide (q = r)))) := op2_r fun x y H a b Q q' =>
  ⟨_, _, dp_told a, dp_told b, shaped_told, shaped_told, by rw [eqv_told]; exact q' _ H (w.refl H) rfl⟩
theorem den_big {n : Nat} {a b : Int} (hb : b ≠ 0) (k : Big n b) : Big n ((Rat.divInt a b).den : Int) := by
  unfold Big at *
  rw [Rat.den_divInt, if_neg hb, Int.natAbs_natCast]
  exact Nat.lt_of_le_of_lt (Nat.div_le_self _ _) k
end
end U

/-! ## what the top has written -/
namespace U
open PySem PySem.Spec PyProof.Rows L2
/-- a def of the top -/
def HasFn (K : PySem.W.Frag) (x : Str) (st : Stmt) : Prop := ∃ f fd, PySem.W.nsIn K mainGlobals x = some (some (.ref f)) ∧ Fun K x x st f fd
theorem has_fn {K : PySem.W.Frag} {x : Str} {st : Stmt} {f : Addr} {oc : Value} {od an : Option Addr} {osl : Array (Option Value)} {kV doc pm cdv ct : Value} (a : PySem.W.nsIn K mainGlobals x = some (some (.ref f)))
    (l : K.lookup f = some ⟨oc, od, .func (PySem.W.fnOf x x (defArgs st) (defBody st) (defScope st) .none kV doc pm an cdv ct), osl⟩) (c : PySem.W.codeIn K cdv x = true) (k : PySem.W.keepIn K (.ref f) = true) : HasFn K x st := ⟨f, _, a, fun_mk l c k⟩
theorem has_df {P : Program} {w : World} {K : PySem.W.Frag} {mg : Str → Option Value} {base h : Heap} {x : Str} {st : Stmt} {k : Nat} {ps : List Str} {sp : Sp} (F : HasFn K x st) (X : K.In h) (G : h.Ns mainGlobals mg) (ok : ∀ f fd, Fun K x x st f fd → FnOk P w K mg base (L2N.CX P w) k f fd ps sp)
    (b : ∀ (kV doc pm : Value) (an : Option Addr) (cdv ct : Value) (us : List Value), us.length = ps.length → bindArgs (PySem.W.fnOf x x (defArgs st) (defBody st) (defScope st) .none kV doc pm an cdv ct) ⟨us, []⟩ = pure (ps.zip us)) : Df P w K mg base k x ps sp := by
  obtain ⟨f, fd, a, F⟩ := F
  exact df_of (ok f fd F) F (PySem.W.mg_of X G a) (F.binds b)
/-! ### classes of errors -/
theorem kit_own {K : PySem.W.Frag} {D C : Addr} (hc : PySem.W.isClsIn K C = true) (ht : PySem.W.typeIn K (.ref C) = some (.type "type")) (h : PySem.W.subIn K (.ref D) (.ref C) = some true) : PySem.W.kitOne K (.ref D) (.ref C) = some true := by
  unfold PySem.W.kitOne
  split
  · rfl
  · have e : ((PySem.W.clsIn K C).isSome && PySem.W.typeIn K (.ref C) == some (.type "type")) = true := by
      have hc' : (PySem.W.clsIn K C).isSome = true := hc
      rw [hc', ht] <;> rfl
    show (if ((PySem.W.clsIn K C).isSome && PySem.W.typeIn K (.ref C) == some (.type "type")) = true then PySem.W.subIn K (.ref D) (.ref C) else none) = some true
    rw [if_pos e]
    exact h
theorem kit_bt {K : PySem.W.Frag} {D : Addr} {T : String} {b : Bool} (hm : PySem.W.kitMeta T = true) (h : PySem.W.subIn K (.ref D) (.type T) = some b) : PySem.W.kitOne K (.ref D) (.type T) = some b := by
  show (if PySem.W.kitMeta T = true then PySem.W.subIn K (.ref D) (.type T) else none) = some b
  rw [if_pos hm]
  exact h
/-- what k_is says of an own error -/
structure ErK (K : PySem.W.Frag) (x : Str) (C : Addr) : Prop where
  gC : PySem.W.nsIn K mainGlobals x = some (some (.ref C))
  kC : PySem.W.keepIn K (.ref C) = true
  exC : PySem.W.subIn K (.ref C) (.type "BaseException") = some true
  tyC : PySem.W.typeIn K (.ref C) = some (.type "type")
  hdC : PySem.W.hasDictIn K C = true
  me : PySem.W.subIn K (.ref C) (.ref C) = some true
  hg : PySem.W.findIn K (.ref C) "__getattribute__" = some (some (.builtin "BaseException.__getattribute__"))
  hk : PySem.W.findIn K (.ref C) "__getattr__" = some none
  ha : PySem.W.findIn K (.ref C) "__class__" = some (some (.builtin "object.__class__"))
  hn : PySem.W.specialIn K (.builtin "object.__class__") "__get__" = some (some (.builtin "getset_descriptor.__get__"))
  ht : PySem.W.takesIn K (.builtin "object.__class__") = some true
  hm : PySem.W.mroIn K C (.type "object") = some true
theorem ErK.exC' {K : PySem.W.Frag} {x : Str} {C : Addr} (E : ErK K x C) : ExcC K C := ⟨E.hg, E.hk, E.exC, E.hdC, E.ha, E.hn, E.ht, E.hm⟩
theorem ErK.exm {K : PySem.W.Frag} {x : Str} {C : Addr} (E : ErK K x C) : PySem.W.exmOne K (.ref C) (.ref C) = some true := PySem.W.exm_ref E.exC E.hdC E.tyC E.me
/-- the __init__ of an own error, as the top made it -/
abbrev supFn (q : Str) (st : Stmt) (cc : Addr) (kV doc pm : Value) (an : Option Addr) (cda : Addr) (ct : Value) : FuncData :=
  { PySem.W.fnOf "__init__" q (defArgs st) (defBody st) (defScope st) .none kV doc pm an (.ref cda) ct with closure := [(("__class__" : Str), cc)] }
/-- what k_is says of it -/
structure ErF (P : Program) (K : PySem.W.Frag) (C : Addr) (q : Str) (st : Stmt) (cc cda fI : Addr) (fd : FuncData) : Prop where
  cls : ∃ nm qn N bs bm sn sub ab col dd k0 k1 k2 k3 k5, K.lookup C = some (excClassObj nm qn C N bs bm true sn sub ab col dd k0 k1 k2 k3 k5 "ValueError.__new__") ∧ PySem.HandSPX.refsVE bm = true
  sa : PySem.W.findIn K (.ref C) "__setattr__" = some (some (.builtin "object.__setattr__"))
  iC : PySem.W.findIn K (.ref C) "__init__" = some (some (.ref fI))
  tC : PySem.W.typeIn K (.ref fI) = some (.type "function")
  fn : ∃ oc od osl, K.lookup fI = some ⟨oc, od, .func fd, osl⟩
  hcd : PySem.W.codeIn K (.ref cda) q = true
  cell : ∃ cl cld csl, K.lookup cc = some ⟨cl, cld, .cell (some (.ref C)), csl⟩
  code : ∃ ccl cdd vs ccs file tf, K.lookup cda = some ⟨ccl, cdd, .fields vs, ccs⟩ ∧ vs[2]? = some (.str file tf) ∧ ((P.main.file : Str) == file) = true
  third : PySem.W.nsIn K PySem.cStatics "thirdparty.any" = some none
  hm : PySem.W.ks_superIn K C C "__init__" = some (some (.builtin "ValueError.__init__"))
  hB : PySem.W.subIn K (.ref C) (.type "ValueError") = some true
  hsub : PySem.W.mroIn K C (.ref C) = some true
  top : (P.main.scope.names.lookup ("super" : Str)).isSome = false
theorem ErF.sup {P : Program} {K : PySem.W.Frag} {C : Addr} {q : Str} {st : Stmt} {cc cda fI : Addr} {kV doc pm ct : Value} {an : Option Addr} (E : ErF P K C q st cc cda fI (supFn q st cc kV doc pm an cda ct)) : PySem.USup.SupCls P K C fI cc cda (supFn q st cc kV doc pm an cda ct) :=
  { cls := E.cls, sa := E.sa, iC := E.iC, tC := E.tC, fn := E.fn, clo := rfl, gl := rfl, bl := rfl, cdv := rfl, hcd := E.hcd, cell := E.cell, code := E.code, third := E.third, hm := E.hm, hB := E.hB, hsub := E.hsub, top := E.top }
theorem er_of {P : Program} {w : World} {K : PySem.W.Frag} {mg : Str → Option Value} {h : Heap} {x : Str} {C : Addr} {q : Str} {st : Stmt} {cc cda fI : Addr} {kV doc pm ct : Value} {an : Option Addr} {ps : List Str} {fs : List (Str × Str)} {MV : List V → Prop} {msg : Expr} (X : K.In h) (G : h.Ns mainGlobals mg) (E : ErK K x C) (F : ErF P K C q st cc cda fI (supFn q st cc kV doc pm an cda ct))
    (gS : PySem.W.nsIn K mainGlobals "super" = some none) (IT : PySem.USup.InitText (supFn q st cc kV doc pm an cda ct) fI ps msg fs)
    (hmsg : ∀ (vs : List V) (us : List Value) (a : Addr) (L : Addr), Vals vs us → vs.length = ps.length → MV vs → PySem.USup.MsgOk P w (callEnv (supFn q st cc kV doc pm an cda ct) L fI) (fun y => (((("self" : Str) :: ps).zip (Value.ref a :: us)).reverse).lookup y) msg)
    (hps : ∀ fp ∈ fs, PySem.W.findIn K (.ref C) fp.1 = some none ∧ fp.2 ∈ ps) (hfl : fs.length ≤ 100) (hpl : ps.length ≤ 1000) : Er P w K mg x C ps fs MV :=
  ⟨⟨fI, cc, cda, _, msg, F.sup, IT, hmsg⟩, PySem.W.mg_none_of X G gS, PySem.W.mg_of X G E.gC, E.kC, E.exC, E.tyC, E.hdC, hps, hfl, hpl⟩
theorem cls_ex {K : PySem.W.Frag} {C : Addr} {nm qn : Str} {N : Addr} {bs bm : List Value} {sn : List Str} {sub : List Value} {ab : Bool} {col : Option Bool} {dd : Option Addr} {k0 k1 k2 k3 k5 : Option Value} (x : K.lookup C = some (excClassObj nm qn C N bs bm true sn sub ab col dd k0 k1 k2 k3 k5 "ValueError.__new__")) (y : PySem.HandSPX.refsVE bm = true) :
    ∃ nm qn N bs bm sn sub ab col dd k0 k1 k2 k3 k5, K.lookup C = some (excClassObj nm qn C N bs bm true sn sub ab col dd k0 k1 k2 k3 k5 "ValueError.__new__") ∧ PySem.HandSPX.refsVE bm = true := ⟨_, _, _, _, _, _, _, _, _, _, _, _, _, _, _, x, y⟩
theorem fn_ex {K : PySem.W.Frag} {fI : Addr} {oc : Value} {od : Option Addr} {fd : FuncData} {osl : Array (Option Value)} (x : K.lookup fI = some ⟨oc, od, .func fd, osl⟩) : ∃ oc od osl, K.lookup fI = some ⟨oc, od, .func fd, osl⟩ := ⟨_, _, _, x⟩
theorem cell_ex {K : PySem.W.Frag} {cc C : Addr} {cl : Value} {cld : Option Addr} {csl : Array (Option Value)} (x : K.lookup cc = some ⟨cl, cld, .cell (some (.ref C)), csl⟩) : ∃ cl cld csl, K.lookup cc = some ⟨cl, cld, .cell (some (.ref C)), csl⟩ := ⟨_, _, _, x⟩
theorem code_ex {P : Program} {K : PySem.W.Frag} {cda : Addr} {ccl : Value} {cdd : Option Addr} {vs : Array Value} {ccs : Array (Option Value)} {file : Str} {tf : Nat} (x : K.lookup cda = some ⟨ccl, cdd, .fields vs, ccs⟩) (y : vs[2]? = some (.str file tf)) (z : ((P.main.file : Str) == file) = true) :
    ∃ ccl cdd vs ccs file tf, K.lookup cda = some ⟨ccl, cdd, .fields vs, ccs⟩ ∧ vs[2]? = some (.str file tf) ∧ ((P.main.file : Str) == file) = true := ⟨_, _, _, _, _, _, x, y, z⟩
end U

/-! ## lists in hand: displays, sums, slices, copies; lcm -/
namespace U
open PySem PySem.Spec PyProof.Rows L2
/-- a list as it was laid -/
def Own (Ps : List Pr) : Pr := fun v H => ∃ p xs, v = .ref p ∧ H p = some (.lst xs) ∧ Safe H xs ∧ AllP Ps xs H
instance mn_own {W : HR} [w : Pre W] {Ps : List Pr} [ml : MnL W Ps] : Mn W (Own Ps) := ⟨fun v H H' h ⟨p, xs, e, hq, hn, hp⟩ => ⟨p, xs, e, w.own h hn hq, hn.mono h, ml.mn xs H H' h hp⟩⟩
theorem own_lst {K : PySem.W.Frag} {Ps : List Pr} {v : V} {H : Hp} (h : Own Ps v H) : Lst K Ps v H := let ⟨p, xs, e, a, b, c⟩ := h; ⟨p, xs, e, SqL.of a, b, c⟩
theorem allp_app : ∀ {Ps Qs : List Pr} {xs ys : List V} {H : Hp}, AllP Ps xs H → AllP Qs ys H → AllP (Ps ++ Qs) (xs ++ ys) H
  | [], _, [], _, _, _, k => k
  | [], _, _ :: _, _, _, h, _ => h.elim
  | _ :: _, _, [], _, _, h, _ => h.elim
  | _ :: Ps, Qs, _ :: xs, ys, _, h, k => ⟨h.1, allp_app (Ps := Ps) (Qs := Qs) (xs := xs) (ys := ys) h.2 k⟩
theorem allp_split : ∀ {Ps Qs : List Pr} {vs : List V} {H : Hp}, AllP (Ps ++ Qs) vs H → ∃ xs ys, vs = xs ++ ys ∧ AllP Ps xs H ∧ AllP Qs ys H
  | [], _, vs, _, h => ⟨[], vs, rfl, True.intro, h⟩
  | _ :: _, _, [], _, h => h.elim
  | P :: Ps, Qs, v :: vs, H, h => by
    obtain ⟨xs, ys, e, a, b⟩ := allp_split (Ps := Ps) (Qs := Qs) (vs := vs) h.2
    exact ⟨v :: xs, ys, by rw [e]; rfl, ⟨h.1, a⟩, b⟩
instance mnl_app {W : HR} {Ps Qs : List Pr} [m1 : MnL W Ps] [m2 : MnL W Qs] : MnL W (Ps ++ Qs) := ⟨fun vs H H' w h => by
  obtain ⟨xs, ys, rfl, a, b⟩ := allp_split h
  exact allp_app (m1.mn _ _ _ w a) (m2.mn _ _ _ w b)⟩
theorem allp_drop : ∀ {Ps : List Pr} {xs : List V} {H : Hp} (n : Nat), AllP Ps xs H → AllP (Ps.drop n) (xs.drop n) H
  | _, _, _, 0, h => h
  | [], [], _, _ + 1, h => h
  | [], _ :: _, _, _ + 1, h => h.elim
  | _ :: _, [], _, _ + 1, h => h.elim
  | _ :: Ps, _ :: xs, _, n + 1, h => allp_drop (Ps := Ps) (xs := xs) n h.2
theorem allp_take : ∀ {Ps : List Pr} {xs : List V} {H : Hp} (n : Nat), AllP Ps xs H → AllP (Ps.take n) (xs.take n) H
  | _, _, _, 0, _ => True.intro
  | [], [], _, _ + 1, h => h
  | [], _ :: _, _, _ + 1, h => h.elim
  | _ :: _, [], _, _ + 1, h => h.elim
  | _ :: Ps, _ :: xs, _, n + 1, h => ⟨h.1, allp_take (Ps := Ps) (xs := xs) n h.2⟩
/-- the cut of any list, as a slice cuts -/
def cutL {A : Type} (xs : List A) (lo hi : Option Int) : List A := (xs.drop (HT.sIx xs.length 0 lo)).take (HT.sIx xs.length xs.length hi - HT.sIx xs.length 0 lo)
theorem allp_cut {Ps : List Pr} {xs : List V} {H : Hp} {lo hi : Option Int} (h : AllP Ps xs H) : AllP (cutL Ps lo hi) (cutV xs lo hi) H := by
  unfold cutL cutV
  rw [allp_len h]
  exact allp_take _ (allp_drop _ h)
section
variable {Y : Rs} [w : Pre Y.W] {G : Ctx} {te : TE} {K : PySem.W.Frag} {Ps Qs : List Pr}
theorem ev_own {tr : TA} [ml : MnL Y.W Ps] (ha : EvA Y G tr Ps) (hn : ∀ vs H, AllP Ps vs H → Safe H vs) (hl : Ps.length ≤ 100000 := by first | decide | (simp only [List.length_cons, List.length_nil]; decide)) : Ev Y G (tLst tr) (Own Ps) := fun s H ty hx Q q =>
  ha s H ty hx _ fun vs H1 w1 p1 => ⟨by rw [allp_len p1]; exact Evl.sz_of hl, fun p hp => by
    have w2 : Y.W H1 (upd H1 p (.lst vs)) := w.ext (Evl.Ex.new hp)
    exact q _ _ (w.trans w1 w2) ⟨p, vs, rfl, upd_same, (hn vs H1 p1).mono w2, ml.mn vs _ _ w2 p1⟩⟩
/-- a part of a slice -/
def EvO (Y : Rs) (G : Ctx) (to : TO) (o : Option Int) : Prop := ∀ s H, Ty G s H → Hx Y H → ∀ Q : Option Int → Hp → Prop, (∀ H2, Y.W H H2 → Q o H2) → to s H Q
theorem eo_none : EvO Y G tNoPart none := fun s H _ _ Q q => q H (w.refl H)
omit w in
theorem eo_some {i : Int} (h : Ev Y G te (Is (.int i))) : EvO Y G (tPart te) (some i) := fun s H ty hx Q q => h s H ty hx _ fun v H2 w2 e => ⟨i, e, q H2 w2⟩
theorem ev_slL {tl th : TO} {lo hi : Option Int} [mc : MnC Y.W G] [ml : MnL Y.W Ps] (h : Ev Y G te (Lst K Ps)) (h1 : EvO Y G tl lo) (h2 : EvO Y G th hi) (mcut : MnL Y.W (cutL Ps lo hi)) (hn : ∀ vs H, AllP (cutL Ps lo hi) vs H → Safe H vs) : Ev Y G (tSl (rSlL K) te tl th) (Own (cutL Ps lo hi)) := fun s H ty hx Q q =>
  h s H ty hx _ fun v H1 w1 p1 => h1 s H1 (mc.mn s H H1 w1 ty) (hx.mono w1) _ fun H2 w2 => h2 s H2 (mc.mn s H H2 (w.trans w1 w2) ty) (hx.mono (w.trans w1 w2)) _ fun H3 w3 => by
    have w23 := w.trans w2 w3
    obtain ⟨p, xs, e, hq, hs, hp⟩ := (mn_lst (K := K) (Ps := Ps)).mn v H1 H3 w23 p1
    refine ⟨p, xs, e, hq, fun l hl => ?_⟩
    have w4 : Y.W H3 (upd H3 l (.lst (cutV xs lo hi))) := w.ext (Evl.Ex.new hl)
    have hc := allp_cut (lo := lo) (hi := hi) hp
    exact q _ _ (w.trans (w.trans w1 w23) w4) ⟨l, _, rfl, upd_same, (hn _ _ hc).mono w4, mcut.mn _ _ _ w4 hc⟩
end
section
variable {W : HR} [w : Pre W] {K : PySem.W.Frag} {Ps Qs : List Pr}
theorem o_cat [m1 : MnL W (Ps ++ Qs)] (l : Ps.length + Qs.length ≤ 100000) (hn : ∀ vs H, AllP (Ps ++ Qs) vs H → Safe H vs) : Op2 W (rAddA K) (Own Ps) (Own Qs) (Own (Ps ++ Qs)) := fun x y H ⟨p, xs, e, hq, _, hp⟩ ⟨p', ys, e', hq', _, hp'⟩ Q q => by
  refine .inr (.inr (.inl ⟨p, p', xs, ys, e, e', hq, hq', ?_, fun l hl => ?_⟩))
  · rw [allp_len hp, allp_len hp']; exact Evl.sz_of l
  · have w2 : W H (upd H l (.lst (xs ++ ys))) := w.ext (Evl.Ex.new hl)
    have h := allp_app hp hp'
    exact q _ _ w2 ⟨l, _, rfl, upd_same, (hn _ _ h).mono w2, m1.mn _ _ _ w2 h⟩
/-! ### copies -/
def rTupOf (K : PySem.W.Frag) : List V → Hp → VK → Prop := fun xs H Q => ∃ p ys, xs = [.ref p] ∧ ((SqL K H p ys ∧ ∀ l, H l = none → Q (.ref l) (upd H l (.tup ys))) ∨ (SqT K H p ys ∧ Q (.ref p) H))
theorem call_tupA {X : Cx} : CallR X (.type "tuple") (rTupOf X.K) := call_tuple_of
def rLstOf (K : PySem.W.Frag) : List V → Hp → VK → Prop := fun xs H Q => ∃ p ys, xs = [.ref p] ∧ (SqL K H p ys ∨ SqT K H p ys) ∧ ∀ l, H l = none → Q (.ref l) (upd H l (.lst ys))
theorem call_lstA {X : Cx} : CallR X (.type "list") (rLstOf X.K) := call_list_of
theorem opA_tupL [ml : MnL W Ps] : OpA W (rTupOf K) [Lst K Ps] (Tup K Ps) := fun vs H a Q q => by
  obtain ⟨x, ev, p, xs, e, hq, hn, hp⟩ := allp1 a
  refine ⟨p, xs, by rw [ev, e], .inl ⟨hq, fun l hl => ?_⟩⟩
  have w2 : W H (upd H l (.tup xs)) := w.ext (Evl.Ex.new hl)
  exact q _ _ w2 ⟨l, xs, rfl, Rd.of upd_same, ml.mn _ _ _ w2 hp⟩
theorem opA_tupT : OpA W (rTupOf K) [Tup K Ps] (Tup K Ps) := fun vs H a Q q => by
  obtain ⟨x, ev, p, xs, e, hq, hp⟩ := allp1 a
  exact ⟨p, xs, by rw [ev, e], .inr ⟨.inl hq, q _ H (w.refl H) ⟨p, xs, rfl, hq, hp⟩⟩⟩
theorem opA_lstL [ml : MnL W Ps] : OpA W (rLstOf K) [Lst K Ps] (Own Ps) := fun vs H a Q q => by
  obtain ⟨x, ev, p, xs, e, hq, hn, hp⟩ := allp1 a
  refine ⟨p, xs, by rw [ev, e], .inl hq, fun l hl => ?_⟩
  have w2 : W H (upd H l (.lst xs)) := w.ext (Evl.Ex.new hl)
  exact q _ _ w2 ⟨l, xs, rfl, upd_same, hn.mono w2, ml.mn _ _ _ w2 hp⟩
theorem opA_lstT [ml : MnL W Ps] (hn : ∀ vs H, AllP Ps vs H → Safe H vs) : OpA W (rLstOf K) [Tup K Ps] (Own Ps) := fun vs H a Q q => by
  obtain ⟨x, ev, p, xs, e, hq, hp⟩ := allp1 a
  refine ⟨p, xs, by rw [ev, e], .inr (.inl hq), fun l hl => ?_⟩
  have w2 : W H (upd H l (.lst xs)) := w.ext (Evl.Ex.new hl)
  exact q _ _ w2 ⟨l, xs, rfl, upd_same, (hn _ _ hp).mono w2, ml.mn _ _ _ w2 hp⟩
/-! ### lcm -/
def rLcm : List V → Hp → VK → Prop := fun vs H Q => ∃ a b : Int, vs = [.int a, .int b] ∧ (max 1 a.natAbs).log2 < 13000 ∧ (max a.natAbs b.natAbs).log2 < 13000 ∧ (a.natAbs.lcm b.natAbs).log2 < PySem.bitsLine ∧ Q (.int ((a.natAbs.lcm b.natAbs : Nat) : Int)) H
theorem cr_lcm {X : Cx} : CallR X (.builtin "math.lcm") rLcm := by
  intro pins s σ H vs us Q I r h
  obtain ⟨a, b, rfl, h1, h2, h3, q⟩ := h
  obtain ⟨t, u, rfl⟩ := Vals.int2 r
  have e : (Nat.lcm 1 a.natAbs) = a.natAbs := by rw [Nat.lcm_one_left]
  have g := PySem.W.mg_run_lcm a t b u (by omega) (by omega) (by rw [e, Int.natAbs_natCast]; exact h3)
  rw [e] at g
  exact call_function_meets PySem.W.MGF.kind_lcm PySem.W.MGF.plain_lcm PySem.W.MGF.entry_lcm (PySem.W.MGF.args_lcm _ _) g.meets ⟨.int _, H, I.tok _, ⟨_, rfl⟩, q⟩
end
end U

namespace U
open PySem PySem.Spec PyProof.Rows L2
/-! ## a def whose text is read by its way; comprehensions of pairs -/
section
variable {P : Program} {w : World} {K : PySem.W.Frag} {mg : Str → Option Value} {base : Heap}
theorem okI {W : HR} {x qual : Str} {st : Stmt} {f : Addr} {fd : FuncData} {N ps : List Str} {k : Nat} {I : Type} {C : I → Prop} {fw : I → Way} (F : Fun K x qual st f fd) (S : FnScope N ps (defScope st)) (hlen : ∀ i, (fw i).Ps.length = ps.length) (hN : ps.length ≤ N.length)
    (body : ∀ (cdv : Value) (A : Around) (outer : List Env) (s : Shared) (H : Hp) (E : XK), Room k (A.deeper (envOfC qual (defScope st) s.heap.objs.size f cdv)) → ∀ i, C i →
      ∃ t, PSs (cxOf (L2N.CX P w) P w K mg base N qual (defScope st) f cdv A outer s H E) (defBody st) t ∧ ∃ M, St (RsW W E (fw i).X N.length) (entry (fw i).Ps N.length) t M (fw i).P ∧ ∀ s H', Ty M s H' → (fw i).P .non H') :
    FnOk P w K mg base (L2N.CX P w) (k + 1) f fd ps (SpW W C fw) :=
  F.okN S (fun vs H Q E h => by obtain ⟨i, _, a, _⟩ := h; rw [allp_len a, hlen]) fun cdv A outer s H vs Q E hr h => by
    obtain ⟨i, c, a, q, e⟩ := h
    obtain ⟨t, ht, M, hs, hm⟩ := body cdv A outer s H E hr i c
    refine ⟨t, ht, hs _ H _ ?_ (fun s cls d H' x _ y => e cls d H' x y) (fun s' H' x ty => q _ H' x (hm s' H' ty)) q⟩
    have en := ty_entry (n := N.length - (fw i).Ps.length) a
    have l1 := allp_len a
    unfold L2.start entry
    rw [l1]
    exact en
end
section
variable {Y : Rs} [w : Pre Y.W] {G : Ctx} {te : TE} {K : PySem.W.Frag}
omit w in
theorem ei_sub {wi : TI} {n : Nat} {It It' : Nat → Pr} (h : EvI Y G wi n It) (k : ∀ i, i < n → ∀ v H, It i v H → It' i v H) : EvI Y G wi n It' := fun s H ty hx R q =>
  h s H ty hx R fun J H2 Gd w2 g gm wk => q J H2 Gd w2 g gm ⟨wk.goes, wk.stops, fun i Ha x Hb hi z y => let ⟨a, b⟩ := wk.yields i Ha x Hb hi z y; ⟨a, k i hi x Hb b⟩⟩
/-- what is laid in a list stands while other things are written -/
theorem ev_lc2 {wi : TI} {n : Nat} {I1 I2 P : Nat → Pr} {j l : Nat} (hi : EvI Y G wi n fun i => Tup K [I1 i, I2 i]) (hn : n < 100000) [mc : MnC Y.W G] (mt : ∀ i, Mn WT (P i)) (mw : ∀ i, Mn Y.W (P i)) (hjl : j ≠ l) (he : ∀ i, i < n → Ev Y ((((G.set l none).set j none).set j (some (I1 i))).set l (some (I2 i))) te (P i)) (hh : ∀ i acc H, i ≤ n → AllP (each i P) acc H → Safe H acc) :
    Ev Y G (tLc wi (gTup K 2 (gCons (gName j) (gCons (gName l) gNil))) tYes te [j, l]) (New (each n P)) := fun s H ty hx Q q =>
  hi s H ty hx _ fun J H1 Gd w1 g1 gm wk D hD => by
    refine lc_it wk (fun i H' => Y.W H1 H' ∧ ∃ acc, H' D = some (.lst acc) ∧ AllP (each i P) acc H') ⟨w.wrt (w.refl H1) hD, [], upd_same, True.intro⟩ (fun i H' _ z => gm _ _ z.1 g1) (fun i x Ha Hb hi z y => ?_) (fun H' ⟨z, acc, e, a⟩ => q _ H' (w.trans w1 z) ⟨D, acc, rfl, e, a⟩)
    obtain ⟨z, acc, e, a⟩ := z
    obtain ⟨y1, p, xs, ep, hq, hp⟩ := y
    obtain ⟨b1, b2, rfl⟩ : ∃ a b, xs = [a, b] := by
      have len := allp_len hp
      match xs, len with
      | [a, b], _ => exact ⟨a, b, rfl⟩
    have nh := hh i acc Ha (Nat.le_of_lt hi) a
    have wb := w.trans z y1
    have tyb : Ty ((((G.set l none).set j none).set j (some (I1 i))).set l (some (I2 i))) ((((s.set l none).set j none).set j (some b1)).set l (some b2)) Hb := ((ty_wipe j (ty_wipe l (mc.mn s H Hb (w.trans w1 wb) ty))).put hp.1).put hp.2.1
    refine ⟨p, [b1, b2], ep, .inl hq, rfl, b1, [b2], rfl, b2, [], rfl, rfl, ?_⟩
    refine ⟨?_, ?_⟩
    · show (((((s.set l none).set j none).set j (some b1)).set l (some b2)).set l none).set j none = (s.set l none).set j none
      rw [List.set_set, List.set_set, List.set_comm _ _ hjl, List.set_set, List.set_set]
    dsimp only [tYes]
    rw [if_pos (rfl : true = true)]
    refine he i hi _ Hb tyb (hx.mono (w.trans w1 wb)) _ fun v H4 w4 p4 => ?_
    have e4 := w.own (w.trans y1 w4) nh e
    have ma : ∀ R ∈ each i P, Mn Y.W R := fun R h => by obtain ⟨k, _, rfl⟩ := each_mem h; exact mw k
    have ta : ∀ R ∈ each i P, Mn WT R := fun R h => by obtain ⟨k, _, rfl⟩ := each_mem h; exact mt k
    have a4 := allp_mn ma (w.trans y1 w4) a
    have wt : WT H4 (upd H4 D (.lst (acc ++ [v]))) := wt_put e4 rfl
    have l4 := allp_len a4
    rw [each_len] at l4
    refine ⟨acc, e4, Evl.sz_lt (by omega), w.wrt (w.trans wb w4) hD, _, upd_same, ?_⟩
    rw [each_succ]
    exact allp_snoc (allp_mn ta wt a4) ((mt i).mn v _ _ wt p4)
end
/-! ### lists whose items are no hand's -/
/-- a whole number or a pair: no list's place -/
def Plain (P : Pr) : Prop := ∀ v H, P v H → (∃ i : Int, v = .int i) ∨ ∃ c ys, v = .ref c ∧ Rd H c (.tup ys)
theorem plain_is {i : Int} : Plain (Is (.int i)) := fun v H h => .inl ⟨i, h⟩
theorem plain_tup {K : PySem.W.Frag} {Ps : List Pr} : Plain (Tup K Ps) := fun v H ⟨p, xs, e, hq, _⟩ => .inr ⟨p, xs, e, hq⟩
theorem safe_plain {Ps : List Pr} (h : ∀ P ∈ Ps, Plain P) {vs : List V} {H : Hp} (a : AllP Ps vs H) : Safe H vs := True.intro
theorem safe_each {n : Nat} {P : Nat → Pr} (h : ∀ i, Plain (P i)) {vs : List V} {H : Hp} (a : AllP (each n P) vs H) : Safe H vs := safe_plain (fun Q hQ => by obtain ⟨i, _, rfl⟩ := each_mem hQ; exact h i) a
theorem new_own {Ps : List Pr} (h : ∀ vs H, AllP Ps vs H → Safe H vs) {v : V} {H : Hp} (k : New Ps v H) : Own Ps v H := let ⟨p, xs, e, a, b⟩ := k; ⟨p, xs, e, a, h _ _ b, b⟩
theorem nth_each {n i : Nat} {P : Nat → Pr} (h : i < n) : nth (each n P) i = P i := by unfold nth each; simp [h]
end U

/-! ## a list comprehension whose step may raise -/
namespace U
open PySem PySem.Spec PyProof.Rows L2
section
variable {M : Model} {A : Around} {E : Value → Shared → Prop} {s : Shared} {env : Env}
/-- behind the block: as ever where it went well; what was raised goes on from the block's frame -/
def PostX (M : Model) (A : Around) (E : Value → Shared → Prop) (use : Option (Value → Sem Unit)) (Q : Value → Shared → Prop) (acc : Value) (cenv : Env) : Result → Shared → Prop
  | .ok r, s' => compPost M A E use Q acc cenv.locals (.ok r) s'
  | .error x, s' => ∃ m, s'.heap.Ns cenv.locals m ∧ ∀ h', Heap.SameBut cenv.locals s'.heap h' → wpAny M A (passOn "comprehension.variables-let-go" x cenv : Sem Value) (fun _ _ => False) E { s' with heap := h' }
/-- the rule of a comprehension with that wish -/
theorem lcx_free {e : Expr} {scope : Scope} {pos : Pos} {newAcc first : Sem Value} {g : Comprehension} {gs : List Comprehension} {cl : List (Str × Addr)} {use : Option (Value → Sem Unit)} {Q : Value → Shared → Prop}
    (c1 : clausesOf e = g :: gs) (c2 : ∀ x, foldedSetIterable g.iter env x = pure x) (c3 : closureFor scope env = pure cl) (c4 : scope.kind = .function) (c5 : ∀ x ∈ scope.names, x.2 = .local → scope.names.lookup x.1 = some .local)
    (h : wpAny M A first (fun x s1 => wpAny M A (pyIter x) (fun it s2 => wpAny M A newAcc (fun acc s3 => wpAny M A (newFunctionEnv scope env.globals cl [] env.qual none .none (some env)) (fun ce s4 =>
      codeAny M A (.compStart e 0 it acc { ce with scope := relabel scope env }) (PostX M A E use Q acc { ce with scope := relabel scope env }) s4) E s3) E s2) E s1) E s) :
    wpAny M A (comprehension e scope env pos newAcc false first use) Q E s := by
  have same : ∀ (x : Value) (t : Shared), E x t → E x t := fun _ _ z => z
  unfold comprehension
  rw [c3, c1]
  refine wpAny_bind (wpAny_mono h (fun x s1 k1 => ?_) same)
  refine wpAny_bind (wpAny_standAt (wpAny_bind (wpAny_of_eq (c2 x) (wpAny_bind (wpAny_holding (wpAny_mono k1 (fun it s2 k2 => ?_) same))))))
  refine wpAny_standIf (wpAny_bind (wpAny_mono k2 (fun acc s3 k3 => ?_) same))
  refine wpAny_bind (wpAny_pure (wpAny_bind (wpAny_mono k3 (fun ce s4 k4 => ?_) same)))
  dsimp only
  let own := (scope.names.filter fun x => (x.2 == .local || x.2 == .cell) && x.1 != (".0" : Str)).reverse
  have all : ∀ x ∈ own, x.2 = .local → Env.kindOf { ce with scope := relabel scope env } x.1 = some .local := fun x hx hl =>
    lookup_relabel_local (c5 x (List.mem_filter.mp (List.mem_reverse.mp hx)).1 hl)
  have turned : ∀ x ∈ own.drop 1 ++ own.take 1, x.2 = .local → Env.kindOf { ce with scope := relabel scope env } x.1 = some .local := fun x hx hl =>
    (List.mem_append.mp hx).elim (fun z => all x (List.mem_of_mem_drop z) hl) fun z => all x (List.mem_of_mem_take z) hl
  refine wpAny_holding (wpAny_bind (wpAny_attempt (wpAny_holding (wpAny_run (codeAny_mono k4 fun r s5 k5 => ?_)))))
  cases r with
  | error x =>
    obtain ⟨m, hn, k⟩ := k5
    refine wpAny_bind (wpAny_holding (wpAny_comp_letGo (cenv := { ce with scope := relabel scope env }) c4 own s5 m all hn fun h' m' _ sb => ?_))
    exact wpAny_mono (k h' sb) (fun _ _ z => False.elim z) same
  | ok f =>
    cases use with
    | none =>
      obtain ⟨m, hn, k⟩ := k5
      exact wpAny_bind (wpAny_holding (wpAny_comp_letGo (cenv := { ce with scope := relabel scope env }) c4 own s5 m all hn fun h' m' _ sb => wpAny_pure (k h' sb)))
    | some u =>
      refine wpAny_bind (wpAny_rule (wpAny_bind (wpAny_holding (wpAny_mono (k5 : wpAny M A (u acc) _ E s5) (fun _ s6 k6 => ?_) same))))
      obtain ⟨m, hn, k⟩ := k6
      exact wpAny_bind (wpAny_comp_letGo (cenv := { ce with scope := relabel scope env }) c4 (own.drop 1 ++ own.take 1) s6 m turned hn fun h' m' _ sb => wpAny_pure (k h' sb))
/-- of the frame alone -/
theorem note_env {e : Value} {env' : Env} (h : env'.frame = env.frame) : noteFrame e env' = noteFrame e env := by
  unfold noteFrame PySem.frameOf
  rw [h]
end
/-! ### what a call in the block lets out, the block's own names apart -/
section
variable {X : Cx} {pins : List (Addr × Obj)} {σ : L2.St} {H : Hp} {s s' : Shared} {C : Addr} {E : XK}
theorem call_but {u : Value} (I : Inv X pins σ H s) (c : L2N.CX X.prog X.w X.stack H s E u s') (fC : FpOk X pins H C) (hC : ∃ o, s.heap.get? C = some o) :
    ∃ (a : Addr) (B G : Heap) (H' : Hp) (cls : Value) (d : Option Addr), u = .ref a ∧ HandSPX.FlyingZ B X.stack a (L2N.Zn cls d) s'.heap ∧ B.get? C = none ∧ Inv X pins σ H' { s with heap := G, gens := s'.gens, drawn := s'.drawn, toks := s'.toks } ∧
      (∀ b o, G.get? b = some o → b ∉ frs X.stack → B.get? b = some o) ∧ (∀ b o, G.get? b = some o → b ≠ C ∧ s'.heap.get? b = some o) ∧ (∀ o, s.heap.get? C = some o → s'.heap.get? C = some o) ∧ C ∉ frs X.stack ∧ H' a = none ∧ s'.os = s.os ∧ AllBare s'.gens ∧ E cls d H' := by
  obtain ⟨a, B0, H', cls, d, rfl, fl, hok, ub, na, os, ag, hE⟩ := c
  obtain ⟨f0, f1, f2, f3, f4, f5⟩ := fC
  have nC : C ∉ frs X.stack := fun hm => (List.mem_cons.mp (I.stkSub C hm)).elim f1 f2
  obtain ⟨oC, hoC⟩ := hC
  have nH : H' C = none := ub.free C oC hoC f0
  obtain ⟨B, b1, b2⟩ := restrict B0 fun b => decide (b ≠ C)
  have bB : ∀ b o, B.get? b = some o → b ≠ C ∧ B0.get? b = some o := fun b o e => by
    by_cases z : b = C
    · rw [b2 b (by simp [z])] at e; cases e
    · rw [b1 b (by simp [z])] at e; exact ⟨z, e⟩
  have Bb : ∀ b o, b ≠ C → B0.get? b = some o → B.get? b = some o := fun b o z e => by rw [b1 b (by simp [z])]; exact e
  have nn : ∀ b, B0.get? b = none → B.get? b = none := fun b e => by
    cases q : B.get? b with
    | none => rfl
    | some o => have := (bB b o q).2; rw [e] at this; cases this
  obtain ⟨st0, k2, k3, k4⟩ := fl
  have st : B.StaysIn s'.heap := fun b o e => st0 b o (bB b o e).2
  have fl' : HandSPX.FlyingZ B X.stack a (L2N.Zn cls d) s'.heap := by
    refine ⟨st, nn a k2, funFrames_none k3 fun L hL => nn L (k3.mem hL).1, ?_⟩
    obtain ⟨oe, vs, T, oT, ts, h1, h2, h3, h4, h5, h6⟩ := k4
    exact ⟨oe, vs, T, oT, ts, h1, h2, h3, h4, nn T h5, h6⟩
  obtain ⟨G, g1, g2⟩ := restrict s'.heap fun b => (B.get? b).isSome || decide (b ∈ frs X.stack)
  have gB : ∀ b o, B.get? b = some o → G.get? b = some o := fun b o e => by
    rw [g1 b (by simp [e])]
    exact st b o e
  have gF : ∀ b, b ∈ frs X.stack → G.get? b = s'.heap.get? b := fun b hb => g1 b (by simp [hb])
  have og : ∀ b o, G.get? b = some o → s'.heap.get? b = some o ∧ ((B.get? b).isSome = true ∨ b ∈ frs X.stack) := fun b o e => by
    cases q : ((B.get? b).isSome || decide (b ∈ frs X.stack)) with
    | false => rw [g2 b q] at e; cases e
    | true =>
      rw [g1 b q] at e
      exact ⟨e, by simpa [Bool.or_eq_true] using q⟩
  have hokB : HOk X.prog X.w H' B := fun b o q => (hok b o q).stay (fun c u hc r => Bb c u (fun z => by
    have z' : H' c = none := by rw [z]; exact nH
    rcases hc with hc | hc
    · rw [hc, q] at z'; cases z'
    · rw [hc] at z'; cases z') r) (fun _ r => r) fun _ _ r => r
  have ne : ∀ b, b ∉ [C] → b ≠ C := fun b h z => h (by simp [z])
  refine ⟨a, B, G, H', cls, d, rfl, fl', b2 C (by simp), ?_, fun b o e hb => ?_, fun b o e => ?_, fun o e => ?_, nC, na, os, ag, hE⟩
  · refine I.call (ch := [C]) ⟨fun b o e n hb hx => gB b o (Bb b o (ne b hx) (ub.keep b o e n hb)), fun b o e n hb hx => ?_, fun b o e n _ => ub.free b o e n, fun b o e hx => ?_, ub.tups, ub.frzs, ub.tbls⟩ (hokB.kept gB) ag fun b hb => ?_
    · obtain ⟨sl, q⟩ := ub.slot b o e hb
      exact ⟨sl, by rw [gF b hb]; exact q⟩
    · by_cases hb : b ∈ frs X.stack
      · obtain ⟨sl, q⟩ := ub.slot b o e hb
        exact ⟨_, by rw [gF b hb]; exact q⟩
      · obtain ⟨o', q⟩ := ub.there b o e hb
        exact ⟨o', gB b o' (Bb b o' (ne b hx) q)⟩
    · have : b = C := by simpa using hb
      subst this
      exact ⟨f3, f1, f4, f5⟩
  · obtain ⟨e', h⟩ := og b o e
    rcases h with h | h
    · obtain ⟨o', q⟩ := Option.isSome_iff_exists.mp h
      have z := st b o' q
      rw [e'] at z; cases z
      exact q
    · exact absurd h hb
  · obtain ⟨e', h⟩ := og b o e
    refine ⟨fun z => ?_, e'⟩
    subst z
    rcases h with h | h
    · rw [b2 b (by simp)] at h; cases h
    · exact nC h
  · exact st0 C o (ub.keep C o e f0 nC)
theorem frames_but {B h h' : Heap} (sb : ∀ b, b ≠ C → h'.get? b = h.get? b) : ∀ {l : List Env}, C ∉ frs l → h.FunFrames B l → h'.FunFrames B l
  | [], _, _ => trivial
  | env :: l, nC, ⟨k, ⟨L, o, hf, hn, ho, hd⟩, r⟩ => by
    have mem : ∀ x, x ∈ frs l → x ∈ frs (env :: l) := fun x hx => by
      obtain ⟨e, he, q⟩ := List.mem_filterMap.mp hx
      exact List.mem_filterMap.mpr ⟨e, List.mem_cons_of_mem _ he, q⟩
    have hL : L ≠ C := fun z => nC (List.mem_filterMap.mpr ⟨env, List.mem_cons_self, by rw [hf, z]⟩)
    exact ⟨k, ⟨L, o, hf, hn, (sb L hL).trans ho, hd⟩, frames_but sb (fun z => nC (mem C z)) r⟩
theorem held_but {B h h' : Heap} {l : List Env} {a L : Addr} {Z : Obj → Prop} (x : HandSPX.HeldZ B l a Z L h) (hB : B.get? C = none) (hC : ∃ o, h.get? C = some o ∧ ∀ vs, o.data ≠ .fields vs) (nC : C ∉ frs l) (sb : ∀ b, b ≠ C → h'.get? b = h.get? b) :
    HandSPX.HeldZ B l a Z L h' := by
  obtain ⟨k1, k2, k3, oe, vs, T, oT, ts, h1, h2, h3, h4, h5, h6, h7, h8, h9⟩ := x
  obtain ⟨oC, eC, nf⟩ := hC
  have na : a ≠ C := fun z => by rw [z, eC] at h1; cases h1; exact nf _ h3
  have nT : T ≠ C := fun z => by rw [z, eC] at h7; cases h7; exact nf _ h8
  exact ⟨fun b o e => (sb b fun z => by rw [z, hB] at e; cases e).trans (k1 b o e), k2, frames_but sb nC k3, oe, vs, T, oT, ts, (sb a na).trans h1, h2, h3, h4, h5, h6, (sb T nT).trans h7, h8, h9⟩
theorem inv_xe {X : Cx} {pins : List (Addr × Obj)} {σ : L2.St} {H : Hp} {s : Shared} (xe : Value → Shared → Prop) (I : Inv X pins σ H s) : Inv { X with xe := xe } pins σ H s :=
  ⟨⟨I.ok.mod, I.ok.kind, I.ok.glob, I.ok.blt, I.ok.above, I.ok.inj, I.ok.has, I.ok.cab, I.ok.hd, I.ok.frames, I.ok.stk, I.ok.exf, I.ok.bs, I.ok.bsz, I.ok.noex, I.ok.exfs, I.ok.funs, I.ok.frf⟩, I.os, I.bare, I.base, I.loc, I.cell, I.free, I.freeC, I.pin, I.hok, I.len⟩
end
/-- the block, with a way for what is raised in it -/
abbrev blkX (X : Cx) (s : Shared) (H : Hp) (scope : Scope) (ce : Env) (fp : List Addr) (xe : Value → Shared → Prop) : Cx := { X.blk s H scope ce fp with xe := xe }
section
variable {X : Cx}
/-- what the step of a block lets out goes where X's wish says -/
def Out (X : Cx) (s : Shared) (H : Hp) (scope : Scope) (ce : Env) (fp : List Addr) (E : XK) (xe : Value → Shared → Prop) : Prop :=
  ∀ (pins : List (Addr × Obj)) (σ : L2.St) (H1 : Hp) (s1 : Shared) (u : Value) (s2 : Shared), Inv (X.blk s H scope ce fp) pins σ H1 s1 → L2N.CX X.prog X.w X.stack H1 s1 E u s2 → xe u s2
theorem lcx_core {pins : List (Addr × Obj)} {s : Shared} {σ : L2.St} {H : Hp} {Q : VK} {E : XK} {elt tg iter : Expr} {ifs : List Expr} {scope : Scope} {own : List (Str × Nat)} {pos pos' : Pos} {wi : TI} {g : TG} {tt : TT} {te : TE} {use : Option (Value → Sem Unit)} {Qf : Value → Shared → Prop}
    (hs0 : X.stack = X.env :: X.outer) (hf : X.env.frame = some X.env.locals) (tk : L2N.Takes X (fun cls d _ H => E cls d H)) (hc : X.calm = true) (hN : X.N.Nodup) (I : Inv X pins σ H s) (hi : PI X tg iter wi) (ok : BlkOk X.N X.env.scope scope own)
    (hg : ∀ (s : Shared) (H : Hp) (C : Addr) (cl : List (Str × Addr)) (fp : List Addr), PG (X.blk s H scope (compEnvC scope cl C X.env) fp) tg g) (ht : ∀ (s : Shared) (H : Hp) (C : Addr) (cl : List (Str × Addr)) (fp : List Addr), PTs (X.blk s H scope (compEnvC scope cl C X.env) fp) ifs tt)
    (he : ∀ (s : Shared) (H : Hp) (C : Addr) (cl : List (Str × Addr)) (fp : List Addr) (xe : Value → Shared → Prop), Out X s H scope (compEnvC scope cl C X.env) fp E xe → PE (blkX X s H scope (compEnvC scope cl C X.env) fp xe) elt te) (hs : ∀ x, foldedSetIterable iter X.env x = pure x)
    (h : tLc wi g tt te (own.map (·.2)) σ H Q)
    (hRR : ∀ D C s' m H', Inv X pins σ H' s' → Q (.ref D) H' → s'.heap.Ns C m → FpOk X pins H' C → compPost (model X.prog X.w) X.A X.xe use Qf (.ref D) C (.ok .next) s') :
    wpAny (model X.prog X.w) X.A (comprehension (.ListComp elt [⟨tg, iter, ifs, 0⟩] scope pos) scope X.env pos' (newList []) false (eval iter X.env) use) Qf X.xe s := by
  have closed : ∀ y ∈ scope.names, y.2 = .free → ∃ c, X.env.cells.lookup y.1 = some c := fun y hy e => (ok.free y hy e).elim (fun k => I.ok.has _ (.inl k)) fun k => I.ok.has _ (.inr k)
  refine lcx_free (use := use) rfl hs (closure_ok closed) ok.kind (fun y hy e => by rw [ok.uniq y hy, e]) (thn (hi.run pins s σ H _ I h) fun xv s1 hx => thn hx fun itv s2 h2 => ?_)
  obtain ⟨it, fp, tn, J, H2, e, I2, T, st2, f2, q⟩ := h2
  subst e
  refine wpAny_newObj_type (newEnv_comp ?_) (by show 0 ≤ sizeLine; decide)
  generalize hD : s2.heap.objs.size = D
  obtain ⟨W, ⟨m0, w0⟩, turn⟩ := q D (I2.hok.fresh (Nat.le_of_eq hD))
  generalize hs3 : ({ s2 with heap := s2.heap.push { cls := .type "list", data := .seq ([] : List Value).toArray } } : Shared) = s3
  have h3 : s3.heap = s2.heap.push { cls := .type "list", data := .seq ([] : List Value).toArray } := by rw [← hs3]
  have kept3 : ∀ b o, s2.heap.get? b = some o → s3.heap.get? b = some o := fun b o e => by rw [h3]; exact Heap.get?_push_of_some _ e
  have I3 : Inv X pins σ (upd H2 D (.lst [])) s3 := by
    rw [← hs3]
    refine I2.laid (t' := s2.toks) (fun b o e => Heap.get?_push_of_some _ e) (Nat.le_of_eq hD) ⟨Nat.zero_le _, [], 0, .nil, ?_⟩
    rw [← hD]
    exact Heap.get?_push_size _ rfl
  have f3 : ∀ b ∈ fp, FpOk X pins (upd H2 D (.lst [])) b ∧ b < s3.heap.objs.size := fun b hb => by
    obtain ⟨o, e, _⟩ := T.obj _ _ st2 b hb
    have lt := Heap.lt_size e
    refine ⟨⟨?_, (f2 b hb).2⟩, Heap.lt_size (kept3 b o e)⟩
    rw [upd_ne (by rw [← hD]; exact Nat.ne_of_lt lt)]
    exact (f2 b hb).1
  have st3 : tn 0 s3.heap := T.keep _ _ _ st2 fun b _ o e => kept3 b o e
  have I4 := block_start I3 ok hN f3
  have pg := hg s3 (upd H2 D (.lst [])) s3.heap.objs.size (cellsFrom (s3.heap.objs.size + 1) scope.names (cloFrom X.env.cells scope.names [])) fp
  have pt := ht s3 (upd H2 D (.lst [])) s3.heap.objs.size (cellsFrom (s3.heap.objs.size + 1) scope.names (cloFrom X.env.cells scope.names [])) fp
  have pe := he s3 (upd H2 D (.lst [])) s3.heap.objs.size (cellsFrom (s3.heap.objs.size + 1) scope.names (cloFrom X.env.cells scope.names [])) fp
  show codeAny _ _ (.compStart (.ListComp elt [⟨tg, iter, ifs, 0⟩] scope pos) 0 (.ref it) (.ref D) (compEnvC scope (cellsFrom (s3.heap.objs.size + 1) scope.names (cloFrom X.env.cells scope.names [])) s3.heap.objs.size X.env))
    (PostX (model X.prog X.w) X.A X.xe use Qf (.ref D) (compEnvC scope (cellsFrom (s3.heap.objs.size + 1) scope.names (cloFrom X.env.cells scope.names [])) s3.heap.objs.size X.env)) { s3 with heap := pushCells (s3.heap.push { cls := .type "dict", data := .dict #[] }) scope.names }
  have nfp : ∀ b ∈ fp, (upd H2 D (.lst [])) b = none := fun b hb => (f3 b hb).1.1
  generalize hce : compEnvC scope (cellsFrom (s3.heap.objs.size + 1) scope.names (cloFrom X.env.cells scope.names [])) s3.heap.objs.size X.env = ce at I4 pg pt pe ⊢
  have cL : ce.locals = s3.heap.objs.size := by subst hce; rfl
  have cF : ce.frame = X.env.frame := by subst hce; rfl
  generalize hH3 : upd H2 D (.lst []) = H3 at I3 I4 pg pt pe w0 nfp f3
  generalize hs4 : ({ s3 with heap := pushCells (s3.heap.push { cls := .type "dict", data := .dict #[] }) scope.names } : Shared) = s4 at I4 ⊢
  have st4 : tn 0 s4.heap := T.keep _ _ _ st3 fun b _ o e => by rw [← hs4]; exact pushCells_keeps _ _ _ _ (Heap.get?_push_of_some _ e)
  have chan : ∀ b ∈ fp, (b ∈ X.ex ∨ X.s_0.heap.objs.size ≤ b) ∧ b ≠ X.env.locals ∧ (∀ x c, X.env.cells.lookup x = some c → c ≠ b) ∧ ∀ p ∈ X.pn ++ pins, p.1 ≠ b := fun b hb => ⟨(f3 b hb).1.2.2.2.1, (f3 b hb).1.2.1, (f3 b hb).1.2.2.2.2.1, (f3 b hb).1.2.2.2.2.2⟩
  have stat : ∀ {σ' : L2.St} {H' : Hp} {s' : Shared}, Inv (X.blk s3 H3 scope ce fp) [] σ' H' s' → (∀ b ∈ fp, H' b = none) → ∀ b ∈ fp, FpOk (X.blk s3 H3 scope ce fp) [] H' b := fun {σ' H' s'} I' hn b hb =>
    ⟨hn b hb, (I'.ok.exf b hb).1, I'.ok.exfs b hb, .inl hb, fun x c e => (I'.ok.exf b hb).2 x c e, fun p hp => absurd (show p ∈ ([] : List (Addr × Obj)) ++ [] from hp) (by simp)⟩
  -- what the step lets out
  have out : ∀ u s', (∃ pins1 σ1 H1 s1, Inv (X.blk s3 H3 scope ce fp) pins1 σ1 H1 s1 ∧ L2N.CX X.prog X.w X.stack H1 s1 E u s') →
      notedBy (model X.prog X.w) X.A ce (fun e s'' => PostX (model X.prog X.w) X.A X.xe use Qf (.ref D) ce (.error e) s'') u s' := fun u s' ⟨pins1, σ1, H1, s1, I1, c⟩ => by
    have Ix : Inv X pins σ H1 s1 := I3.call' (ch := fp) I1.os I1.base I1.hok I1.bare chan
    have nC : H1 ce.locals = none := I1.free
    have FC : FpOk X pins H1 ce.locals := I3.fpOk (by rw [cL]; exact Nat.le_refl _) nC
    obtain ⟨m1, hn1, _⟩ := I1.loc
    have hn1 : s1.heap.Ns ce.locals m1 := hn1
    obtain ⟨o1, es1, ep1, ho1, hd1, r1⟩ := hn1
    obtain ⟨a, B, G, H', cls, d, rfl, fl, hBC, J, nb, gs, kC, nst, na, os, ag, hE⟩ := call_but Ix c FC ⟨o1, ho1⟩
    have hfr : X.A.frames = some (X.env :: X.outer) := by rw [Ix.ok.frames, hs0]
    have hn2 : s'.heap.Ns ce.locals m1 := ⟨o1, es1, ep1, kC o1 ho1, hd1, r1⟩
    have nf1 : ∀ vs, o1.data ≠ .fields vs := fun vs z => by rw [hd1] at z; cases z
    show wpAny (model X.prog X.w) X.A (noteFrame (.ref a) ce) _ _ _
    rw [note_env cF]
    rw [hs0] at fl
    refine PXN.looks_onZ L2N.Zn.steady hfr hf fl fun h1 held up1 => ⟨m1, up1.ns hn2, fun h2 sb => ?_⟩
    obtain ⟨sl1, q1⟩ := up1 _ _ (kC o1 ho1) nf1
    have held2 := held_but held hBC ⟨_, q1, nf1⟩ (by rw [← hs0]; exact nst) sb.2
    obtain ⟨k1, k2, k3, oe, vs, T', oT, ts', he', hz, hd, h1', hr⟩ := id held2
    unfold PySem.passOn
    refine wpAny_bind (wpAny_field he' hd h1' ?_)
    rw [if_neg (show ¬ ((Value.ref T' == Value.none) = true) from by simp)]
    have fin : wpAny (model X.prog X.w) X.A (setFlight (.ref a) ce.frame) (fun _ s5 => wpAny (model X.prog X.w) X.A (throw (.ref a) : Sem Value) (fun _ _ => False) X.xe s5) X.xe { s' with heap := h2 } := by
      rw [cF, hf]
      refine HandSPX.setFlight_onZ held2 fun h5 held5 up5 => wpAny_throw (tk _ _ ?_)
      refine ⟨a, B, _, pins, σ, H', cls, d, rfl, J, nb, fun b o e hnf => ?_, .inr (.inr (by rw [hs0]; exact held5)), na, os, ag, hE⟩
      obtain ⟨ne, e1⟩ := gs b o e
      obtain ⟨sl2, e2⟩ := up1 b o e1 hnf
      obtain ⟨sl3, e3⟩ := up5 b _ ((sb.2 b ne).trans e2) hnf
      exact ⟨sl3, e3⟩
    first
      | exact wpAny_bind (wpAny_pure (wpAny_bind fin))
      | exact wpAny_bind fin
  have loop : codeAny (model X.prog X.w) X.A (.compLoop (.ListComp elt [⟨tg, iter, ifs, 0⟩] scope pos) 0 (.ref it) (.ref D) ce) (PostX (model X.prog X.w) X.A X.xe use Qf (.ref D) ce) s4 := by
    refine compLoop_any (fun n s' => ∃ i H', Inv (X.blk s3 H3 scope ce fp) [] (wipe σ (own.map (·.2))) H' s' ∧ tn i s'.heap ∧ (∀ b ∈ fp, H' b = none) ∧ W i n H') ?_ m0 ⟨0, H3, I4, st4, nfp, w0⟩
    rintro n s5 ⟨i, H5, I5, st5, n5, w5⟩
    rcases turn i n H5 w5 with ⟨stop, qq⟩ | ⟨go, Nx, hNx, step⟩
    · refine thnF (T.done (X.blk s3 H3 scope ce fp) rfl rfl rfl hc i [] s5 _ H5 (fun _ _ => False) I5 (stat I5 n5) st5 stop) fun r s6 ⟨hr, I6⟩ => ?_
      subst hr
      have nC : H5 ce.locals = none := I6.free
      obtain ⟨m, hn, _⟩ := I6.loc
      exact hRR D ce.locals s6 m H5 (I3.call' (ch := fp) I6.os I6.base I6.hok I6.bare chan) qq hn (I3.fpOk (by rw [cL]; exact Nat.le_refl _) nC)
    · refine thnF (T.item (X.blk s3 H3 scope ce fp) rfl rfl rfl hc i [] s5 _ H5 (fun _ _ => False) I5 (stat I5 n5) st5 go) fun r s6 ⟨u, hr, h6⟩ => ?_
      subst hr
      refine thnF h6 fun _ s7 ⟨x, H7, I7, r7, y7, st7, n7⟩ => ?_
      refine thnF (pg.run _ s7 _ H7 x u _ (I7.pinned (stat I7 n7) (T.obj _ _ st7)) r7 (step x H7 y7)) fun _ s8 ⟨σ8, H8, I8, hw8, q8⟩ => ?_
      refine thnF (pt.run _ s8 σ8 H8 _ I8 q8) fun b s9 ⟨H9, I9, q9⟩ => ?_
      have fin : ∀ {s' : Shared} {H' : Hp}, Inv (X.blk s3 H3 scope ce fp) ([] ++ pinsAt fp s7.heap) σ8 H' s' → Nx H' → ∃ m, m < n ∧ ∃ i H', Inv (X.blk s3 H3 scope ce fp) [] (wipe σ (own.map (·.2))) H' s' ∧ tn i s'.heap ∧ (∀ b ∈ fp, H' b = none) ∧ W i m H' := fun {s' H'} I' nx => by
        obtain ⟨m', hm, w'⟩ := hNx H' nx
        have pin' : ∀ b ∈ fp, ∀ o, s7.heap.get? b = some o → s'.heap.get? b = some o ∧ H' b = none := fun b hb o e =>
          let z := I'.pin (b, o) (List.mem_append_right _ (List.mem_append_right _ (mem_pinsAt hb e)))
          ⟨z.1, z.2.1⟩
        refine ⟨m', hm, i + 1, H', (I'.unpinned (pins := [])).weak (by rw [← hw8, wipe_length]) (fun j v e => ?_), T.keep _ _ _ st7 fun b hb o e => (pin' b hb o e).1, fun b hb => ?_, w'⟩
        · rw [← hw8] at e
          exact (wipe_some e).1
        · obtain ⟨o, e, _⟩ := T.obj _ _ st7 b hb
          exact (pin' b hb o e).2
      cases b with
      | false =>
        simp only [Bool.false_eq_true, if_false] at q9 ⊢
        exact fin I9 q9
      | true =>
        simp only [if_true] at q9 ⊢
        let xe : Value → Shared → Prop := fun u s' => ∃ pins1 σ1 H1 s1, Inv (X.blk s3 H3 scope ce fp) pins1 σ1 H1 s1 ∧ L2N.CX X.prog X.w X.stack H1 s1 E u s'
        refine wpAny_mono ((pe xe fun p1 σ1 H1 s1 u s2 i c => ⟨p1, σ1, H1, s1, i, c⟩).run _ s9 σ8 H9 _ (inv_xe xe I9) q9) (fun z s10 ⟨yv, H10, I10, r10, acc, hD10, hz10, nx⟩ => ?_) out
        exact app_ok (X := X.blk s3 H3 scope ce fp) (inv_xe (X := blkX X s3 H3 scope ce fp xe) (fun _ _ => False) I10) hD10 hz10 r10 fun s11 I11 => fin I11 nx
  exact codeAny_compStart_list loop (T.self X.A 0 _ _ _ st4 loop)
/-- as a value -/
theorem pe_lcX {E : XK} {elt tg iter : Expr} {ifs : List Expr} {scope : Scope} {own : List (Str × Nat)} {pos : Pos} {wi : TI} {g : TG} {tt : TT} {te : TE}
    (hs0 : X.stack = X.env :: X.outer) (hf : X.env.frame = some X.env.locals) (tk : L2N.Takes X (fun cls d _ H => E cls d H)) (hc : X.calm = true) (hN : X.N.Nodup) (hi : PI X tg iter wi) (ok : BlkOk X.N X.env.scope scope own)
    (hg : ∀ (s : Shared) (H : Hp) (C : Addr) (cl : List (Str × Addr)) (fp : List Addr), PG (X.blk s H scope (compEnvC scope cl C X.env) fp) tg g) (ht : ∀ (s : Shared) (H : Hp) (C : Addr) (cl : List (Str × Addr)) (fp : List Addr), PTs (X.blk s H scope (compEnvC scope cl C X.env) fp) ifs tt)
    (he : ∀ (s : Shared) (H : Hp) (C : Addr) (cl : List (Str × Addr)) (fp : List Addr) (xe : Value → Shared → Prop), Out X s H scope (compEnvC scope cl C X.env) fp E xe → PE (blkX X s H scope (compEnvC scope cl C X.env) fp xe) elt te) (hs : ∀ x, foldedSetIterable iter X.env x = pure x := by intro _; rfl) :
    PE X (.ListComp elt [⟨tg, iter, ifs, 0⟩] scope pos) (tLc wi g tt te (own.map (·.2))) := by
  refine ⟨fun pins s σ H Q I h => ?_⟩
  rw [eval_ListComp]
  refine lcx_core hs0 hf tk hc hN I hi ok hg ht he hs h fun D C s' m H' I' q hn f => ⟨m, hn, fun h2 sb => ?_⟩
  obtain ⟨f0, f1, f2, f3, f4, f5⟩ := f
  exact ⟨.ref D, H', I'.turned (t' := s'.toks) (fun b o hb e => (sb.2 b hb).trans e) f0 f1 f3 f4 f5, rfl, q⟩
/-- a name is set to it, on one line -/
theorem ps_setLcX {E : XK} {i : Nat} {y : Str} {py : Pos} {elt tg iter : Expr} {ifs : List Expr} {scope : Scope} {own : List (Str × Nat)} {pos spos : Pos} {wi : TI} {g : TG} {tt : TT} {te : TE}
    (hs0 : X.stack = X.env :: X.outer) (hf : X.env.frame = some X.env.locals) (tk : L2N.Takes X (fun cls d _ H => E cls d H)) (hc : X.calm = true) (hN : X.N.Nodup) (hy : X.N[i]? = some y) (hyl : X.env.scope.names.lookup y = some .local)
    (hsw : swapsWith (.ListComp elt [⟨tg, iter, ifs, 0⟩] scope pos) (some (.Name y py)) spos.line X.env = pure true) (hi : PI X tg iter wi) (ok : BlkOk X.N X.env.scope scope own)
    (hg : ∀ (s : Shared) (H : Hp) (C : Addr) (cl : List (Str × Addr)) (fp : List Addr), PG (X.blk s H scope (compEnvC scope cl C X.env) fp) tg g) (ht : ∀ (s : Shared) (H : Hp) (C : Addr) (cl : List (Str × Addr)) (fp : List Addr), PTs (X.blk s H scope (compEnvC scope cl C X.env) fp) ifs tt)
    (he : ∀ (s : Shared) (H : Hp) (C : Addr) (cl : List (Str × Addr)) (fp : List Addr) (xe : Value → Shared → Prop), Out X s H scope (compEnvC scope cl C X.env) fp E xe → PE (blkX X s H scope (compEnvC scope cl C X.env) fp xe) elt te) (hs : ∀ x, foldedSetIterable iter X.env x = pure x := by intro _; rfl) :
    PS X (.Assign [.Name y py] (.ListComp elt [⟨tg, iter, ifs, 0⟩] scope pos) spos) (tAsg (tLc wi g tt te (own.map (·.2))) (gName i)) := by
  refine ⟨fun pins s σ H D I h => ?_⟩
  rw [exec_Assign_Name_used _ _ _ _ hsw]
  refine wpAny_bind (wpAny_standAt (wpAny_bind ?_))
  have h : tLc wi g tt te (own.map (·.2)) σ H (fun x H1 => gName i x σ H1 D.nx) := h
  refine wpAny_bind (thn (lcx_core (Qf := fun _ s' => SP X pins D .next s') hs0 hf tk hc hN I hi ok hg ht he hs h fun L C s' m H' I' q hn f => ?_) fun _ s' hq => wpAny_pure (wpAny_pure hq))
  obtain ⟨f0, f1, f2, f3, f4, f5⟩ := f
  show wpAny _ _ (assign (.Name y py) X.env (.ref L)) _ _ _
  refine wpAny_assign_Name (store_ok2 (v := V.ref L) I' hN hy (.inl hyl) rfl (fun s2 I2 ⟨a, sb, ha⟩ => ⟨m, hn.sameBut sb ?_, fun h3 sb3 => ⟨_, H', I2.turned (t' := s2.toks) (fun b o hb e => (sb3.2 b hb).trans e) f0 f1 f3 f4 f5, q⟩⟩) (.inr hyl))
  rcases ha with z | z
  · rw [z]; exact f1
  · exact fun e => f4 y a z e.symm
end
/-- a def called in such a block -/
theorem pe_dfX {X : Cx} {s : Shared} {H : Hp} {scope : Scope} {ce : Env} {fp : List Addr} {E : XK} {xe : Value → Shared → Prop} {k : Nat} {ps : List Str} {sp : Sp} {x : Str} {p pos : Pos} {e : Expr} {es : List Expr} {t : TA} (F : Df X.prog X.w X.K X.mg X.base k x ps sp) (hr : Room k X.A) (o : Out X s H scope ce fp E xe)
    (ha : PA (blkX X s H scope ce fp xe) (e :: es) t) (hg : Gl (blkX X s H scope ce fp xe) x := by rfl) (hdb : (x == ("__debug__" : Str)) = false := by decide) (he : starEach (e :: es) ce = (false, eval e ce) :: starEach es ce := by rfl) (hpl : (backTo pos (starEach es ce)).any (·.1) = false := by rfl) :
    PE (blkX X s H scope ce fp xe) (.Call (.Name x p) (e :: es) [] pos) (tCallS sp (fun _ => E) t) := by
  obtain ⟨f, fd, F1, F2, F3, F4⟩ := F.ex
  exact pe_callS (X := blkX X s H scope ce fp xe) F1 hr hg F2 F3 F4 (fun σ pins H1 s1 u s2 I c => o pins σ H1 s1 u s2 (inv_xe (X := blkX X s H scope ce fp xe) (fun _ _ => False) I) c) ha hdb he hpl
end U

/-! ## within an except suite: walks over lists, unpacking, comprehensions, defs -/
namespace U
open PySem PySem.Spec PyProof.Rows L2 HotX
section
variable {prog : Program} {w : World} {A : Around} {E : Value → Shared → Prop} {s : Shared}
/-- an iterator of two fields is no exception with a context -/
theorem hot_ne {x1 it a : Addr} {i : Int} {o1 o : Obj} {vs1 : Array Value} {c : Value} (h1 : s.heap.get? x1 = some o1) (d1 : o1.data = .fields vs1) (c1 : vs1[2]? = some c) (ho : s.heap.get? it = some o) (hd : o.data = .fields #[.ref a, .int i 0]) : x1 ≠ it := fun z => by
  rw [z, ho] at h1
  cases h1
  rw [hd] at d1
  cases d1
  simp at c1
theorem list_end_hot {it l x1 : Addr} {i : Nat} {items : Array Value} {Q : Option Value → Shared → Prop} (hot : HotAt A x1 s.heap) (hit : s.heap.IsListIter it l i) (hl : s.heap.IsList l items) (hx : items[i]? = none)
    (hQ : ∀ h', (∀ b o, b ≠ it → s.heap.get? b = some o → h'.get? b = some o) → Q none { s with heap := h' }) : wpAny (model prog w) A (pyNext (.ref it)) Q E s := by
  obtain ⟨hh, o1, vs1, h1, d1, c1⟩ := hot
  obtain ⟨o, ho, hc, hd⟩ := id hit
  obtain ⟨ol, hol, _, nl, hdl⟩ := hl
  have ne := hot_ne h1 d1 c1 ho hd
  unfold pyNext
  refine wpAny_bind (wpAny_attempt (wpAny_callSpecial?_slot (name := Str.ofString "__next__") hit.typeIs slot_listiter_next (wpAny_call_entry slot_listiter_next hit.typeIs entry_listiter_next ?_ (args_listiter_next _))))
  refine (show wpAny _ _ (field (.ref it) 0 >>= _) _ _ s from wpAny_bind (wpAny_field ho hd (x := .ref l) rfl ?_))
  show wpAny _ _ (if (Value.ref l == Value.none) = true then _ else _) _ _ s
  have nn : ¬ ((Value.ref l == Value.none) = true) := Bool.false_ne_true
  rw [if_neg nn]
  refine (show wpAny _ _ (field (.ref it) 1 >>= _) _ _ s from wpAny_bind (wpAny_field ho hd (x := .int i 0) rfl ?_))
  refine (show wpAny _ _ (seqItems? (.ref l) >>= _) _ _ s from wpAny_bind (wpAny_seqItems hol hdl ?_))
  simp only [Int.toNat_natCast, hx]
  refine wpAny_bind (wpAny_rule (wpAny_bind (wpAny_setField ho hd (by simp) ?_)))
  refine (show wpAny _ _ (newExc (.type "StopIteration") [] >>= _) _ _ _ from wpAny_bind ?_)
  simp only [newExc, newTuple]
  refine wpAny_bind (wpAny_newObj_type (wpAny_bind (m := firstArgMember _ _) (wpAny_of_eq (a := Value.none) (by first | rfl | (simp only [firstArgMember]; rfl)) (wpAny_newObj_type ?_ (by size_fits)))) (by size_fits))
  have k1 : ∀ {b : Addr} {u : Obj}, b ≠ it → s.heap.get? b = some u → (s.heap.update it (Obj.mapFields (·.setIfInBounds 0 .none))).get? b = some u := fun nb e => by rw [Heap.get?_update_other _ _ (Ne.symm nb)]; exact e
  refine raiseNew_hot ⟨hh, o1, vs1, Heap.get?_push_of_some _ (Heap.get?_push_of_some _ (k1 ne h1)), d1, c1⟩ (Nat.ne_of_lt (Heap.lt_size (Heap.get?_push_of_some _ (k1 ne h1)))) (Heap.get?_push_size _ rfl) rfl (by first | (simp; done) | (simp; omega) | (simp only [Array.size_append]; simp; omega)) ?_
  refine wpAny_bind (wpAny_isInstance (T := "StopIteration") (b := true) ⟨_, Heap.get?_update_self _ (Heap.get?_push_size _ rfl) rfl, rfl⟩ isSubtype_stop (wpAny_pure (hQ _ fun b u nb e => ?_)))
  rw [Heap.get?_update_other _ _ (Nat.ne_of_gt (Heap.lt_size (Heap.get?_push_of_some _ (k1 nb e))))]
  exact Heap.get?_push_of_some _ (Heap.get?_push_of_some _ (k1 nb e))
theorem tup_end_hot {it l x1 : Addr} {i : Nat} {items : Array Value} {Q : Option Value → Shared → Prop} (hot : HotAt A x1 s.heap) (hit : IsTupIter s.heap it l i) (ht : IsTup s.heap l items) (hx : items[i]? = none)
    (hQ : ∀ h', (∀ b o, b ≠ it → s.heap.get? b = some o → h'.get? b = some o) → Q none { s with heap := h' }) : wpAny (model prog w) A (pyNext (.ref it)) Q E s := by
  obtain ⟨hh, o1, vs1, h1, d1, c1⟩ := hot
  obtain ⟨o, ho, hc, hd⟩ := id hit
  obtain ⟨ol, hol, _, nl, hdl⟩ := ht
  have ne := hot_ne h1 d1 c1 ho hd
  unfold pyNext
  refine wpAny_bind (wpAny_attempt (wpAny_callSpecial?_slot (name := Str.ofString "__next__") hit.typeIs slot_tupleiter_next (wpAny_call_entry slot_tupleiter_next hit.typeIs entry_tupleiter_next ?_ (args_tupleiter_next _))))
  refine (show wpAny _ _ (field (.ref it) 0 >>= _) _ _ s from wpAny_bind (wpAny_field ho hd (x := .ref l) rfl ?_))
  show wpAny _ _ (if (Value.ref l == Value.none) = true then _ else _) _ _ s
  have nn : ¬ ((Value.ref l == Value.none) = true) := Bool.false_ne_true
  rw [if_neg nn]
  refine (show wpAny _ _ (field (.ref it) 1 >>= _) _ _ s from wpAny_bind (wpAny_field ho hd (x := .int i 0) rfl ?_))
  refine (show wpAny _ _ (seqItems? (.ref l) >>= _) _ _ s from wpAny_bind (wpAny_seqItems hol hdl ?_))
  simp only [Int.toNat_natCast, hx]
  refine wpAny_bind (wpAny_rule (wpAny_bind (wpAny_setField ho hd (by simp) ?_)))
  refine (show wpAny _ _ (newExc (.type "StopIteration") [] >>= _) _ _ _ from wpAny_bind ?_)
  simp only [newExc, newTuple]
  refine wpAny_bind (wpAny_newObj_type (wpAny_bind (m := firstArgMember _ _) (wpAny_of_eq (a := Value.none) (by first | rfl | (simp only [firstArgMember]; rfl)) (wpAny_newObj_type ?_ (by size_fits)))) (by size_fits))
  have k1 : ∀ {b : Addr} {u : Obj}, b ≠ it → s.heap.get? b = some u → (s.heap.update it (Obj.mapFields (·.setIfInBounds 0 .none))).get? b = some u := fun nb e => by rw [Heap.get?_update_other _ _ (Ne.symm nb)]; exact e
  refine raiseNew_hot ⟨hh, o1, vs1, Heap.get?_push_of_some _ (Heap.get?_push_of_some _ (k1 ne h1)), d1, c1⟩ (Nat.ne_of_lt (Heap.lt_size (Heap.get?_push_of_some _ (k1 ne h1)))) (Heap.get?_push_size _ rfl) rfl (by first | (simp; done) | (simp; omega) | (simp only [Array.size_append]; simp; omega)) ?_
  refine wpAny_bind (wpAny_isInstance (T := "StopIteration") (b := true) ⟨_, Heap.get?_update_self _ (Heap.get?_push_size _ rfl) rfl, rfl⟩ isSubtype_stop (wpAny_pure (hQ _ fun b u nb e => ?_)))
  rw [Heap.get?_update_other _ _ (Nat.ne_of_gt (Heap.lt_size (Heap.get?_push_of_some _ (k1 nb e))))]
  exact Heap.get?_push_of_some _ (Heap.get?_push_of_some _ (k1 nb e))
/-- a tuple unpacked there -/
theorem unpack_hot {env : Env} {elts : List Expr} {k : Nat} {pos : Pos} {t x1 : Addr} {items : Array Value} {Q : Unit → Shared → Prop} (hot : HotAt A x1 s.heap) (ht : IsTup s.heap t items) (hn : (assignEach elts env).length = items.size) (hst : (assignEach elts env).findIdx? (·.1) = none)
    (h : ∀ h', (∀ b o, s.heap.get? b = some o → h'.get? b = some o) → wpAny (model prog w) A (assignInOrder ((assignEach elts env).map (·.2)) items.toList) Q E { s with heap := h' }) : wpAny (model prog w) A (assign (.Tuple elts k pos) env (.ref t)) Q E s := by
  have old : ∀ {b : Addr} {o : Obj}, s.heap.get? b = some o → b ≠ s.heap.objs.size := fun e => Nat.ne_of_lt (Heap.lt_size e)
  have nt : t ≠ s.heap.objs.size := let ⟨o, e, _⟩ := ht; old e
  obtain ⟨hh, o1, vs1, h1, d1, c1⟩ := hot
  rw [assign_Tuple]
  refine wpAny_bind (wpAny_standAt ?_)
  unfold unpack
  rw [hn, hst]
  refine wpAny_bind (wpAny_holding ?_)
  unfold unpackItems
  refine wpAny_bind ?_
  unfold notIterableAtAll
  refine wpAny_bind (wpAny_specialOf ht.typeIs slot_tuple_iter.lookup (wpAny_pure ?_))
  simp only [Bool.false_eq_true, if_false]
  refine wpAny_bind (wpAny_holding (iter_tuple ht (wpAny_bind (wpAny_holding (draw_tuple nt items.size 0 _ _ ⟨_, Heap.get?_push_size _ rfl, rfl, rfl⟩ (ht.push _) (by omega) fun h2 hit2 sb2 => ?_)))))
  have all : List.take items.size (List.drop 0 items.toList) = items.toList := by rw [List.drop_zero, List.take_of_length_le (by simp)]
  rw [all, if_neg (by simp)]
  have k2 : ∀ {b : Addr} {o : Obj}, s.heap.get? b = some o → h2.get? b = some o := fun e => (sb2.2 _ (old e)).trans (Heap.get?_push_of_some _ e)
  refine wpAny_bind (wpAny_holding (tup_end_hot ⟨hh, o1, vs1, k2 h1, d1, c1⟩ hit2 ((ht.push _).extBut sb2.extBut nt) (by simp) fun h3 k3 => ?_))
  simp only [Option.isSome_none, Bool.false_eq_true, if_false]
  exact wpAny_pure (h h3 fun b o e => k3 b o (old e) (k2 e))
end
open L2H
section
variable {X : Cx} {tg : Expr}
theorem pg_tupH {es : List Expr} {k : Nat} {t : TGs} {n : Nat} {pos : Pos} (hc : HotC X) (h : PGs X es t) (hn : (assignEach es X.env).length = n := by rfl) (hst : (assignEach es X.env).findIdx? (·.1) = none := by rfl) : PG X (.Tuple es k pos) (gTup X.K n t) := by
  refine ⟨fun pins s σ H v u Q I r hw => ?_⟩
  obtain ⟨a, xs, e1, hq, hl, hw⟩ := hw
  subst e1
  cases r
  obtain ⟨its, rv, ht, hz⟩ := I.tuple hq
  obtain ⟨x1, hot⟩ := hc.at I
  exact unpack_hot hot ht (by simp [hn, ← hl, rv.length]) hst fun h' hx => h.run pins _ σ H xs _ Q (I.kept (t' := s.toks) hx) (by simpa using rv) hw
theorem turn_listH {P : Program} {w : World} {K : PySem.W.Frag} {tg : Expr} (a it : Addr) : TurnH P w K tg (Itl K a) [it] it (fun i h => h.IsListIter it a i) where
  mem := by simp
  obj := fun i h st b hb => by
    obtain ⟨o, e, c, d⟩ := st
    exact ⟨o, by rw [show b = it by simpa using hb]; exact e, fun v z => by rw [d] at z; cases z⟩
  keep := fun i h h' st k => st.at fun o e => k it (by simp) o e
  item := by
    intro X hP hw hK hc i pins s σ H E I hf st hg
    subst hP hw hK
    obtain ⟨xs, x, hq, hx⟩ := hg
    obtain ⟨its, rv, p, hz⟩ := I.list hq
    obtain ⟨u, hu, ru⟩ := rv.get hx
    obtain ⟨f0, f1, f2, f3, f4, f5⟩ := hf it (by simp)
    refine wpAny_pyNext_list_item st p.isList (x := u) (by simpa using hu) fun h2 st2 sb => ?_
    have I2 : Inv X pins σ H { s with heap := h2 } := I.turned (t' := s.toks) (fun b o hb e => (sb.2 b hb).trans e) f0 f1 f3 f4 f5
    obtain ⟨o, e, c, d⟩ := id st2
    refine ⟨u, rfl, go_of (s := { s with heap := h2 }) e c d (by decide) ⟨x, H, I2, ru, ⟨rfl, fun ys hy => ?_⟩, st2, fun b hb => (hf b hb).1⟩⟩
    rw [I.list_inj hy hq]
    exact hx
  done := by
    intro X hP hw hK hc i pins s σ H E I hf st hg
    subst hP hw hK
    obtain ⟨xs, hq, hx⟩ := hg
    obtain ⟨its, rv, p, hz⟩ := I.list hq
    obtain ⟨f0, f1, f2, f3, f4, f5⟩ := hf it (by simp)
    have hl := rv.length
    obtain ⟨x1, hot⟩ := hc.at I
    exact list_end_hot hot st p.isList (by simp; omega) fun h2 eb => ⟨rfl, I.turned (t' := s.toks) eb f0 f1 f3 f4 f5⟩
  self := fun _ _ _ _ _ st h => wpAny_pyIter_listiter st h
theorem pi_listH {l : Expr} {tl : TE} (hl : PE X l tl) : PIH X tg l (iList X.K tl) := by
  refine ⟨fun pins s σ H R I h => ?_⟩
  refine thn (hl.run pins s σ H _ I h) fun v s1 ⟨x, H1, I1, r1, a, e, ⟨xs, hq⟩, q⟩ => ?_
  subst e
  cases r1
  obtain ⟨its, rv, p, hz⟩ := I1.list hq
  refine wpAny_pyIter_list p.isList ⟨s1.heap.objs.size, [s1.heap.objs.size], _, _, H1, rfl, I1.kept (t' := s1.toks) fun b o e => Heap.get?_push_of_some _ e, turn_listH a _, ⟨_, Heap.get?_push_size _ rfl, rfl, rfl⟩, fun b hb => ?_, q⟩
  rw [show b = s1.heap.objs.size by simpa using hb]
  exact I1.fpOk (Nat.le_refl _) (I1.hok.fresh (Nat.le_refl _))
end
/-! ### comprehensions there -/
abbrev blkH (X : Cx) (s : Shared) (H : Hp) (scope : Scope) (ce : Env) (fp : List Addr) : Cx := { X.blk s H scope ce fp with pn := X.pn }
theorem inv_pn {X : Cx} {pins : List (Addr × Obj)} {σ : L2.St} {H : Hp} {s : Shared} (pn : List (Addr × Obj)) (I : Inv X pins σ H s) (h : ∀ p ∈ pn ++ pins, s.heap.get? p.1 = some p.2 ∧ H p.1 = none ∧ p.1 ≠ X.env.locals ∧ p.1 ∉ X.fs ∧ ∀ v, p.2.data ≠ .cell v) : Inv { X with pn := pn } pins σ H s :=
  ⟨⟨I.ok.mod, I.ok.kind, I.ok.glob, I.ok.blt, I.ok.above, I.ok.inj, I.ok.has, I.ok.cab, I.ok.hd, I.ok.frames, I.ok.stk, I.ok.exf, I.ok.bs, I.ok.bsz, I.ok.noex, I.ok.exfs, I.ok.funs, I.ok.frf⟩, I.os, I.bare, I.base, I.loc, I.cell, I.free, I.freeC, h, I.hok, I.len⟩
section
variable {X : Cx}
theorem HotC.blk {s : Shared} {H : Hp} {scope : Scope} {ce : Env} {fp : List Addr} (hc : HotC X) : HotC (blkH X s H scope ce fp) := hc
theorem lch_core {pins : List (Addr × Obj)} {s : Shared} {σ : L2.St} {H : Hp} {Q : VK} {elt tg iter : Expr} {ifs : List Expr} {scope : Scope} {own : List (Str × Nat)} {pos pos' : Pos} {wi : TI} {g : TG} {tt : TT} {te : TE} {use : Option (Value → Sem Unit)} {Qf : Value → Shared → Prop}
    (hc : HotC X) (hN : X.N.Nodup) (I : Inv X pins σ H s) (hi : PIH X tg iter wi) (ok : BlkOk X.N X.env.scope scope own)
    (hg : ∀ (s : Shared) (H : Hp) (C : Addr) (cl : List (Str × Addr)) (fp : List Addr), PG (blkH X s H scope (compEnvC scope cl C X.env) fp) tg g) (ht : ∀ (s : Shared) (H : Hp) (C : Addr) (cl : List (Str × Addr)) (fp : List Addr), PTs (blkH X s H scope (compEnvC scope cl C X.env) fp) ifs tt)
    (he : ∀ (s : Shared) (H : Hp) (C : Addr) (cl : List (Str × Addr)) (fp : List Addr), PE (blkH X s H scope (compEnvC scope cl C X.env) fp) elt te) (hs : ∀ x, foldedSetIterable iter X.env x = pure x)
    (h : tLc wi g tt te (own.map (·.2)) σ H Q)
    (hRR : ∀ D C s' m H', Inv X pins σ H' s' → Q (.ref D) H' → s'.heap.Ns C m → FpOk X pins H' C → compPost (model X.prog X.w) X.A X.xe use Qf (.ref D) C (.ok .next) s') :
    wpAny (model X.prog X.w) X.A (comprehension (.ListComp elt [⟨tg, iter, ifs, 0⟩] scope pos) scope X.env pos' (newList []) false (eval iter X.env) use) Qf X.xe s := by
  have closed : ∀ y ∈ scope.names, y.2 = .free → ∃ c, X.env.cells.lookup y.1 = some c := fun y hy e => (ok.free y hy e).elim (fun k => I.ok.has _ (.inl k)) fun k => I.ok.has _ (.inr k)
  refine wpAny_comprehension_free (use := use) rfl hs (closure_ok closed) ok.kind (fun y hy e => by rw [ok.uniq y hy, e]) (thn (hi.run pins s σ H _ I h) fun xv s1 hx => thn hx fun itv s2 h2 => ?_)
  obtain ⟨it, fp, tn, J, H2, e, I2, T, st2, f2, q⟩ := h2
  subst e
  refine wpAny_newObj_type (newEnv_comp ?_) (by show 0 ≤ sizeLine; decide)
  generalize hD : s2.heap.objs.size = D
  obtain ⟨W, ⟨m0, w0⟩, turn⟩ := q D (I2.hok.fresh (Nat.le_of_eq hD))
  generalize hs3 : ({ s2 with heap := s2.heap.push { cls := .type "list", data := .seq ([] : List Value).toArray } } : Shared) = s3
  have h3 : s3.heap = s2.heap.push { cls := .type "list", data := .seq ([] : List Value).toArray } := by rw [← hs3]
  have kept3 : ∀ b o, s2.heap.get? b = some o → s3.heap.get? b = some o := fun b o e => by rw [h3]; exact Heap.get?_push_of_some _ e
  have I3 : Inv X pins σ (upd H2 D (.lst [])) s3 := by
    rw [← hs3]
    refine I2.laid (t' := s2.toks) (fun b o e => Heap.get?_push_of_some _ e) (Nat.le_of_eq hD) ⟨Nat.zero_le _, [], 0, .nil, ?_⟩
    rw [← hD]
    exact Heap.get?_push_size _ rfl
  have f3 : ∀ b ∈ fp, FpOk X pins (upd H2 D (.lst [])) b ∧ b < s3.heap.objs.size := fun b hb => by
    obtain ⟨o, e, _⟩ := T.obj _ _ st2 b hb
    have lt := Heap.lt_size e
    refine ⟨⟨?_, (f2 b hb).2⟩, Heap.lt_size (kept3 b o e)⟩
    rw [upd_ne (by rw [← hD]; exact Nat.ne_of_lt lt)]
    exact (f2 b hb).1
  have st3 : tn 0 s3.heap := T.keep _ _ _ st2 fun b _ o e => kept3 b o e
  have I4' := block_start I3 ok hN f3
  have pinH : ∀ p ∈ X.pn ++ ([] : List (Addr × Obj)), s3.heap.get? p.1 = some p.2 ∧ (upd H2 D (.lst [])) p.1 = none ∧ p.1 ∉ frs X.stack ∧ (∀ v, p.2.data ≠ .cell v) ∧ p.1 ≠ s3.heap.objs.size := fun p hp => by
    have hp' : p ∈ X.pn ++ pins := List.mem_append_left _ (by simpa using hp)
    obtain ⟨a1, a2, a3, a4, a5⟩ := I3.pin p hp'
    exact ⟨a1, a2, fun hm => (List.mem_cons.mp (I3.stkSub p.1 hm)).elim a3 a4, a5, Nat.ne_of_lt (Heap.lt_size a1)⟩
  have pg := hg s3 (upd H2 D (.lst [])) s3.heap.objs.size (cellsFrom (s3.heap.objs.size + 1) scope.names (cloFrom X.env.cells scope.names [])) fp
  have pt := ht s3 (upd H2 D (.lst [])) s3.heap.objs.size (cellsFrom (s3.heap.objs.size + 1) scope.names (cloFrom X.env.cells scope.names [])) fp
  have pe := he s3 (upd H2 D (.lst [])) s3.heap.objs.size (cellsFrom (s3.heap.objs.size + 1) scope.names (cloFrom X.env.cells scope.names [])) fp
  show codeAny _ _ (.compStart (.ListComp elt [⟨tg, iter, ifs, 0⟩] scope pos) 0 (.ref it) (.ref D) (compEnvC scope (cellsFrom (s3.heap.objs.size + 1) scope.names (cloFrom X.env.cells scope.names [])) s3.heap.objs.size X.env)) (compPost (model X.prog X.w) X.A X.xe use Qf (.ref D) s3.heap.objs.size) { s3 with heap := pushCells (s3.heap.push { cls := .type "dict", data := .dict #[] }) scope.names }
  have nfp : ∀ b ∈ fp, (upd H2 D (.lst [])) b = none := fun b hb => (f3 b hb).1.1
  generalize hce : compEnvC scope (cellsFrom (s3.heap.objs.size + 1) scope.names (cloFrom X.env.cells scope.names [])) s3.heap.objs.size X.env = ce at I4' pg pt pe ⊢
  have cL : ce.locals = s3.heap.objs.size := by subst hce; rfl
  have I4 : Inv (blkH X s3 (upd H2 D (.lst [])) scope ce fp) [] (wipe σ (own.map (·.2))) (upd H2 D (.lst [])) { s3 with heap := pushCells (s3.heap.push { cls := .type "dict", data := .dict #[] }) scope.names } := by
    refine inv_pn (X := X.blk s3 (upd H2 D (.lst [])) scope ce fp) X.pn I4' fun p hp => ?_
    obtain ⟨a1, a2, a3, a4, a5⟩ := pinH p hp
    exact ⟨pushCells_keeps _ _ _ _ (Heap.get?_push_of_some _ a1), a2, by show p.1 ≠ ce.locals; rw [cL]; exact a5, a3, a4⟩
  generalize hH3 : upd H2 D (.lst []) = H3 at I3 I4 pg pt pe w0 nfp f3
  generalize hs4 : ({ s3 with heap := pushCells (s3.heap.push { cls := .type "dict", data := .dict #[] }) scope.names } : Shared) = s4 at I4 ⊢
  have st4 : tn 0 s4.heap := T.keep _ _ _ st3 fun b _ o e => by rw [← hs4]; exact pushCells_keeps _ _ _ _ (Heap.get?_push_of_some _ e)
  have chan : ∀ b ∈ fp, (b ∈ X.ex ∨ X.s_0.heap.objs.size ≤ b) ∧ b ≠ X.env.locals ∧ (∀ x c, X.env.cells.lookup x = some c → c ≠ b) ∧ ∀ p ∈ X.pn ++ pins, p.1 ≠ b := fun b hb => ⟨(f3 b hb).1.2.2.2.1, (f3 b hb).1.2.1, (f3 b hb).1.2.2.2.2.1, (f3 b hb).1.2.2.2.2.2⟩
  have stat : ∀ {σ' : L2.St} {H' : Hp} {s' : Shared}, Inv (blkH X s3 H3 scope ce fp) [] σ' H' s' → (∀ b ∈ fp, H' b = none) → ∀ b ∈ fp, FpOk (blkH X s3 H3 scope ce fp) [] H' b := fun {σ' H' s'} I' hn b hb =>
    ⟨hn b hb, (I'.ok.exf b hb).1, I'.ok.exfs b hb, .inl hb, fun x c e => (I'.ok.exf b hb).2 x c e, fun p hp => (chan b hb).2.2.2 p (List.mem_append_left _ (by simpa using hp))⟩
  have hcb : HotC (blkH X s3 H3 scope ce fp) := hc
  have loop : codeAny (model X.prog X.w) X.A (.compLoop (.ListComp elt [⟨tg, iter, ifs, 0⟩] scope pos) 0 (.ref it) (.ref D) ce) (compPost (model X.prog X.w) X.A X.xe use Qf (.ref D) s3.heap.objs.size) s4 := by
    refine compLoop_any (fun n s' => ∃ i H', Inv (blkH X s3 H3 scope ce fp) [] (wipe σ (own.map (·.2))) H' s' ∧ tn i s'.heap ∧ (∀ b ∈ fp, H' b = none) ∧ W i n H') ?_ m0 ⟨0, H3, I4, st4, nfp, w0⟩
    rintro n s5 ⟨i, H5, I5, st5, n5, w5⟩
    rcases turn i n H5 w5 with ⟨stop, qq⟩ | ⟨go, Nx, hNx, step⟩
    · refine thnF (T.done (blkH X s3 H3 scope ce fp) rfl rfl rfl hcb i [] s5 _ H5 (fun _ _ => False) I5 (stat I5 n5) st5 stop) fun r s6 ⟨hr, I6⟩ => ?_
      subst hr
      have nC : H5 ce.locals = none := I6.free
      obtain ⟨m, hn, _⟩ := I6.loc
      have hn : s6.heap.Ns ce.locals m := hn
      rw [cL] at hn nC
      exact hRR D s3.heap.objs.size s6 m H5 (I3.call' (ch := fp) I6.os I6.base I6.hok I6.bare chan) qq hn (I3.fpOk (Nat.le_refl _) nC)
    · refine thnF (T.item (blkH X s3 H3 scope ce fp) rfl rfl rfl hcb i [] s5 _ H5 (fun _ _ => False) I5 (stat I5 n5) st5 go) fun r s6 ⟨u, hr, h6⟩ => ?_
      subst hr
      refine thnF h6 fun _ s7 ⟨x, H7, I7, r7, y7, st7, n7⟩ => ?_
      refine thnF (pg.run _ s7 _ H7 x u _ (I7.pinned (stat I7 n7) (T.obj _ _ st7)) r7 (step x H7 y7)) fun _ s8 ⟨σ8, H8, I8, hw8, q8⟩ => ?_
      refine thnF (pt.run _ s8 σ8 H8 _ I8 q8) fun b s9 ⟨H9, I9, q9⟩ => ?_
      have fin : ∀ {s' : Shared} {H' : Hp}, Inv (blkH X s3 H3 scope ce fp) ([] ++ pinsAt fp s7.heap) σ8 H' s' → Nx H' → ∃ m, m < n ∧ ∃ i H', Inv (blkH X s3 H3 scope ce fp) [] (wipe σ (own.map (·.2))) H' s' ∧ tn i s'.heap ∧ (∀ b ∈ fp, H' b = none) ∧ W i m H' := fun {s' H'} I' nx => by
        obtain ⟨m', hm, w'⟩ := hNx H' nx
        have pin' : ∀ b ∈ fp, ∀ o, s7.heap.get? b = some o → s'.heap.get? b = some o ∧ H' b = none := fun b hb o e =>
          let z := I'.pin (b, o) (List.mem_append_right _ (List.mem_append_right _ (mem_pinsAt hb e)))
          ⟨z.1, z.2.1⟩
        refine ⟨m', hm, i + 1, H', (I'.unpinned (pins := [])).weak (by rw [← hw8, wipe_length]) (fun j v e => ?_), T.keep _ _ _ st7 fun b hb o e => (pin' b hb o e).1, fun b hb => ?_, w'⟩
        · rw [← hw8] at e
          exact (wipe_some e).1
        · obtain ⟨o, e, _⟩ := T.obj _ _ st7 b hb
          exact (pin' b hb o e).2
      cases b with
      | false =>
        simp only [Bool.false_eq_true, if_false] at q9 ⊢
        exact fin I9 q9
      | true =>
        simp only [if_true] at q9 ⊢
        refine thnF (pe.run _ s9 σ8 H9 _ I9 q9) fun z s10 ⟨yv, H10, I10, r10, acc, hD10, hz10, nx⟩ => ?_
        exact app_ok (X := blkH X s3 H3 scope ce fp) I10 hD10 hz10 r10 fun s11 I11 => fin I11 nx
  exact codeAny_compStart_list loop (T.self X.A 0 _ _ _ st4 loop)
theorem pe_lcH {elt tg iter : Expr} {ifs : List Expr} {scope : Scope} {own : List (Str × Nat)} {pos : Pos} {wi : TI} {g : TG} {tt : TT} {te : TE} (hc : HotC X) (hN : X.N.Nodup) (hi : PIH X tg iter wi) (ok : BlkOk X.N X.env.scope scope own)
    (hg : ∀ (s : Shared) (H : Hp) (C : Addr) (cl : List (Str × Addr)) (fp : List Addr), PG (blkH X s H scope (compEnvC scope cl C X.env) fp) tg g) (ht : ∀ (s : Shared) (H : Hp) (C : Addr) (cl : List (Str × Addr)) (fp : List Addr), PTs (blkH X s H scope (compEnvC scope cl C X.env) fp) ifs tt)
    (he : ∀ (s : Shared) (H : Hp) (C : Addr) (cl : List (Str × Addr)) (fp : List Addr), PE (blkH X s H scope (compEnvC scope cl C X.env) fp) elt te) (hs : ∀ x, foldedSetIterable iter X.env x = pure x := by intro _; rfl) :
    PE X (.ListComp elt [⟨tg, iter, ifs, 0⟩] scope pos) (tLc wi g tt te (own.map (·.2))) := by
  refine ⟨fun pins s σ H Q I h => ?_⟩
  rw [eval_ListComp]
  refine lch_core hc hN I hi ok hg ht he hs h fun D C s' m H' I' q hn f => ⟨m, hn, fun h2 sb => ?_⟩
  obtain ⟨f0, f1, f2, f3, f4, f5⟩ := f
  exact ⟨.ref D, H', I'.turned (t' := s'.toks) (fun b o hb e => (sb.2 b hb).trans e) f0 f1 f3 f4 f5, rfl, q⟩
theorem ps_setLcH {i : Nat} {y : Str} {py : Pos} {elt tg iter : Expr} {ifs : List Expr} {scope : Scope} {own : List (Str × Nat)} {pos spos : Pos} {wi : TI} {g : TG} {tt : TT} {te : TE} (hc : HotC X) (hN : X.N.Nodup) (hy : X.N[i]? = some y) (hyl : X.env.scope.names.lookup y = some .local)
    (hsw : swapsWith (.ListComp elt [⟨tg, iter, ifs, 0⟩] scope pos) (some (.Name y py)) spos.line X.env = pure true) (hi : PIH X tg iter wi) (ok : BlkOk X.N X.env.scope scope own)
    (hg : ∀ (s : Shared) (H : Hp) (C : Addr) (cl : List (Str × Addr)) (fp : List Addr), PG (blkH X s H scope (compEnvC scope cl C X.env) fp) tg g) (ht : ∀ (s : Shared) (H : Hp) (C : Addr) (cl : List (Str × Addr)) (fp : List Addr), PTs (blkH X s H scope (compEnvC scope cl C X.env) fp) ifs tt)
    (he : ∀ (s : Shared) (H : Hp) (C : Addr) (cl : List (Str × Addr)) (fp : List Addr), PE (blkH X s H scope (compEnvC scope cl C X.env) fp) elt te) (hs : ∀ x, foldedSetIterable iter X.env x = pure x := by intro _; rfl) :
    PS X (.Assign [.Name y py] (.ListComp elt [⟨tg, iter, ifs, 0⟩] scope pos) spos) (tAsg (tLc wi g tt te (own.map (·.2))) (gName i)) := by
  refine ⟨fun pins s σ H D I h => ?_⟩
  rw [exec_Assign_Name_used _ _ _ _ hsw]
  refine wpAny_bind (wpAny_standAt (wpAny_bind ?_))
  have h : tLc wi g tt te (own.map (·.2)) σ H (fun x H1 => gName i x σ H1 D.nx) := h
  refine wpAny_bind (thn (lch_core (Qf := fun _ s' => SP X pins D .next s') hc hN I hi ok hg ht he hs h fun L C s' m H' I' q hn f => ?_) fun _ s' hq => wpAny_pure (wpAny_pure hq))
  obtain ⟨f0, f1, f2, f3, f4, f5⟩ := f
  show wpAny _ _ (assign (.Name y py) X.env (.ref L)) _ _ _
  refine wpAny_assign_Name (store_ok2 (v := V.ref L) I' hN hy (.inl hyl) rfl (fun s2 I2 ⟨a, sb, ha⟩ => ⟨m, hn.sameBut sb ?_, fun h3 sb3 => ⟨_, H', I2.turned (t' := s2.toks) (fun b o hb e => (sb3.2 b hb).trans e) f0 f1 f3 f4 f5, q⟩⟩) (.inr hyl))
  rcases ha with z | z
  · rw [z]; exact f1
  · exact fun e => f4 y a z e.symm
end
/-! ### defs there -/
structure DfH (P : Program) (w : World) (K : PySem.W.Frag) (mg : Str → Option Value) (base : Heap) (k : Nat) (x : Str) (ps : List Str) (sp : Sp) : Prop where
  ex : ∃ f fd, FnH P w K mg base (L2N.CX P w) k f fd ps sp ∧ mg x = some (.ref f) ∧ PySem.W.keepIn K (.ref f) = true ∧ Binds K fd ps []
theorem pe_dfH {X : Cx} {k : Nat} {ps : List Str} {sp : Sp} {W : WX} {x : Str} {p pos : Pos} {e : Expr} {es : List Expr} {t : TA} (F : DfH X.prog X.w X.K X.mg X.base k x ps sp) (hr : RoomH k X.A) (hc : HotC X) (tk : L2N.Takes X W) (ha : PA X (e :: es) t) (hg : Gl X x := by rfl)
    (hdb : (x == ("__debug__" : Str)) = false := by decide) (he : starEach (e :: es) X.env = (false, eval e X.env) :: starEach es X.env := by rfl) (hpl : (backTo pos (starEach es X.env)).any (·.1) = false := by rfl) :
    PE X (.Call (.Name x p) (e :: es) [] pos) (tCallS sp (WE W) t) := by
  obtain ⟨f, fd, F1, F2, F3, F4⟩ := F.ex
  exact pe_callH F1 hr hc hg F2 F3 F4 (fun σ => L2N.passAt tk σ) ha hdb he hpl
section
variable {P : Program} {w : World} {K : PySem.W.Frag} {mg : Str → Option Value} {base : Heap}
theorem hot_cx {N : List Str} {qual : Str} {scope : Scope} {f : Addr} {cd : Value} {A : Around} {outer : List Env} {s : Shared} {H : Hp} {E : XK} {p : Addr × Obj} (h : Hot1 A p) : HotC (cxH (L2N.CX P w) P w K mg base N qual scope f cd A outer s H E p) := ⟨p, h, List.mem_singleton.mpr rfl⟩
theorem hot_suite {X : Cx} {a : Addr} {oe : Obj} {cls : Value} {d : Option Addr} {pn : List (Addr × Obj)} (hz : L2N.Zn cls d oe) (hf : ∃ vs, oe.data = .fields vs) : HotC (X.suite a ((a, oe) :: pn)) := by
  obtain ⟨vs, hd⟩ := hf
  exact ⟨(a, oe), ⟨rfl, vs, hd, hz.2.2 vs hd⟩, List.mem_cons_self⟩
theorem okWH {W : HR} {x qual : Str} {st : Stmt} {f : Addr} {fd : FuncData} {N ps : List Str} {k : Nat} {I : Type} {C : I → Prop} {fw : I → Way} (F : Fun K x qual st f fd) (S : FnScope N ps (defScope st)) (hlen : ∀ i, (fw i).Ps.length = ps.length) (hN : ps.length ≤ N.length)
    (body : ∀ (cdv : Value) (A : Around) (outer : List Env) (s : Shared) (H : Hp) (E : XK) (p : Addr × Obj), Hot1 A p → RoomH k (A.deeper (envOfC qual (defScope st) s.heap.objs.size f cdv)) →
      ∃ t, PSs (cxH (L2N.CX P w) P w K mg base N qual (defScope st) f cdv A outer s H E p) (defBody st) t ∧ ∀ i, C i → ∃ M, St (RsW W E (fw i).X N.length) (entry (fw i).Ps N.length) t M (fw i).P ∧ ∀ s H', Ty M s H' → (fw i).P .non H') :
    FnH P w K mg base (L2N.CX P w) (k + 1) f fd ps (SpW W C fw) := by
  obtain ⟨oc, od, kV, doc, pm, an, cdv, ct, osl, rfl, lk, hcd⟩ := F.ex
  refine fn_ofH lk hcd S (fun vs H Q E h => ?_) (fun A outer s H vs Q E p hp hr h => ?_)
  · obtain ⟨i, _, a, _⟩ := h
    rw [allp_len a, hlen]
  · obtain ⟨i, c, a, q, e⟩ := h
    obtain ⟨t, ht, hb⟩ := body cdv A outer s H E p hp hr
    obtain ⟨M, hs, hm⟩ := hb i c
    refine ⟨t, ht, hs _ H _ ?_ (fun s cls d H' x _ y => e cls d H' x y) (fun s' H' x ty => q _ H' x (hm s' H' ty)) q⟩
    have l1 := allp_len a
    have := ty_entry (n := N.length - (fw i).Ps.length) a
    unfold L2.start entry
    rw [l1]
    exact this
theorem dfH_of {x qual : Str} {st : Stmt} {f : Addr} {fd : FuncData} {ps : List Str} {k : Nat} {sp : Sp} (h : FnH P w K mg base (L2N.CX P w) k f fd ps sp) (F : Fun K x qual st f fd) (g : mg x = some (.ref f)) (b : Binds K fd ps []) : DfH P w K mg base k x ps sp := ⟨f, fd, h, g, F.kp, b⟩
end
theorem units_h {k : Nat} {A : Around} (r : RoomH k A) : A.units + 64 < cLine := by have := r.un; omega
theorem room_mark {k : Nat} {A : Around} {h : Option Value} (r : Room k A) : RoomH k (A.mark h) := ⟨r.dp, r.un⟩
section
variable {Y : Rs} [w : PreT Y.W] {G N : Ctx} {R : Pr} {K : PySem.W.Frag}
/-- a try with one clause that names nothing -/
theorem st_tryM {G' : Ctx} {X' : XP} {c : Value} {tb : WX → TS} {ts : Addr → Value → Option Addr → TS} {Wout : WX} (body : ∀ W : WX, St ⟨Y.W, WE W, G', X'⟩ G (tb W) N R)
    (hd : ∀ cls d H, X' cls d H → PySem.W.exmOne K cls c = some true ∧ ∀ a, St Y G' (ts a cls d) N R) : St Y G (fun D σ H => tb (wMany K Wout D [(c, ts)]) D σ H) N R := fun s H D ty hx n r =>
  body (wMany K Wout D [(c, ts)]) s H D ty (fun s' cls d H' w1 ty' x => by
    obtain ⟨e, k⟩ := hd cls d H' x
    exact ⟨true, e, fun _ a _ => k a _ H' _ ty' (hx.mono w1) (fun s2 H2 w2 t2 => n _ H2 (w.trans w1 w2) t2) (fun v H2 w2 p => r v H2 (w.trans w1 w2) p), fun z => nomatch z⟩) n r
end
end U

/-! ## things as data, compared; is of truths -/
namespace U
open PySem PySem.Spec PyProof.Rows L2
/-- P's things stand for the data d -/
def IsD (K : PySem.W.Frag) (P : Pr) (d : PyData) : Prop := ∀ v H, P v H → Dp K H v d
inductive All2 (K : PySem.W.Frag) : List Pr → List PyData → Prop
  | nil : All2 K [] []
  | cons {P : Pr} {d : PyData} {Ps : List Pr} {ds : List PyData} : IsD K P d → All2 K Ps ds → All2 K (P :: Ps) (d :: ds)
/-- small data that equals itself -/
structure Flat (k : Nat) (d : PyData) : Prop where
  lay : PyData.canLay0 d = true
  dep : PyData.depth d ≤ k
  same : PyData.eqv d d = true
theorem Flat.shaped {d : PyData} (h : Flat 60 d) : SeqAt.shaped d = true := by
  unfold SeqAt.shaped
  rw [h.lay, decide_eq_true (show PyData.depth d ≤ 64 by have := h.dep; omega)]
  rfl
theorem Flat.mono {k l : Nat} {d : PyData} (h : Flat k d) (e : k ≤ l) : Flat l d := ⟨h.lay, Nat.le_trans h.dep e, h.same⟩
theorem flat_int {k : Nat} {i : Int} : Flat k (.int i) := ⟨rfl, Nat.zero_le _, by unfold PyData.eqv; exact beq_self_eq_true i⟩
theorem flat_all {k : Nat} : ∀ {ds : List PyData}, (∀ d ∈ ds, Flat k d) → PyData.canLayAll0 ds = true ∧ PyData.depthAll ds ≤ k ∧ PyData.eqvAll ds ds = true
  | [], _ => ⟨rfl, Nat.zero_le _, by unfold PyData.eqvAll; rfl⟩
  | d :: ds, h => by
    obtain ⟨a, b, c⟩ := flat_all (ds := ds) fun e he => h e (List.mem_cons_of_mem _ he)
    obtain ⟨x, y, z⟩ := h d List.mem_cons_self
    refine ⟨?_, ?_, ?_⟩
    · unfold PyData.canLayAll0; rw [x, a]; rfl
    · unfold PyData.depthAll; exact Nat.max_le.mpr ⟨y, b⟩
    · unfold PyData.eqvAll; rw [z, c]; rfl
theorem flat_list {k : Nat} {ds : List PyData} (h : ∀ d ∈ ds, Flat k d) : Flat (k + 1) (.list ds) := by
  obtain ⟨a, b, c⟩ := flat_all h
  exact ⟨by unfold PyData.canLay0; exact a, by unfold PyData.depth; omega, by unfold PyData.eqv; exact c⟩
theorem flat_tup {k : Nat} {ds : List PyData} (h : ∀ d ∈ ds, Flat k d) : Flat (k + 1) (.tuple ds) := by
  obtain ⟨a, b, c⟩ := flat_all h
  exact ⟨by unfold PyData.canLay0; exact a, by unfold PyData.depth; omega, by unfold PyData.eqv; exact c⟩
section
variable {K : PySem.W.Frag}
theorem all2_dp : ∀ {Ps : List Pr} {ds : List PyData} {xs : List V} {H : Hp}, All2 K Ps ds → AllP Ps xs H → DpAll K H xs ds
  | [], [], [], _, .nil, _ => .nil
  | [], [], _ :: _, _, .nil, h => h.elim
  | _ :: _, _ :: _, [], _, .cons _ _, h => h.elim
  | _ :: _, _ :: _, x :: xs, H, .cons a r, h => .cons (a x H h.1) (all2_dp r h.2)
def eachD (n : Nat) (D : Nat → PyData) : List PyData := (List.range n).map D
theorem all2_map {P : Nat → Pr} {D : Nat → PyData} : ∀ {l : List Nat}, (∀ i ∈ l, IsD K (P i) (D i)) → All2 K (l.map P) (l.map D)
  | [], _ => .nil
  | i :: l, h => .cons (h i List.mem_cons_self) (all2_map fun j hj => h j (List.mem_cons_of_mem _ hj))
theorem all2_each {n : Nat} {P : Nat → Pr} {D : Nat → PyData} (h : ∀ i, i < n → IsD K (P i) (D i)) : All2 K (each n P) (eachD n D) := all2_map fun i hi => h i (List.mem_range.mp hi)
theorem eachD_mem {n : Nat} {D : Nat → PyData} {d : PyData} (h : d ∈ eachD n D) : ∃ i, i < n ∧ d = D i := by
  obtain ⟨i, hi, e⟩ := List.mem_map.mp h
  exact ⟨i, List.mem_range.mp hi, e.symm⟩
theorem isD_int {i : Int} : IsD K (Is (.int i)) (.int i) := fun v H h => by cases h; exact .int i
theorem isD_tup {Ps : List Pr} {ds : List PyData} (h : All2 K Ps ds) : IsD K (Tup K Ps) (.tuple ds) := fun v H ⟨p, xs, e, hq, hp⟩ => by
  rw [e]
  exact .tup (.inl hq) (all2_dp h hp)
theorem isD_lst {Ps : List Pr} {ds : List PyData} (h : All2 K Ps ds) : IsD K (Lst K Ps) (.list ds) := fun v H ⟨p, xs, e, hq, _, hp⟩ => by
  rw [e]
  exact .lst hq (all2_dp h hp)
theorem isD_own {Ps : List Pr} {ds : List PyData} (h : All2 K Ps ds) : IsD K (Own Ps) (.list ds) := fun v H z => isD_lst h v H (own_lst z)
theorem isD_told {q : Rat} : IsD K (Told K q) (.tuple [.int q.num, .int q.den]) := isD_tup (.cons isD_int (.cons isD_int .nil))
theorem flat_told {k : Nat} {q : Rat} : Flat (k + 1) (.tuple [.int q.num, .int q.den]) := flat_tup fun d hd => by
  rcases List.mem_cons.mp hd with rfl | hd
  · exact flat_int
  · rw [List.mem_singleton.mp hd]; exact flat_int
variable {W : HR} [w : PreT W]
theorem o_eqSame {P1 P2 : Pr} {d : PyData} (a : IsD K P1 d) (b : IsD K P2 d) (f : Flat 60 d) : Op2 W (rEqA K) P1 P2 (Is (.bl true)) := op2_r fun x y H h1 h2 Q q => ⟨d, d, a x H h1, b y H h2, f.shaped, f.shaped, by rw [f.same]; exact q _ H (w.refl H) rfl⟩
theorem o_neSame {P1 P2 : Pr} {d : PyData} (a : IsD K P1 d) (b : IsD K P2 d) (f : Flat 60 d) : Op2 W (rNeA K) P1 P2 (Is (.bl false)) := op2_r fun x y H h1 h2 Q q => ⟨d, d, a x H h1, b y H h2, f.shaped, f.shaped, by rw [f.same]; exact q _ H (w.refl H) rfl⟩
theorem o_neS {i j : Str} : Op2 W (rNeA K) (Is (.str i)) (Is (.str j)) (Is (.bl (decide (i ≠ j)))) := op2_l (by
  have := op2_ne (W := W) (x := .str i) (y := .str j) rfl
  have e : (!decide (V.str i = V.str j)) = decide (i ≠ j) := by by_cases h : i = j <;> simp [h]
  rw [e] at this; exact this)
/-! ### is -/
def rIsB : R2 := fun x y H Q => ∃ a b, x = .bl a ∧ y = .bl b ∧ Q (.bl (decide (a = b))) H
def rNotB : R2 := fun x y H Q => ∃ a b, x = .bl a ∧ y = .bl b ∧ Q (.bl (!decide (a = b))) H
omit w in
theorem op_isB {X : Cx} : OpR X (compareOp .Is) rIsB := by
  intro pins s σ H x y v u Q I rx ry h
  obtain ⟨a, b, rfl, rfl, q⟩ := h
  cases rx
  cases ry
  cases a <;> cases b <;> exact wpAny_pure (fin_bl I q rfl)
omit w in
theorem op_notB {X : Cx} : OpR X (compareOp .IsNot) rNotB := by
  intro pins s σ H x y v u Q I rx ry h
  obtain ⟨a, b, rfl, rfl, q⟩ := h
  cases rx
  cases ry
  cases a <;> cases b <;> exact wpAny_pure (fin_bl I q rfl)
theorem o_isB {a b : Bool} : Op2 W rIsB (Is (.bl a)) (Is (.bl b)) (Is (.bl (decide (a = b)))) := fun x y H e1 e2 Q q => ⟨a, b, e1, e2, q _ H (w.refl H) rfl⟩
theorem o_notB {a b : Bool} : Op2 W rNotB (Is (.bl a)) (Is (.bl b)) (Is (.bl (!decide (a = b)))) := fun x y H e1 e2 Q q => ⟨a, b, e1, e2, q _ H (w.refl H) rfl⟩
end
/-! ### lists that none may write: whatever they hold, while nothing is written -/
def LstN (K : PySem.W.Frag) (Ps : List Pr) : Pr := fun v H => ∃ p xs, v = .ref p ∧ SqL K H p xs ∧ AllP Ps xs H
instance mn_lstN {K : PySem.W.Frag} {Ps : List Pr} [ml : MnL Evl.Ex Ps] : Mn Evl.Ex (LstN K Ps) := ⟨fun v H H' h ⟨p, xs, e, hq, hp⟩ => ⟨p, xs, e, Evl.ex_l h hq, ml.mn xs H H' h hp⟩⟩
theorem lst_n {K : PySem.W.Frag} {Ps : List Pr} {v : V} {H : Hp} (h : Lst K Ps v H) : LstN K Ps v H := let ⟨p, xs, e, a, _, c⟩ := h; ⟨p, xs, e, a, c⟩
theorem new_n {K : PySem.W.Frag} {Ps : List Pr} {v : V} {H : Hp} (h : New Ps v H) : LstN K Ps v H := let ⟨p, xs, e, a, c⟩ := h; ⟨p, xs, e, SqL.of a, c⟩
theorem map_imp {P Q : Nat → Pr} {H : Hp} : ∀ {l : List Nat} {xs : List V}, (∀ i ∈ l, ∀ v, P i v H → Q i v H) → AllP (l.map P) xs H → AllP (l.map Q) xs H
  | [], _, _, h => h
  | _ :: _, [], _, h => h.elim
  | i :: l, x :: xs, k, h => ⟨k i List.mem_cons_self x h.1, map_imp (l := l) (xs := xs) (fun j hj => k j (List.mem_cons_of_mem _ hj)) h.2⟩
theorem each_imp {n : Nat} {P Q : Nat → Pr} {xs : List V} {H : Hp} (h : ∀ i, i < n → ∀ v, P i v H → Q i v H) (a : AllP (each n P) xs H) : AllP (each n Q) xs H := map_imp (fun i hi => h i (List.mem_range.mp hi)) a
section
variable {E : L2.St → XK} {GX : Ctx} {X : XP} {G : Ctx} {te : TE} {K : PySem.W.Frag} {Ps Qs : List Pr}
theorem ei_listN [ml : MnL Evl.Ex Ps] (h : Ev ⟨Evl.Ex, E, GX, X⟩ G te (LstN K Ps)) : EvI ⟨Evl.Ex, E, GX, X⟩ G (iList K te) Ps.length (nth Ps) := fun s H ty hx R k =>
  h s H ty hx _ fun v H2 w2 ⟨p, xs, e, hq, hp⟩ => by
    refine ⟨p, e, ⟨xs, hq⟩, k _ H2 (fun H => SqL K H p xs ∧ AllP Ps xs H) w2 ⟨hq, hp⟩ (fun a b x z => ⟨Evl.ex_l x z.1, ml.mn xs a b x z.2⟩) ?_⟩
    rw [← allp_len hp]
    refine ⟨fun i H hi z => walk_list.goes i H hi z.1, fun H z => walk_list.stops H z.1, fun i Ha x Hb hi z y => ?_⟩
    obtain ⟨e1, e2⟩ := walk_list.yields i Ha x Hb hi z.1 y
    subst e1
    exact ⟨Evl.Ex.refl _, allp_nth z.2 e2⟩
theorem ev_newL {tr : TA} [ml : MnL Evl.Ex Ps] (ha : EvA ⟨Evl.Ex, E, GX, X⟩ G tr Ps) (hl : Ps.length ≤ 100000) : Ev ⟨Evl.Ex, E, GX, X⟩ G (tLst tr) (New Ps) := fun s H ty hx Q q =>
  ha s H ty hx _ fun vs H1 w1 p1 => ⟨by rw [allp_len p1]; exact Evl.sz_of hl, fun p hp => by
    have w2 : Evl.Ex H1 (upd H1 p (.lst vs)) := Evl.Ex.new hp
    exact q _ _ (w1.trans w2) ⟨p, vs, rfl, upd_same, ml.mn vs _ _ w2 p1⟩⟩
theorem ev_slN {tl th : TO} {lo hi : Option Int} [mc : MnC Evl.Ex G] [ml : MnL Evl.Ex Ps] (h : Ev ⟨Evl.Ex, E, GX, X⟩ G te (LstN K Ps)) (h1 : EvO ⟨Evl.Ex, E, GX, X⟩ G tl lo) (h2 : EvO ⟨Evl.Ex, E, GX, X⟩ G th hi) (mcut : MnL Evl.Ex (cutL Ps lo hi)) : Ev ⟨Evl.Ex, E, GX, X⟩ G (tSl (rSlL K) te tl th) (New (cutL Ps lo hi)) := fun s H ty hx Q q =>
  h s H ty hx _ fun v H1 w1 p1 => h1 s H1 (mc.mn s H H1 w1 ty) (hx.mono (Y := ⟨Evl.Ex, E, GX, X⟩) w1) _ fun H2 w2 => h2 s H2 (mc.mn s H H2 (w1.trans w2) ty) (hx.mono (Y := ⟨Evl.Ex, E, GX, X⟩) (w1.trans w2)) _ fun H3 w3 => by
    have w23 : Evl.Ex H1 H3 := w2.trans w3
    obtain ⟨p, xs, e, hq, hp⟩ := (mn_lstN (K := K) (Ps := Ps)).mn v H1 H3 w23 p1
    refine ⟨p, xs, e, hq, fun l hl => ?_⟩
    have w4 : Evl.Ex H3 (upd H3 l (.lst (cutV xs lo hi))) := Evl.Ex.new hl
    exact q _ _ ((w1.trans w23).trans w4) ⟨l, _, rfl, upd_same, mcut.mn _ _ _ w4 (allp_cut (lo := lo) (hi := hi) hp)⟩
end
theorem o_catN {K : PySem.W.Frag} {Ps Qs : List Pr} [m1 : MnL Evl.Ex (Ps ++ Qs)] (l : Ps.length + Qs.length ≤ 100000) : Op2 Evl.Ex (rAddA K) (New Ps) (New Qs) (New (Ps ++ Qs)) := fun x y H ⟨p, xs, e, hq, hp⟩ ⟨p', ys, e', hq', hp'⟩ Q q => by
  refine .inr (.inr (.inl ⟨p, p', xs, ys, e, e', hq, hq', ?_, fun l hl => ?_⟩))
  · rw [allp_len hp, allp_len hp']; exact Evl.sz_of l
  · have w2 : Evl.Ex H (upd H l (.lst (xs ++ ys))) := Evl.Ex.new hl
    exact q _ _ w2 ⟨l, _, rfl, upd_same, m1.mn _ _ _ w2 (allp_app hp hp')⟩
theorem op_eqU {X : Cx} {a : Addr} {pn : List (Addr × Obj)} (hu : (X.A.mark (some (.ref a))).units + 64 < cLine) : OpR (X.suite a pn) (compareOp .Eq) (rEqA X.K) := op_eqA (X := X.suite a pn) hu
theorem op_neU {X : Cx} {a : Addr} {pn : List (Addr × Obj)} (hu : (X.A.mark (some (.ref a))).units + 64 < cLine) : OpR (X.suite a pn) (compareOp .NotEq) (rNeA X.K) := op_neA (X := X.suite a pn) hu
theorem op_addAT {X : Cx} {pn : List (Addr × Obj)} {xe : Value → Shared → Prop} : OpR (X.tr pn xe) (binaryOp .Add) (rAddA X.K) := op_addA (X := X.tr pn xe)
theorem sl_listT {X : Cx} {pn : List (Addr × Obj)} {xe : Value → Shared → Prop} : SlR (X.tr pn xe) (rSlL X.K) := sl_list (X := X.tr pn xe)
theorem ix_seqB {X : Cx} {s : Shared} {H : Hp} {scope : Scope} {ce : Env} {fp : List Addr} : IxR (X.blk s H scope ce fp) (rIx X.K) := ix_seq (X := X.blk s H scope ce fp)
end U

/-! ## objects: an instance's attributes bear predicates -/
namespace U
open PySem PySem.Spec PyProof.Rows L2
/-- along W instances stand as they are -/
class PreI (W : HR) : Prop where
  ins : ∀ {H H' : Hp} {a C dx : Addr} {fs : List (Str × V)}, W H H' → H a = some (.ins C dx fs) → H' a = some (.ins C dx fs)
instance pri_ex : PreI Evl.Ex := ⟨fun w h => w _ _ h⟩
instance pri_wl : PreI WL := ⟨fun w h => w.1 _ _ h rfl⟩
instance pri_wt : PreI WT := ⟨fun w h => w _ _ h rfl⟩
def FsOk (Fs : List (Str × Pr)) (fs : List (Str × V)) (H : Hp) : Prop := fs.map (·.1) = Fs.map (·.1) ∧ AllP (Fs.map (·.2)) (fs.map (·.2)) H
def Ob (C : Addr) (Fs : List (Str × Pr)) : Pr := fun v H => ∃ p dx fs, v = .ref p ∧ H p = some (.ins C dx fs) ∧ FsOk Fs fs H
instance mn_ob {W : HR} [wi : PreI W] {C : Addr} {Fs : List (Str × Pr)} [ml : MnL W (Fs.map (·.2))] : Mn W (Ob C Fs) := ⟨fun v H H' h ⟨p, dx, fs, e, hq, hn, hp⟩ => ⟨p, dx, fs, e, wi.ins h hq, hn, ml.mn _ H H' h hp⟩⟩
theorem fsok_get : ∀ {Fs : List (Str × Pr)} {fs : List (Str × V)} {H : Hp} {f : Str} {P : Pr}, FsOk Fs fs H → Fs.lookup f = some P → ∃ v, fs.lookup f = some v ∧ P v H
  | [], _, _, _, _, _, e => by cases e
  | _ :: _, [], _, _, _, h, _ => by cases h.1
  | (g, Q) :: Fs, (g', x) :: fs, H, f, P, h, e => by
    have eg : g' = g := (List.cons.inj h.1).1
    subst eg
    by_cases hf : (f == g') = true
    · have e1 : Q = P := by simpa [List.lookup, hf] using e
      subst e1
      exact ⟨x, by simp [List.lookup, hf], h.2.1⟩
    · have hf' : (f == g') = false := by simpa using hf
      obtain ⟨v, a, b⟩ := fsok_get (Fs := Fs) (fs := fs) (f := f) (P := P) ⟨(List.cons.inj h.1).2, h.2.2⟩ (by simpa [List.lookup, hf'] using e)
      exact ⟨v, by simpa [List.lookup, hf'] using a, b⟩
theorem fsok_none : ∀ {Fs : List (Str × Pr)} {fs : List (Str × V)} {H : Hp} {f : Str}, FsOk Fs fs H → Fs.lookup f = none → fs.lookup f = none
  | [], [], _, _, _, _ => rfl
  | [], _ :: _, _, _, h, _ => by cases h.1
  | _ :: _, [], _, _, h, _ => by cases h.1
  | (g, Q) :: Fs, (g', x) :: fs, H, f, h, e => by
    have eg : g' = g := (List.cons.inj h.1).1
    subst eg
    by_cases hf : (f == g') = true
    · simp [List.lookup, hf] at e
    · have hf' : (f == g') = false := by simpa using hf
      have := fsok_none (Fs := Fs) (fs := fs) (f := f) (H := H) ⟨(List.cons.inj h.1).2, h.2.2⟩ (by simpa [List.lookup, hf'] using e)
      simpa [List.lookup, hf'] using this
section
variable {Y : Rs} [w : PreT Y.W] [wi : PreI Y.W] {G : Ctx} {ta te : TE} {K : PySem.W.Frag} {C : Addr} {Fs : List (Str × Pr)} {P : Pr} {f m : Str}
omit w wi in
theorem ev_fld (c : Cls K C) (n : NoAttr K C f) (hl : Fs.lookup f = some P) (h : Ev Y G te (Ob C Fs)) : Ev Y G (tFld K te f) P := fun s H ty hx Q q =>
  h s H ty hx _ fun v H1 w1 ⟨p, dx, fs, e, hq, hf⟩ => by
    obtain ⟨y, e1, e2⟩ := fsok_get hf hl
    exact ⟨p, C, dx, fs, y, e, hq, c, n, e1, q y H1 w1 e2⟩
theorem ev_meth {sp : Sp} {E : XK} {t : TA} {Ps : List Pr} [mc : MnC Y.W G] [mf : MnL Y.W (Fs.map (·.2))] (h : Ev Y G ta (Ob C Fs)) (hm : Fs.lookup m = none) (ha : EvA Y G t Ps) (ho : Cl Y.W sp (Ob C Fs :: Ps) P NoX) : Ev Y G (tMeth C m sp [] E ta t) P := fun s H ty hx Q q =>
  h s H ty hx _ fun v H1 w1 ⟨p, dx, fs, e, hq, hf⟩ => ⟨p, dx, fs, e, hq, fsok_none hf hm, ha s H1 (mc.mn s H H1 w1 ty) (hx.mono w1) _ fun vs H2 w2 pv => by
    have o2 : Ob C Fs v H2 := mn_ob.mn v H1 H2 w2 ⟨p, dx, fs, e, hq, hf⟩
    rw [List.append_nil]
    exact ho (v :: vs) H2 ⟨o2, pv⟩ Q E (fun v3 H3 w3 p3 => q v3 H3 (w.trans (w.trans w1 w2) w3) p3) fun _ _ _ _ z => z.elim⟩
end
/-! ### making one -/
def isIns : HO → Bool
  | .ins _ _ _ => true
  | _ => false
/-- all but the instance at x stands -/
def WI (x : Addr) (H H' : Hp) : Prop := ∀ b o, H b = some o → (b ≠ x ∨ isIns o = false) → H' b = some o
instance pre_wi {x : Addr} : Pre (WI x) where
  refl := fun H b o h _ => h
  trans := fun a b c o h n => b c o (a c o h n) n
  ext := fun e b o h _ => e b o h
  tup := fun w h => by
    rcases h with h | ⟨o, h⟩
    · exact .inl (w _ _ h (.inr rfl))
    · exact .inr ⟨o, w _ _ h (.inr rfl)⟩
  lst := fun w n h => by
    rcases h with (h | ⟨o, h⟩) | h
    · exact .inl (.inl (w _ _ h (.inr rfl)))
    · exact .inl (.inr ⟨o, w _ _ h (.inr rfl)⟩)
    · exact .inr h
  own := fun w n h => w _ _ h (.inr rfl)
  wrt := fun w h b o e n => by rw [upd_ne (ne_of_none e h)]; exact w b o e n
/-- the instance as it is being made -/
def SelfT (x C dx : Addr) (Fs : List (Str × Pr)) : Pr := fun v H => v = .ref x ∧ ∃ fs, H x = some (.ins C dx fs) ∧ FsOk Fs fs H
instance mn_self {x C dx : Addr} {Fs : List (Str × Pr)} [ml : MnL Evl.Ex (Fs.map (·.2))] : Mn Evl.Ex (SelfT x C dx Fs) := ⟨fun v H H' w ⟨e, fs, h, hn, hp⟩ => ⟨e, fs, w _ _ h, hn, ml.mn _ H H' w hp⟩⟩
theorem self_ob {x C dx : Addr} {Fs : List (Str × Pr)} {v : V} {H : Hp} (h : SelfT x C dx Fs v H) : Ob C Fs v H := let ⟨e, fs, a, b⟩ := h; ⟨x, dx, fs, e, a, b⟩
theorem putF_new : ∀ {fs : List (Str × V)} {f : Str} {v : V}, fs.lookup f = none → putF f v fs = fs ++ [(f, v)]
  | [], _, _, _ => rfl
  | (g, x) :: r, f, v, h => by
    by_cases hf : (f == g) = true
    · simp [List.lookup, hf] at h
    · have hf' : (f == g) = false := by simpa using hf
      have ne : ¬ g = f := fun z => by subst z; simp at hf'
      show (if g = f then (g, v) :: r else (g, x) :: putF f v r) = _
      rw [if_neg ne, putF_new (fs := r) (by simpa [List.lookup, hf'] using h)]
      rfl
theorem fsok_put {Fs : List (Str × Pr)} {fs : List (Str × V)} {H : Hp} {f : Str} {P : Pr} {v : V} (h : FsOk Fs fs H) (hp : P v H) : FsOk (Fs ++ [(f, P)]) (fs ++ [(f, v)]) H := by
  refine ⟨by rw [List.map_append, List.map_append, h.1]; rfl, ?_⟩
  rw [List.map_append, List.map_append]
  exact allp_app h.2 ⟨hp, True.intro⟩
/-- self.f = e, a new attribute -/
theorem st_fset {Y : Rs} {x C dx : Addr} {Fs : List (Str × Pr)} {f : Str} {P R : Pr} {G : Ctx} {K : PySem.W.Frag} {te : TE} (hW : Y.W = WI x) [m1 : MnC Evl.Ex G] [m2 : MnC (WI x) G] [m3 : Mn (WI x) P] [m4 : MnL (WI x) (Fs.map (·.2))] [m5 : MnL Evl.Ex (Fs.map (·.2))] (c : Cls K C) (n : NoAttr K C f) (hf : Fs.lookup f = none) (hl : Fs.length < 900)
    (h : Ev Y.ex (some (SelfT x C dx Fs) :: G) te P) : St Y (some (SelfT x C dx Fs) :: G) (sFld K (tVar 0) te f) (some (SelfT x C dx (Fs ++ [(f, P)])) :: G) R := fun s H D ty hx nx _ => by
  obtain ⟨W, E, GX, X⟩ := Y
  have hW' : W = WI x := hW
  subst hW'
  refine h s H ty (hx_ex hx) _ fun y H1 e py => ?_
  have ty1 := (mnc_some (P := SelfT x C dx Fs) (G := G) (W := Evl.Ex)).mn s H H1 e ty
  cases s with
  | nil => exact ty1.elim
  | cons s0 s =>
    obtain ⟨⟨v, ev, es, fs, hq, ho⟩, t2⟩ := ty1
    subst ev es
    have wi : WI x H1 (upd H1 x (.ins C dx (putF f y fs))) := fun b o eb nb => by
      by_cases z : b = x
      · subst z
        rw [hq] at eb
        cases eb
        rcases nb with nb | nb
        · exact absurd rfl nb
        · cases nb
      · rw [upd_ne z]; exact eb
    have len : fs.length = Fs.length := by have := congrArg List.length ho.1; simpa using this
    refine ⟨.ref x, rfl, x, C, dx, fs, rfl, hq, c, n, by omega, ?_⟩
    refine nx _ _ (fun b o eb nb => wi b o (e b o eb) nb) ⟨⟨.ref x, rfl, rfl, fs ++ [(f, y)], ?_, ?_⟩, m2.mn s H1 _ wi t2⟩
    · rw [← putF_new (fsok_none ho hf)]; exact upd_same
    · have hp := fsok_put (f := f) (P := P) (v := y) ho py
      exact ⟨hp.1, by
        have a1 := m4.mn _ _ _ wi ho.2
        have a2 := m3.mn _ _ _ wi py
        rw [List.map_append, List.map_append]
        exact allp_app a1 ⟨a2, True.intro⟩⟩
/-- an __init__'s promise: from an empty instance and arguments so, the attributes Fs; or X -/
structure MkW where
  Ps : List Pr
  Fs : List (Str × Pr)
  X : XP
def SpI (C : Addr) {I : Type} (D : I → Prop) (f : I → MkW) : Sp := fun vs H Q E => ∃ i x dx rest, D i ∧ vs = .ref x :: rest ∧ H x = some (.ins C dx []) ∧ AllP (f i).Ps rest H ∧
  (∀ H', WI x H H' → Ob C (f i).Fs (.ref x) H' → Q .non H') ∧ ∀ cls d H', WI x H H' → (f i).X cls d H' → E cls d H'
theorem ex_made {H H' : Hp} {x dx C : Addr} (hx : H x = none) (hd : H dx = none) (w : WI x (upd (upd H dx (.own x)) x (.ins C dx [])) H') : Evl.Ex H H' := fun b o e => by
  have n1 := ne_of_none e hx
  have n2 := ne_of_none e hd
  exact w b o (by rw [upd_ne n1, upd_ne n2]; exact e) (.inl n1)
theorem ex_start {H : Hp} {x dx C : Addr} (hx : H x = none) (hd : H dx = none) : Evl.Ex H (upd (upd H dx (.own x)) x (.ins C dx [])) := fun b o e => by
  rw [upd_ne (ne_of_none e hx), upd_ne (ne_of_none e hd)]
  exact e
section
variable {Y : Rs} [w : PreT Y.W] {G : Ctx} {K : PySem.W.Frag} {C : Addr} {t : TA} {E : XK}
theorem ev_make {I : Type} {D : I → Prop} {f : I → MkW} (i : I) (c : D i) [ml : MnL Evl.Ex (f i).Ps] (ha : EvA Y G t (f i).Ps) (nx : ∀ cls d H, (f i).X cls d H → False) : Ev Y G (tMake C (SpI C D f) [] E t) (Ob C (f i).Fs) := fun s H ty hx Q q =>
  ha s H ty hx _ fun vs H1 w1 pv x dx nxx ndx ne => by
    rw [List.append_nil]
    refine ⟨i, x, dx, vs, c, rfl, upd_same, ml.mn _ _ _ (ex_start nxx ndx) pv, fun H' wi o => ⟨rfl, q _ H' (w.trans w1 (w.ext (ex_made nxx ndx wi))) o⟩, fun cls d H' _ z => (nx cls d H' z).elim⟩
end
section
variable {Y : Rs} [w : PreT Y.W] {G : Ctx} {te : TE} {P R : Pr}
/-- an expression as a statement, in a text that also writes -/
theorem st_dropE [mc : MnC Evl.Ex G] (h : Ev Y.ex G te P) : St Y G (tDrop te) G R := fun s H D ty hx n _ =>
  h s H ty (hx_ex hx) _ fun v H2 e p => n _ H2 (w.ext e) (mc.mn s H H2 e ty)
end
section
variable {P : Program} {w : World} {K : PySem.W.Frag} {mg : Str → Option Value} {base : Heap}
/-- an __init__ -/
theorem okN {C : Addr} {x qual : Str} {st : Stmt} {f : Addr} {fd : FuncData} {N ps : List Str} {k : Nat} {I : Type} {D : I → Prop} {fw : I → MkW} (F : Fun K x qual st f fd) (S : FnScope N ps (defScope st)) (hlen : ∀ i, (fw i).Ps.length + 1 = ps.length) (hN : ps.length ≤ N.length)
    (body : ∀ (cdv : Value) (A : Around) (outer : List Env) (s : Shared) (H : Hp) (E : XK), Room k (A.deeper (envOfC qual (defScope st) s.heap.objs.size f cdv)) → ∀ i, D i → ∀ x dx : Addr,
      ∃ t, PSs (cxOf (L2N.CX P w) P w K mg base N qual (defScope st) f cdv A outer s H E) (defBody st) t ∧ ∃ M, St (RsW (WI x) E (fw i).X N.length) (entry (SelfT x C dx [] :: (fw i).Ps) N.length) t M (fun _ _ => False) ∧ ∀ s H', Ty M s H' → Ob C (fw i).Fs (.ref x) H') :
    FnOk P w K mg base (L2N.CX P w) (k + 1) f fd ps (SpI C D fw) := by
  refine F.okN S (fun vs H Q E h => ?_) (fun cdv A outer s H vs Q E hr h => ?_)
  · obtain ⟨i, x, dx, rest, _, rfl, _, a, _⟩ := h
    rw [List.length_cons, allp_len a, hlen]
  · obtain ⟨i, y, dx, rest, c, rfl, hy, a, q, e⟩ := h
    obtain ⟨t, ht, M, hs, hm⟩ := body cdv A outer s H E hr i c y dx
    refine ⟨t, ht, hs _ H _ ?_ (fun s cls d H' x _ z => e cls d H' x z) (fun s' H' w1 ty => q H' w1 (hm s' H' ty)) (fun v H' _ z => z.elim)⟩
    have a2 : AllP (SelfT y C dx [] :: (fw i).Ps) (.ref y :: rest) H := ⟨⟨rfl, [], hy, rfl, True.intro⟩, a⟩
    have l1 := allp_len a2
    have en := ty_entry (n := N.length - (SelfT y C dx [] :: (fw i).Ps).length) a2
    unfold L2.start entry
    rw [l1]
    exact en
end
/-! ### methods and makers as facts -/
theorem passes_tk {X : Cx} {E : XK} (tk : L2N.Takes X (fun cls d _ H => E cls d H)) : Passes (L2N.CX X.prog X.w) X E := fun _ _ _ _ e s' I c => tk e s' (L2N.XE.of_call I (fun _ _ _ h => h) c)
/-- the method m of the class at C -/
structure Dm (P : Program) (w : World) (K : PySem.W.Frag) (mg : Str → Option Value) (base : Heap) (k : Nat) (C : Addr) (m : Str) (ps : List Str) (sp : Sp) : Prop where
  ex : ∃ f fd, FnOk P w K mg base (L2N.CX P w) k f fd ps sp ∧ Meth K C m f ∧ Binds K fd ps []
  cls : Cls K C
/-- making one of the class at C -/
structure Dk (P : Program) (w : World) (K : PySem.W.Frag) (mg : Str → Option Value) (base : Heap) (k : Nat) (x : Str) (C : Addr) (ps : List Str) (sp : Sp) : Prop where
  ex : ∃ f fd, FnOk P w K mg base (L2N.CX P w) k f fd ps sp ∧ Mk K C f ∧ Binds K fd ps []
  at_ : mg x = some (.ref C)
section
variable {P : Program} {w : World} {K : PySem.W.Frag} {mg : Str → Option Value} {base : Heap} {k : Nat} {C : Addr} {x m : Str} {ps : List Str} {sp : Sp} {Q : Prop}
/-- to be used so: D.use fun f fd F1 F2 F3 => pe_meth o D.cls F2 F1 hr F3 .nil (passes_tk tk) args -/
theorem Dm.use (D : Dm P w K mg base k C m ps sp) (h : ∀ f fd, FnOk P w K mg base (L2N.CX P w) k f fd ps sp → Meth K C m f → Binds K fd ps [] → Q) : Q := let ⟨f, fd, a, b, c⟩ := D.ex; h f fd a b c
/-- to be used so: D.use fun f fd F1 F2 F3 => pe_make F2 F1 hr rfl D.at_ F3 .nil (passes_tk tk) args -/
theorem Dk.use (D : Dk P w K mg base k x C ps sp) (h : ∀ f fd, FnOk P w K mg base (L2N.CX P w) k f fd ps sp → Mk K C f → Binds K fd ps [] → Q) : Q := let ⟨f, fd, a, b, c⟩ := D.ex; h f fd a b c
end
end U

/-! ## a def's own list, while it grows -/
namespace U
open PySem PySem.Spec PyProof.Rows L2
/-- the heap without the place l -/
def del (l : Addr) (H : Hp) : Hp := fun b => if b = l then none else H b
theorem del_ne {l b : Addr} {H : Hp} (h : b ≠ l) : del l H b = H b := if_neg h
theorem del_some {l b : Addr} {H : Hp} {o : HO} (h : del l H b = some o) : b ≠ l ∧ H b = some o := by
  unfold del at h
  split at h
  · cases h
  · rename_i n; exact ⟨n, h⟩
/-- neither a list nor a hand -/
def isN (o : HO) : Prop := isL o = false ∧ isX o = false
class PreD (W : HR) : Prop extends Pre W where
  del : ∀ {a b : Hp} (l : Addr), W a b → W (U.del l a) (U.del l b)
  nl : ∀ {a b : Hp} {l : Addr} {o : HO}, W a b → a l = some o → isN o → b l = some o
instance prd_ex : PreD Evl.Ex where
  del := fun l w b o h => by obtain ⟨n, h⟩ := del_some h; rw [del_ne n]; exact w b o h
  nl := fun w h _ => w _ _ h
theorem rd_del {l a : Addr} {H : Hp} {o : HO} (h : Rd (U.del l H) a o) : a ≠ l ∧ Rd H a o := by
  rcases h with h | ⟨u, h⟩
  · exact ⟨(del_some h).1, .inl (del_some h).2⟩
  · exact ⟨(del_some h).1, .inr ⟨u, (del_some h).2⟩⟩
theorem hand_del {l p c : Addr} {H : Hp} {xs : List Int} {a r t : Int} (h : HandX (U.del l H) p c xs a r t) : p ≠ l ∧ c ≠ l ∧ HandX H p c xs a r t :=
  ⟨(del_some h.at_).1, (del_some h.cells).1, { h with at_ := (del_some h.at_).2, cells := (del_some h.cells).2 }⟩
instance prd_wl : PreD WL where
  del := fun l w => ⟨fun b o h n => by
      obtain ⟨nb, h⟩ := del_some h
      rw [del_ne nb]
      exact w.1 b o h n, fun p c xs a r t h => by
      obtain ⟨np, nc, h⟩ := hand_del h
      obtain ⟨a', r', t', h'⟩ := w.2 p c xs a r t h
      exact ⟨a', r', t', { h' with at_ := by rw [del_ne np]; exact h'.at_, cells := by rw [del_ne nc]; exact h'.cells }⟩⟩
  nl := fun {a b l o} w h n => by
    exact w.1 _ _ h n.2
/-- from H0 on, all as along W but the list at l -/
def WO (W : HR) (H0 : Hp) (l : Addr) : HR := fun H H' => (W H0 H → W H0 H') ∧ W (del l H) (del l H') ∧ ∀ o, H l = some o → isN o → H' l = some o
section
variable {W : HR} [w : PreD W] {H0 : Hp} {l : Addr}
theorem wo_of {a b : Hp} (h : W a b) : WO W H0 l a b := ⟨fun z => w.trans z h, w.del l h, fun _ e n => w.nl h e n⟩
instance pret_wo : PreT (WO W H0 l) where
  refl := fun H => ⟨id, w.refl _, fun _ h _ => h⟩
  trans := fun a b => ⟨fun z => b.1 (a.1 z), w.trans a.2.1 b.2.1, fun o h n => b.2.2 o (a.2.2 o h n) n⟩
  ext := fun e => wo_of (w.ext e)
  tup := fun {H H' a xs} v h => by
    by_cases z : a = l
    · subst z
      rcases h with h | ⟨o, h⟩
      · exact .inl (v.2.2 _ h ⟨rfl, rfl⟩)
      · exact .inr ⟨o, v.2.2 _ h ⟨rfl, rfl⟩⟩
    · have k : Rd (del l H) a (.tup xs) := h.elim (fun h => .inl ((del_ne z).trans h)) fun ⟨o, h⟩ => .inr ⟨o, (del_ne z).trans h⟩
      exact (rd_del (w.tup v.2.1 k)).2
/-- what stood at H0 -/
def At (W : HR) (H0 : Hp) (P : Pr) : Pr := fun v H => P v H0 ∧ W H0 H
theorem at_now {P : Pr} [m : Mn W P] {v : V} {H : Hp} (h : At W H0 P v H) : P v H := m.mn v H0 H h.2 h.1
instance mn_at {P : Pr} : Mn (WO W H0 l) (At W H0 P) := ⟨fun v H H' k h => ⟨h.1, k.1 h.2⟩⟩
instance mn_atW {P : Pr} : Mn W (At W H0 P) := ⟨fun v H H' k h => ⟨h.1, w.trans h.2 k⟩⟩
/-- the growing list -/
def Loc (l : Addr) (Ps : List Pr) : Pr := fun v H => v = .ref l ∧ ∃ xs, H l = some (.lst xs) ∧ Safe H xs ∧ AllP Ps xs H
instance mn_loc {Ps : List Pr} [ml : MnL W Ps] : Mn W (Loc l Ps) := ⟨fun v H H' k ⟨e, xs, h, n, a⟩ => ⟨e, xs, w.own k n h, n.mono k, ml.mn _ _ _ k a⟩⟩
theorem loc_own {Ps : List Pr} {v : V} {H : Hp} (h : Loc l Ps v H) : Own Ps v H := let ⟨e, xs, a, b, c⟩ := h; ⟨l, xs, e, a, b, c⟩
end
/-! ### rules within -/
abbrev Rs.under (Y : Rs) (W : HR) : Rs := ⟨W, Y.E, Y.GX, Y.X⟩
theorem ty_at {W : HR} {H H1 : Hp} (k : W H H1) : ∀ {G : Ctx} {s : L2.St}, Ty G s H → Ty (G.map (Option.map (At W H))) s H1
  | [], [], _ => True.intro
  | [], _ :: _, h => h.elim
  | none :: _, [], h => h.elim
  | some _ :: _, [], h => h.elim
  | none :: G, _ :: s, h => ty_at (G := G) (s := s) k h
  | some P :: G, _ :: s, h => ⟨let ⟨v, e, p⟩ := h.1; ⟨v, e, p, k⟩, ty_at (G := G) (s := s) k h.2⟩
section
variable {Y : Rs} {W : HR} [w : PreD W] {H0 : Hp} {l : Addr} {G : Ctx} {te : TE} {t : TT} {P R : Pr} {ts tu : TS} {N : Ctx} {Ps : List Pr} {K : PySem.W.Frag}
theorem hx_under (hW : Y.W = WO W H0 l) {H : Hp} (h : Hx Y H) : Hx (Y.under W) H := fun s cls d H' k ty x => h s cls d H' (by rw [hW]; exact wo_of k) ty x
theorem Ev.upW (hW : Y.W = WO W H0 l) (h : Ev (Y.under W) G te P) : Ev Y G te P := fun s H ty hx Q q => h s H ty (hx_under hW hx) Q fun v H2 k p => q v H2 (by rw [hW]; exact wo_of k) p
theorem st_setW (hW : Y.W = WO W H0 l) [mc : MnC W G] {i : Nat} (h : Ev (Y.under W) G te P) : St Y G (tAsg te (gName i)) (G.set i (some P)) R := fun s H D ty hx n _ =>
  h s H ty (hx_under hW hx) _ fun v H2 k p => n _ H2 (by rw [hW]; exact wo_of k) ((mc.mn s H H2 k ty).put p)
theorem st_ifW (hW : Y.W = WO W H0 l) [mc : MnC W G] {b : Bool} (h : EvT (Y.under W) G t b) (h1 : b = true → St Y G ts N R) (h2 : b = false → St Y G tu N R) : St Y G (tIfS t ts tu) N R := by
  obtain ⟨YW, E, GX, X⟩ := Y
  have hW' : YW = WO W H0 l := hW
  subst hW'
  intro s H D ty hx n r
  refine h s H ty (hx_under rfl hx) _ fun H1 k => ?_
  have k1 : WO W H0 l H H1 := wo_of k
  have p : PreT (WO W H0 l) := pret_wo
  have hx1 : Hx ⟨WO W H0 l, E, GX, X⟩ H1 := fun s cls d H2 e2 t x => hx s cls d H2 (p.trans k1 e2) t x
  cases b with
  | true => exact h1 rfl s H1 D (mc.mn s H H1 k ty) hx1 (fun s2 H2 w2 t2 => n s2 H2 (p.trans k1 w2) t2) fun v H2 w2 q => r v H2 (p.trans k1 w2) q
  | false => exact h2 rfl s H1 D (mc.mn s H H1 k ty) hx1 (fun s2 H2 w2 t2 => n s2 H2 (p.trans k1 w2) t2) fun v H2 w2 q => r v H2 (p.trans k1 w2) q
/-- made = [] : from here on the list is one's own -/
theorem st_local {Y : Rs} [w : PreD Y.W] {i : Nat} {N' : Hp → Addr → Ctx} {R' : Hp → Addr → Pr} (k : ∀ (H0 : Hp) (l : Addr), H0 l = none → St ⟨WO Y.W H0 l, Y.E, Y.GX, Y.X⟩ ((G.map (Option.map (At Y.W H0))).set i (some (Loc l []))) tu (N' H0 l) (R' H0 l))
    (hN : ∀ H0 l s H', Y.W H0 H' → Ty (N' H0 l) s H' → Ty N s H') (hR : ∀ H0 l v H', Y.W H0 H' → R' H0 l v H' → R v H') : St Y G (tSeq (tAsg (tLst tNil) (gName i)) tu) N R := fun s H D ty hx nx rt =>
  ⟨by show (0 : Nat) ≤ sizeLine; decide, fun l hl => by
    have k0 : Y.W H (upd H l (.lst [])) := w.ext (Evl.Ex.new hl)
    have t1 : Ty ((G.map (Option.map (At Y.W H))).set i (some (Loc l []))) (s.set i (some (.ref l))) (upd H l (.lst [])) := (ty_at k0 ty).put ⟨rfl, [], upd_same, True.intro, True.intro⟩
    exact k H l hl _ _ D t1 (fun s2 cls d H2 e2 t2 x => hx s2 cls d H2 (e2.1 k0) t2 x) (fun s2 H2 e2 t2 => nx s2 H2 (e2.1 k0) (hN H l s2 H2 (e2.1 k0) t2)) fun v H2 e2 p => rt v H2 (e2.1 k0) (hR H l v H2 (e2.1 k0) p)⟩
/-- made.append(e) -/
theorem st_append (hW : Y.W = WO W H0 l) (h0 : H0 l = none) [mc : MnC W G] {i : Nat} {G' : Ctx} [mo : MnC (WO W H0 l) G'] (hG : G.set i none = G') [mp : Mn (WO W H0 l) P] [ml : MnL (WO W H0 l) Ps] (hi : G[i]? = some (some (Loc l Ps))) (hs : ∀ vs H, AllP (Ps ++ [P]) vs H → Safe H vs) (hz : Ps.length < 100000)
    (h : Ev (Y.under W) G te P) : St Y G (tDrop (tBM K "list" rAppend (tVar i) (tCons te tNil))) (G'.set i (some (Loc l (Ps ++ [P])))) R := by
  subst hG
  obtain ⟨YW, E, GX, X⟩ := Y
  have hW' : YW = WO W H0 l := hW
  subst hW'
  intro s H D ty hx n _
  obtain ⟨v, ev, e, xs, hq, hn, ha⟩ := ty.get hi
  subst e
  refine ⟨.ref l, ev, .inl ⟨rfl, xs, SqL.of hq⟩, ?_⟩
  refine h s H ty (hx_under rfl hx) _ fun y H2 k py => ?_
  have ty2 := mc.mn s H H2 k ty
  obtain ⟨v2, ev2, e2, xs2, hq2, hn2, ha2⟩ := ty2.get hi
  have len := allp_len ha2
  refine ⟨l, xs2, y, rfl, rfl, hq2, Evl.sz_lt (by omega), ?_⟩
  have mu : WO W H0 l H2 (upd H2 l (.lst (xs2 ++ [y]))) := ⟨fun z => w.wrt z h0, by
    have e : del l (upd H2 l (.lst (xs2 ++ [y]))) = del l H2 := by
      funext b
      unfold del
      split
      · rfl
      · rename_i nb; exact upd_ne nb
    rw [e]; exact w.refl _, fun o eo no => by rw [hq2] at eo; cases eo; cases no.1⟩
  have p : PreT (WO W H0 l) := pret_wo
  have hp2 := allp_app ha2 (show AllP [P] [y] H2 from ⟨py, True.intro⟩)
  have mall : MnL (WO W H0 l) (Ps ++ [P]) := mnl_app
  have t3 := (mo.mn (s.set i none) H2 _ mu (ty_wipe i ty2)).put (i := i) (P := Loc l (Ps ++ [P])) (v := .ref l) ⟨rfl, _, upd_same, (hs _ _ hp2).mono mu, mall.mn _ _ _ mu hp2⟩
  have es : (s.set i none).set i (some (.ref l)) = s := by
    rw [List.set_set]
    obtain ⟨hi2, hv⟩ := List.getElem?_eq_some_iff.mp ev
    rw [← hv, List.set_getElem_self]
  rw [es] at t3
  exact n _ _ (p.trans (wo_of k) mu) t3
end
/-! ### loops within -/
section
variable {Y : Rs} {W : HR} [w : PreD W] {H0 : Hp} {l : Addr} {G : Ctx} {tu : TS} {R : Pr} {tr : TA} {wi : TI} {n : Nat} {It : Nat → Pr}
def EvJ (Y : Rs) (W : HR) (G : Ctx) (wi : TI) (n : Nat) (It : Nat → Pr) : Prop := ∀ s H, Ty G s H → Hx (Y.under W) H → ∀ R : L2.It → Hp → Prop,
  (∀ J H2 (Gd : Hp → Prop), W H H2 → Gd H2 → (∀ a b, Y.W a b → Gd a → Gd b) → Walk J n Gd (fun i Ha x Hb => W Ha Hb ∧ It i x Hb) → R J H2) → wi s H R
theorem ej_range1 {j : Int} (h : EvA (Y.under W) G tr [Is (.int j)]) (b : -(2 ^ 62) ≤ j ∧ j < 2 ^ 62) : EvJ Y W G (iRng1 tr) j.toNat (fun i => Is (.int (i : Int))) := fun s H ty hx R k =>
  h s H ty hx _ fun vs H2 w2 hp => by
    obtain ⟨x, ev, e⟩ := allp1 hp
    cases e
    refine ⟨j, ev, b.1, b.2, k _ H2 (fun _ => True) w2 True.intro (fun _ _ _ _ => True.intro) ⟨fun i H hi z => walk_range.goes i H hi True.intro, fun H z => walk_range.stops H True.intro, fun i Ha x Hb hi z y => ?_⟩⟩
    obtain ⟨e1, e2⟩ := walk_range.yields i Ha x Hb hi True.intro y
    subst e1
    refine ⟨w.refl _, ?_⟩
    show x = V.int (i : Int)
    have e3 : (fun i : Nat => V.int (0 + (i : Int))) i = V.int (i : Int) := congrArg V.int (Int.zero_add _)
    exact e2.trans e3
theorem st_forW (hW : Y.W = WO W H0 l) {j : Nat} (hi : EvJ Y W G wi n It) (L : Nat → Ctx) (h0 : Sub G (L 0)) [mc : MnC W G] [ml : ∀ i, MnC W (L i)] (body : ∀ i, i < n → St Y ((L i).set j (some (It i))) tu (L (i + 1)) R) : St Y G (tFor wi (gName j) tu) (L n) R := by
  obtain ⟨YW, E, GX, X⟩ := Y
  have hW' : YW = WO W H0 l := hW
  subst hW'
  have p : PreT (WO W H0 l) := pret_wo
  intro s H D ty hx nx rt
  refine hi s H ty (hx_under rfl hx) _ fun J H2 Gd w2 g2 gm wk => ?_
  refine for_it wk (fun i s' H' => WO W H0 l H H' ∧ Gd H' ∧ Ty (L i) s' H') ⟨wo_of w2, g2, h0 s H2 (mc.mn s H H2 w2 ty)⟩ (fun i s' H' _ z => z.2.1) (fun i x s' Ha Hb hi z y => ?_) fun s' H' z => nx s' H' z.1 z.2.2
  obtain ⟨z1, z2, z3⟩ := z
  obtain ⟨y1, y2⟩ := y
  have y1' : WO W H0 l Ha Hb := wo_of y1
  have wb := p.trans z1 y1'
  exact body i hi _ Hb _ (((ml i).mn s' Ha Hb y1 z3).put y2) (fun s cls d H2 e2 t x => hx s cls d H2 (p.trans wb e2) t x) (fun s2 H3 w3 t3 => ⟨p.trans wb w3, gm _ _ (p.trans y1' w3) z2, t3⟩) fun v H3 w3 q => rt v H3 (p.trans wb w3) q
/-- for .. in range(drawn) -/
theorem st_forR (hW : Y.W = WO W H0 l) {g : TG} {lo hi : Int} {N : Ctx} [mc : MnC W G] (h : EvA (Y.under W) G tr [Rng lo hi]) (k : ∀ j, lo ≤ j ∧ j < hi → St Y G (tFor (iRng1 fun _ H Q => Q [.int j] H) g tu) N R) : St Y G (tFor (iRng1 tr) g tu) N R := by
  obtain ⟨YW, E, GX, X⟩ := Y
  have hW' : YW = WO W H0 l := hW
  subst hW'
  have p : PreT (WO W H0 l) := pret_wo
  intro s H D ty hx nx rt
  refine h s H ty (hx_under rfl hx) _ fun vs H2 w2 hp => ?_
  obtain ⟨x, ev, j, hj, e⟩ := allp1 hp
  cases e
  subst ev
  have w2' : WO W H0 l H H2 := wo_of w2
  exact k j hj s H2 D (mc.mn s H H2 w2 ty) (fun s cls d H3 e3 t x => hx s cls d H3 (p.trans w2' e3) t x) (fun s3 H3 w3 t3 => nx s3 H3 (p.trans w2' w3) t3) fun v H3 w3 q => rt v H3 (p.trans w2' w3) q
theorem ea_const {j : Int} : EvA (Y.under W) G (fun _ H Q => Q [.int j] H) [Is (.int j)] := fun s H _ _ Q q => q _ H (w.refl H) ⟨rfl, True.intro⟩
end
end U

/-! ## zip of two sequences of any kind -/
namespace U
open PySem PySem.Spec PyProof.Rows L2
inductive Kd
  | L
  | T
def KdS (h : Heap) : Kd → Addr → Array Value → Prop
  | .L, l, xs => h.IsList l xs
  | .T, l, xs => h.IsTuple l xs
def KdI (h : Heap) : Kd → Addr → Addr → Nat → Prop
  | .L, it, l, n => h.IsListIter it l n
  | .T, it, l, n => h.IsTupleIter it l n
section
variable {h h' : Heap} {it l b : Addr} {n : Nat} {xs : Array Value}
theorem kdS_but : ∀ {k : Kd}, KdS h k l xs → Heap.ExtBut b h h' → l ≠ b → KdS h' k l xs
  | .L, x, e, ne => Heap.IsList.extBut x e ne
  | .T, x, e, ne => Heap.IsTuple.extBut x e ne
theorem kdI_but : ∀ {k : Kd}, KdI h k it l n → Heap.ExtBut b h h' → it ≠ b → KdI h' k it l n
  | .L, x, e, ne => Heap.IsListIter.extBut x e ne
  | .T, x, e, ne => Heap.IsTupleIter.extBut x e ne
theorem kdI_at : ∀ {k : Kd}, KdI h k it l n → (∀ o, h.get? it = some o → h'.get? it = some o) → KdI h' k it l n
  | .L, x, e => Heap.IsListIter.at x e
  | .T, x, e => Heap.IsTupleIter.at x e
theorem kdI_obj : ∀ {k : Kd}, KdI h k it l n → ∃ o, h.get? it = some o ∧ ∀ v, o.data ≠ .cell v
  | .L, ⟨o, e, _, d⟩ => ⟨o, e, fun v q => by rw [d] at q; cases q⟩
  | .T, ⟨o, e, _, d⟩ => ⟨o, e, fun v q => by rw [d] at q; cases q⟩
end
section
variable {prog : Program} {w : World} {A : Around} {E : Value → Shared → Prop} {s : Shared}
theorem kd_item {it l : Addr} {i : Nat} {items : Array Value} {x : Value} {Q : Value → Shared → Prop} : ∀ {k : Kd}, KdI s.heap k it l i → KdS s.heap k l items → items[i]? = some x →
    (∀ h', KdI h' k it l (i + 1) → Heap.SameBut it s.heap h' → Q x { s with heap := h' }) → wpAny (model prog w) A (Builtin.SmallTypes.nextOf (.ref it)) Q E s
  | .L, a, b, c, q => wpAny_nextOf_list_item a b c q
  | .T, a, b, c, q => RZ.nextOf_tuple_item a b c q
theorem kd_end {it l : Addr} {i : Nat} {items : Array Value} {Q : Value → Shared → Prop} (hh : A.handled = none) : ∀ {k : Kd}, KdI s.heap k it l i → KdS s.heap k l items → items[i]? = none →
    (∀ h' e, Heap.ExtBut it s.heap h' → (∃ o, h'.get? e = some o ∧ o.cls = .type "StopIteration") → E (.ref e) { s with heap := h' }) → wpAny (model prog w) A (Builtin.SmallTypes.nextOf (.ref it)) Q E s
  | .L, a, b, c, q => wpAny_nextOf_list_end hh a b c q
  | .T, a, b, c, q => RZ.nextOf_tuple_end hh a b c q
theorem zipK_item {z TI TO i1 i2 l1 l2 : Addr} {ka kb : Kd} {n1 n2 : Nat} {xs ys : Array Value} {a b : Value} {x y : Value} {Q : Value → Shared → Prop} (D : ZipApart z TI TO i1 i2 l1 l2) (hz : IsZip s.heap z TI TO .none) (hTI : IsPair s.heap TI (.ref i1) (.ref i2)) (hTO : IsPair s.heap TO a b)
    (h1 : KdI s.heap ka i1 l1 n1) (h2 : KdI s.heap kb i2 l2 n2) (q1 : KdS s.heap ka l1 xs) (q2 : KdS s.heap kb l2 ys) (hx : xs[n1]? = some x) (hy : ys[n2]? = some y)
    (hQ : ∀ h', IsZip h' z TI TO (rawInt s.heap.objs.size) → IsPair h' TO x y → KdI h' ka i1 l1 (n1 + 1) → KdI h' kb i2 l2 (n2 + 1) → IsPair h' s.heap.objs.size x y → h'.objs.size = s.heap.objs.size + 1 → (∀ c o, c ≠ z → c ≠ TO → c ≠ i1 → c ≠ i2 → s.heap.get? c = some o → h'.get? c = some o) → Q (.ref s.heap.objs.size) { s with heap := h' }) :
    wpAny (model prog w) A (Builtin.«zip.__next__» ⟨[.ref z], []⟩) (fun fin s' => ∃ v, fin = .done (.ret v) ∧ Q v s') E s := by
  refine (show wpAny _ _ (field (.ref z) 2 >>= _) _ _ _ from wpAny_bind (wpAny_field hz rfl (x := .bool false) rfl ?_))
  refine (show wpAny _ _ (field (.ref z) 3 >>= _) _ _ _ from wpAny_bind (wpAny_field hz rfl (x := .ref TI) rfl (wpAny_bind (wpAny_seqItems hTI rfl ?_))))
  refine (show wpAny _ _ (Builtin.SmallTypes.ownedTupleIsFree (.ref z) >>= _) _ _ _ from wpAny_bind ?_)
  unfold Builtin.SmallTypes.ownedTupleIsFree
  refine wpAny_bind (wpAny_field hz rfl (x := .none) rfl (wpAny_pure ?_)); simp only [if_true]
  refine wpAny_bind (wpAny_rule (wpAny_bind (wpAny_field hz rfl (x := .ref TO) rfl (wpAny_bind (wpAny_setField_rec hz (by simp) fun g1 z1 s1 => ?_)))))
  replace z1 : IsZip g1 z TI TO .ellipsis := z1
  refine wpAny_bind ?_; simp only [List.zipIdx_cons, List.zipIdx_nil, List.forIn_cons, List.forIn_nil]
  refine wpAny_bind (wpAny_bind (wpAny_onRaise ?_))
  refine (show wpAny _ _ (Builtin.SmallTypes.nextOf (.ref i1) >>= _) _ _ _ from wpAny_bind (kd_item (kdI_but h1 s1.extBut D.i1z) (kdS_but q1 s1.extBut D.l1z) hx fun g2 n1' s2 => wpAny_pure ?_))
  have t2 : IsPair g2 TO a b := s2.extBut _ _ D.TOi1 (s1.extBut _ _ D.TOz hTO)
  refine wpAny_bind (wpAny_seqItems t2 rfl (wpAny_bind (wpAny_updateSeq_pair t2 fun g3 t3 s3 => wpAny_bind (wpAny_letGo (wpAny_pure ?_)))))
  replace t3 : IsPair g3 TO x b := t3
  refine wpAny_bind (wpAny_bind (wpAny_onRaise ?_))
  refine (show wpAny _ _ (Builtin.SmallTypes.nextOf (.ref i2) >>= _) _ _ _ from wpAny_bind (kd_item (kdI_but (kdI_but (kdI_but h2 s1.extBut D.i2z) s2.extBut D.i12.symm) s3.extBut D.TOi2.symm) (kdS_but (kdS_but (kdS_but q2 s1.extBut D.l2z) s2.extBut D.l2i1) s3.extBut D.l2TO) hy fun g4 n2' s4 => wpAny_pure ?_))
  have t4 : IsPair g4 TO x b := s4.extBut _ _ D.TOi2 t3
  refine wpAny_bind (wpAny_seqItems t4 rfl (wpAny_bind (wpAny_updateSeq_pair t4 fun g5 t5 s5 => wpAny_bind (wpAny_letGo (wpAny_pure (wpAny_pure ?_))))))
  replace t5 : IsPair g5 TO x y := t5
  refine wpAny_bind (wpAny_seqItems t5 rfl (wpAny_bind (wpAny_newTuple ?_)))
  have sz : g5.objs.size = s.heap.objs.size := by rw [s5.1, s4.1, s3.1, s2.1, s1.1]
  have z5 : IsZip g5 z TI TO .ellipsis := s5.extBut _ _ D.TOz.symm (s4.extBut _ _ D.i2z.symm (s3.extBut _ _ D.TOz.symm (s2.extBut _ _ D.i1z.symm z1)))
  have k5 : ∀ c o, c ≠ z → c ≠ TO → c ≠ i1 → c ≠ i2 → s.heap.get? c = some o → g5.get? c = some o := fun c o c1 c2 c3 c4 e => s5.extBut _ _ c2 (s4.extBut _ _ c4 (s3.extBut _ _ c2 (s2.extBut _ _ c3 (s1.extBut _ _ c1 e))))
  have m1 : KdI g5 ka i1 l1 (n1 + 1) := kdI_but (kdI_but (kdI_but n1' s3.extBut D.TOi1.symm) s4.extBut D.i12) s5.extBut D.TOi1.symm
  have m2 : KdI g5 kb i2 l2 (n2 + 1) := kdI_but n2' s5.extBut D.TOi2.symm
  have lz : z < g5.objs.size := Heap.lt_size z5
  refine (show wpAny _ _ (Builtin.SmallTypes.ownedTupleHandOut (.ref z) (.ref g5.objs.size) >>= _) _ _ _ from wpAny_bind ?_)
  unfold Builtin.SmallTypes.ownedTupleHandOut
  have z6 : IsZip (g5.push { cls := .type "tuple", data := .seq #[x, y] }) z TI TO .ellipsis := Heap.get?_push_of_some _ z5
  refine wpAny_bind (wpAny_setField_rec z6 (by simp) fun g7 z7 s7 => ?_)
  replace z7 : IsZip g7 z TI TO (rawInt g5.objs.size) := z7
  refine wpAny_setField_rec z7 (by simp) fun g8 z8 s8 => ?_
  replace z8 : IsZip g8 z TI TO (rawInt g5.objs.size) := z8
  have up : ∀ c o, c ≠ z → g5.get? c = some o → g8.get? c = some o := fun c o c1 e => s8.extBut _ _ c1 (s7.extBut _ _ c1 (Heap.get?_push_of_some _ e))
  have T8 : IsPair g8 g5.objs.size x y := s8.extBut _ _ (Nat.ne_of_gt lz) (s7.extBut _ _ (Nat.ne_of_gt lz) (Heap.get?_push_size _ rfl))
  have e8 : g8.objs.size = g5.objs.size + 1 := by rw [s8.1, s7.1, Heap.size_push]
  rw [sz] at z8 T8 e8
  refine wpAny_pure ⟨_, rfl, (show Q (.ref g5.objs.size) _ from ?_)⟩
  rw [sz]
  exact hQ g8 z8 (up _ _ D.TOz t5) (kdI_at m1 fun o e => up _ o D.i1z e) (kdI_at m2 fun o e => up _ o D.i2z e) T8 e8 fun c o c1 c2 c3 c4 e => up c o c1 (k5 c o c1 c2 c3 c4 e)
theorem zipK_end {z TI TO i1 i2 l1 l2 : Addr} {ka kb : Kd} {n1 n2 : Nat} {xs ys : Array Value} {a b : Value} {Q : Fin → Shared → Prop} (hh : A.handled = none) (D : ZipApart z TI TO i1 i2 l1 l2) (hz : IsZip s.heap z TI TO .none) (hTI : IsPair s.heap TI (.ref i1) (.ref i2)) (hTO : IsPair s.heap TO a b)
    (h1 : KdI s.heap ka i1 l1 n1) (h2 : KdI s.heap kb i2 l2 n2) (q1 : KdS s.heap ka l1 xs) (q2 : KdS s.heap kb l2 ys) (he : xs[n1]? = none ∨ ys[n2]? = none)
    (hE : ∀ h' e, (∀ c o, c ≠ z → c ≠ TO → c ≠ i1 → c ≠ i2 → s.heap.get? c = some o → h'.get? c = some o) → (∃ o, h'.get? e = some o ∧ o.cls = .type "StopIteration") → E (.ref e) { s with heap := h' }) :
    wpAny (model prog w) A (Builtin.«zip.__next__» ⟨[.ref z], []⟩) Q E s := by
  refine (show wpAny _ _ (field (.ref z) 2 >>= _) _ _ _ from wpAny_bind (wpAny_field hz rfl (x := .bool false) rfl ?_))
  refine (show wpAny _ _ (field (.ref z) 3 >>= _) _ _ _ from wpAny_bind (wpAny_field hz rfl (x := .ref TI) rfl (wpAny_bind (wpAny_seqItems hTI rfl ?_))))
  refine (show wpAny _ _ (Builtin.SmallTypes.ownedTupleIsFree (.ref z) >>= _) _ _ _ from wpAny_bind ?_)
  unfold Builtin.SmallTypes.ownedTupleIsFree
  refine wpAny_bind (wpAny_field hz rfl (x := .none) rfl (wpAny_pure ?_)); simp only [if_true]
  refine wpAny_bind (wpAny_rule (wpAny_bind (wpAny_field hz rfl (x := .ref TO) rfl (wpAny_bind (wpAny_setField_rec hz (by simp) fun g1 z1 s1 => ?_)))))
  replace z1 : IsZip g1 z TI TO .ellipsis := z1
  refine wpAny_bind ?_; simp only [List.zipIdx_cons, List.zipIdx_nil, List.forIn_cons, List.forIn_nil]
  refine wpAny_bind (wpAny_bind (wpAny_onRaise (show wpAny _ _ (Builtin.SmallTypes.nextOf (.ref i1) >>= _) _ _ _ from ?_)))
  cases hx : xs[n1]? with
  | none =>
    refine wpAny_bind (kd_end hh (kdI_but h1 s1.extBut D.i1z) (kdS_but q1 s1.extBut D.l1z) hx fun g2 e s2 ⟨oe, hoe, hce⟩ => ?_)
    have z2 : IsZip g2 z TI TO .ellipsis := s2 _ _ D.i1z.symm z1
    have ez : e ≠ z := fun x => by subst x; rw [z2] at hoe; cases hoe; simp at hce
    exact wpAny_setField_rec z2 (by simp) fun g3 _ s3 => hE g3 e (fun c o c1 _ c3 _ x => s3.extBut _ _ c1 (s2 _ _ c3 (s1.extBut _ _ c1 x))) ⟨oe, s3.extBut _ _ ez hoe, hce⟩
  | some x =>
    have hy : ys[n2]? = none := he.elim (fun h => by rw [hx] at h; cases h) id
    refine wpAny_bind (kd_item (kdI_but h1 s1.extBut D.i1z) (kdS_but q1 s1.extBut D.l1z) hx fun g2 n1' s2 => wpAny_pure ?_)
    have t2 : IsPair g2 TO a b := s2.extBut _ _ D.TOi1 (s1.extBut _ _ D.TOz hTO)
    refine wpAny_bind (wpAny_seqItems t2 rfl (wpAny_bind (wpAny_updateSeq_pair t2 fun g3 t3 s3 => wpAny_bind (wpAny_letGo (wpAny_pure ?_)))))
    refine wpAny_bind (wpAny_bind (wpAny_onRaise (show wpAny _ _ (Builtin.SmallTypes.nextOf (.ref i2) >>= _) _ _ _ from ?_)))
    refine wpAny_bind (kd_end hh (kdI_but (kdI_but (kdI_but h2 s1.extBut D.i2z) s2.extBut D.i12.symm) s3.extBut D.TOi2.symm) (kdS_but (kdS_but (kdS_but q2 s1.extBut D.l2z) s2.extBut D.l2i1) s3.extBut D.l2TO) hy fun g4 e s4 ⟨oe, hoe, hce⟩ => ?_)
    have z4 : IsZip g4 z TI TO .ellipsis := s4 _ _ D.i2z.symm (s3.extBut _ _ D.TOz.symm (s2.extBut _ _ D.i1z.symm z1))
    have ez : e ≠ z := fun x => by subst x; rw [z4] at hoe; cases hoe; simp at hce
    exact wpAny_setField_rec z4 (by simp) fun g5 _ s5 => hE g5 e (fun c o c1 c2 c3 c4 x => s5.extBut _ _ c1 (s4 _ _ c4 (s3.extBut _ _ c2 (s2.extBut _ _ c3 (s1.extBut _ _ c1 x))))) ⟨oe, s5.extBut _ _ ez hoe, hce⟩
theorem next_zipK {z TI TO i1 i2 l1 l2 : Addr} {ka kb : Kd} {n1 n2 : Nat} {xs ys : Array Value} {a b : Value} {x y : Value} {Q : Option Value → Shared → Prop} (D : ZipApart z TI TO i1 i2 l1 l2) (hz : IsZip s.heap z TI TO .none) (hTI : IsPair s.heap TI (.ref i1) (.ref i2)) (hTO : IsPair s.heap TO a b)
    (h1 : KdI s.heap ka i1 l1 n1) (h2 : KdI s.heap kb i2 l2 n2) (q1 : KdS s.heap ka l1 xs) (q2 : KdS s.heap kb l2 ys) (hx : xs[n1]? = some x) (hy : ys[n2]? = some y)
    (hQ : ∀ h', IsZip h' z TI TO (rawInt s.heap.objs.size) → IsPair h' TO x y → KdI h' ka i1 l1 (n1 + 1) → KdI h' kb i2 l2 (n2 + 1) → IsPair h' s.heap.objs.size x y → h'.objs.size = s.heap.objs.size + 1 → (∀ c o, c ≠ z → c ≠ TO → c ≠ i1 → c ≠ i2 → s.heap.get? c = some o → h'.get? c = some o) → Q (some (.ref s.heap.objs.size)) { s with heap := h' }) :
    wpAny (model prog w) A (pyNext (.ref z)) Q E s := by
  unfold pyNext
  have hT : s.TypeIs (.ref z) "zip" := ⟨_, hz, rfl⟩
  refine wpAny_bind (wpAny_attempt (wpAny_callSpecial?_slot (name := Str.ofString "__next__") hT F.slot_zip_next (wpAny_call_entry F.slot_zip_next hT F.entry_zip_next ?_ (F.args_zip_next_1 _))))
  exact zipK_item D hz hTI hTO h1 h2 q1 q2 hx hy fun h' a1 a2 a3 a4 a5 a6 a7 => wpAny_pure (hQ h' a1 a2 a3 a4 a5 a6 a7)
theorem done_zipK {z TI TO i1 i2 l1 l2 : Addr} {ka kb : Kd} {n1 n2 : Nat} {xs ys : Array Value} {a b : Value} {Q : Option Value → Shared → Prop} (hh : A.handled = none) (D : ZipApart z TI TO i1 i2 l1 l2) (hz : IsZip s.heap z TI TO .none) (hTI : IsPair s.heap TI (.ref i1) (.ref i2)) (hTO : IsPair s.heap TO a b)
    (h1 : KdI s.heap ka i1 l1 n1) (h2 : KdI s.heap kb i2 l2 n2) (q1 : KdS s.heap ka l1 xs) (q2 : KdS s.heap kb l2 ys) (he : xs[n1]? = none ∨ ys[n2]? = none)
    (hQ : ∀ h', (∀ c o, c ≠ z → c ≠ TO → c ≠ i1 → c ≠ i2 → s.heap.get? c = some o → h'.get? c = some o) → Q none { s with heap := h' }) : wpAny (model prog w) A (pyNext (.ref z)) Q E s := by
  unfold pyNext
  have hT : s.TypeIs (.ref z) "zip" := ⟨_, hz, rfl⟩
  refine wpAny_bind (wpAny_attempt (wpAny_callSpecial?_slot (name := Str.ofString "__next__") hT F.slot_zip_next (wpAny_call_entry F.slot_zip_next hT F.entry_zip_next (zipK_end hh D hz hTI hTO h1 h2 q1 q2 he fun h' e hk ⟨o, ho, hc⟩ => ?_) (F.args_zip_next_1 _))))
  exact wpAny_bind (wpAny_isInstance (T := "StopIteration") (b := true) ⟨o, ho, hc⟩ isSubtype_stop (wpAny_pure (hQ _ hk)))
end
/-! ### zip(list, tuple) -/
abbrev zlH1 (h : Heap) (l1 : Addr) : Heap := h.push { cls := .type "list_iterator", data := .fields #[.ref l1, .int 0 0] }
abbrev zlH2 (h : Heap) (l1 l2 : Addr) : Heap := (zlH1 h l1).push { cls := .type "tuple_iterator", data := .fields #[.ref l2, .int 0 0] }
abbrev zlH3 (h : Heap) (l1 l2 : Addr) : Heap := (zlH2 h l1 l2).push { cls := .type "tuple", data := .seq #[.ref h.objs.size, .ref (zlH1 h l1).objs.size] }
abbrev zlH4 (h : Heap) (l1 l2 : Addr) : Heap := (zlH3 h l1 l2).push { cls := .type "tuple", data := .seq #[.none, .none] }
abbrev zlH5 (h : Heap) (l1 l2 : Addr) : Heap := (zlH4 h l1 l2).push { cls := .type "zip", data := .fields #[.none, .bool false, .bool false, .ref (zlH2 h l1 l2).objs.size, .ref (zlH3 h l1 l2).objs.size] }
theorem meets_zl (l1 l2 : Addr) (xs ys : Array Value) : Meets (Builtin.«zip.__new__» ⟨[.type "zip", .ref l1, .ref l2], []⟩) (fun _ R s => s.heap.IsList l1 xs ∧ s.heap.IsTuple l2 ys ∧ R (.ok (.ret (.ref (zlH4 s.heap l1 l2).objs.size))) { s with heap := zlH5 s.heap l1 l2 }) :=
  .of_wp fun prog w A R s h => by
    obtain ⟨hp, g, d, tk, os⟩ := s; obtain ⟨hl1, hl2, h⟩ := h
    have hsub := sub_zip
    have hL1 : Heap.IsList (Shared.heap ⟨hp, g, d, tk, os⟩) l1 xs := hl1
    have hL2 : Heap.IsTuple (Shared.heap ⟨hp.push { cls := .type "list_iterator", data := .fields #[.ref l1, .int 0 0] }, g, d, tk, os⟩) l2 ys := Heap.IsTuple.push hl2 _
    wp_walk using wpAny_pyIter_list hL1, wpAny_pyIter_tuple hL2
    exact ⟨_, rfl, h⟩
section
variable {prog : Program} {w : World} {A : Around} {E : Value → Shared → Prop} {s : Shared}
theorem call_zl {l1 l2 : Addr} {xs ys : Array Value} {Q : Value → Shared → Prop} (hl1 : s.heap.IsList l1 xs) (hl2 : s.heap.IsTuple l2 ys)
    (h : ∀ h', IsZip h' (s.heap.objs.size + 4) (s.heap.objs.size + 2) (s.heap.objs.size + 3) .none → IsPair h' (s.heap.objs.size + 2) (.ref s.heap.objs.size) (.ref (s.heap.objs.size + 1)) → IsPair h' (s.heap.objs.size + 3) .none .none →
      KdI h' .L s.heap.objs.size l1 0 → KdI h' .T (s.heap.objs.size + 1) l2 0 → h'.objs.size = s.heap.objs.size + 5 → (∀ c o, s.heap.get? c = some o → h'.get? c = some o) → Q (.ref (s.heap.objs.size + 4)) { s with heap := h' }) :
    wpAny (model prog w) A (call (.type "zip") [.ref l1, .ref l2]) Q E s := by
  refine callType_new F.called_zip (by decide) (F.typeCall_zip_2 _ _) (F.newCall_zip_2 _ _) (fun obj => F.args_object_init_3 obj _ _) F.entry_zip_new (meets_zl l1 l2 xs ys) ⟨hl1, hl2, ?_⟩
  have e1 : (zlH1 s.heap l1).objs.size = s.heap.objs.size + 1 := Heap.size_push ..
  have e2 : (zlH2 s.heap l1 l2).objs.size = s.heap.objs.size + 2 := by rw [Heap.size_push, e1]
  have e3 : (zlH3 s.heap l1 l2).objs.size = s.heap.objs.size + 3 := by rw [Heap.size_push, e2]
  have e4 : (zlH4 s.heap l1 l2).objs.size = s.heap.objs.size + 4 := by rw [Heap.size_push, e3]
  have e5 : (zlH5 s.heap l1 l2).objs.size = s.heap.objs.size + 5 := by rw [Heap.size_push, e4]
  have keep1 : ∀ {c : Addr} {o : Obj}, (zlH1 s.heap l1).get? c = some o → (zlH5 s.heap l1 l2).get? c = some o := fun x => Heap.get?_push_of_some _ (Heap.get?_push_of_some _ (Heap.get?_push_of_some _ (Heap.get?_push_of_some _ x)))
  have g5 : (zlH5 s.heap l1 l2).get? (zlH4 s.heap l1 l2).objs.size = some _ := Heap.get?_push_size _ rfl
  have g4 : (zlH5 s.heap l1 l2).get? (zlH3 s.heap l1 l2).objs.size = some _ := Heap.get?_push_of_some _ (Heap.get?_push_size _ rfl)
  have g3 : (zlH5 s.heap l1 l2).get? (zlH2 s.heap l1 l2).objs.size = some _ := Heap.get?_push_of_some _ (Heap.get?_push_of_some _ (Heap.get?_push_size _ rfl))
  have g2 : (zlH5 s.heap l1 l2).get? (zlH1 s.heap l1).objs.size = some _ := Heap.get?_push_of_some _ (Heap.get?_push_of_some _ (Heap.get?_push_of_some _ (Heap.get?_push_size _ rfl)))
  have g1 : (zlH5 s.heap l1 l2).get? s.heap.objs.size = some _ := keep1 (Heap.get?_push_size _ rfl)
  rw [e2, e3, e4] at g5
  rw [e1, e2] at g3
  rw [e3] at g4
  rw [e1] at g2
  show _ ∧ _
  rw [e4]
  exact ⟨⟨_, g5, rfl⟩, h _ g5 g3 g4 ⟨_, g1, rfl, rfl⟩ ⟨_, g2, rfl, rfl⟩ e5 fun c o x => keep1 (Heap.get?_push_of_some _ x)⟩
end
/-- what stands at a, by its kind -/
def Sq (K : PySem.W.Frag) (H : Hp) : Kd → Addr → List V → Prop
  | .L, a, xs => SqL K H a xs
  | .T, a, xs => SqT K H a xs
theorem sq_at {X : Cx} {pins : List (Addr × Obj)} {σ : L2.St} {H : Hp} {s : Shared} {a : Addr} {xs : List V} (I : Inv X pins σ H s) : ∀ {k : Kd}, Sq X.K H k a xs → ∃ its : List Value, Vals xs its ∧ KdS s.heap k a its.toArray
  | .L, h => let ⟨its, rv, p, _⟩ := I.list h; ⟨its, rv, p.isList⟩
  | .T, h => let ⟨its, rv, p, _⟩ := I.tuple h; ⟨its, rv, p⟩
theorem sq_inj {X : Cx} {pins : List (Addr × Obj)} {σ : L2.St} {H : Hp} {s : Shared} {a : Addr} {xs ys : List V} (I : Inv X pins σ H s) : ∀ {k : Kd}, Sq X.K H k a xs → Sq X.K H k a ys → xs = ys
  | .L, h, g => I.list_inj h g
  | .T, h, g => I.tuple_inj h g
def ItzK (K : PySem.W.Frag) (ka kb : Kd) (a b : Addr) : It :=
  ⟨fun i H => ∃ (xs ys : List V) (x y : V), Sq K H ka a xs ∧ Sq K H kb b ys ∧ xs[i]? = some x ∧ ys[i]? = some y,
    fun i H v H' => ∃ T x y, v = .ref T ∧ H T = none ∧ H' = upd H T (.tup [x, y]) ∧ (∀ xs, Sq K H ka a xs → xs[i]? = some x) ∧ ∀ ys, Sq K H kb b ys → ys[i]? = some y,
    fun i H => ∃ xs ys : List V, Sq K H ka a xs ∧ Sq K H kb b ys ∧ (xs.length ≤ i ∨ ys.length ≤ i)⟩
theorem turn_zipK {P : Program} {w : World} {K : PySem.W.Frag} {elts : List Expr} {kk : Nat} {tpos : Pos} {a b z TI TO i1 i2 : Addr} {ka kb : Kd} (D : ZipApart z TI TO i1 i2 a b) :
    Turn P w K (.Tuple elts kk tpos) (ItzK K ka kb a b) [z, TI, TO, i1, i2] z (fun i h => IsZip h z TI TO .none ∧ IsPair h TI (.ref i1) (.ref i2) ∧ (∃ x y, IsPair h TO x y) ∧ KdI h ka i1 a i ∧ KdI h kb i2 b i) where
  mem := by simp
  obj := fun i h st c hc => by
    obtain ⟨hz, hTI, ⟨x, y, hTO⟩, h1, h2⟩ := st
    rcases (by simpa using hc : c = z ∨ c = TI ∨ c = TO ∨ c = i1 ∨ c = i2) with q | q | q | q | q
    · rw [q]; exact ⟨_, hz, fun v q => nomatch q⟩
    · rw [q]; exact ⟨_, hTI, fun v q => nomatch q⟩
    · rw [q]; exact ⟨_, hTO, fun v q => nomatch q⟩
    · rw [q]; exact kdI_obj h1
    · rw [q]; exact kdI_obj h2
  keep := fun i h h' st k => by
    obtain ⟨hz, hTI, ⟨x, y, hTO⟩, h1, h2⟩ := st
    exact ⟨k z (by simp) _ hz, k TI (by simp) _ hTI, ⟨x, y, k TO (by simp) _ hTO⟩, kdI_at h1 fun o q => k i1 (by simp) o q, kdI_at h2 fun o q => k i2 (by simp) o q⟩
  item := by
    intro X hP hw hK hc i pins s σ H E I hf st hg
    subst hP hw hK
    obtain ⟨hz, hTI, ⟨x0, y0, hTO⟩, h1, h2⟩ := st
    obtain ⟨xs, ys, x, y, hqx, hqy, hx, hy⟩ := hg
    obtain ⟨its, rv, p⟩ := sq_at I hqx
    obtain ⟨its2, rv2, p2⟩ := sq_at I hqy
    obtain ⟨u, hu, ru⟩ := rv.get hx
    obtain ⟨u2, hu2, ru2⟩ := rv2.get hy
    have hzl : z < s.heap.objs.size := Heap.lt_size hz
    refine next_zipK D hz hTI hTO h1 h2 p p2 (x := u) (y := u2) (by simpa using hu) (by simpa using hu2) fun h2' z' TO' a1 a2 hT hsz hk => ⟨_, rfl, wpAny_letOwnedTupleGo_zip (s := { s with heap := h2' }) z' fun h3 z3 sb => ?_⟩
    have hT2 : h3.get? s.heap.objs.size = some { cls := .type "tuple", data := .seq #[u, u2] } := (sb.2 _ (Nat.ne_of_gt hzl)).trans hT
    have old : ∀ c o, c ∉ [z, TI, TO, i1, i2] → s.heap.get? c = some o → h3.get? c = some o := fun c o hb q => (sb.2 c (fun q' => hb (by simp [q']))).trans (hk c o (fun q' => hb (by simp [q'])) (fun q' => hb (by simp [q'])) (fun q' => hb (by simp [q'])) (fun q' => hb (by simp [q'])) q)
    have I1 : Inv X pins σ (upd H s.heap.objs.size (.tup [x, y])) { s with heap := h3 } := I.turnedNew (t' := s.toks) (ch := [z, TI, TO, i1, i2]) old hf (Nat.le_refl _) ⟨by show 2 ≤ sizeLine; decide, [u, u2], .cons ru (.cons ru2 .nil), ⟨_, hT2, rfl, _, rfl⟩⟩
    refine ⟨.ref s.heap.objs.size, _, I1, rfl, ⟨_, x, y, rfl, I.hok.fresh (Nat.le_refl _), rfl, fun l hl => by rw [sq_inj I hl hqx]; exact hx, fun l hl => by rw [sq_inj I hl hqy]; exact hy⟩, ⟨z3, (sb.2 _ D.TIz).trans (hk _ _ D.TIz D.TITO D.TIi1 D.TIi2 hTI), ⟨u, u2, (sb.2 _ D.TOz).trans TO'⟩, kdI_at a1 fun o q => (sb.2 _ D.i1z).trans q, kdI_at a2 fun o q => (sb.2 _ D.i2z).trans q⟩, fun c hcm => ?_⟩
    have hlt : c < s.heap.objs.size := by
      rcases (by simpa using hcm : c = z ∨ c = TI ∨ c = TO ∨ c = i1 ∨ c = i2) with q | q | q | q | q
      · rw [q]; exact hzl
      · rw [q]; exact Heap.lt_size hTI
      · rw [q]; exact Heap.lt_size hTO
      · rw [q]; obtain ⟨_, e1, _⟩ := kdI_obj h1; exact Heap.lt_size e1
      · rw [q]; obtain ⟨_, e2, _⟩ := kdI_obj h2; exact Heap.lt_size e2
    rw [upd_ne (Nat.ne_of_lt hlt)]
    exact (hf c hcm).1
  done := by
    intro X hP hw hK hc i pins s σ H E I hf st hg
    subst hP hw hK
    obtain ⟨hz, hTI, ⟨x0, y0, hTO⟩, h1, h2⟩ := st
    obtain ⟨xs, ys, hqx, hqy, hend⟩ := hg
    obtain ⟨its, rv, p⟩ := sq_at I hqx
    obtain ⟨its2, rv2, p2⟩ := sq_at I hqy
    have l1 := rv.length
    have l2 := rv2.length
    have he : its.toArray[i]? = none ∨ its2.toArray[i]? = none := hend.elim (fun q => .inl (by simp; omega)) fun q => .inr (by simp; omega)
    exact done_zipK (I.ok.hd hc) D hz hTI hTO h1 h2 p p2 he fun h2' hk => ⟨rfl, I.turnedL (t' := s.toks) (ch := [z, TI, TO, i1, i2]) (fun c o hb q => hk c o (fun q' => hb (by simp [q'])) (fun q' => hb (by simp [q'])) (fun q' => hb (by simp [q'])) (fun q' => hb (by simp [q'])) q) hf⟩
  self := fun A i s Q E st h => wpAny_pyIter_zip st.1 h
def iZipL (K : PySem.W.Frag) (ta : TA) : TI := fun σ H R => ta σ H fun vs H1 => ∃ a b xs ys, vs = [.ref a, .ref b] ∧ SqL K H1 a xs ∧ SqT K H1 b ys ∧ R (ItzK K .L .T a b) H1
theorem vals_ref2 {us : List Value} {a b : Addr} (h : Vals [V.ref a, V.ref b] us) : us = [Value.ref a, Value.ref b] := by
  cases h with
  | cons h1 h2 =>
    cases h2 with
    | cons h3 h4 =>
      cases h4
      cases h1
      cases h3
      rfl
theorem pi_zipL {X : Cx} {e e2 : Expr} {ta : TA} {p pos tpos : Pos} {elts : List Expr} {kk : Nat} (hg : Gl X "zip") (hm : X.mg "zip" = none) (ha : PA X [e, e2] ta)
    (hs : starEach [e, e2] X.env = (false, eval e X.env) :: starEach [e2] X.env := by rfl) (hpl : (backTo pos (starEach [e2] X.env)).any (·.1) = false := by rfl) : PI X (.Tuple elts kk tpos) (.Call (.Name "zip" p) [e, e2] [] pos) (iZipL X.K ta) := by
  refine ⟨fun pins s σ H R I h => Call_ (ld_blt I hg hm PyProof.Rows.boot_zip (PyProof.Rows.callWith_type1 (thn (ha.run pos pins s σ H _ I h) fun us s1 ⟨vs, H1, I1, r1, a, b, xs, ys, ex, hqx, hqy, q⟩ => ?_) hs hpl))⟩
  subst ex
  obtain e1 := vals_ref2 r1
  subst e1
  obtain ⟨its, rv, p1, _⟩ := I1.list hqx
  obtain ⟨its2, rv2, p2, _⟩ := I1.tuple hqy
  have p2' : s1.heap.IsTuple b its2.toArray := p2
  obtain ⟨o2, ho2, _⟩ := id p2'
  refine call_zl p1.isList p2' fun h' hz hTI hTO h1 h2 hsz hk => wpAny_pyIter_zip hz ?_
  refine ⟨s1.heap.objs.size + 4, [s1.heap.objs.size + 4, s1.heap.objs.size + 2, s1.heap.objs.size + 3, s1.heap.objs.size, s1.heap.objs.size + 1], _, _, H1, rfl, I1.kept (t' := s1.toks) hk, turn_zipK (ka := .L) (kb := .T) (PySem.W.ktu_apart s1.heap.objs.size a b p1.lt (Heap.lt_size ho2)), ⟨hz, hTI, ⟨_, _, hTO⟩, h1, h2⟩, fun c hcm => ?_, q⟩
  have hle : s1.heap.objs.size ≤ c := by
    rcases (by simpa using hcm : c = s1.heap.objs.size + 4 ∨ c = s1.heap.objs.size + 2 ∨ c = s1.heap.objs.size + 3 ∨ c = s1.heap.objs.size ∨ c = s1.heap.objs.size + 1) with z | z | z | z | z <;> rw [z] <;> first | exact Nat.le_add_right _ _ | exact Nat.le_refl _
  exact I1.fpOk hle (I1.hok.fresh hle)
/-! ### typed -/
section
variable {Y : Rs} [w : Pre Y.W] {G : Ctx} {tr : TA} {K : PySem.W.Frag} {Ps Qs : List Pr}
theorem allp2 {A B : Pr} {vs : List V} {H : Hp} (a : AllP [A, B] vs H) : ∃ u v, vs = [u, v] ∧ A u H ∧ B v H := by
  match vs with
  | [] => exact a.elim
  | [_] => exact a.2.elim
  | [u, v] => exact ⟨u, v, rfl, a.1, a.2.1⟩
  | _ :: _ :: _ :: _ => exact a.2.2.elim
theorem zip_item {ka kb : Kd} {a b : Addr} {xs ys : List V} {i : Nat} {Ha Hb : Hp} {x : V} [mi : ∀ i, Mn Y.W (nth Ps i)] [mj : ∀ i, Mn Y.W (nth Qs i)] (hx : Sq K Ha ka a xs) (hy : Sq K Ha kb b ys) (px : AllP Ps xs Ha) (py : AllP Qs ys Ha) (h : (ItzK K ka kb a b).yld i Ha x Hb) : Y.W Ha Hb ∧ Tup K [nth Ps i, nth Qs i] x Hb := by
  obtain ⟨T, u, v, e1, e2, e3, e4, e5⟩ := h
  subst e3
  have w3 : Y.W Ha (upd Ha T (.tup [u, v])) := w.ext (Evl.Ex.new e2)
  exact ⟨w3, T, _, e1, Rd.of upd_same, (mi i).mn _ _ _ w3 (allp_nth px (e4 _ hx)), (mj i).mn _ _ _ w3 (allp_nth py (e5 _ hy)), True.intro⟩
theorem ei_zipL [ml : MnL Y.W Ps] [mq : MnL Y.W Qs] [mi : ∀ i, Mn Y.W (nth Ps i)] [mj : ∀ i, Mn Y.W (nth Qs i)] (len : Ps.length = Qs.length) (h : EvA Y G tr [Lst K Ps, Tup K Qs]) : EvI Y G (iZipL K tr) Ps.length (fun i => Tup K [nth Ps i, nth Qs i]) := fun s H ty hx R k =>
  h s H ty hx _ fun vs H2 w2 ha => by
      obtain ⟨u, v, e0, ⟨p, xs, e, hq, hn, hp⟩, ⟨p', ys, e', hq', hp'⟩⟩ := allp2 ha
      subst e0 e e'
      refine ⟨p, p', xs, ys, rfl, hq, .inl hq', k _ H2 (fun H => (SqL K H p xs ∧ AllP Ps xs H ∧ Safe H xs) ∧ Rd H p' (.tup ys) ∧ AllP Qs ys H) w2 ⟨⟨hq, hp, hn⟩, hq', hp'⟩ (fun a b x z => ⟨⟨w.lst x z.1.2.2 z.1.1, ml.mn xs a b x z.1.2.1, z.1.2.2.mono x⟩, w.tup x z.2.1, mq.mn ys a b x z.2.2⟩) ?_⟩
      have lx := allp_len hp
      have ly := allp_len hp'
      refine ⟨fun i H hi z => ?_, fun H z => ⟨xs, ys, z.1.1, .inl z.2.1, .inl (by omega)⟩, fun i Ha x Hb hi z y => zip_item (ka := .L) (kb := .T) (show Sq K Ha .L p xs from z.1.1) (show Sq K Ha .T p' ys from .inl z.2.1) z.1.2.1 z.2.2 y⟩
      exact ⟨xs, ys, xs[i]'(by omega), ys[i]'(by omega), z.1.1, .inl z.2.1, by simp, by simp⟩
theorem ei_zipT [ml : MnL Y.W Ps] [mq : MnL Y.W Qs] [mi : ∀ i, Mn Y.W (nth Ps i)] [mj : ∀ i, Mn Y.W (nth Qs i)] (len : Ps.length = Qs.length) (h : EvA Y G tr [Tup K Ps, Tup K Qs]) : EvI Y G (RZ.iZipA K tr) Ps.length (fun i => Tup K [nth Ps i, nth Qs i]) := fun s H ty hx R k =>
  h s H ty hx _ fun vs H2 w2 ha => by
      obtain ⟨u, v, e0, ⟨p, xs, e, hq, hp⟩, ⟨p', ys, e', hq', hp'⟩⟩ := allp2 ha
      subst e0 e e'
      refine ⟨p, p', xs, ys, rfl, .inr ⟨.inl hq, .inl hq', k _ H2 (fun H => (Rd H p (.tup xs) ∧ AllP Ps xs H) ∧ Rd H p' (.tup ys) ∧ AllP Qs ys H) w2 ⟨⟨hq, hp⟩, hq', hp'⟩ (fun a b x z => ⟨⟨w.tup x z.1.1, ml.mn xs a b x z.1.2⟩, w.tup x z.2.1, mq.mn ys a b x z.2.2⟩) ?_⟩⟩
      have lx := allp_len hp
      have ly := allp_len hp'
      refine ⟨fun i H hi z => ?_, fun H z => ⟨xs, ys, .inl z.1.1, .inl z.2.1, .inl (by omega)⟩, fun i Ha x Hb hi z y => ?_⟩
      · exact ⟨xs, ys, xs[i]'(by omega), ys[i]'(by omega), .inl z.1.1, .inl z.2.1, by simp, by simp⟩
      · obtain ⟨T, u, v, e1, e2, e3, e4, e5⟩ := y
        exact zip_item (ka := .T) (kb := .T) (a := p) (b := p') (show Sq K Ha .T p xs from .inl z.1.1) (show Sq K Ha .T p' ys from .inl z.2.1) z.1.2 z.2.2 ⟨T, u, v, e1, e2, e3, e4, e5⟩
end
end U

/-! ## enumerate of a list or a tuple -/
namespace U
open PySem PySem.Spec PyProof.Rows L2
section
variable {prog : Program} {w : World} {A : Around} {E : Value → Shared → Prop} {s : Shared} {e it l : Addr} {k : Kd} {i : Nat} {items : Array Value} {x old : Value}
theorem enK_item {Q : Value → Shared → Prop} (he : IsEnum s.heap e it i old) (hit : KdI s.heap k it l i) (hl : KdS s.heap k l items) (hx : items[i]? = some x) (hne : e ≠ it)
    (hQ : ∀ h', IsEnumOut h' e it ((i : Int) + 1) x s.heap.objs.size → KdI h' k it l (i + 1) → h'.get? s.heap.objs.size = some { cls := .type "tuple", data := .seq #[.int i s.toks, x] } → h'.objs.size = s.heap.objs.size + 1 → (∀ b o, b ≠ e → b ≠ it → s.heap.get? b = some o → h'.get? b = some o) → Q (.ref s.heap.objs.size) { s with heap := h', toks := s.toks + 1 }) :
    wpAny (model prog w) A (Builtin.«enumerate.__next__» ⟨[.ref e], []⟩) (fun fin s' => ∃ v, fin = .done (.ret v) ∧ Q v s') E s := by
  obtain ⟨hp, g, d, tk, os⟩ := s
  have ne := Ne.symm hne
  refine (show wpAny _ _ (field (.ref e) 2 >>= _) _ _ _ from wpAny_bind (wpAny_field he rfl (x := .ref it) rfl (wpAny_bind (kd_item hit hl hx fun g1 it1 s1 => ?_))))
  replace s1 : Heap.SameBut it hp g1 := s1
  have e1 : IsEnum g1 e it i old := (s1.2 e hne).trans he
  refine (show wpAny _ _ (field (.ref e) 3 >>= _) _ _ ⟨g1, g, d, tk, os⟩ from wpAny_bind (wpAny_field e1 rfl (x := rawInt i) rfl ?_))
  refine (show wpAny _ _ (field (.ref e) 4 >>= _) _ _ ⟨g1, g, d, tk, os⟩ from wpAny_bind (wpAny_field e1 rfl (x := .none) rfl ?_))
  refine (show wpAny _ _ (mkInt i >>= _) _ _ ⟨g1, g, d, tk, os⟩ from wpAny_bind (wpAny_mkInt ?_))
  refine (show wpAny _ _ (setField (.ref e) 3 (rawInt ((i : Int) + 1)) >>= _) _ _ ⟨g1, g, d, tk + 1, os⟩ from wpAny_bind (wpAny_setField_rec e1 (by simp) fun g2 e2 s2 => ?_))
  replace s2 : Heap.SameBut e g1 g2 := s2
  replace e2 : IsEnum g2 e it ((i : Int) + 1) old := e2
  refine (show wpAny _ _ (setField (.ref e) 4 .none >>= _) _ _ ⟨g2, g, d, tk + 1, os⟩ from wpAny_bind (wpAny_setField_rec e2 (by simp) fun g3 e3 s3 => ?_))
  replace s3 : Heap.SameBut e g2 g3 := s3
  replace e3 : IsEnum g3 e it ((i : Int) + 1) old := e3
  refine (show wpAny _ _ (newTuple [.int i tk, x] >>= _) _ _ ⟨g3, g, d, tk + 1, os⟩ from wpAny_bind (wpAny_newTuple ?_))
  have sz : g3.objs.size = hp.objs.size := by rw [s3.1, s2.1, s1.1]
  have lt : e < hp.objs.size := Heap.lt_size he
  have e4 : IsEnum (g3.push { cls := .type "tuple", data := .seq #[.int i tk, x] }) e it ((i : Int) + 1) old := Heap.get?_push_of_some _ e3
  have t4 : (g3.push { cls := .type "tuple", data := .seq #[.int i tk, x] }).get? hp.objs.size = some { cls := .type "tuple", data := .seq #[.int i tk, x] } := by rw [← sz]; exact Heap.get?_push_size _ rfl
  have z4 : (g3.push { cls := .type "tuple", data := .seq #[.int i tk, x] }).objs.size = hp.objs.size + 1 := by rw [Heap.size_push, sz]
  have k4 : ∀ b o, b ≠ e → b ≠ it → hp.get? b = some o → (g3.push { cls := .type "tuple", data := .seq #[.int i tk, x] }).get? b = some o := fun b o be bi hb => Heap.get?_push_of_some _ (s3.extBut b o be (s2.extBut b o be (s1.extBut b o bi hb)))
  have it4 : KdI (g3.push { cls := .type "tuple", data := .seq #[.int i tk, x] }) k it l (i + 1) := kdI_at (kdI_but (kdI_but it1 s2.extBut ne) s3.extBut ne) fun o q => Heap.get?_push_of_some _ q
  rw [sz]
  generalize g3.push { cls := .type "tuple", data := .seq #[.int i tk, x] } = g4 at e4 t4 z4 k4 it4 ⊢
  refine (show wpAny _ _ (Builtin.SmallTypes.ownedTupleIsFree (.ref e) >>= _) _ _ ⟨g4, g, d, tk + 1, os⟩ from wpAny_bind ?_)
  unfold Builtin.SmallTypes.ownedTupleIsFree
  refine wpAny_bind (wpAny_field e4 rfl (x := .none) rfl (wpAny_pure ?_)); simp only [if_true]
  refine wpAny_bind (wpAny_rule (wpAny_bind (wpAny_field e4 rfl (x := old) rfl (wpAny_bind (wpAny_setField_rec e4 (by simp) fun g5 e5 s5 => ?_)))))
  replace s5 : Heap.SameBut e g4 g5 := s5
  replace e5 : IsEnum g5 e it ((i : Int) + 1) x := e5
  refine (show wpAny _ _ (Builtin.SmallTypes.ownedTupleHandOut (.ref e) (.ref hp.objs.size) >>= _) _ _ ⟨g5, g, d, tk + 1, os⟩ from wpAny_bind ?_)
  unfold Builtin.SmallTypes.ownedTupleHandOut
  refine wpAny_bind (wpAny_setField_rec e5 (by simp) fun g6 e6 s6 => ?_)
  replace s6 : Heap.SameBut e g5 g6 := s6
  replace e6 : IsEnumOut g6 e it ((i : Int) + 1) x hp.objs.size := e6
  refine wpAny_setField_rec e6 (by simp) fun g7 e7 s7 => ?_
  replace s7 : Heap.SameBut e g6 g7 := s7
  replace e7 : IsEnumOut g7 e it ((i : Int) + 1) x hp.objs.size := e7
  have up : ∀ b o, b ≠ e → g4.get? b = some o → g7.get? b = some o := fun b o be q => s7.extBut b o be (s6.extBut b o be (s5.extBut b o be q))
  exact wpAny_bind (wpAny_letGo (wpAny_pure ⟨_, rfl, hQ g7 e7 (kdI_at it4 fun o q => up it o ne q) (up _ _ (Nat.ne_of_gt lt) t4) (by rw [s7.1, s6.1, s5.1, z4]) fun b o be bi hb => up b o be (k4 b o be bi hb)⟩))
theorem next_enK {Q : Option Value → Shared → Prop} (he : IsEnum s.heap e it i old) (hit : KdI s.heap k it l i) (hl : KdS s.heap k l items) (hx : items[i]? = some x) (hne : e ≠ it)
    (hQ : ∀ h', IsEnumOut h' e it ((i : Int) + 1) x s.heap.objs.size → KdI h' k it l (i + 1) → h'.get? s.heap.objs.size = some { cls := .type "tuple", data := .seq #[.int i s.toks, x] } → h'.objs.size = s.heap.objs.size + 1 → (∀ b o, b ≠ e → b ≠ it → s.heap.get? b = some o → h'.get? b = some o) → Q (some (.ref s.heap.objs.size)) { s with heap := h', toks := s.toks + 1 }) :
    wpAny (model prog w) A (pyNext (.ref e)) Q E s := by
  unfold pyNext
  have hT : s.TypeIs (.ref e) "enumerate" := ⟨_, he, rfl⟩
  refine wpAny_bind (wpAny_attempt (wpAny_callSpecial?_slot (name := Str.ofString "__next__") hT F.slot_enumerate_next (wpAny_call_entry F.slot_enumerate_next hT F.entry_enumerate_next ?_ (F.args_enumerate_next_1 _))))
  exact enK_item he hit hl hx hne fun h' a b c d k => wpAny_pure (hQ h' a b c d k)
theorem done_enK {Q : Option Value → Shared → Prop} (hh : A.handled = none) (he : IsEnum s.heap e it i old) (hit : KdI s.heap k it l i) (hl : KdS s.heap k l items) (hx : items[i]? = none)
    (hQ : ∀ h', Heap.ExtBut it s.heap h' → Q none { s with heap := h' }) : wpAny (model prog w) A (pyNext (.ref e)) Q E s := by
  unfold pyNext
  have hT : s.TypeIs (.ref e) "enumerate" := ⟨_, he, rfl⟩
  refine wpAny_bind (wpAny_attempt (wpAny_callSpecial?_slot (name := Str.ofString "__next__") hT F.slot_enumerate_next (wpAny_call_entry F.slot_enumerate_next hT F.entry_enumerate_next ?_ (F.args_enumerate_next_1 _))))
  refine (show wpAny _ _ (field (.ref e) 2 >>= _) _ _ _ from wpAny_bind (wpAny_field he rfl (x := .ref it) rfl (wpAny_bind (kd_end hh hit hl hx fun h' x he' ⟨o, ho, hc⟩ => ?_))))
  exact wpAny_bind (wpAny_isInstance (T := "StopIteration") (b := true) ⟨o, ho, hc⟩ isSubtype_stop (wpAny_pure (hQ _ he')))
end
/-! ### made of a tuple -/
theorem meets_enT (l : Addr) (items : Array Value) (n : Nat) (dct : Option Addr) (sl : Array (Option Value)) : Meets (Builtin.«enumerate.__new__» ⟨[.type "enumerate", .ref l], []⟩) (fun _ R s => s.heap.get? l = some { cls := .type "tuple", dict := dct, data := .seq items n, slots := sl } ∧
      R (.ok (.ret (.ref (s.heap.push { cls := .type "tuple_iterator", data := .fields #[.ref l, .int 0 0] }).objs.size))) { s with heap := (s.heap.push { cls := .type "tuple_iterator", data := .fields #[.ref l, .int 0 0] }).push { cls := .type "enumerate", data := .fields #[.none, .bool false, .ref s.heap.objs.size, rawInt 0, .none, .none] } }) :=
  .of_wp fun prog w A R s h => by
    obtain ⟨hp, g, d, tk, os⟩ := s; obtain ⟨hl, h⟩ := h
    have hsub := sub_enumerate
    have hT : Heap.IsTuple (Shared.heap ⟨hp, g, d, tk, os⟩) l items := ⟨_, hl, rfl, n, rfl⟩
    wp_walk using AutoSeq1.wpAny_loadPart' hl
    refine wpAny_stack_any fun st => wpAny_pure ?_
    split
    · rename_i c _ _ _ _ _
      cases (c == Value.type "enumerate") <;> (wp_walk using AutoSeq1.wpAny_loadPart' hl, wpAny_pyIter_tuple hT; exact ⟨_, rfl, h⟩)
    · wp_walk using AutoSeq1.wpAny_loadPart' hl, wpAny_pyIter_tuple hT
      exact ⟨_, rfl, h⟩
section
variable {prog : Program} {w : World} {A : Around} {E : Value → Shared → Prop} {s : Shared}
theorem call_enT {l : Addr} {items : Array Value} {Q : Value → Shared → Prop} (hL : s.heap.IsTuple l items)
    (h : ∀ h', IsEnum h' (s.heap.objs.size + 1) s.heap.objs.size 0 .none → KdI h' .T s.heap.objs.size l 0 → h'.objs.size = s.heap.objs.size + 2 → (∀ b o, s.heap.get? b = some o → h'.get? b = some o) → Q (.ref (s.heap.objs.size + 1)) { s with heap := h' }) :
    wpAny (model prog w) A (call (.type "enumerate") [.ref l]) Q E s := by
  obtain ⟨⟨c, dct, dt, sl⟩, hl, hc, n, hd⟩ := hL
  cases (show c = .type "tuple" from hc)
  cases (show dt = .seq items n from hd)
  refine callType_new F.called_enumerate (by decide) (F.typeCall_enumerate_1 _) (F.newCall_enumerate_1 _) (fun obj => F.args_object_init_2 obj _) F.entry_enumerate_new (meets_enT l items n dct sl) ⟨hl, ?_⟩
  have z : (s.heap.push { cls := .type "tuple_iterator", data := .fields #[.ref l, .int 0 0] }).objs.size = s.heap.objs.size + 1 := Heap.size_push ..
  have g := Heap.get?_push_size (s.heap.push { cls := .type "tuple_iterator", data := .fields #[.ref l, .int 0 0] }) (o := { cls := .type "enumerate", data := .fields #[.none, .bool false, .ref s.heap.objs.size, rawInt 0, .none, .none] }) rfl
  rw [z] at g
  show _ ∧ _
  rw [z]
  exact ⟨⟨_, g, rfl⟩, h _ g ⟨_, Heap.get?_push_of_some _ (Heap.get?_push_size _ rfl), rfl, rfl⟩ (by rw [Heap.size_push, z]) fun b o x => Heap.get?_push_of_some _ (Heap.get?_push_of_some _ x)⟩
end
def IteK (K : PySem.W.Frag) (k : Kd) (a : Addr) : It :=
  ⟨fun i H => ∃ (xs : List V) (x : V), Sq K H k a xs ∧ xs[i]? = some x, fun i H v H' => ∃ T x, v = .ref T ∧ H T = none ∧ H' = upd H T (.tup [.int (i : Nat), x]) ∧ ∀ xs, Sq K H k a xs → xs[i]? = some x, fun i H => ∃ xs : List V, Sq K H k a xs ∧ xs.length ≤ i⟩
theorem turn_enK {P : Program} {w : World} {K : PySem.W.Frag} {elts : List Expr} {kk : Nat} {tpos : Pos} {k : Kd} (a e it : Addr) :
    Turn P w K (.Tuple elts kk tpos) (IteK K k a) [e, it] e (fun i h => (∃ old, IsEnum h e it ((i : Nat) : Int) old) ∧ KdI h k it a i ∧ e ≠ it) where
  mem := by simp
  obj := fun i h st b hb => by
    obtain ⟨⟨old, he⟩, h1, _⟩ := st
    rcases (by simpa using hb : b = e ∨ b = it) with z | z
    · rw [z]; exact ⟨_, he, fun v q => nomatch q⟩
    · rw [z]; exact kdI_obj h1
  keep := fun i h h' st k => let ⟨⟨old, he⟩, hi, hne⟩ := st; ⟨⟨old, k e (by simp) _ he⟩, kdI_at hi fun o q => k it (by simp) o q, hne⟩
  item := by
    intro X hP hw hK hc i pins s σ H E I hf st hg
    subst hP hw hK
    obtain ⟨⟨old, he⟩, hit, hne⟩ := st
    obtain ⟨xs, x, hq, hx⟩ := hg
    obtain ⟨its, rv, p⟩ := sq_at I hq
    obtain ⟨u, hu, ru⟩ := rv.get hx
    have hel : e < s.heap.objs.size := Heap.lt_size he
    have hil : it < s.heap.objs.size := by obtain ⟨_, q, _⟩ := kdI_obj hit; exact Heap.lt_size q
    refine next_enK he hit p (x := u) (by simpa using hu) hne fun h2 ho it2 hT hsz hk => ⟨_, rfl, wpAny_letOwnedTupleGo_enum (s := { s with heap := h2, toks := s.toks + 1 }) ho fun h3 he3 sb => ?_⟩
    have hT2 : h3.get? s.heap.objs.size = some { cls := .type "tuple", data := .seq #[.int i s.toks, u] } := (sb.2 _ (Nat.ne_of_gt hel)).trans hT
    have I1 : Inv X pins σ (upd H s.heap.objs.size (.tup [.int (i : Nat), x])) { s with heap := h3, toks := s.toks + 1 } :=
      I.turnedNew (ch := [e, it]) (fun b ob hb q => (sb.2 b (fun z => hb (by simp [z]))).trans (hk b ob (fun z => hb (by simp [z])) (fun z => hb (by simp [z])) q)) hf (Nat.le_refl _) ⟨by show 2 ≤ sizeLine; decide, [.int i s.toks, u], .cons ⟨_, rfl⟩ (.cons ru .nil), ⟨_, hT2, rfl, _, rfl⟩⟩
    refine ⟨.ref s.heap.objs.size, _, I1, rfl, ⟨_, x, rfl, I.hok.fresh (Nat.le_refl _), rfl, fun ys hy => by rw [sq_inj I hy hq]; exact hx⟩, ⟨⟨u, ?_⟩, kdI_at it2 fun o q => (sb.2 it (Ne.symm hne)).trans q, hne⟩, fun b hb => ?_⟩
    · have e1 : ((i + 1 : Nat) : Int) = (i : Int) + 1 := by omega
      rw [e1]; exact he3
    · have hb' : b < s.heap.objs.size := by
        rcases (by simpa using hb : b = e ∨ b = it) with z | z
        · rw [z]; exact hel
        · rw [z]; exact hil
      rw [upd_ne (Nat.ne_of_lt hb')]
      exact (hf b hb).1
  done := by
    intro X hP hw hK hc i pins s σ H E I hf st hg
    subst hP hw hK
    obtain ⟨⟨old, he⟩, hit, hne⟩ := st
    obtain ⟨xs, hq, hx⟩ := hg
    obtain ⟨its, rv, p⟩ := sq_at I hq
    obtain ⟨f0, f1, f2, f3, f4, f5⟩ := hf it (by simp)
    have hl := rv.length
    exact done_enK (I.ok.hd hc) he hit p (by simp; omega) fun h2 eb => ⟨rfl, I.turned (t' := s.toks) eb f0 f1 f3 f4 f5⟩
  self := fun A i s Q E st h => let ⟨⟨_, he⟩, _⟩ := st; wpAny_pyIter_enum he h
/-- enumerate of a list or a tuple -/
def iEnK (K : PySem.W.Frag) (ta : TA) : TI := fun σ H R => ta σ H fun vs H1 => ∃ a k xs, vs = [.ref a] ∧ Sq K H1 k a xs ∧ R (IteK K k a) H1
theorem vals_ref1 {us : List Value} {a : Addr} (h : Vals [V.ref a] us) : us = [Value.ref a] := by
  cases h with
  | cons h1 h2 =>
    cases h2
    cases h1
    rfl
theorem pi_enK {X : Cx} {e : Expr} {ta : TA} {p pos tpos : Pos} {elts : List Expr} {kk : Nat} (hg : Gl X "enumerate") (hm : X.mg "enumerate" = none) (ha : PA X [e] ta) (hs : starEach [e] X.env = [(false, eval e X.env)] := by rfl) :
    PI X (.Tuple elts kk tpos) (.Call (.Name "enumerate" p) [e] [] pos) (iEnK X.K ta) := by
  refine ⟨fun pins s σ H R I h => Call_ (ld_blt I hg hm boot_enumerate (PyProof.Rows.callWith_type1 (thn (ha.run pos pins s σ H _ I h) fun us s1 ⟨vs, H1, I1, r1, a, k, xs, ex, hq, q⟩ => ?_) hs rfl))⟩
  subst ex
  have e1 := vals_ref1 r1
  subst e1
  have fresh : ∀ b ∈ [s1.heap.objs.size + 1, s1.heap.objs.size], FpOk X pins H1 b := fun b hb => by
    have hle : s1.heap.objs.size ≤ b := by rcases (by simpa using hb : b = s1.heap.objs.size + 1 ∨ b = s1.heap.objs.size) with z | z <;> rw [z] <;> first | exact Nat.le_refl _ | exact Nat.le_add_right _ _
    exact I1.fpOk hle (I1.hok.fresh hle)
  obtain ⟨its, rv, p'⟩ := sq_at I1 hq
  cases k with
  | L =>
    have p2 : s1.heap.IsList a its.toArray := p'
    exact call_enumerate_list p2 fun h2 he hit hsz hk => wpAny_pyIter_enum he ⟨s1.heap.objs.size + 1, [s1.heap.objs.size + 1, s1.heap.objs.size], _, _, H1, rfl, I1.kept (t' := s1.toks) hk, turn_enK (k := .L) a (s1.heap.objs.size + 1) s1.heap.objs.size, ⟨⟨.none, he⟩, hit, Nat.succ_ne_self _⟩, fresh, q⟩
  | T =>
    have p2 : s1.heap.IsTuple a its.toArray := p'
    exact call_enT p2 fun h2 he hit hsz hk => wpAny_pyIter_enum he ⟨s1.heap.objs.size + 1, [s1.heap.objs.size + 1, s1.heap.objs.size], _, _, H1, rfl, I1.kept (t' := s1.toks) hk, turn_enK (k := .T) a (s1.heap.objs.size + 1) s1.heap.objs.size, ⟨⟨.none, he⟩, hit, Nat.succ_ne_self _⟩, fresh, q⟩
section
variable {Y : Rs} [w : Pre Y.W] {G : Ctx} {tr : TA} {K : PySem.W.Frag} {Ps : List Pr}
theorem ei_enT [ml : MnL Y.W Ps] [mi : ∀ i, Mn Y.W (nth Ps i)] (h : EvA Y G tr [Tup K Ps]) : EvI Y G (iEnK K tr) Ps.length (fun i => Tup K [Is (.int (i : Int)), nth Ps i]) := fun s H ty hx R k =>
  h s H ty hx _ fun vs H2 w2 ha => by
    obtain ⟨x, ev, p, xs, e, hq, hp⟩ := allp1 ha
    subst e
    have lx := allp_len hp
    refine ⟨p, .T, xs, ev, .inl hq, k _ H2 (fun H => Rd H p (.tup xs) ∧ AllP Ps xs H) w2 ⟨hq, hp⟩ (fun a b x z => ⟨w.tup x z.1, ml.mn xs a b x z.2⟩) ⟨fun i H hi z => ⟨xs, xs[i]'(by omega), .inl z.1, by simp⟩, fun H z => ⟨xs, .inl z.1, by omega⟩, fun i Ha x Hb hi z y => ?_⟩⟩
    obtain ⟨T, b, e1, e2, e3, e5⟩ := y
    subst e3
    have w3 : Y.W Ha (upd Ha T (.tup [.int (i : Nat), b])) := w.ext (Evl.Ex.new e2)
    exact ⟨w3, T, _, e1, Rd.of upd_same, rfl, (mi i).mn _ _ _ w3 (allp_nth z.2 (e5 xs (show Sq K Ha .T p xs from .inl z.1))), True.intro⟩
theorem ei_enL [ml : MnL Y.W Ps] [mi : ∀ i, Mn Y.W (nth Ps i)] (h : EvA Y G tr [Lst K Ps]) : EvI Y G (iEnK K tr) Ps.length (fun i => Tup K [Is (.int (i : Int)), nth Ps i]) := fun s H ty hx R k =>
  h s H ty hx _ fun vs H2 w2 ha => by
    obtain ⟨x, ev, p, xs, e, hq, hn, hp⟩ := allp1 ha
    subst e
    have lx := allp_len hp
    refine ⟨p, .L, xs, ev, hq, k _ H2 (fun H => SqL K H p xs ∧ AllP Ps xs H ∧ Safe H xs) w2 ⟨hq, hp, hn⟩ (fun a b x z => ⟨w.lst x z.2.2 z.1, ml.mn xs a b x z.2.1, z.2.2.mono x⟩) ⟨fun i H hi z => ⟨xs, xs[i]'(by omega), z.1, by simp⟩, fun H z => ⟨xs, z.1, by omega⟩, fun i Ha x Hb hi z y => ?_⟩⟩
    obtain ⟨T, b, e1, e2, e3, e5⟩ := y
    subst e3
    have w3 : Y.W Ha (upd Ha T (.tup [.int (i : Nat), b])) := w.ext (Evl.Ex.new e2)
    exact ⟨w3, T, _, e1, Rd.of upd_same, rfl, (mi i).mn _ _ _ w3 (allp_nth z.2.1 (e5 xs (show Sq K Ha .L p xs from z.1))), True.intro⟩
end
end U

namespace U
open PySem PySem.Spec PyProof.Rows L2
/-! ## a tuple's count of whole numbers -/
def rCntT (K : PySem.W.Frag) : V → List V → Hp → VK → Prop := fun x xs H Q => ∃ (p : Addr) (zs : List Int) (k : Int), x = .ref p ∧ xs = [.int k] ∧ SqT K H p (zs.map V.int) ∧ Q (.int (zs.count k : Nat)) H
theorem mt_tcount {X : Cx} : MtR X "tuple.count" (rCntT X.K) := fun pins s σ H x xs v us Q I rx rxs h => by
  obtain ⟨p, zs, k, rfl, rfl, hs, q⟩ := h
  cases rx
  obtain ⟨u, rfl, ru⟩ := rxs.one
  obtain ⟨t, rfl⟩ := ru
  obtain ⟨its, rv, ⟨⟨cls, dd, data, sl⟩, ho, hc, n, hd⟩, _⟩ := I.tuple hs
  simp only at hc hd
  subst hc hd
  have all := ints_of_vals rv
  have cnt : its.toArray.toList.countP (eqk k) = zs.count k := eqk_count all
  have same := SeqAt.tuple_countAt p its.toArray n dd sl (.int k t) (eqk k)
  refine call_meets PySem.F.slot_tuple_count ⟨_, ho, rfl⟩ PySem.F.entry_tuple_count (PySem.F.args_tuple_count_2 _ _) same ⟨ho, fun y hy => (eqk_gives all y (by simpa using hy)).at _ _, ?_⟩
  refine ⟨.int (zs.count k : Nat), H, I.tok _, ⟨s.toks, ?_⟩, q⟩
  show Value.int ((its.toArray.toList.countP (eqk k) : Nat) : Int) s.toks = Value.int ((zs.count k : Nat) : Int) s.toks
  rw [cnt]
end U

/-! ## tuples made at run time whose object is known to have no dict: their methods -/
namespace U
open PySem PySem.Spec PyProof.Rows L2
/-- along W what is frozen stands -/
class PreZ (W : HR) : Prop where
  frz : ∀ {H H' : Hp} {a : Addr} {o : Obj} {u : HO}, W H H' → H a = some (.frz o u) → H' a = some (.frz o u)
instance prz_ex : PreZ Evl.Ex := ⟨fun w h => w _ _ h⟩
instance prz_wl : PreZ WL := ⟨fun w h => w.1 _ _ h rfl⟩
instance prz_wt : PreZ WT := ⟨fun w h => w _ _ h rfl⟩
instance prz_wi {x : Addr} : PreZ (WI x) := ⟨fun w h => w _ _ h (.inr rfl)⟩
instance prz_wo {W : HR} [w : PreD W] [z : PreZ W] {H0 : Hp} {l : Addr} : PreZ (WO W H0 l) := ⟨fun {H H' a o u} v h => by
  by_cases e : a = l
  · subst e; exact v.2.2 _ h ⟨rfl, rfl⟩
  · have h1 : del l H a = some (.frz o u) := by rw [del_ne e]; exact h
    have h2 := z.frz v.2.1 h1
    exact (del_some h2).2⟩
/-- a tuple without a dict, its items -/
def TupN (Ps : List Pr) : Pr := fun v H => ∃ p xs o, v = .ref p ∧ H p = some (.frz o (.tup xs)) ∧ o.dict = none ∧ AllP Ps xs H
instance mn_tupN {W : HR} [w : PreZ W] {Ps : List Pr} [ml : MnL W Ps] : Mn W (TupN Ps) := ⟨fun v H H' h ⟨p, xs, o, e, hs, d, hp⟩ => ⟨p, xs, o, e, w.frz h hs, d, ml.mn xs H H' h hp⟩⟩
theorem tupN_tup {K : PySem.W.Frag} {Ps : List Pr} {v : V} {H : Hp} (h : TupN Ps v H) : Tup K Ps v H := let ⟨p, xs, o, e, hs, _, hp⟩ := h; ⟨p, xs, e, .inr ⟨o, hs⟩, hp⟩
theorem ev_asT {Y : Rs} {G : Ctx} {te : TE} {K : PySem.W.Frag} {Ps : List Pr} (h : Ev Y G te (TupN Ps)) : Ev Y G te (Tup K Ps) := h.sub fun _ _ => tupN_tup
/-- tuple(x) of a list: a new tuple without a dict; of such a tuple: itself -/
def kTupF (K : PySem.W.Frag) (x : V) (H : Hp) (Q : VK) : Prop :=
  (∃ p xs, x = .ref p ∧ SqL K H p xs ∧ ∀ q o, H q = none → o.dict = none → Q (.ref q) (upd H q (.frz o (.tup xs)))) ∨ (∃ p xs, x = .ref p ∧ SqT K H p xs ∧ Q (.ref p) H)
theorem rl_tupleF {X : Cx} (pins : List (Addr × Obj)) (s : Shared) (σ : L2.St) (H : Hp) (x : V) (v : Value) (Q : VK) (I : Inv X pins σ H s) (r : RelV x v) (h : kTupF X.K x H Q) :
    wpAny (model X.prog X.w) X.A (call (.type "tuple") [v]) (EP X pins σ Q) X.xe s := by
  rcases h with ⟨p, xs, rfl, hs, q⟩ | ⟨p, xs, rfl, hs, q⟩
  · obtain rfl : v = .ref p := r
    obtain ⟨its, rv, pl, hz⟩ := I.list hs
    refine call_tuple_list pl.isList (fun h' hk => ?_) (by rw [List.size_toArray, ← rv.length]; exact hz)
    have I1 : Inv X pins σ H { s with heap := h' } := I.kept (t' := s.toks) hk
    have I2 : Inv X pins σ (upd H h'.objs.size (.frz { cls := .type "tuple", data := .seq its.toArray } (.tup xs))) { s with heap := h'.push { cls := .type "tuple", data := .seq its.toArray } } :=
      I1.laid (t' := s.toks) (fun b o e => Heap.get?_push_of_some _ e) (Nat.le_refl _) (show ObjOk X.prog X.w _ _ _ (.frz _ (.tup xs)) from ⟨Heap.get?_push_size _ rfl, hz, its, rv, IsTup.new _ _⟩)
    exact ⟨.ref h'.objs.size, _, I2, rfl, q _ _ (I1.hok.fresh (Nat.le_refl _)) rfl⟩
  · obtain rfl : v = .ref p := r
    obtain ⟨its, rv, pl, hz⟩ := I.tuple hs
    exact call_tuple_tup pl ⟨.ref p, H, I, rfl, q⟩
theorem pe_tupleF {X : Cx} {a : Expr} {ta : TE} {p pos : Pos} (hg : Gl X "tuple") (hm : X.mg "tuple" = none) (ha : PE X a ta) (na : starEach [a] X.env = (false, eval a X.env) :: starEach [] X.env := by rfl) :
    PE X (.Call (.Name "tuple" p) [a] [] pos) (tThen ta (kTupF X.K)) := by
  refine ⟨fun pins s σ H Q I h => ?_⟩
  exact Call_ (ld_blt I hg hm boot_tuple (PyProof.Rows.callWith_type1 (one_arg ha I h (fun v s2 x H2 I2 r q => rl_tupleF pins s2 σ H2 x v Q I2 r q) na) na))
/-- a tuple's display, as one without a dict -/
def tTupF (t : TA) : TE := fun σ H Q => t σ H fun xs H1 => ∀ q o, H1 q = none → o.dict = none → Q (.ref q) (upd H1 q (.frz o (.tup xs)))
section
variable {Y : Rs} [w : Pre Y.W] [wz : PreZ Y.W] {G : Ctx} {te : TE} {K : PySem.W.Frag} {Ps : List Pr}
theorem ev_tupF [ml : MnL Y.W Ps] (h : Ev Y G te (Lst K Ps)) : Ev Y G (tThen te (kTupF K)) (TupN Ps) := fun s H ty hx Q q =>
  h s H ty hx _ fun v H1 w1 ⟨p, xs, e, hq, hn, hp⟩ => .inl ⟨p, xs, e, hq, fun a o ha d => by
    have w2 : Y.W H1 (upd H1 a (.frz o (.tup xs))) := w.ext (Evl.Ex.new ha)
    exact q _ _ (w.trans w1 w2) ⟨a, xs, o, rfl, upd_same, d, ml.mn xs _ _ w2 hp⟩⟩
theorem ev_tupFT (h : Ev Y G te (TupN Ps)) : Ev Y G (tThen te (kTupF K)) (TupN Ps) := fun s H ty hx Q q =>
  h s H ty hx _ fun v H1 w1 ⟨p, xs, o, e, hq, d, hp⟩ => .inr ⟨p, xs, e, .inl (.inr ⟨o, hq⟩), by subst e; exact q _ _ w1 ⟨p, xs, o, rfl, hq, d, hp⟩⟩
end
/-! ### count -/
def tBMF (r : V → List V → Hp → VK → Prop) (to : TE) (t : TA) : TE := fun σ H Q => to σ H fun x H1 => (∃ p xs o, x = .ref p ∧ H1 p = some (.frz o (.tup xs)) ∧ o.dict = none) ∧ t σ H1 fun xs H2 => r x xs H2 Q
theorem frz_is {X : Cx} {pins : List (Addr × Obj)} {s : Shared} {σ : L2.St} {H : Hp} {p : Addr} {o : Obj} {xs : List V} (I : Inv X pins σ H s) (h : H p = some (.frz o (.tup xs))) (hd : o.dict = none) :
    s.TypeIs (.ref p) "tuple" ∧ ∀ a, Value.ref p = .ref a → ∃ o, s.heap.get? a = some o ∧ o.dict = none := by
  obtain ⟨e, _, _, _, ⟨o2, h1, h2, _⟩⟩ := (show ObjOk X.prog X.w H s.heap p (.frz o (.tup xs)) from I.hok p _ h)
  exact ⟨⟨o2, h1, h2⟩, fun a z => by cases z; exact ⟨o, e, hd⟩⟩
theorem pe_bmF {X : Cx} {o e : Expr} {es : List Expr} {to : TE} {t : TA} {name : Str} {apos cpos : Pos} {id : String} {r : V → List V → Hp → VK → Prop}
    (pa : PlainAttrs "tuple") (slot : Slot "tuple" name id) (hty : typeOf (.builtin id) = pure (.type "method_descriptor")) (hm : MtR X id r) (ho : PE X o to) (ha : PA X (e :: es) t)
    (hbase : attributeBase o name X.env (eval o X.env) = eval o X.env := by rfl)
    (hfew : ((backTo cpos (starEach (e :: es) X.env)).all (fun x => !x.1) && (backToKw cpos (keywordEach [] X.env)).all (fun x => x.1.isSome)
      && decide ((e :: es).length + ([] : List Keyword).length + (if ([] : List Keyword).isEmpty then 0 else 1) < 30)) = true := by rfl)
    (hline : (apos.endLine == cpos.line) = true := by rfl) (hs : starEach (e :: es) X.env = (false, eval e X.env) :: starEach es X.env := by rfl) (hplain : (backTo cpos (starEach es X.env)).any (·.1) = false := by rfl) :
    PE X (.Call (.Attribute o name apos) (e :: es) [] cpos) (tBMF r to t) := by
  refine ⟨fun pins s σ H Q I h => ?_⟩
  refine wpAny_Call_method_late hbase hfew hline rfl (thn (ho.run pins s σ H _ I h) fun v s1 ⟨x, H1, I1, r1, ⟨p, xs, ob, ex, hf, hd⟩, q1⟩ => ?_)
  subst ex
  have ev : v = .ref p := r1
  subst ev
  obtain ⟨h1, h2⟩ := frz_is I1 hf hd
  refine ⟨"tuple", id, pa, slot, hty, h1, h2, ?_⟩
  have hA := ha.run cpos pins s1 σ H1 _ I1 q1
  rw [hs] at hA ⊢
  refine Calls.callWith_builtin (by show (false || (backTo cpos (starEach es X.env)).any (·.1)) = false; rw [hplain] <;> rfl) (Calls.evalArgs_plain ?_)
  exact thn hA fun us s2 ⟨vs, H2, I2, r2, q2⟩ => hm pins s2 σ H2 (.ref p) vs (.ref p) us Q I2 rfl r2 q2
theorem allp_ints : ∀ {zs : List Int} {xs : List V} {H : Hp}, AllP (zs.map fun n => Is (.int n)) xs H → xs = zs.map V.int
  | [], [], _, _ => rfl
  | [], _ :: _, _, h => h.elim
  | _ :: _, [], _, h => h.elim
  | z :: zs, x :: xs, H, h => by
    have e : x = .int z := h.1
    rw [e, allp_ints h.2]
    rfl
theorem ev_count {Y : Rs} [w : PreT Y.W] {G : Ctx} {to te : TE} {K : PySem.W.Frag} {zs : List Int} {k : Int} [mc : MnC Y.W G] [wz : PreZ Y.W] [ml : MnL Y.W (zs.map fun n => Is (.int n))] (ho : Ev Y G to (TupN (zs.map fun n => Is (.int n)))) (ha : Ev Y G te (Is (.int k))) :
    Ev Y G (tBMF (rCntT K) to (tCons te tNil)) (Is (.int (zs.count k : Nat))) := fun s H ty hx Q q =>
  ho s H ty hx _ fun v H1 w1 ⟨p, xs, o, e, hq, d, hp⟩ => ⟨⟨p, xs, o, e, hq, d⟩, ha s H1 (mc.mn s H H1 w1 ty) (hx.mono w1) _ fun x H2 w2 ex => by
    refine ⟨p, zs, k, e, by rw [show x = V.int k from ex], .inl (.inr ⟨o, ?_⟩), q _ H2 (w.trans w1 w2) rfl⟩
    rw [← allp_ints hp]
    exact wz.frz w2 hq⟩
end U

/-! ## isinstance with a tuple of built-in classes; chained comparisons -/
namespace U
open PySem PySem.Spec PyProof.Rows L2
/-- a tuple of built-in types that was just laid -/
def TyT (ts : List String) : Pr := fun v H => ∃ p, v = .ref p ∧ H p = some (.tup (ts.map V.ty))
instance mn_tyT {ts : List String} : Mn Evl.Ex (TyT ts) := ⟨fun _ _ _ w ⟨p, e, h⟩ => ⟨p, e, w _ _ h⟩⟩
theorem allp_tys : ∀ {ts : List String} {xs : List V} {H : Hp}, AllP (ts.map fun t => Is (.ty t)) xs H → xs = ts.map V.ty
  | [], [], _, _ => rfl
  | [], _ :: _, _, h => h.elim
  | _ :: _, [], _, h => h.elim
  | t :: ts, x :: xs, H, h => by
    have e : x = .ty t := h.1
    rw [e, allp_tys h.2]
    rfl
theorem ev_tyT {Y : Rs} [w : PreT Y.W] {G : Ctx} {tr : TA} {ts : List String} (ha : EvA Y G tr (ts.map fun t => Is (.ty t))) (hl : ts.length ≤ 100000 := by decide) : Ev Y G (tTup tr) (TyT ts) := fun s H ty hx Q q =>
  ha s H ty hx _ fun vs H1 w1 p1 => ⟨by rw [allp_len p1, List.length_map]; exact Evl.sz_of hl, fun p hp => by
    have e := allp_tys p1
    have w2 : Y.W H1 (upd H1 p (.tup vs)) := w.ext (Evl.Ex.new hp)
    exact q _ _ (w.trans w1 w2) ⟨p, rfl, by rw [e]; exact upd_same⟩⟩
/-- the answer: h by decide +kernel -/
def kitBs (t : String) : List String → Option Bool
  | [] => some false
  | c :: r => match kitB t c with
    | some true => some true
    | some false => kitBs t r
    | none => none
theorem kitBs_any {K : PySem.W.Frag} {t : String} : ∀ {ts : List String} {b : Bool}, kitBs t ts = some b → PySem.W.kitAny K (.type t) (ts.map Value.type) = some b
  | [], _, h => h
  | c :: r, b, h => by
    unfold kitBs at h
    show (match PySem.W.kitOne K (.type t) (.type c) with
      | some true => some true
      | some false => PySem.W.kitAny K (.type t) (r.map Value.type)
      | none => none) = some b
    cases e : kitB t c with
    | none => rw [e] at h; cases h
    | some d =>
      rw [e] at h
      rw [kit_ty (K := K) e]
      cases d with
      | true => exact h
      | false => exact kitBs_any h
theorem paired_ty : ∀ ts : List String, Paired ClsV (ts.map V.ty) (ts.map Value.type)
  | [] => .nil
  | t :: ts => .cons (.ty t) (paired_ty ts)
theorem opA_isiT {K : PySem.W.Frag} {W : HR} [w : PreT W] {P : Pr} {t : String} {ts : List String} {b : Bool} (h : HasTy K t P) (k : kitBs t ts = some b) : OpA W (rIsiT K) [P, TyT ts] (Is (.bl b)) := fun vs H a Q q => by
  obtain ⟨u, v, e, p1, p, e2, h2⟩ := allp2 a
  subst e e2
  exact ⟨u, p, _, _, _, b, rfl, h2, paired_ty ts, h u H p1, kitBs_any k, q _ H (w.refl H) rfl⟩
section
variable {Y : Rs} [w : PreT Y.W] {G : Ctx} {ta tb tc : TE} {r r' : R2} {P1 P2 P3 : Pr}
theorem ev_chain [mc : MnC Y.W G] [m1 : Mn Y.W P1] [m2 : Mn Y.W P2] {a b : Bool} (ha : Ev Y G ta P1) (hb : Ev Y G tb P2) (h1 : Op2 Y.W r P1 P2 (Is (.bl a))) (hc : a = true → Ev Y G tc P3) (h2 : a = true → Op2 Y.W r' P2 P3 (Is (.bl b))) :
    Ev Y G (tChain r r' ta tb tc) (Is (.bl (a && b))) := fun s H ty hx Q q =>
  ha s H ty hx _ fun x H1 w1 p1 => hb s H1 (mc.mn s H H1 w1 ty) (hx.mono w1) _ fun y H2 w2 p2 => h1 x y H2 (m1.mn x H1 H2 w2 p1) p2 _ fun z H3 w3 ez => ⟨a, ez, by
    have w13 := w.trans (w.trans w1 w2) w3
    cases a with
    | false => exact q _ H3 w13 rfl
    | true => exact hc rfl s H3 (mc.mn s H H3 w13 ty) (hx.mono w13) _ fun z' H4 w4 p3 => h2 rfl y z' H4 (m2.mn y H2 H4 (w.trans w3 w4) p2) p3 Q fun v H5 w5 e5 => q v H5 (w.trans w13 (w.trans w4 w5)) e5⟩
end
/-- a whole number that stands in the text's names -/
theorem pe_globI {X : Cx} {x : Str} {i : Int} {pos : Pos} (hg : Gl X x) (hm : ∃ t, X.mg x = some (.int i t)) (hd : (x == ("__debug__" : Str)) = false := by decide) : PE X (.Name x pos) (tC (.int i)) :=
  pe_glob (v := .int i) (u := .int i hm.choose) hg hm.choose_spec ⟨_, rfl⟩ hd
/-- what may be passed as the ratio q: a written bottom below 2^d -/
def RatD (K : PySem.W.Frag) (d : Nat) (q : Rat) : Pr := fun v H => (∃ i : Int, v = .int i ∧ (i : Rat) = q) ∨ ∃ a b : Int, Tup K [Is (.int a), Is (.int b)] v H ∧ 0 < b ∧ Big d b ∧ Rat.divInt a b = q
instance mn_ratD {W : HR} [w : PreT W] {K : PySem.W.Frag} {d : Nat} {q : Rat} : Mn W (RatD K d q) := ⟨fun v H H' h p => p.elim .inl fun ⟨a, b, t, r⟩ => .inr ⟨a, b, mn_tup.mn v H H' h t, r⟩⟩
/-- q's top and bottom -/
def Sz2 (n d : Nat) (q : Rat) : Prop := Big n q.num ∧ q.den < 2 ^ d
theorem told_ratD {K : PySem.W.Frag} {d : Nat} {q : Rat} (s : q.den < 2 ^ d) {v : V} {H : Hp} (h : Told K q v H) : RatD K d q v H := .inr ⟨q.num, q.den, h, by have := q.den_pos; omega, by unfold Big; omega, by simp⟩
theorem int_ratD {K : PySem.W.Frag} {d : Nat} {i : Int} {v : V} {H : Hp} (h : Is (.int i) v H) : RatD K d (i : Rat) v H := .inl ⟨i, h, rfl⟩
theorem Sz2.mono {n d n' d' : Nat} {q : Rat} (h : Sz2 n d q) (l : n ≤ n') (k : d ≤ d') : Sz2 n' d' q := ⟨big_mono h.1 l, Nat.lt_of_lt_of_le h.2 (Nat.pow_le_pow_right (by decide) k)⟩
theorem sz2_divInt {n d : Nat} {a b : Int} (hb : b ≠ 0) (h : Big n a) (k : Big d b) : Sz2 n d (Rat.divInt a b) := by
  constructor
  · unfold Big at *
    rw [Rat.num_divInt]
    refine Nat.lt_of_le_of_lt ?_ h
    rw [Int.natAbs_ediv_of_dvd]
    · rw [Int.natAbs_mul, Int.natAbs_natCast]
      have : b.sign.natAbs = 1 := by rcases Int.lt_trichotomy b 0 with z | z | z <;> simp_all [Int.sign_eq_neg_one_of_neg, Int.sign_eq_one_of_pos]
      rw [this, Nat.one_mul]
      exact Nat.div_le_self _ _
    · exact Int.dvd_trans (Int.gcd_dvd_right ..) (Int.dvd_mul_left ..)
  · unfold Big at k
    rw [Rat.den_divInt, if_neg hb]
    exact Nat.lt_of_le_of_lt (Nat.div_le_self _ _) k
theorem ratd_add (q r : Rat) : Rat.divInt (q.num * r.den + r.num * q.den) (q.den * r.den) = q + r := by
  rw [← Rat.divInt_add_divInt _ _ (by have := q.den_pos; omega) (by have := r.den_pos; omega)]; simp
theorem ratd_mul (q r : Rat) : Rat.divInt (q.num * r.num) (q.den * r.den) = q * r := by
  rw [← Rat.divInt_mul_divInt]; simp
theorem ratd_ne (q r : Rat) : ((q.den : Int) * (r.den : Int)) ≠ 0 := Int.mul_ne_zero (by have := q.den_pos; omega) (by have := r.den_pos; omega)
theorem big_den {n d : Nat} {q : Rat} (h : Sz2 n d q) : Big d (q.den : Int) := by have := h.2; unfold Big; omega
theorem sz2_mul {n d m e : Nat} {q r : Rat} (h : Sz2 n d q) (k : Sz2 m e r) : Sz2 (n + m) (d + e) (q * r) := by
  rw [← ratd_mul]
  exact sz2_divInt (ratd_ne q r) (big_mul h.1 k.1) (big_mul (big_den h) (big_den k))
theorem sz2_add {n d m e N : Nat} {q r : Rat} (h : Sz2 n d q) (k : Sz2 m e r) (l1 : n + e ≤ N) (l2 : m + d ≤ N) : Sz2 (N + 1) (d + e) (q + r) := by
  rw [← ratd_add]
  exact sz2_divInt (ratd_ne q r) (big_add (m := N) (big_mono (big_mul h.1 (big_den k)) l1) (big_mono (big_mul k.1 (big_den h)) l2)) (big_mul (big_den h) (big_den k))
theorem sz2_int {n d : Nat} {i : Int} (h : Big n i) (hd : 0 < d) : Sz2 n d (i : Rat) := by
  constructor
  · simpa using h
  · have : ((i : Rat)).den = 1 := by simp
    rw [this]
    exact Nat.one_lt_two_pow (by omega)
theorem o_fd9 {W : HR} [w : PreT W] {n : Nat} {i j : Int} (h : j ≠ 0) (k : Big n j) (l : n ≤ 9000) : Op2 W rFd (Is (.int i)) (Is (.int j)) (Is (.int (i.fdiv j))) :=
  op2_I ⟨h, by
    have hp : 0 < j.natAbs := Int.natAbs_pos.mpr h
    exact (Nat.log2_lt (Nat.ne_of_gt hp)).mpr (Nat.lt_of_lt_of_le k (Nat.pow_le_pow_right (by decide) l))⟩
/-! ### sums of told ratios -/
def sumR (xs : List Rat) : Rat := xs.foldl (· + ·) 0
theorem sumR_snoc (xs : List Rat) (x : Rat) : sumR (xs ++ [x]) = sumR xs + x := by unfold sumR; rw [List.foldl_append]; rfl
theorem sumR_take {xs : List Rat} {i : Nat} (h : i < xs.length) : sumR (xs.take (i + 1)) = sumR (xs.take i) + xs.getD i 0 := by
  rw [List.take_add_one, List.getElem?_eq_getElem h, List.getD_eq_getElem?_getD, List.getElem?_eq_getElem h]
  exact sumR_snoc _ _
theorem sz2_sum {n d : Nat} {xs : List Rat} (h : ∀ x ∈ xs, Sz2 n d x) : ∀ i, i ≤ xs.length → Sz2 (n + i * (d + 1) + 2) (i * d + 1) (sumR (xs.take i))
  | 0, _ => by
    refine ⟨?_, ?_⟩
    · show (0 : Rat).num.natAbs < _
      exact Nat.pow_pos (by decide)
    · show (0 : Rat).den < _
      rw [Nat.zero_mul]
      decide
  | i + 1, hi => by
    have hi' : i < xs.length := by omega
    rw [sumR_take hi']
    have hx : Sz2 n d (xs.getD i 0) := h _ (by rw [List.getD_eq_getElem?_getD, List.getElem?_eq_getElem hi']; exact List.getElem_mem hi')
    have e1 : (i + 1) * (d + 1) = i * (d + 1) + (d + 1) := by rw [Nat.succ_mul]
    have e2 : (i + 1) * d = i * d + d := by rw [Nat.succ_mul]
    have e3 : i * (d + 1) = i * d + i := by rw [Nat.mul_succ]
    exact (sz2_add (N := n + i * (d + 1) + 2 + d) (sz2_sum h i (by omega)) hx (by omega) (by omega)).mono (by omega) (by omega)
end U

/-! ## == by an own __eq__, whichever it answers -/
namespace U
open PySem PySem.Spec PyProof.Rows L2
/-- x == y, x and y of the class at C, whose own __eq__ is worth sp -/
def rEqIns (C : Addr) (sp : Sp) (E : XK) : R2 := fun x y H Q => ∃ a b dx dy fs gs, x = .ref a ∧ y = .ref b ∧ H a = some (.ins C dx fs) ∧ H b = some (.ins C dy gs) ∧ sp [x, y] H (fun v H' => ∃ r, v = .bl r ∧ Q v H') E
theorem op_eqIns {X : Cx} {n : Nat} {CX : CXT} {C f : Addr} {fd : FuncData} {ps : List Str} {sp : Sp} {E : XK} (F : FnOk X.prog X.w X.K X.mg X.base CX n f fd ps sp)
    (hs : PySem.W.findIn X.K (.ref C) "__eq__" = some (some (.ref f))) (hf : PySem.W.isFn X.K (.ref f) = true) (hb : Binds X.K fd ps []) (hx : Passes CX X E) (hr : Room n X.A) : OpR X (compareOp .Eq) (rEqIns C sp E) := by
  intro pins s σ H x y u v Q I rx ry d
  obtain ⟨a, b, dx, dy, fs, gs, rfl, rfl, ha, hb', hsp⟩ := d
  cases rx
  cases ry
  show wpAny (model X.prog X.w) X.A (richCompare .Eq (.ref a) (.ref b)) (EP X pins σ Q) X.xe s
  obtain ⟨mA, J, _⟩ := ins_get I.hok ha
  obtain ⟨mB, J', _⟩ := ins_get I.hok hb'
  obtain ⟨od, J, _⟩ := J.look
  obtain ⟨od', J', _⟩ := J'.look
  obtain ⟨m, hF⟩ := I.fr
  refine PySem.W.cmp_K (op := .Eq) (tb := .ref C) hr.units0 hF I.ok.mod.kin J J'.type (by simp [PySem.W.notFirst]) hs hf ?_
  have hl := F.len _ _ _ _ hsp
  have r2 : Vals [V.ref a, V.ref b] [Value.ref a, Value.ref b] := .cons rfl (.cons rfl .nil)
  refine wpAny_call (codeAny_mono (F.run X.A X.stack s H ⟨[.ref a, .ref b], []⟩ [.ref a, .ref b] [.ref a, .ref b] _ E hr I.env0 (by
    have := hb s [.ref a, .ref b] I.kIn (by simpa using hl)
    simpa using this) r2 hsp) fun r s' hq => ?_)
  cases r with
  | error e => exact hx pins σ H s e s' I hq
  | ok fl =>
    cases fl with
    | ret w =>
      obtain ⟨z, H', I', rz, ⟨r, ez, q⟩⟩ := I.after hq
      subst ez
      cases rz
      exact ⟨.bl r, H', I', rfl, q⟩
    | next => exact False.elim hq
    | brk => exact False.elim hq
    | cont => exact False.elim hq
/-- len(x), x of the class at C, whose own __len__ is worth sp -/
def rLenIns (C : Addr) (sp : Sp) (E : XK) : List V → Hp → VK → Prop := fun xs H Q => ∃ a dx fs, xs = [.ref a] ∧ H a = some (.ins C dx fs) ∧ sp xs H (fun v H' => ∃ n : Int, v = .int n ∧ (0 ≤ n ∧ n < 2 ^ 63) ∧ Q (.int n) H') E
theorem call_lenIns {X : Cx} {n : Nat} {CX : CXT} {C f : Addr} {fd : FuncData} {ps : List Str} {sp : Sp} {E : XK} (F : FnOk X.prog X.w X.K X.mg X.base CX n f fd ps sp)
    (hs : PySem.W.findIn X.K (.ref C) "__len__" = some (some (.ref f))) (hf : PySem.W.isFn X.K (.ref f) = true) (hb : Binds X.K fd ps []) (hx : Passes CX X E) (hr : Room (n + 1) X.A) : CallR X (.builtin "len") (rLenIns C sp E) := by
  intro pins s σ H xs us Q I r d
  obtain ⟨a, dx, fs, rfl, ha, hsp⟩ := d
  obtain rfl := vals_ref1 r
  obtain ⟨mA, J, _⟩ := ins_get I.hok ha
  obtain ⟨od, J, _⟩ := J.look
  obtain ⟨m, hF⟩ := I.fr
  refine PySem.W.len_K hF I.ok.mod.kin J hs hf ?_
  have hl := F.len _ _ _ _ hsp
  have e0 : Env0 X.prog X.w X.K X.mg X.base X.A.in1 X.stack s H := by
    have e := I.env0
    exact ⟨by rw [show X.A.in1.frames = X.A.frames from rfl]; exact e.frames, e.mod, e.bs, e.bsz, e.funs, e.frf, e.hok, e.bare⟩
  refine wpAny_call (codeAny_mono (F.run X.A.in1 X.stack s H ⟨[.ref a], []⟩ [.ref a] [.ref a] _ E hr.in1 e0 (by
    have := hb s [.ref a] I.kIn (by simpa using hl)
    simpa using this) r hsp) fun r s' hq => ?_)
  cases r with
  | error e => exact hx pins σ H s e s' I hq
  | ok fl =>
    cases fl with
    | ret w =>
      obtain ⟨z, H', I', rz, ⟨k, ez, b, q⟩⟩ := I.after hq
      subst ez
      obtain ⟨t, rfl⟩ := rz
      exact ⟨b, .int k, H', I'.tok _, ⟨_, rfl⟩, q⟩
    | next => exact False.elim hq
    | brk => exact False.elim hq
    | cont => exact False.elim hq
/-! ### typed -/
section
variable {Y : Rs} [w : PreT Y.W] [wi : PreI Y.W] {G : Ctx} {ta tb : TE} {C : Addr} {Fs Gs : List (Str × Pr)} {sp : Sp} {E : XK}
theorem ev_eqIns {b : Bool} [mc : MnC Y.W G] [m1 : MnL Y.W (Fs.map (·.2))] (ha : Ev Y G ta (Ob C Fs)) (hb : Ev Y G tb (Ob C Gs)) (ho : Cl Y.W sp [Ob C Fs, Ob C Gs] (Is (.bl b)) NoX) : Ev Y G (tOp (rEqIns C sp E) ta tb) (Is (.bl b)) := fun s H ty hx Q q =>
  ha s H ty hx _ fun x H1 w1 p1 => hb s H1 (mc.mn s H H1 w1 ty) (hx.mono w1) _ fun y H2 w2 p2 => by
    have p1' : Ob C Fs x H2 := mn_ob.mn x H1 H2 w2 p1
    obtain ⟨a, dx, fs, e1, h1, _⟩ := id p1'
    obtain ⟨c, dy, gs, e2, h2, _⟩ := id p2
    exact ⟨a, c, dx, dy, fs, gs, e1, e2, h1, h2, ho [x, y] H2 ⟨p1', p2, True.intro⟩ _ _ (fun v H3 w3 e => ⟨b, e, q v H3 (w.trans (w.trans w1 w2) w3) e⟩) fun _ _ _ _ z => z.elim⟩
theorem opA_lenIns {W : HR} {n : Int} (h0 : 0 ≤ n) (h1 : n < 2 ^ 63) (ho : Cl W sp [Ob C Fs] (Is (.int n)) NoX) : OpA W (rLenIns C sp E) [Ob C Fs] (Is (.int n)) := fun vs H a Q q => by
  obtain ⟨x, e, p⟩ := allp1 a
  subst e
  obtain ⟨c, dx, fs, e1, h2, _⟩ := id p
  exact ⟨c, dx, fs, by rw [e1], h2, ho [x] H ⟨p, True.intro⟩ _ _ (fun v H3 w3 e => ⟨n, e, ⟨h0, h1⟩, q (.int n) H3 w3 rfl⟩) fun _ _ _ _ z => z.elim⟩
end
end U

/-! ## things as data: one predicate for whatever is passed -/
namespace U
open PySem PySem.Spec PyProof.Rows L2
inductive D where
  | non
  | bl (b : Bool)
  | int (i : Int)
  | str (s : Str)
  | tup (ds : List D)
  | lst (ds : List D)
  | dct
mutual
/-- v stands for the data -/
def Dv (K : PySem.W.Frag) : D → Pr
  | .non => Is .non
  | .bl b => Is (.bl b)
  | .int i => Is (.int i)
  | .str s => Is (.str s)
  | .tup ds => Tup K (DvL K ds)
  | .lst ds => Own (DvL K ds)
  | .dct => fun v H => ∃ p kvs, v = .ref p ∧ H p = some (.dK kvs)
def DvL (K : PySem.W.Frag) : List D → List Pr
  | [] => []
  | d :: ds => Dv K d :: DvL K ds
end
section
variable {K : PySem.W.Frag}
theorem dvl_map : ∀ ds : List D, DvL K ds = ds.map (Dv K)
  | [] => rfl
  | d :: ds => by show Dv K d :: DvL K ds = _; rw [dvl_map ds]; rfl
theorem dvl_len (ds : List D) : (DvL K ds).length = ds.length := by rw [dvl_map, List.length_map]
theorem dvl_app (a b : List D) : DvL K (a ++ b) = DvL K a ++ DvL K b := by rw [dvl_map, dvl_map, dvl_map, List.map_append]
theorem dvl_get {ds : List D} {i : Nat} {d : D} (h : ds[i]? = some d) : (DvL K ds)[i]? = some (Dv K d) := by rw [dvl_map, List.getElem?_map, h]; rfl
theorem nth_dvl {ds : List D} {i : Nat} (h : i < ds.length) : nth (DvL K ds) i = Dv K (ds.getD i .non) := by unfold nth; rw [dvl_map]; simp [h]
end
/-! ### it stands -/
def isDt : HO → Bool
  | .lst _ => true
  | .tup _ => true
  | .dK _ => true
  | .frz _ _ => true
  | _ => false
/-- along W lists, tuples and dicts stand -/
class PreL (W : HR) : Prop extends Pre W where
  std : ∀ {H H' : Hp} {a : Addr} {o : HO}, W H H' → H a = some o → isDt o = true → H' a = some o
instance prl_ex : PreL Evl.Ex := { pre_ex with std := fun w h _ => w _ _ h }
instance prl_wl : PreL WL := { pre_wl with std := fun {H H' a o} w h n => w.1 _ _ h (by cases o <;> first | rfl | cases n) }
instance prl_wi {x : Addr} : PreL (WI x) := { pre_wi with std := fun {H H' a o} w h n => w _ _ h (.inr (by cases o <;> first | rfl | cases n)) }
section
variable {K : PySem.W.Frag} {W : HR} [w : PreL W]
mutual
theorem dv_mn : ∀ d : D, Mn W (Dv K d)
  | .non => mn_is
  | .bl _ => mn_is
  | .int _ => mn_is
  | .str _ => mn_is
  | .tup ds => by
    haveI := dvl_mn ds
    exact mn_tup (K := K)
  | .lst ds => by
    haveI := dvl_mn ds
    exact mn_own
  | .dct => ⟨fun v H H' h ⟨p, kvs, e, hp⟩ => ⟨p, kvs, e, w.std h hp rfl⟩⟩
theorem dvl_mn : ∀ ds : List D, MnL W (DvL K ds)
  | [] => mnl_nil
  | d :: ds => by
    haveI := dv_mn d
    haveI := dvl_mn ds
    exact mnl_cons
end
instance mn_dv {d : D} : Mn W (Dv K d) := dv_mn d
instance mnl_dvl {ds : List D} : MnL W (DvL K ds) := dvl_mn ds
instance mn_nthD {ds : List D} : ∀ i, Mn W (nth (DvL K ds) i) := fun i => by
  by_cases h : i < ds.length
  · rw [nth_dvl h]; exact mn_dv
  · have : nth (DvL K ds) i = fun _ _ => False := by unfold nth; rw [dvl_map]; simp [h]
    rw [this]; exact ⟨fun _ _ _ _ h => h⟩
end
mutual
/-- no list, no dict within -/
def D.flat : D → Bool
  | .lst _ => false
  | .dct => false
  | .tup ds => D.flatL ds
  | _ => true
def D.flatL : List D → Bool
  | [] => true
  | d :: ds => d.flat && D.flatL ds
end
section
variable {K : PySem.W.Frag}
mutual
theorem flat_mn {W : HR} [w : PreT W] : ∀ d : D, d.flat = true → Mn W (Dv K d)
  | .non, _ => mn_is
  | .bl _, _ => mn_is
  | .int _, _ => mn_is
  | .str _, _ => mn_is
  | .tup ds, h => by
    haveI := flatl_mn (W := W) ds h
    exact mn_tup (K := K)
  | .lst _, h => by cases h
  | .dct, h => by cases h
theorem flatl_mn {W : HR} [w : PreT W] : ∀ ds : List D, D.flatL ds = true → MnL W (DvL K ds)
  | [], _ => mnl_nil
  | d :: ds, h => by
    have h' := (Bool.and_eq_true _ _).mp h
    haveI := flat_mn (W := W) d h'.1
    haveI := flatl_mn (W := W) ds h'.2
    exact mnl_cons
end
end
/-! ### kinds -/
def D.ty : D → String
  | .non => "NoneType"
  | .bl _ => "bool"
  | .int _ => "int"
  | .str _ => "str"
  | .tup _ => "tuple"
  | .lst _ => "list"
  | .dct => "dict"
def D.isInt : D → Bool
  | .int _ => true
  | .bl _ => true
  | _ => false
def D.isBool : D → Bool
  | .bl _ => true
  | _ => false
def D.isTup : D → Bool
  | .tup _ => true
  | _ => false
def D.isLst : D → Bool
  | .lst _ => true
  | _ => false
def D.isStr : D → Bool
  | .str _ => true
  | _ => false
section
variable {K : PySem.W.Frag}
theorem hasTy_d : ∀ d : D, HasTy K d.ty (Dv K d)
  | .non => hasTy_none
  | .bl _ => hasTy_bool
  | .int _ => hasTy_int
  | .str _ => hasTy_str
  | .tup _ => hasTy_tup
  | .lst _ => fun v H h => hasTy_lst (K := K) v H (own_lst h)
  | .dct => fun v H ⟨p, kvs, e, hp⟩ => by subst e; exact .base (.dK hp)
theorem opA_isiD {W : HR} [w : PreT W] {d : D} {T : String} {b : Bool} (k : kitB d.ty T = some b) : OpA W (rIsi K) [Dv K d, Is (.ty T)] (Is (.bl b)) := opA_isi (hasTy_d d) k
theorem isi_int {W : HR} [w : PreT W] : ∀ {d : D}, OpA W (rIsi K) [Dv K d, Is (.ty "int")] (Is (.bl d.isInt))
  | .non => opA_isi (t := "NoneType") (b := false) (hasTy_d _) (by decide +kernel)
  | .bl _ => opA_isi (t := "bool") (b := true) (hasTy_d _) (by decide +kernel)
  | .int _ => opA_isi (t := "int") (b := true) (hasTy_d _) (by decide +kernel)
  | .str _ => opA_isi (t := "str") (b := false) (hasTy_d _) (by decide +kernel)
  | .tup _ => opA_isi (t := "tuple") (b := false) (hasTy_d _) (by decide +kernel)
  | .lst _ => opA_isi (t := "list") (b := false) (hasTy_d _) (by decide +kernel)
  | .dct => opA_isi (t := "dict") (b := false) (hasTy_d _) (by decide +kernel)
theorem isi_bool {W : HR} [w : PreT W] : ∀ {d : D}, OpA W (rIsi K) [Dv K d, Is (.ty "bool")] (Is (.bl d.isBool))
  | .non => opA_isi (t := "NoneType") (b := false) (hasTy_d _) (by decide +kernel)
  | .bl _ => opA_isi (t := "bool") (b := true) (hasTy_d _) (by decide +kernel)
  | .int _ => opA_isi (t := "int") (b := false) (hasTy_d _) (by decide +kernel)
  | .str _ => opA_isi (t := "str") (b := false) (hasTy_d _) (by decide +kernel)
  | .tup _ => opA_isi (t := "tuple") (b := false) (hasTy_d _) (by decide +kernel)
  | .lst _ => opA_isi (t := "list") (b := false) (hasTy_d _) (by decide +kernel)
  | .dct => opA_isi (t := "dict") (b := false) (hasTy_d _) (by decide +kernel)
theorem isi_tup {W : HR} [w : PreT W] : ∀ {d : D}, OpA W (rIsi K) [Dv K d, Is (.ty "tuple")] (Is (.bl d.isTup))
  | .non => opA_isi (t := "NoneType") (b := false) (hasTy_d _) (by decide +kernel)
  | .bl _ => opA_isi (t := "bool") (b := false) (hasTy_d _) (by decide +kernel)
  | .int _ => opA_isi (t := "int") (b := false) (hasTy_d _) (by decide +kernel)
  | .str _ => opA_isi (t := "str") (b := false) (hasTy_d _) (by decide +kernel)
  | .tup _ => opA_isi (t := "tuple") (b := true) (hasTy_d _) (by decide +kernel)
  | .lst _ => opA_isi (t := "list") (b := false) (hasTy_d _) (by decide +kernel)
  | .dct => opA_isi (t := "dict") (b := false) (hasTy_d _) (by decide +kernel)
theorem isi_lst {W : HR} [w : PreT W] : ∀ {d : D}, OpA W (rIsi K) [Dv K d, Is (.ty "list")] (Is (.bl d.isLst))
  | .non => opA_isi (t := "NoneType") (b := false) (hasTy_d _) (by decide +kernel)
  | .bl _ => opA_isi (t := "bool") (b := false) (hasTy_d _) (by decide +kernel)
  | .int _ => opA_isi (t := "int") (b := false) (hasTy_d _) (by decide +kernel)
  | .str _ => opA_isi (t := "str") (b := false) (hasTy_d _) (by decide +kernel)
  | .tup _ => opA_isi (t := "tuple") (b := false) (hasTy_d _) (by decide +kernel)
  | .lst _ => opA_isi (t := "list") (b := true) (hasTy_d _) (by decide +kernel)
  | .dct => opA_isi (t := "dict") (b := false) (hasTy_d _) (by decide +kernel)
theorem isi_seq {W : HR} [w : PreT W] : ∀ {d : D}, OpA W (rIsiT K) [Dv K d, TyT ["list", "tuple"]] (Is (.bl (d.isLst || d.isTup)))
  | .non => opA_isiT (t := "NoneType") (b := false) (hasTy_d (.non)) (by decide +kernel)
  | .bl b => opA_isiT (t := "bool") (b := false) (hasTy_d (.bl b)) (by decide +kernel)
  | .int b => opA_isiT (t := "int") (b := false) (hasTy_d (.int b)) (by decide +kernel)
  | .str b => opA_isiT (t := "str") (b := false) (hasTy_d (.str b)) (by decide +kernel)
  | .tup b => opA_isiT (t := "tuple") (b := true) (hasTy_d (.tup b)) (by decide +kernel)
  | .lst b => opA_isiT (t := "list") (b := true) (hasTy_d (.lst b)) (by decide +kernel)
  | .dct => opA_isiT (t := "dict") (b := false) (hasTy_d (.dct)) (by decide +kernel)
end
/-! ### is -/
/-- x is True, x is False: whatever x is -/
def rIsX : R2 := fun x y H Q => ∃ b, y = .bl b ∧ (∀ n, x ≠ .ty n) ∧ Q (.bl (decide (x = .bl b))) H
def rNotX : R2 := fun x y H Q => ∃ b, y = .bl b ∧ (∀ n, x ≠ .ty n) ∧ Q (.bl (!decide (x = .bl b))) H
theorem op_isX {X : Cx} : OpR X (compareOp .Is) rIsX := by
  intro pins s σ H x y v u Q I rx ry h
  obtain ⟨b, rfl, nt, q⟩ := h
  cases ry
  cases x with
  | bl a =>
    cases rx
    cases a <;> cases b <;> exact wpAny_pure (fin_bl I q rfl)
  | non => cases rx; exact wpAny_is_other rfl (fun z => by cases z) (fin_bl I q rfl)
  | int i => obtain ⟨t, rfl⟩ := rx; exact wpAny_is_other rfl (fun z => by cases z) (fin_bl I q rfl)
  | str i => obtain ⟨t, rfl⟩ := rx; exact wpAny_is_other rfl (fun z => by cases z) (fin_bl I q rfl)
  | byt i => obtain ⟨t, rfl⟩ := rx; exact wpAny_is_other rfl (fun z => by cases z) (fin_bl I q rfl)
  | flt i => obtain ⟨t, rfl⟩ := rx; exact wpAny_is_other rfl (fun z => by cases z) (fin_bl I q rfl)
  | ref a => cases rx; exact wpAny_is_other rfl (fun z => by cases z) (fin_bl I q rfl)
  | ty n => exact absurd rfl (nt n)
theorem op_notX {X : Cx} : OpR X (compareOp .IsNot) rNotX := by
  intro pins s σ H x y v u Q I rx ry h
  obtain ⟨b, rfl, nt, q⟩ := h
  cases ry
  cases x with
  | bl a =>
    cases rx
    cases a <;> cases b <;> exact wpAny_pure (fin_bl I q rfl)
  | non => cases rx; exact wpAny_isNot_other rfl (fun z => by cases z) (fin_bl I q rfl)
  | int i => obtain ⟨t, rfl⟩ := rx; exact wpAny_isNot_other rfl (fun z => by cases z) (fin_bl I q rfl)
  | str i => obtain ⟨t, rfl⟩ := rx; exact wpAny_isNot_other rfl (fun z => by cases z) (fin_bl I q rfl)
  | byt i => obtain ⟨t, rfl⟩ := rx; exact wpAny_isNot_other rfl (fun z => by cases z) (fin_bl I q rfl)
  | flt i => obtain ⟨t, rfl⟩ := rx; exact wpAny_isNot_other rfl (fun z => by cases z) (fin_bl I q rfl)
  | ref a => cases rx; exact wpAny_isNot_other rfl (fun z => by cases z) (fin_bl I q rfl)
  | ty n => exact absurd rfl (nt n)
def D.isB (d : D) (b : Bool) : Bool := match d with
  | .bl a => a == b
  | _ => false
def D.isNon : D → Bool
  | .non => true
  | _ => false
section
variable {K : PySem.W.Frag} {W : HR} [w : PreT W]
theorem dv_val {d : D} {b : Bool} {x : V} {H : Hp} (h : Dv K d x H) : (∀ n, x ≠ .ty n) ∧ decide (x = .bl b) = d.isB b := by
  cases d with
  | bl a =>
    obtain rfl : x = .bl a := h
    refine ⟨fun n z => (by cases z), ?_⟩
    cases a <;> cases b <;> rfl
  | non => obtain rfl : x = .non := h; exact ⟨fun n z => (by cases z), rfl⟩
  | int i => obtain rfl : x = .int i := h; exact ⟨fun n z => (by cases z), rfl⟩
  | str i => obtain rfl : x = .str i := h; exact ⟨fun n z => (by cases z), rfl⟩
  | tup ds => obtain ⟨p, _, rfl, _⟩ := h; exact ⟨fun n z => (by cases z), rfl⟩
  | lst ds => obtain ⟨p, _, rfl, _⟩ := h; exact ⟨fun n z => (by cases z), rfl⟩
  | dct => obtain ⟨p, _, rfl, _⟩ := h; exact ⟨fun n z => (by cases z), rfl⟩
theorem dv_non {d : D} {x : V} {H : Hp} (h : Dv K d x H) : decide (x = .non) = d.isNon := by
  cases d with
  | bl a => obtain rfl : x = .bl a := h; rfl
  | non => obtain rfl : x = .non := h; rfl
  | int i => obtain rfl : x = .int i := h; rfl
  | str i => obtain rfl : x = .str i := h; rfl
  | tup ds => obtain ⟨p, _, rfl, _⟩ := h; rfl
  | lst ds => obtain ⟨p, _, rfl, _⟩ := h; rfl
  | dct => obtain ⟨p, _, rfl, _⟩ := h; rfl
theorem o_isXD {d : D} {b : Bool} : Op2 W rIsX (Dv K d) (Is (.bl b)) (Is (.bl (d.isB b))) := fun x y H e1 e2 Q q => by
  obtain ⟨n, e⟩ := dv_val (b := b) e1
  refine ⟨b, e2, n, ?_⟩
  rw [e]
  exact q _ H (w.refl H) rfl
theorem o_notXD {d : D} {b : Bool} : Op2 W rNotX (Dv K d) (Is (.bl b)) (Is (.bl (!d.isB b))) := fun x y H e1 e2 Q q => by
  obtain ⟨n, e⟩ := dv_val (b := b) e1
  refine ⟨b, e2, n, ?_⟩
  rw [e]
  exact q _ H (w.refl H) rfl
theorem o_isND {d : D} : Op2 W (fun x y H Q => y = .non ∧ Q (.bl (decide (x = .non))) H) (Dv K d) (Is .non) (Is (.bl d.isNon)) := fun x y H e1 e2 Q q => by
  refine ⟨e2, ?_⟩
  rw [dv_non e1]
  exact q _ H (w.refl H) rfl
theorem o_notND {d : D} : Op2 W (fun x y H Q => y = .non ∧ Q (.bl (!decide (x = .non))) H) (Dv K d) (Is .non) (Is (.bl (!d.isNon))) := fun x y H e1 e2 Q q => by
  refine ⟨e2, ?_⟩
  rw [dv_non e1]
  exact q _ H (w.refl H) rfl
end
/-! ### == -/
mutual
def D.dat : D → PyData
  | .non => .none
  | .bl b => .bool b
  | .int i => .int i
  | .str s => .str s
  | .tup ds => .tuple (D.datL ds)
  | .lst ds => .list (D.datL ds)
  | .dct => .none
def D.datL : List D → List PyData
  | [] => []
  | d :: ds => d.dat :: D.datL ds
/-- no dict within -/
def D.nod : D → Bool
  | .dct => false
  | .tup ds => D.nodL ds
  | .lst ds => D.nodL ds
  | .str s => PyData.canLay0 (.str s)
  | _ => true
def D.nodL : List D → Bool
  | [] => true
  | d :: ds => d.nod && D.nodL ds
/-- how deep -/
def D.dep : D → Nat
  | .tup ds => D.depL ds + 1
  | .lst ds => D.depL ds + 1
  | _ => 0
def D.depL : List D → Nat
  | [] => 0
  | d :: ds => max d.dep (D.depL ds)
/-- the same data -/
def D.eq : D → D → Bool
  | .non, .non => true
  | .bl a, .bl b => a == b
  | .bl a, .int j => (if a then 1 else 0) == j
  | .int i, .bl b => i == (if b then 1 else 0)
  | .int i, .int j => i == j
  | .str x, .str y => x == y
  | .tup xs, .tup ys => D.eqL xs ys
  | .lst xs, .lst ys => D.eqL xs ys
  | _, _ => false
def D.eqL : List D → List D → Bool
  | [], [] => true
  | x :: xs, y :: ys => D.eq x y && D.eqL xs ys
  | _, _ => false
end
section
variable {K : PySem.W.Frag}
mutual
theorem dv_dp : ∀ (d : D), d.nod = true → ∀ v H, Dv K d v H → Dp K H v d.dat
  | .non, _, v, H, h => by obtain rfl : v = .non := h; exact .non
  | .bl b, _, v, H, h => by obtain rfl : v = .bl b := h; exact .bl b
  | .int i, _, v, H, h => by obtain rfl : v = .int i := h; exact .int i
  | .str i, _, v, H, h => by obtain rfl : v = .str i := h; exact .str i
  | .tup ds, n, v, H, ⟨p, xs, e, hq, hp⟩ => by subst e; exact .tup (.inl hq) (dvl_dp ds n xs H hp)
  | .lst ds, n, v, H, ⟨p, xs, e, hq, _, hp⟩ => by subst e; exact .lst (SqL.of hq) (dvl_dp ds n xs H hp)
  | .dct, n, _, _, _ => by cases n
theorem dvl_dp : ∀ (ds : List D), D.nodL ds = true → ∀ xs H, AllP (DvL K ds) xs H → DpAll K H xs (D.datL ds)
  | [], _, [], _, _ => .nil
  | [], _, _ :: _, _, h => h.elim
  | _ :: _, _, [], _, h => h.elim
  | d :: ds, n, x :: xs, H, h => by
    have n' := (Bool.and_eq_true _ _).mp n
    exact .cons (dv_dp d n'.1 x H h.1) (dvl_dp ds n'.2 xs H h.2)
end
mutual
theorem dat_lay : ∀ d : D, d.nod = true → d.dat.canLay0 = true ∧ d.dat.depth = d.dep
  | .non, _ => ⟨rfl, rfl⟩
  | .bl _, _ => ⟨rfl, rfl⟩
  | .int _, _ => ⟨rfl, rfl⟩
  | .str _, n => ⟨n, rfl⟩
  | .tup ds, n => by
    have := datl_lay ds n
    refine ⟨by show (PyData.tuple (D.datL ds)).canLay0 = true; unfold PyData.canLay0; exact this.1, ?_⟩
    show (PyData.tuple (D.datL ds)).depth = D.depL ds + 1
    unfold PyData.depth
    rw [this.2]
  | .lst ds, n => by
    have := datl_lay ds n
    refine ⟨by show (PyData.list (D.datL ds)).canLay0 = true; unfold PyData.canLay0; exact this.1, ?_⟩
    show (PyData.list (D.datL ds)).depth = D.depL ds + 1
    unfold PyData.depth
    rw [this.2]
  | .dct, n => by cases n
theorem datl_lay : ∀ ds : List D, D.nodL ds = true → PyData.canLayAll0 (D.datL ds) = true ∧ PyData.depthAll (D.datL ds) = D.depL ds
  | [], _ => ⟨rfl, rfl⟩
  | d :: ds, n => by
    have n' := (Bool.and_eq_true _ _).mp n
    have h1 := dat_lay d n'.1
    have h2 := datl_lay ds n'.2
    refine ⟨?_, ?_⟩
    · show PyData.canLayAll0 (d.dat :: D.datL ds) = true
      unfold PyData.canLayAll0
      rw [h1.1, h2.1]; rfl
    · show PyData.depthAll (d.dat :: D.datL ds) = max d.dep (D.depL ds)
      unfold PyData.depthAll
      rw [h1.2, h2.2]
end
mutual
theorem dat_eqv : ∀ a b : D, a.nod = true → b.nod = true → PyData.eqv a.dat b.dat = D.eq a b
  | .tup xs, .tup ys, n, m => by
    show PyData.eqv (.tuple (D.datL xs)) (.tuple (D.datL ys)) = D.eqL xs ys
    unfold PyData.eqv
    exact datl_eqv xs ys n m
  | .lst xs, .lst ys, n, m => by
    show PyData.eqv (.list (D.datL xs)) (.list (D.datL ys)) = D.eqL xs ys
    unfold PyData.eqv
    exact datl_eqv xs ys n m
  | .dct, _, n, _ => by cases n
  | _, .dct, _, n => by cases n
  | .non, .non, _, _ => by simp [D.dat, D.eq, PyData.eqv]
  | .non, .bl _, _, _ => by simp [D.dat, D.eq, PyData.eqv]
  | .non, .int _, _, _ => by simp [D.dat, D.eq, PyData.eqv]
  | .non, .str _, _, _ => by simp [D.dat, D.eq, PyData.eqv]
  | .non, .tup _, _, _ => by simp [D.dat, D.eq, PyData.eqv]
  | .non, .lst _, _, _ => by simp [D.dat, D.eq, PyData.eqv]
  | .bl _, .non, _, _ => by simp [D.dat, D.eq, PyData.eqv]
  | .bl _, .bl _, _, _ => by simp [D.dat, D.eq, PyData.eqv]
  | .bl _, .int _, _, _ => by simp [D.dat, D.eq, PyData.eqv]
  | .bl _, .str _, _, _ => by simp [D.dat, D.eq, PyData.eqv]
  | .bl _, .tup _, _, _ => by simp [D.dat, D.eq, PyData.eqv]
  | .bl _, .lst _, _, _ => by simp [D.dat, D.eq, PyData.eqv]
  | .int _, .non, _, _ => by simp [D.dat, D.eq, PyData.eqv]
  | .int _, .bl _, _, _ => by simp [D.dat, D.eq, PyData.eqv]
  | .int _, .int _, _, _ => by simp [D.dat, D.eq, PyData.eqv]
  | .int _, .str _, _, _ => by simp [D.dat, D.eq, PyData.eqv]
  | .int _, .tup _, _, _ => by simp [D.dat, D.eq, PyData.eqv]
  | .int _, .lst _, _, _ => by simp [D.dat, D.eq, PyData.eqv]
  | .str _, .non, _, _ => by simp [D.dat, D.eq, PyData.eqv]
  | .str _, .bl _, _, _ => by simp [D.dat, D.eq, PyData.eqv]
  | .str _, .int _, _, _ => by simp [D.dat, D.eq, PyData.eqv]
  | .str _, .str _, _, _ => by simp [D.dat, D.eq, PyData.eqv]
  | .str _, .tup _, _, _ => by simp [D.dat, D.eq, PyData.eqv]
  | .str _, .lst _, _, _ => by simp [D.dat, D.eq, PyData.eqv]
  | .tup _, .non, _, _ => by simp [D.dat, D.eq, PyData.eqv]
  | .tup _, .bl _, _, _ => by simp [D.dat, D.eq, PyData.eqv]
  | .tup _, .int _, _, _ => by simp [D.dat, D.eq, PyData.eqv]
  | .tup _, .str _, _, _ => by simp [D.dat, D.eq, PyData.eqv]
  | .tup _, .lst _, _, _ => by simp [D.dat, D.eq, PyData.eqv]
  | .lst _, .non, _, _ => by simp [D.dat, D.eq, PyData.eqv]
  | .lst _, .bl _, _, _ => by simp [D.dat, D.eq, PyData.eqv]
  | .lst _, .int _, _, _ => by simp [D.dat, D.eq, PyData.eqv]
  | .lst _, .str _, _, _ => by simp [D.dat, D.eq, PyData.eqv]
  | .lst _, .tup _, _, _ => by simp [D.dat, D.eq, PyData.eqv]
theorem datl_eqv : ∀ xs ys : List D, D.nodL xs = true → D.nodL ys = true → PyData.eqvAll (D.datL xs) (D.datL ys) = D.eqL xs ys
  | [], [], _, _ => by simp [D.datL, D.eqL, PyData.eqvAll]
  | [], _ :: _, _, _ => by simp [D.datL, D.eqL, PyData.eqvAll]
  | _ :: _, [], _, _ => by simp [D.datL, D.eqL, PyData.eqvAll]
  | x :: xs, y :: ys, n, m => by
    have n' := (Bool.and_eq_true _ _).mp n
    have m' := (Bool.and_eq_true _ _).mp m
    show PyData.eqvAll (x.dat :: D.datL xs) (y.dat :: D.datL ys) = (D.eq x y && D.eqL xs ys)
    unfold PyData.eqvAll
    rw [dat_eqv x y n'.1 m'.1, datl_eqv xs ys n'.2 m'.2]
end
/-- may be compared -/
def D.ok (d : D) : Prop := d.nod = true ∧ d.dep ≤ 64
theorem ok_shaped {d : D} (h : d.ok) : SeqAt.shaped d.dat = true := by
  have := dat_lay d h.1
  unfold SeqAt.shaped
  rw [this.1, this.2]
  simpa using h.2
section
variable {W : HR} [w : PreT W]
theorem o_eqD {a b : D} (h : a.ok) (k : b.ok) : Op2 W (rEqA K) (Dv K a) (Dv K b) (Is (.bl (D.eq a b))) := op2_r fun x y H h1 h2 Q q => ⟨_, _, dv_dp a h.1 x H h1, dv_dp b k.1 y H h2, ok_shaped h, ok_shaped k, by rw [dat_eqv a b h.1 k.1]; exact q _ H (w.refl H) rfl⟩
theorem o_neD {a b : D} (h : a.ok) (k : b.ok) : Op2 W (rNeA K) (Dv K a) (Dv K b) (Is (.bl (!D.eq a b))) := op2_r fun x y H h1 h2 Q q => ⟨_, _, dv_dp a h.1 x H h1, dv_dp b k.1 y H h2, ok_shaped h, ok_shaped k, by rw [dat_eqv a b h.1 k.1]; exact q _ H (w.refl H) rfl⟩
end
end
mutual
theorem deq_refl : ∀ d : D, d.nod = true → D.eq d d = true
  | .non, _ => rfl
  | .bl b, _ => by cases b <;> rfl
  | .int i, _ => by simp [D.eq]
  | .str s, _ => by simp [D.eq]
  | .tup ds, n => by simp only [D.eq]; exact deql_refl ds n
  | .lst ds, n => by simp only [D.eq]; exact deql_refl ds n
  | .dct, n => by cases n
theorem deql_refl : ∀ ds : List D, D.nodL ds = true → D.eqL ds ds = true
  | [], _ => rfl
  | d :: ds, n => by
    have n' := (Bool.and_eq_true _ _).mp n
    simp only [D.eqL]
    rw [deq_refl d n'.1, deql_refl ds n'.2]; rfl
end
/-! ### items, displays, slices -/
section
variable {K : PySem.W.Frag} {Y : Rs} [w : PreL Y.W] {G : Ctx} {te tb : TE} {tr : TA}
theorem ea_d0 : EvA Y G tNil (DvL K []) := ea_nil
theorem ea_d {ta : TE} {d : D} {ds : List D} [mc : MnC Y.W G] (ha : Ev Y G ta (Dv K d)) (hr : EvA Y G tr (DvL K ds)) : EvA Y G (tCons ta tr) (DvL K (d :: ds)) := ea_cons ha hr
theorem ev_dtup {ds : List D} (ha : EvA Y G tr (DvL K ds)) (hl : ds.length ≤ 100000 := by first | decide | simp) : Ev Y G (tTup tr) (Dv K (.tup ds)) := ev_tup (K := K) ha (by rw [dvl_len]; exact hl)
theorem ev_dlst {ds : List D} (ha : EvA Y G tr (DvL K ds)) (hl : ds.length ≤ 100000 := by first | decide | simp) : Ev Y G (tLst tr) (Dv K (.lst ds)) := ev_own ha (fun _ _ _ => True.intro) (by rw [dvl_len]; exact hl)
end
section
variable {K : PySem.W.Frag} {W : HR} [w : PreL W]
theorem o_ixDL {ds : List D} {i : Nat} (h : i < ds.length) : Op2 W (rIx K) (Dv K (.lst ds)) (Is (.int (i : Int))) (Dv K (ds.getD i .non)) := fun x y H a b Q q =>
  o_ixL (K := K) (Ps := DvL K ds) (dvl_get (by rw [List.getElem?_eq_getElem h]; simp [h])) x y H (own_lst a) b Q q
theorem o_ixDT {ds : List D} {i : Nat} (h : i < ds.length) : Op2 W (rIx K) (Dv K (.tup ds)) (Is (.int (i : Int))) (Dv K (ds.getD i .non)) := fun x y H a b Q q =>
  o_ixT (K := K) (Ps := DvL K ds) (dvl_get (by rw [List.getElem?_eq_getElem h]; simp [h])) x y H a b Q q
theorem opA_lenDL {ds : List D} : OpA W (rLenA K) [Dv K (.lst ds)] (Is (.int (ds.length : Int))) := fun vs H a Q q => by
  obtain ⟨x, e, h⟩ := allp1 a
  subst e
  have := opA_lenL (W := W) (K := K) (Ps := DvL K ds) [x] H ⟨own_lst h, True.intro⟩ Q
  rw [dvl_len] at this
  exact this q
theorem opA_lenDT {ds : List D} : OpA W (rLenA K) [Dv K (.tup ds)] (Is (.int (ds.length : Int))) := fun vs H a Q q => by
  have := opA_lenT (W := W) (K := K) (Ps := DvL K ds) vs H a Q
  rw [dvl_len] at this
  exact this q
theorem cutL_map {A B : Type} (f : A → B) (xs : List A) (lo hi : Option Int) : cutL (xs.map f) lo hi = (cutL xs lo hi).map f := by unfold cutL; simp [List.map_drop, List.map_take]
theorem o_catD {a b : List D} (h : a.length + b.length ≤ 100000) : Op2 W (rAddA K) (Dv K (.lst a)) (Dv K (.lst b)) (Dv K (.lst (a ++ b))) := by
  have m1 : MnL W (DvL K a ++ DvL K b) := by rw [← dvl_app]; infer_instance
  have := o_cat (K := K) (W := W) (Ps := DvL K a) (Qs := DvL K b) (by rw [dvl_len, dvl_len]; exact h) (fun _ _ _ => True.intro)
  rw [← dvl_app] at this
  exact this
end
section
variable {K : PySem.W.Frag} {Y : Rs} [w : PreL Y.W] {G : Ctx} {te : TE} {tl th : TO}
theorem ev_slD {ds : List D} {lo hi : Option Int} [mc : MnC Y.W G] (h : Ev Y G te (Dv K (.lst ds))) (h1 : EvO Y G tl lo) (h2 : EvO Y G th hi) : Ev Y G (tSl (rSlL K) te tl th) (Dv K (.lst (cutL ds lo hi))) := by
  have e : cutL (DvL K ds) lo hi = DvL K (cutL ds lo hi) := by rw [dvl_map, dvl_map, cutL_map]
  have := ev_slL (K := K) (Ps := DvL K ds) (h.sub fun _ _ z => own_lst z) h1 h2 (by rw [e]; infer_instance) (fun _ _ _ => True.intro)
  rw [e] at this
  exact this
end
end U

/-! ## making that may raise; caught exceptions with attributes; own objects asked and compared -/
namespace U
open PySem PySem.Spec PyProof.Rows L2
/-! ### C(..), whatever it raises goes on from the slots -/
def tMakeS (C : Addr) (sp : Sp) (dvs : List V) (E : L2.St → XK) (t : TA) : TE := fun σ H Q => t σ H fun vs H1 => ∀ x dx, H1 x = none → H1 dx = none → dx ≠ x →
  sp (.ref x :: (vs ++ dvs)) (upd (upd H1 dx (.own x)) x (.ins C dx [])) (fun v H2 => v = .non ∧ Q (.ref x) H2) (E σ)
section
variable {X : Cx} {C f : Addr} {fd : FuncData} {ps : List Str} {sp : Sp} {k : Nat} {ds : List Value} {dvs : List V}
theorem run_makeS {E : XK} {pins : List (Addr × Obj)} {σ : L2.St} {H : Hp} {s : Shared} {Q : VK} {us : List Value} {vs : List V} (M : Mk X.K C f) (F : FnOk X.prog X.w X.K X.mg X.base (L2N.CX X.prog X.w) k f fd ps sp) (hr : Room (k + 1) X.A) (hb : Binds X.K fd ps ds) (hd : Vals dvs ds)
    (hx : PassesAt (L2N.CX X.prog X.w) X σ E) (I : Inv X pins σ H s) (r : Vals vs us)
    (h : ∀ x dx, H x = none → H dx = none → dx ≠ x → sp (.ref x :: (vs ++ dvs)) (upd (upd H dx (.own x)) x (.ins C dx [])) (fun v H2 => v = .non ∧ Q (.ref x) H2) E) :
    wpAny (model X.prog X.w) X.A (call (.ref C) us) (EP X pins σ Q) X.xe s := by
  have a1 := I.hok.fresh (Nat.le_succ s.heap.objs.size)
  have a0 := I.hok.fresh (Nat.le_refl s.heap.objs.size)
  have hq := h _ _ a1 a0 (Nat.ne_of_lt (Nat.lt_succ_self _))
  have J := Inv.made (C := C) I
  have r2 : Vals (V.ref (s.heap.objs.size + 1) :: (vs ++ dvs)) (Value.ref (s.heap.objs.size + 1) :: (us ++ ds)) := .cons rfl (r.append hd)
  have hl := F.len _ _ _ _ hq
  rw [r2.length] at hl
  refine wpAny_call (make_map (f := f) I.kIn M.makes M.init (beq_iff_eq.mp M.fn) (codeAny_mono (F.run _ X.stack _ _ ⟨Value.ref (s.heap.objs.size + 1) :: us, []⟩ _ _ _ E (hr.make C us []) (J.env0.make C us []) (hb _ _ J.kIn hl) r2 hq) fun z s' hz => ?_))
  match z, hz with
  | .error e, hz => exact hx pins _ _ e s' J hz
  | .ok (.ret u), hz =>
    obtain ⟨v, H', J', rv, ev, q3⟩ := J.after hz
    subst ev
    exact ⟨rv, V.ref (s.heap.objs.size + 1), H', J', rfl, q3⟩
  | .ok .next, hz => exact False.elim hz
  | .ok .brk, hz => exact False.elim hz
  | .ok .cont, hz => exact False.elim hz
end
/-- the maker of the class at C, some arguments left out -/
structure DkD (P : Program) (w : World) (K : PySem.W.Frag) (mg : Str → Option Value) (base : Heap) (k : Nat) (x : Str) (C : Addr) (ps : List Str) (dvs : List V) (sp : Sp) : Prop where
  ex : ∃ f fd ds, FnOk P w K mg base (L2N.CX P w) k f fd ps sp ∧ Mk K C f ∧ Binds K fd ps ds ∧ Vals dvs ds
  at_ : mg x = some (.ref C)
theorem pe_mk {X : Cx} {k : Nat} {C : Addr} {ps : List Str} {sp : Sp} {dvs : List V} {W : WX} {x : Str} {p pos : Pos} {e : Expr} {es : List Expr} {t : TA} (D : DkD X.prog X.w X.K X.mg X.base k x C ps dvs sp) (hr : Room (k + 1) X.A) (tk : L2N.Takes X W) (ha : PA X (e :: es) t) (hg : Gl X x := by rfl)
    (hdb : (x == ("__debug__" : Str)) = false := by decide) (he : starEach (e :: es) X.env = (false, eval e X.env) :: starEach es X.env := by rfl) (hpl : (backTo pos (starEach es X.env)).any (·.1) = false := by rfl) :
    PE X (.Call (.Name x p) (e :: es) [] pos) (tMakeS C sp dvs (WE W) t) := by
  obtain ⟨f, fd, ds, F, M, b, d⟩ := D.ex
  refine ⟨fun pins s σ H Q I h => ?_⟩
  refine wpAny_Call_Name_kw (ld_glob I hg D.at_ ?_ hdb)
  refine PySem.W.callWith_K (h₀ := X.base) I.ok.mod.kin M.kp (thn (ha.run pos pins s σ H _ I h) fun us s1 ⟨vs, H1, I1, r, q⟩ => ⟨I1.kIn, ?_⟩) he hpl
  exact run_makeS M F hr b d (L2N.passAt tk σ) I1 r q
section
variable {Y : Rs} [w : PreT Y.W] {G : Ctx} {K : PySem.W.Frag} {C : Addr} {t : TA} {E : L2.St → XK} {dvs : List V}
theorem ev_mk {I : Type} {D : I → Prop} {f : I → MkW} {Ps : List Pr} (i : I) (c : D i) [ml : MnL Evl.Ex Ps] (hP : ∀ vs H, AllP Ps vs H → AllP (f i).Ps (vs ++ dvs) H) (ha : EvA Y G t Ps) (nx : ∀ cls d H, (f i).X cls d H → False) : Ev Y G (tMakeS C (SpI C D f) dvs E t) (Ob C (f i).Fs) := fun s H ty hx Q q =>
  ha s H ty hx _ fun vs H1 w1 pv x dx nxx ndx ne =>
    ⟨i, x, dx, vs ++ dvs, c, rfl, upd_same, hP _ _ (ml.mn _ _ _ (ex_start nxx ndx) pv), fun H' wi o => ⟨rfl, q _ H' (w.trans w1 (w.ext (ex_made nxx ndx wi))) o⟩, fun cls d H' _ z => (nx cls d H' z).elim⟩
/-- it raises -/
theorem ev_mkX {I : Type} {D : I → Prop} {f : I → MkW} {Ps : List Pr} {P : Pr} (i : I) (c : D i) [ml : MnL Evl.Ex Ps] [mc : MnC Y.W G] (hP : ∀ vs H, AllP Ps vs H → AllP (f i).Ps (vs ++ dvs) H) (ha : EvA Y G t Ps) (no : ∀ x H, Ob C (f i).Fs (.ref x) H → False) (hX : ∀ cls d H, (f i).X cls d H → Y.X cls d H) (sb : Sub G Y.GX) : Ev Y G (tMakeS C (SpI C D f) dvs (fun σ => Y.E σ) t) P := fun s H ty hx Q q =>
  ha s H ty hx _ fun vs H1 w1 pv x dx nxx ndx ne =>
    ⟨i, x, dx, vs ++ dvs, c, rfl, upd_same, hP _ _ (ml.mn _ _ _ (ex_start nxx ndx) pv), fun H' wi o => (no x H' o).elim, fun cls d H' wi z => by
      have w2 := w.trans w1 (w.ext (ex_made nxx ndx wi))
      exact hx s cls d H' w2 (sb s H' (mc.mn s H H' w2 ty)) (hX cls d H' z)⟩
end
/-! ### a caught exception with attributes -/
/-- isinstance(e, c), e's attributes at dd -/
def rIsEd (K : PySem.W.Frag) (D a dd : Addr) : List V → Hp → VK → Prop := fun xs H Q => ∃ (c : V) (cv : Value) (b : Bool) (fs : List (Str × V)), xs = [.ref a, c] ∧ (∀ u, RelV c u → u = cv) ∧ H dd = some (.xd fs) ∧ PySem.W.kitOne K (.ref D) cv = some b ∧ Q (.bl b) H
theorem call_isEd {X : Cx} {a C dd : Addr} {oe : Obj} {cls : Value} {d : Option Addr} {pn : List (Addr × Obj)} (E : ExcC X.K C) (z1 : cls = .ref C) (z2 : d = some dd) (hz : L2N.Zn cls d oe) (hf : ∃ vs, oe.data = .fields vs) : CallR (X.suite a ((a, oe) :: pn)) (.builtin "isinstance") (rIsEd X.K C a dd) := by
  subst z1 z2
  intro pins s σ H xs us Q I r h
  obtain ⟨c, cv, b, fs, rfl, hcv, hdd, e, q⟩ := h
  obtain ⟨u1, u2, rfl, r1, r2⟩ := vals2 r
  cases r1
  have ec := hcv _ r2
  subst ec
  obtain ⟨hget, _⟩ := I.pin (a, oe) (List.mem_append.mpr (.inl List.mem_cons_self))
  obtain ⟨mA, hns, _⟩ := (show ObjOk X.prog X.w H s.heap dd (.xd fs) from I.hok dd _ hdd)
  obtain ⟨od, ho, _⟩ := lookIn_ns hns
  obtain ⟨vs, hv⟩ := hf
  have J : PySem.W.InstAt s.heap a oe C (some od) := ⟨hget, hz.1, by unfold PySem.W.notCls; rw [hv] <;> rfl, by rw [hz.2.1]; exact ho⟩
  have hcl : (PySem.W.clsIn X.K C).isSome = true := by
    have := E.hd
    unfold PySem.W.hasDictIn at this
    cases z : PySem.W.clsIn X.K C with
    | none => rw [z] at this; cases this
    | some _ => rfl
  exact PySem.W.kia_one (PySem.W.kitx_exc hcl E.hg E.hk E.hs E.ha E.hn E.ht E.hm) I.kIn J e (fun z => nomatch z) fun tk => ⟨.bl b, H, I.kept (t' := tk) fun _ _ z => z, rfl, q⟩
theorem ei_isEd {Y : Rs} [w : PreT Y.W] {K : PySem.W.Frag} {D a dd : Addr} {cv : Value} {c : V} {b : Bool} {fs : List (Str × V)} (k : PySem.W.kitOne K (.ref D) cv = some b) (e : ∀ u, RelV c u → u = cv) : OpA Y.W (rIsEd K D a dd) [fun v H => v = .ref a ∧ H dd = some (.xd fs), Is c] (Is (.bl b)) := fun vs H al Q q => by
  obtain ⟨u, v, rfl, ⟨p1, p3⟩, p2⟩ := allp2 al
  subst p1 p2
  exact ⟨_, cv, b, fs, rfl, e, p3, k, q _ H (w.refl H) rfl⟩
/-! ### isinstance of own objects; == with whatever stands behind -/
/-- what the class at C must have that isinstance asks its objects rightly -/
structure InC (K : PySem.W.Frag) (C : Addr) : Prop where
  cl : Cls K C
  ha : PySem.W.findIn K (.ref C) "__class__" = some (some (.builtin "object.__class__"))
  hn : PySem.W.specialIn K (.builtin "object.__class__") "__get__" = some (some (.builtin "getset_descriptor.__get__"))
  ht : PySem.W.takesIn K (.builtin "object.__class__") = some true
  hm : PySem.W.mroIn K C (.type "object") = some true
/-- P's things are of the class t -/
def HasT (K : PySem.W.Frag) (t : Value) (P : Pr) : Prop := ∀ v H, P v H → TyX K H v t
theorem hasT_of {K : PySem.W.Frag} {t : String} {P : Pr} (h : HasTy K t P) : HasT K (.type t) P := h
theorem hasT_ob {K : PySem.W.Frag} {C : Addr} {Fs : List (Str × Pr)} (c : InC K C) : HasT K (.ref C) (Ob C Fs) := fun v H ⟨p, dx, fs, e, hq, _⟩ => by
  subst e
  exact .base (.ins hq c.cl c.ha c.hn c.ht c.hm)
theorem opA_isiX {W : HR} [w : PreT W] {K : PySem.W.Frag} {P : Pr} {t u : Value} {c : V} {b : Bool} (h : HasT K t P) (hc : ClsV c u) (k : PySem.W.kitOne K t u = some b) : OpA W (rIsi K) [P, Is c] (Is (.bl b)) := fun vs H a Q q => by
  obtain ⟨x, y, rfl, p1, e⟩ := allp2 a
  subst e
  exact ⟨x, _, t, u, b, rfl, hc, h x H p1, k, q _ H (w.refl H) rfl⟩
/-- x == y, x of the class at C with an own __eq__ worth sp, y of the class t -/
def rEqInX (K : PySem.W.Frag) (C : Addr) (sp : Sp) : R2 := fun x y H Q => ∃ a dx fs t, x = .ref a ∧ H a = some (.ins C dx fs) ∧ TyX K H y t ∧ PySem.W.notFirst K C t = true ∧ sp [x, y] H (fun v H' => ∃ r, v = .bl r ∧ Q v H') fun _ _ _ => False
/-- what the class at C has as __eq__ -/
structure DmE (P : Program) (w : World) (K : PySem.W.Frag) (mg : Str → Option Value) (base : Heap) (k : Nat) (C : Addr) (m : String) (ps : List Str) (sp : Sp) : Prop where
  ex : ∃ f fd, FnOk P w K mg base (L2N.CX P w) k f fd ps sp ∧ PySem.W.findIn K (.ref C) m = some (some (.ref f)) ∧ PySem.W.isFn K (.ref f) = true ∧ Binds K fd ps []
theorem op_eqInX {X : Cx} {n : Nat} {C : Addr} {ps : List Str} {sp : Sp} (D : DmE X.prog X.w X.K X.mg X.base n C "__eq__" ps sp) (hr : Room n X.A) : OpR X (compareOp .Eq) (rEqInX X.K C sp) := by
  obtain ⟨f, fd, F, hs, hf, hb⟩ := D.ex
  intro pins s σ H x y u v Q I rx ry d
  obtain ⟨a, dx, fs, t, rfl, ha, ty, nf, hsp⟩ := d
  cases rx
  show wpAny (model X.prog X.w) X.A (richCompare .Eq (.ref a) v) (EP X pins σ Q) X.xe s
  obtain ⟨mA, J, _⟩ := ins_get I.hok ha
  obtain ⟨od, J, _⟩ := J.look
  obtain ⟨Pk, kx, pk, _⟩ := kit_of I ry ty
  obtain ⟨m, hF⟩ := I.fr
  refine PySem.W.cmp_K (op := .Eq) (tb := t) hr.units0 hF I.ok.mod.kin J (kx.ty _ _ I.kIn pk) nf hs hf ?_
  have hl := F.len _ _ _ _ hsp
  have r2 : Vals [V.ref a, y] [Value.ref a, v] := .cons rfl (.cons ry .nil)
  refine wpAny_call (codeAny_mono (F.run X.A X.stack s H ⟨[.ref a, v], []⟩ [.ref a, v] [.ref a, y] _ _ hr I.env0 (by
    have := hb s [.ref a, v] I.kIn (by simpa using hl)
    simpa using this) r2 hsp) fun r s' hq => ?_)
  match r, hq with
  | .error e, hq =>
    obtain ⟨_, _, _, _, _, _, _, _, _, _, _, _, z⟩ := hq
    exact z.elim
  | .ok (.ret w), hq =>
    obtain ⟨z, H', I', rz, ⟨r, ez, q⟩⟩ := I.after hq
    subst ez
    cases rz
    exact ⟨.bl r, H', I', rfl, q⟩
  | .ok .next, hq => exact False.elim hq
  | .ok .brk, hq => exact False.elim hq
  | .ok .cont, hq => exact False.elim hq
theorem ev_eqInX {Y : Rs} [w : PreT Y.W] [wi : PreI Y.W] {G : Ctx} {ta tb : TE} {K : PySem.W.Frag} {C : Addr} {Fs : List (Str × Pr)} {P : Pr} {sp : Sp} {t : Value} {b : Bool} [mc : MnC Y.W G] [m1 : MnL Y.W (Fs.map (·.2))] (ha : Ev Y G ta (Ob C Fs)) (hb : Ev Y G tb P) (ht : HasT K t P) (nf : PySem.W.notFirst K C t = true) (ho : Cl Y.W sp [Ob C Fs, P] (Is (.bl b)) NoX) : Ev Y G (tOp (rEqInX K C sp) ta tb) (Is (.bl b)) := fun s H ty hx Q q =>
  ha s H ty hx _ fun x H1 w1 p1 => hb s H1 (mc.mn s H H1 w1 ty) (hx.mono w1) _ fun y H2 w2 p2 => by
    have p1' : Ob C Fs x H2 := mn_ob.mn x H1 H2 w2 p1
    obtain ⟨a, dx, fs, e1, h1, _⟩ := id p1'
    exact ⟨a, dx, fs, t, e1, h1, ht y H2 p2, nf, ho [x, y] H2 ⟨p1', p2, True.intro⟩ _ _ (fun v H3 w3 e => ⟨b, e, q v H3 (w.trans (w.trans w1 w2) w3) e⟩) fun _ _ _ _ z => z.elim⟩
/-- len(x) by an own __len__ -/
def rLenInX (C : Addr) (sp : Sp) : List V → Hp → VK → Prop := rLenIns C sp fun _ _ _ => False
theorem call_lenInX {X : Cx} {n : Nat} {C : Addr} {ps : List Str} {sp : Sp} (D : DmE X.prog X.w X.K X.mg X.base n C "__len__" ps sp) (hr : Room (n + 1) X.A) : CallR X (.builtin "len") (rLenInX C sp) := by
  obtain ⟨f, fd, F, hs, hf, hb⟩ := D.ex
  exact call_lenIns F hs hf hb (fun pins σ H s e s' I hq => by
    obtain ⟨_, _, _, _, _, _, _, _, _, _, _, _, z⟩ := hq
    exact z.elim) hr
/-! ### a list unpacked -/
theorem st_unL3 {Y : Rs} [w : PreT Y.W] {G : Ctx} {te : TE} {K : PySem.W.Frag} {P1 P2 P3 P4 : Pr} {R : Pr} [mc : MnC Y.W G] {i j k l : Nat} (h : Ev Y G te (Own [P1, P2, P3, P4])) :
    St Y G (tAsg te (gLst K 4 (gCons (gName i) (gCons (gName j) (gCons (gName k) (gCons (gName l) gNil)))))) ((((G.set i (some P1)).set j (some P2)).set k (some P3)).set l (some P4)) R := fun s H D ty hx n _ =>
  h s H ty hx _ fun v H2 w2 ⟨p, xs, e, hs, _, hp⟩ => by
    obtain ⟨a, b, c, d, rfl⟩ : ∃ a b c d, xs = [a, b, c, d] := by
      have l := allp_len hp
      match xs, l with
      | [a, b, c, d], _ => exact ⟨a, b, c, d, rfl⟩
    exact ⟨p, [a, b, c, d], e, SqL.of hs, rfl, a, [b, c, d], rfl, b, [c, d], rfl, c, [d], rfl, d, [], rfl, rfl, n _ H2 w2 (((((mc.mn s H H2 w2 ty).put hp.1).put hp.2.1).put hp.2.2.1).put hp.2.2.2.1)⟩
/-- a statement that never ends well -/
theorem st_dropN {Y : Rs} {G : Ctx} {te : TE} {tr : TS} {N : Ctx} {R : Pr} (h : Ev Y G te fun _ _ => False) : St Y G (tSeq (tDrop te) tr) N R := fun s H D ty hx n r => h s H ty hx _ fun v H2 w2 p => p.elim
theorem st_retN' {Y : Rs} {G : Ctx} {te : TE} {N : Ctx} {R : Pr} (h : Ev Y G te fun _ _ => False) : St Y G (tRet te) N R := fun s H D ty hx n r => h s H ty hx _ fun v H2 w2 p => p.elim
/-! ### branches, each with what follows -/
theorem st_ifB {Y : Rs} [w : PreT Y.W] {G : Ctx} {t : TT} {ts tu tr : TS} {N : Ctx} {R : Pr} {b : Bool} [mc : MnC Y.W G] (h : EvT Y G t b) (h1 : b = true → St Y G (tSeq ts tr) N R) (h2 : b = false → St Y G (tSeq tu tr) N R) : St Y G (tSeq (tIfS t ts tu) tr) N R := fun s H D ty hx n r => h s H ty hx _ fun H1 w1 => by
  cases b with
  | true => exact h1 rfl s H1 D (mc.mn s H H1 w1 ty) (hx.mono w1) (fun s2 H2 w2 t2 => n s2 H2 (w.trans w1 w2) t2) fun v H2 w2 p => r v H2 (w.trans w1 w2) p
  | false => exact h2 rfl s H1 D (mc.mn s H H1 w1 ty) (hx.mono w1) (fun s2 H2 w2 t2 => n s2 H2 (w.trans w1 w2) t2) fun v H2 w2 p => r v H2 (w.trans w1 w2) p
theorem st_nextB {Y : Rs} {G : Ctx} {tr : TS} {N : Ctx} {R : Pr} (h : St Y G tr N R) : St Y G (tSeq tNext tr) N R := h
theorem st_retB {Y : Rs} {G : Ctx} {te : TE} {tr : TS} {N : Ctx} {R : Pr} (h : Ev Y G te R) : St Y G (tSeq (tRet te) tr) N R := fun s H D ty hx _ r => h s H ty hx _ fun v H2 w p => r v H2 w p
theorem st_assocB {Y : Rs} {G : Ctx} {ta tb tr : TS} {N : Ctx} {R : Pr} (h : St Y G (tSeq ta (tSeq tb tr)) N R) : St Y G (tSeq (tSeq ta tb) tr) N R := h
theorem st_ifUB {Y : Rs} [w : PreT Y.W] {G : Ctx} {t : TT} {ts tu tr : TS} {N : Ctx} {R : Pr} [mc : MnC Y.W G] (h : EvU Y G t) (h1 : St Y G (tSeq ts tr) N R) (h2 : St Y G (tSeq tu tr) N R) : St Y G (tSeq (tIfS t ts tu) tr) N R := fun s H D ty hx n r => h s H ty hx _ fun b H1 w1 => by
  cases b with
  | true => exact h1 s H1 D (mc.mn s H H1 w1 ty) (hx.mono w1) (fun s2 H2 w2 t2 => n s2 H2 (w.trans w1 w2) t2) fun v H2 w2 p => r v H2 (w.trans w1 w2) p
  | false => exact h2 s H1 D (mc.mn s H H1 w1 ty) (hx.mono w1) (fun s2 H2 w2 t2 => n s2 H2 (w.trans w1 w2) t2) fun v H2 w2 p => r v H2 (w.trans w1 w2) p
end U

/-! ## a comprehension with a test; tries that catch attributes -/
namespace U
open PySem PySem.Spec PyProof.Rows L2
def fil {A : Type} (n : Nat) (b : Nat → Bool) (P : Nat → A) : List A := ((List.range n).filter b).map P
theorem fil_succ {A : Type} (n : Nat) (b : Nat → Bool) (P : Nat → A) : fil (n + 1) b P = fil n b P ++ (if b n = true then [P n] else []) := by
  unfold fil
  rw [List.range_succ, List.filter_append, List.map_append]
  congr 1
  cases h : b n <;> simp [h]
theorem fil_len {A : Type} (n : Nat) (b : Nat → Bool) (P : Nat → A) : (fil n b P).length ≤ n := by
  unfold fil
  rw [List.length_map]
  exact Nat.le_trans (List.length_filter_le _ _) (by rw [List.length_range]; exact Nat.le_refl _)
theorem fil_mem {A : Type} {n : Nat} {b : Nat → Bool} {P : Nat → A} {x : A} (h : x ∈ fil n b P) : ∃ i, i < n ∧ b i = true ∧ x = P i := by
  obtain ⟨i, hi, e⟩ := List.mem_map.mp h
  obtain ⟨h1, h2⟩ := List.mem_filter.mp hi
  exact ⟨i, List.mem_range.mp h1, h2, e.symm⟩
theorem fil_nil {A : Type} {n : Nat} {b : Nat → Bool} {P : Nat → A} : (fil n b P = []) ↔ ∀ i, i < n → b i = false := by
  unfold fil
  rw [List.map_eq_nil_iff, List.filter_eq_nil_iff]
  exact ⟨fun h i hi => by simpa using h i (List.mem_range.mpr hi), fun h i hi => by simpa using h i (List.mem_range.mp hi)⟩
section
variable {Y : Rs} [w : Pre Y.W] {G : Ctx} {te : TE} {tt : TT}
theorem ev_lcF {wi : TI} {n : Nat} {It : Nat → Pr} {P : Nat → Pr} {b : Nat → Bool} {j : Nat} (hi : EvI Y G wi n It) (hn : n < 100000) [mc : MnC Y.W G] [mi : ∀ i, Mn Y.W (It i)] (mt : ∀ i, Mn WT (P i)) (mw : ∀ i, Mn Y.W (P i)) (ht : ∀ i, i < n → EvT Y ((G.set j none).set j (some (It i))) tt (b i))
    (he : ∀ i, i < n → b i = true → Ev Y ((G.set j none).set j (some (It i))) te (P i)) : Ev Y G (tLc wi (gName j) tt te [j]) (New (fil n b P)) := fun s H ty hx Q q =>
  hi s H ty hx _ fun J H1 Gd w1 g1 gm wk D hD => by
    refine lc_it wk (fun i H' => Y.W H1 H' ∧ ∃ acc, H' D = some (.lst acc) ∧ AllP (fil i b P) acc H') ⟨w.wrt (w.refl H1) hD, [], upd_same, True.intro⟩ (fun i H' _ z => gm _ _ z.1 g1) (fun i x Ha Hb hi z y => ?_) (fun H' ⟨z, acc, e, a⟩ => q _ H' (w.trans w1 z) ⟨D, acc, rfl, e, a⟩)
    obtain ⟨z, acc, e, a⟩ := z
    obtain ⟨y1, y2⟩ := y
    have wb := w.trans z y1
    have tyb : Ty ((G.set j none).set j (some (It i))) ((wipe s [j]).set j (some x)) Hb := (ty_wipe j (mc.mn s H Hb (w.trans w1 wb) ty)).put y2
    refine ⟨by show ((s.set j none).set j (some x)).set j none = s.set j none; rw [List.set_set, List.set_set], ?_⟩
    refine ht i hi _ Hb tyb (hx.mono (w.trans w1 wb)) _ fun H3 w3 => ?_
    have ma : ∀ R ∈ fil i b P, Mn Y.W R := fun R h => by obtain ⟨k, _, _, rfl⟩ := fil_mem h; exact mw k
    have ta : ∀ R ∈ fil i b P, Mn WT R := fun R h => by obtain ⟨k, _, _, rfl⟩ := fil_mem h; exact mt k
    cases hb : b i with
    | false =>
      rw [if_neg Bool.false_ne_true]
      refine ⟨w.trans wb w3, acc, w.own (w.trans y1 w3) True.intro e, ?_⟩
      rw [fil_succ, hb, if_neg Bool.false_ne_true, List.append_nil]
      exact allp_mn ma (w.trans y1 w3) a
    | true =>
      rw [if_pos (rfl : true = true)]
      have ty3 : Ty ((G.set j none).set j (some (It i))) ((wipe s [j]).set j (some x)) H3 := MnC.mn (mnc_set (G := G.set j none) (P := It i) (i := j)) _ Hb H3 w3 tyb
      refine he i hi hb _ H3 ty3 (hx.mono (w.trans w1 (w.trans wb w3))) _ fun v H4 w4 p4 => ?_
      have w14 := w.trans (w.trans y1 w3) w4
      have e4 := w.own w14 True.intro e
      have a4 := allp_mn ma w14 a
      have wt : WT H4 (upd H4 D (.lst (acc ++ [v]))) := wt_put e4 rfl
      have l4 := allp_len a4
      have l5 := fil_len i b P
      refine ⟨acc, e4, Evl.sz_lt (by omega), w.wrt (w.trans (w.trans wb w3) w4) hD, _, upd_same, ?_⟩
      rw [fil_succ, hb, if_pos (rfl : true = true)]
      exact allp_snoc (allp_mn ta wt a4) ((mt i).mn v _ _ wt p4)
end
/-- a, b, c = x, y, z -/
theorem st_par3 {Y : Rs} [w : PreT Y.W] {G : Ctx} {P1 P2 P3 R : Pr} [mc : MnC Y.W G] {i j l : Nat} {tr : TA} (h : EvA Y G tr [P1, P2, P3]) : St Y G (tPar3 i j l tr) (((G.set i (some P1)).set j (some P2)).set l (some P3)) R := fun s H D ty hx n _ =>
  h s H ty hx _ fun vs H2 w2 hp => by
    obtain ⟨a, b, c, rfl⟩ : ∃ a b c, vs = [a, b, c] := by
      have l := allp_len hp
      match vs, l with
      | [a, b, c], _ => exact ⟨a, b, c, rfl⟩
    exact ⟨a, b, c, rfl, n _ H2 w2 ((((mc.mn s H H2 w2 ty).put hp.1).put hp.2.1).put hp.2.2.1)⟩
/-! ### comparisons within a block -/
section
variable {X : Cx} {s : Shared} {H : Hp} {scope : Scope} {ce : Env} {fp : List Addr}
theorem op_eqB (hu : X.A.units + 64 < cLine) : OpR (X.blk s H scope ce fp) (compareOp .Eq) (rEqA X.K) := op_eqA (X := X.blk s H scope ce fp) hu
theorem op_neB (hu : X.A.units + 64 < cLine) : OpR (X.blk s H scope ce fp) (compareOp .NotEq) (rNeA X.K) := op_neA (X := X.blk s H scope ce fp) hu
theorem op_addAB : OpR (X.blk s H scope ce fp) (binaryOp .Add) (rAddA X.K) := op_addA (X := X.blk s H scope ce fp)
end
/-! ### tries whose catch reads attributes -/
theorem st_tryX {Y : Rs} [w : PreT Y.W] {K : PySem.W.Frag} {G : Ctx} {N : Ctx} {R : Pr} {G' M' : Ctx} {X' : XP} {i : Nat} {c : Value} {tb : WX → TS} {ts : Addr → Value → Option Addr → TS} {Wout : WX} [mg : MnC Y.W G'] (body : ∀ W : WX, St ⟨Y.W, WE W, G', X'⟩ G (tb W) N R)
    (hd : ∀ cls d, (∃ H, X' cls d H) → PySem.W.exmOne K cls c = some true ∧ ∀ a, St Y (G'.set i (some (fun v H => v = .ref a ∧ X' cls d H))) (ts a cls d) M' R) (hm : ∀ s H, Ty M' s H → Ty N (s.set i none) H) : St Y G (fun D σ H => tb (wAs K c i ts Wout D) D σ H) N R := fun s H D ty hx n r =>
  body (wAs K c i ts Wout D) s H D ty (fun s' cls d H' w1 ty' x => by
    obtain ⟨e, k⟩ := hd cls d ⟨H', x⟩
    exact ⟨true, e, fun _ a _ => k a _ H' _ (ty'.put (P := fun v H => v = .ref a ∧ X' cls d H) ⟨rfl, x⟩) (hx.mono w1) (fun s2 H2 w2 t2 => n _ H2 (w.trans w1 w2) (hm s2 H2 t2)) (fun v H2 w2 p => r v H2 (w.trans w1 w2) p), fun z => nomatch z⟩) n r
theorem st_when {Y : Rs} {G N : Ctx} {R : Pr} {p : Prop} {t : TS} (hp : p) (h : St Y G t N R) : St Y G (tWhen p t) N R := fun s H D ty hx n r => ⟨hp, h s H D ty hx n r⟩
/-- a caught exception at a, its attributes fs at dd -/
def ExP (a dd : Addr) (fs : List (Str × V)) : Pr := fun v H => v = .ref a ∧ H dd = some (.xd fs)
instance mn_exp {a dd : Addr} {fs : List (Str × V)} : Mn Evl.Ex (ExP a dd fs) := ⟨fun v H H' w h => ⟨h.1, w _ _ h.2⟩⟩
theorem ev_xf {Y : Rs} {G : Ctx} {te : TE} {a dd C : Addr} {fs : List (Str × V)} {f : Str} {v : V} [w : PreT Y.W] (h : Ev Y G te (ExP a dd fs)) (l : fs.lookup f = some v) : Ev Y G (tXf a (.ref C) (some dd) C f te) (Is v) := fun s H ty hx Q q =>
  h s H ty hx _ fun x H1 w1 ⟨e, hd⟩ => ⟨e, rfl, dd, fs, v, rfl, hd, l, q v H1 w1 rfl⟩
end U

/-! ## own classes as the top has written them; defaults -/
namespace U
open PySem PySem.Spec PyProof.Rows L2
section
variable {P : Program} {w : World} {K : PySem.W.Frag} {mg : Str → Option Value} {base : Heap}
/-- a def with defaults, its statement st -/
abbrev FunS (K : PySem.W.Frag) (x qual : Str) (st : Stmt) (dvs : List V) (f : Addr) (fd : FuncData) : Prop := FunD K x qual (defArgs st) (defBody st) (defScope st) dvs [] f fd
/-- an __init__ with defaults -/
theorem okND {C : Addr} {x qual : Str} {st : Stmt} {dvs : List V} {f : Addr} {fd : FuncData} {N ps : List Str} {k : Nat} {I : Type} {D : I → Prop} {fw : I → MkW} (F : FunS K x qual st dvs f fd) (S : FnScope N ps (defScope st)) (hlen : ∀ i, (fw i).Ps.length + 1 = ps.length) (hN : ps.length ≤ N.length)
    (body : ∀ (cdv : Value) (A : Around) (outer : List Env) (s : Shared) (H : Hp) (E : XK), Room k (A.deeper (envOfC qual (defScope st) s.heap.objs.size f cdv)) → ∀ i, D i → ∀ x dx : Addr,
      ∃ t, PSs (cxOf (L2N.CX P w) P w K mg base N qual (defScope st) f cdv A outer s H E) (defBody st) t ∧ ∃ M, St (RsW (WI x) E (fw i).X N.length) (entry (SelfT x C dx [] :: (fw i).Ps) N.length) t M (fun _ _ => False) ∧ ∀ s H', Ty M s H' → Ob C (fw i).Fs (.ref x) H') :
    FnOk P w K mg base (L2N.CX P w) (k + 1) f fd ps (SpI C D fw) := by
  refine FunD.ok F S (fun vs H Q E h => ?_) (fun cdv A outer s H vs Q E hr h => ?_)
  · obtain ⟨i, _, _, rest, _, rfl, _, a, _⟩ := h
    show rest.length + 1 = ps.length
    rw [allp_len a, hlen]
  · obtain ⟨i, y, dx, rest, c, rfl, hy, a, q, e⟩ := h
    obtain ⟨t, ht, M, hs, hm⟩ := body cdv A outer s H E hr i c y dx
    have a2 : AllP (SelfT y C dx [] :: (fw i).Ps) (.ref y :: rest) H := ⟨⟨rfl, [], hy, rfl, True.intro⟩, a⟩
    have en := ty_entry (n := N.length - (SelfT y C dx [] :: (fw i).Ps).length) a2
    refine ⟨t, ht, hs _ H _ ?_ (fun s cls d H' x _ z => e cls d H' x z) (fun s' H' w1 ty => q H' w1 (hm s' H' ty)) (fun v H' _ z => z.elim)⟩
    unfold L2.start entry
    rw [allp_len a2]
    exact en
theorem funS_mk {x qual : Str} {st : Stmt} {f T : Addr} {oc cT : Value} {od an dT : Option Addr} {osl slT : Array (Option Value)} {kV doc pm cdv ct : Value} {us : Array Value} {n : Nat} {dvs : List V}
    (l : K.lookup f = some ⟨oc, od, .func (PySem.W.fnOf x qual (defArgs st) (defBody st) (defScope st) (.ref T) kV doc pm an cdv ct), osl⟩) (c : PySem.W.codeIn K cdv qual = true) (k : PySem.W.keepIn K (.ref f) = true)
    (d : K.lookup T = some ⟨cT, dT, .seq us n, slT⟩) (ne : dvs ≠ []) (r : Vals dvs us.toList) : FunS K x qual st dvs f (PySem.W.fnOf x qual (defArgs st) (defBody st) (defScope st) (.ref T) kV doc pm an cdv ct) :=
  ⟨⟨oc, od, .ref T, kV, doc, pm, an, cdv, ct, osl, rfl, l, c, .inr ⟨ne, T, _, us.toList, n, rfl, d, by simp, r⟩, .inl rfl⟩, k⟩
end
/-! ### facts of an own class -/
theorem kit_ownV {K : PySem.W.Frag} {t : String} {C : Addr} {b : Bool} (hc : PySem.W.isClsIn K C = true) (ht : PySem.W.typeIn K (.ref C) = some (.type "type")) (h : PySem.W.subIn K (.type t) (.ref C) = some b) : PySem.W.kitOne K (.type t) (.ref C) = some b := by
  have e : ((PySem.W.clsIn K C).isSome && PySem.W.typeIn K (.ref C) == some (.type "type")) = true := by
    have hc' : (PySem.W.clsIn K C).isSome = true := hc
    rw [hc', ht] <;> rfl
  show (if ((PySem.W.clsIn K C).isSome && PySem.W.typeIn K (.ref C) == some (.type "type")) = true then PySem.W.subIn K (.type t) (.ref C) else none) = some b
  rw [if_pos e]
  exact h
/-- what k_is says of an own class without a base of one's own -/
structure ClK (K : PySem.W.Frag) (x : Str) (C : Addr) : Prop where
  gC : PySem.W.nsIn K mainGlobals x = some (some (.ref C))
  pg : PySem.W.plainGet K C Str.empty = true
  hd : PySem.W.hasDictIn K C = true
  po : PySem.W.plainOver K C = true
  sa : PySem.W.findIn K (.ref C) "__setattr__" = some (some (.builtin "object.__setattr__"))
  ha : PySem.W.findIn K (.ref C) "__class__" = some (some (.builtin "object.__class__"))
  hn : PySem.W.specialIn K (.builtin "object.__class__") "__get__" = some (some (.builtin "getset_descriptor.__get__"))
  ht : PySem.W.takesIn K (.builtin "object.__class__") = some true
  hm : PySem.W.mroIn K C (.type "object") = some true
  ic : PySem.W.isClsIn K C = true
  ty : PySem.W.typeIn K (.ref C) = some (.type "type")
  me : PySem.W.subIn K (.ref C) (.ref C) = some true
  nt : PySem.W.subIn K (.ref C) (.type "tuple") = some false
  tn : PySem.W.subIn K (.type "tuple") (.ref C) = some false
  mks : PySem.W.makesIn K C = true
  kc : PySem.W.keepIn K (.ref C) = true
theorem ClK.cls {K : PySem.W.Frag} {x : Str} {C : Addr} (k : ClK K x C) : Cls K C := ⟨k.pg, k.hd, k.po, k.sa⟩
theorem ClK.inC {K : PySem.W.Frag} {x : Str} {C : Addr} (k : ClK K x C) : InC K C := ⟨k.cls, k.ha, k.hn, k.ht, k.hm⟩
theorem ClK.nf_me {K : PySem.W.Frag} {x : Str} {C : Addr} (_ : ClK K x C) : PySem.W.notFirst K C (.ref C) = true := by
  unfold PySem.W.notFirst
  rw [beq_self_eq_true]; rfl
theorem ClK.nf_tup {K : PySem.W.Frag} {x : Str} {C : Addr} (k : ClK K x C) : PySem.W.notFirst K C (.type "tuple") = true := by
  unfold PySem.W.notFirst
  rw [k.tn]; rfl
/-- a method as k_is tells it -/
structure MeK (K : PySem.W.Frag) (C : Addr) (m : Str) (q : Str) (st : Stmt) (f : Addr) (fd : FuncData) : Prop where
  at_ : PySem.W.findIn K (.ref C) m = some (some (.ref f))
  fn : PySem.W.isFn K (.ref f) = true
  F : Fun K m q st f fd
theorem mek_mk {K : PySem.W.Frag} {C : Addr} {m q : Str} {st : Stmt} {f : Addr} {oc : Value} {od an : Option Addr} {osl : Array (Option Value)} {kV doc pm cdv ct : Value} (a : PySem.W.findIn K (.ref C) m = some (some (.ref f))) (b : PySem.W.isFn K (.ref f) = true)
    (l : K.lookup f = some ⟨oc, od, .func (PySem.W.fnOf m q (defArgs st) (defBody st) (defScope st) .none kV doc pm an cdv ct), osl⟩) (c : PySem.W.codeIn K cdv q = true) (k : PySem.W.keepIn K (.ref f) = true) : ∃ f fd, MeK K C m q st f fd := ⟨f, _, a, b, fun_mk l c k⟩
/-- an __init__ with defaults as k_is tells it -/
structure InK (K : PySem.W.Frag) (C : Addr) (q : Str) (st : Stmt) (dvs : List V) (f : Addr) (fd : FuncData) : Prop where
  at_ : PySem.W.findIn K (.ref C) "__init__" = some (some (.ref f))
  fn : PySem.W.isFn K (.ref f) = true
  F : FunS K "__init__" q st dvs f fd
theorem ink_mk {K : PySem.W.Frag} {C : Addr} {q : Str} {st : Stmt} {f T : Addr} {oc cT : Value} {od an dT : Option Addr} {osl slT : Array (Option Value)} {kV doc pm cdv ct : Value} {us : Array Value} {n : Nat} {dvs : List V} (a : PySem.W.findIn K (.ref C) "__init__" = some (some (.ref f))) (b : PySem.W.isFn K (.ref f) = true)
    (l : K.lookup f = some ⟨oc, od, .func (PySem.W.fnOf "__init__" q (defArgs st) (defBody st) (defScope st) (.ref T) kV doc pm an cdv ct), osl⟩) (c : PySem.W.codeIn K cdv q = true) (k : PySem.W.keepIn K (.ref f) = true)
    (d : K.lookup T = some ⟨cT, dT, .seq us n, slT⟩) (ne : dvs ≠ []) (r : Vals dvs us.toList) : ∃ f fd, InK K C q st dvs f fd := ⟨f, _, a, b, funS_mk l c k d ne r⟩
end U

/-! ## exceptions whose attributes bear predicates; walks while a list grows; texts repeated -/
namespace U
open PySem PySem.Spec PyProof.Rows L2
theorem allp3 {P Q R : Pr} {xs : List V} {H : Hp} (h : AllP [P, Q, R] xs H) : ∃ a b c, xs = [a, b, c] ∧ P a H ∧ Q b H ∧ R c H := by
  have l := allp_len h
  match xs, l with
  | [a, b, c], _ => exact ⟨a, b, c, rfl, h.1, h.2.1, h.2.2.1⟩
/-- an exception of the class at C with attributes so -/
def XE (C : Addr) (Fs : List (Str × Pr)) : XP := fun cls d H => cls = .ref C ∧ ∃ dd fs, d = some dd ∧ H dd = some (.xd fs) ∧ FsOk Fs fs H
/-- one without attributes -/
def XE0 (C : Addr) : XP := fun cls d _ => cls = .ref C ∧ d = none
/-- it is caught at a -/
def ExQ (a dd : Addr) (Fs : List (Str × Pr)) : Pr := fun v H => v = .ref a ∧ ∃ fs, H dd = some (.xd fs) ∧ FsOk Fs fs H
instance mn_exq {a dd : Addr} {Fs : List (Str × Pr)} [ml : MnL Evl.Ex (Fs.map (·.2))] : Mn Evl.Ex (ExQ a dd Fs) := ⟨fun v H H' w ⟨e, fs, h, n, p⟩ => ⟨e, fs, w _ _ h, n, ml.mn _ _ _ w p⟩⟩
section
variable {Y : Rs} [w : PreT Y.W] {G N : Ctx} {R : Pr} {te : TE} {tr : TA} {C a dd : Addr} {Fs : List (Str × Pr)} {f : Str} {P P1 P2 : Pr} {MV : List V → Prop} {n1 n2 : Str}
theorem ev_xfq (h : Ev Y G te (ExQ a dd Fs)) (l : Fs.lookup f = some P) : Ev Y G (tXf a (.ref C) (some dd) C f te) P := fun s H ty hx Q q =>
  h s H ty hx _ fun x H1 w1 ⟨e, fs, hd, hf⟩ => by
    obtain ⟨v, hv, pv⟩ := fsok_get hf l
    exact ⟨e, rfl, dd, fs, v, rfl, hd, hv, q v H1 w1 pv⟩
theorem ei_isEq {K : PySem.W.Frag} {D : Addr} {cv : Value} {c : V} {b : Bool} (k : PySem.W.kitOne K (.ref D) cv = some b) (e : ∀ u, RelV c u → u = cv) : OpA Y.W (rIsEd K D a dd) [ExQ a dd Fs, Is c] (Is (.bl b)) := fun vs H al Q q => by
  obtain ⟨u, v, rfl, ⟨p1, fs, p3, _⟩, p2⟩ := allp2 al
  subst p1 p2
  exact ⟨_, cv, b, fs, rfl, e, p3, k, q _ H (w.refl H) rfl⟩
/-- raise C(e): one attribute -/
theorem st_raise1 [mc : MnC Y.W G] [m1 : Mn Evl.Ex P1] (hE : EvA Y G tr [P1]) (sb : Sub G Y.GX) (hM : ∀ v H, P1 v H → MV [v]) (hX : ∀ cls d H, XE C [(n1, P1)] cls d H → Y.X cls d H) :
    St Y G (fun _ s H => tMkSup C [n1] [(n1, n1)] MV tr s H fun cls d H' => Y.E s cls d H') N R := fun s H D ty hx2 n r => hE s H ty hx2 _ fun vs H1 w1 hp => by
  obtain ⟨u, rfl, e1⟩ := allp1 hp
  refine ⟨rfl, hM u H1 e1, (fun z => by cases z), fun _ d hd => ?_⟩
  have ef : fldV [n1] [u] [(n1, n1)] = [(n1, u)] := by unfold fldV; simp [List.lookup]
  have we := Evl.Ex.new (o := .xd (fldV [n1] [u] [(n1, n1)])) hd
  have w2 := w.trans w1 (w.ext we)
  refine hx2 s _ _ _ w2 (sb s _ (mc.mn s H _ w2 ty)) (hX _ _ _ ⟨rfl, d, [(n1, u)], rfl, by rw [upd_same, ef], rfl, ?_⟩)
  exact ⟨m1.mn u _ _ we e1, True.intro⟩
/-- raise C(e, e'): two attributes -/
theorem st_raise2 [mc : MnC Y.W G] [m1 : Mn Evl.Ex P1] [m2 : Mn Evl.Ex P2] (ne : n2 ≠ n1) (hE : EvA Y G tr [P1, P2]) (sb : Sub G Y.GX) (hM : ∀ v u H, P1 v H → P2 u H → MV [v, u]) (hX : ∀ cls d H, XE C [(n2, P2), (n1, P1)] cls d H → Y.X cls d H) :
    St Y G (fun _ s H => tMkSup C [n1, n2] [(n1, n1), (n2, n2)] MV tr s H fun cls d H' => Y.E s cls d H') N R := fun s H D ty hx2 n r => hE s H ty hx2 _ fun vs H1 w1 hp => by
  obtain ⟨u, v, rfl, e1, e2⟩ := allp2 hp
  refine ⟨rfl, hM u v H1 e1 e2, (fun z => by cases z), fun _ d hd => ?_⟩
  have ne' : (n1 == n2) = false := by rw [beq_eq_false_iff_ne]; exact Ne.symm ne
  have ef : fldV [n1, n2] [u, v] [(n1, n1), (n2, n2)] = [(n2, v), (n1, u)] := by unfold fldV; simp [List.lookup, ne']
  have we := Evl.Ex.new (o := .xd (fldV [n1, n2] [u, v] [(n1, n1), (n2, n2)])) hd
  have w2 := w.trans w1 (w.ext we)
  refine hx2 s _ _ _ w2 (sb s _ (mc.mn s H _ w2 ty)) (hX _ _ _ ⟨rfl, d, [(n2, v), (n1, u)], rfl, by rw [upd_same, ef], rfl, ?_⟩)
  exact ⟨m2.mn v _ _ we e2, m1.mn u _ _ we e1, True.intro⟩
/-- raise C() -/
theorem st_raise0 [mc : MnC Y.W G] (sb : Sub G Y.GX) (hM : MV []) (hX : ∀ cls d H, XE0 C cls d H → Y.X cls d H) :
    St Y G (fun _ s H => tMkSup C [] [] MV tNil s H fun cls d H' => Y.E s cls d H') N R := fun s H D ty hx2 n r =>
  ⟨rfl, hM, fun _ => hx2 s _ _ _ (w.refl H) (sb s _ ty) (hX _ _ _ ⟨rfl, rfl⟩), fun z => absurd rfl z⟩
end
/-! ### texts repeated -/
def rMulS : R2 := fun x y H Q => ∃ s k, x = .str s ∧ y = .int k ∧ MulOk s k ∧ Q (.str (Txt.mul s k)) H
theorem op_mulS {X : Cx} : OpR X (binaryOp .Mult) rMulS := by
  intro pins s σ H x y v u Q I rx ry h
  obtain ⟨a, k, rfl, rfl, m, q⟩ := h
  obtain ⟨t, rfl⟩ := rx
  obtain ⟨t2, rfl⟩ := ry
  exact SB.mul m fun t' k' => ⟨.str (Txt.mul a k), H, I.kept (t' := k') fun _ _ z => z, ⟨_, rfl⟩, q⟩
def rMulT : R2 := ror rMulA rMulS
theorem op_mulT {X : Cx} : OpR X (binaryOp .Mult) rMulT := opr_or op_mulA op_mulS
section
variable {W : HR} {K : PySem.W.Frag}
theorem o_mulSS [w : PreT W] {x : Str} {k : Int} (h : x.length ≤ 16) (h0 : 0 ≤ k) (h1 : k ≤ 1000) : Op2 W rMulT (Is (.str x)) (Is (.int k)) (Is (.str (Txt.mul x k))) := op2_r fun a b H e1 e2 Q q => ⟨x, k, e1, e2, mulOk_of 16 1000 h (by omega) (by omega) (by decide) (by decide), q _ H (w.refl H) rfl⟩
theorem dvl_rep {K : PySem.W.Frag} {d : D} {z : V} {H2 : Hp} (hz : Dv K d z H2) : ∀ n : Nat, AllP (DvL K (List.replicate n d)) (List.replicate n z) H2
  | 0 => True.intro
  | n + 1 => ⟨hz, dvl_rep hz n⟩
theorem o_repD [w : PreL W] {d : D} {k : Int} (h0 : 0 ≤ k) (h1 : k ≤ 1000) : Op2 W rMulT (Dv K (.lst [d])) (Is (.int k)) (Dv K (.lst (List.replicate k.toNat d))) := op2_l (op2_r fun x y H ⟨p, xs, e, hp, _, ha⟩ e2 Q q => by
  obtain ⟨z, rfl, hz⟩ := allp1 (show AllP [Dv K d] xs H from ha)
  have ef : ∀ n : Nat, (List.replicate n [z]).flatten = List.replicate n z := fun n => by
    induction n with
    | zero => rfl
    | succ n ih => rw [List.replicate_succ, List.flatten_cons, ih]; rfl
  refine ⟨p, k, [z], e, e2, hp, by omega, by omega, ?_, fun l hl => ?_⟩
  · show 1 * k.toNat ≤ sizeLine
    rw [sizeLine_eq]; omega
  · have we : W H (upd H l (.lst (List.replicate k.toNat [z]).flatten)) := w.ext (Evl.Ex.new hl)
    refine q _ _ we ⟨l, _, rfl, upd_same, True.intro, ?_⟩
    have h2 := dvl_rep ((mn_dv (K := K) (W := W) (d := d)).mn z _ _ we hz) k.toNat
    rw [ef] at h2 ⊢
    exact h2)
end
/-! ### walks over what stood ahead, while a list grows -/
section
variable {Y : Rs} {W : HR} [w : PreD W] {H0 : Hp} {l : Addr} {G : Ctx} {te : TE} {K : PySem.W.Frag} {Ps : List Pr}
theorem ej_list (hW : Y.W = WO W H0 l) [ml : MnL W Ps] (h : Ev (Y.under W) G te (At W H0 (Lst K Ps))) : EvJ Y W G (iList K te) Ps.length (nth Ps) := fun s H ty hx R k =>
  h s H ty hx _ fun v H2 w2 ⟨⟨p, xs, e, hq, hn, hp⟩, z0⟩ => by
    refine ⟨p, e, ⟨xs, w.lst z0 hn hq⟩, k _ H2 (fun H => W H0 H) w2 z0 (fun a b x z => by rw [hW] at x; exact x.1 z) ?_⟩
    rw [← allp_len hp]
    refine ⟨fun i H hi z => walk_list.goes i H hi (w.lst z hn hq), fun H z => walk_list.stops H (w.lst z hn hq), fun i Ha x Hb hi z y => ?_⟩
    obtain ⟨e1, e2⟩ := walk_list.yields i Ha x Hb hi (w.lst z hn hq) y
    subst e1
    exact ⟨w.refl _, allp_nth (ml.mn xs _ _ z hp) e2⟩
theorem ej_tup (hW : Y.W = WO W H0 l) [ml : MnL W Ps] (h : Ev (Y.under W) G te (At W H0 (Tup K Ps))) : EvJ Y W G (iTup K te) Ps.length (nth Ps) := fun s H ty hx R k =>
  h s H ty hx _ fun v H2 w2 ⟨⟨p, xs, e, hq, hp⟩, z0⟩ => by
    refine ⟨p, e, ⟨xs, .inl (w.tup z0 hq)⟩, k _ H2 (fun H => W H0 H) w2 z0 (fun a b x z => by rw [hW] at x; exact x.1 z) ?_⟩
    rw [← allp_len hp]
    refine ⟨fun i H hi z => walk_tup.goes i H hi (.inl (w.tup z hq)), fun H z => walk_tup.stops H (.inl (w.tup z hq)), fun i Ha x Hb hi z y => ?_⟩
    obtain ⟨e1, e2⟩ := walk_tup.yields i Ha x Hb hi (.inl (w.tup z hq)) y
    subst e1
    exact ⟨w.refl _, allp_nth (ml.mn xs _ _ z hp) e2⟩
/-- the same walks, what is yielded stood ahead of the growing list -/
theorem ej_listA (hW : Y.W = WO W H0 l) (h : Ev (Y.under W) G te (At W H0 (Lst K Ps))) : EvJ Y W G (iList K te) Ps.length fun i => At W H0 (nth Ps i) := fun s H ty hx R k =>
  h s H ty hx _ fun v H2 w2 ⟨⟨p, xs, e, hq, hn, hp⟩, z0⟩ => by
    refine ⟨p, e, ⟨xs, w.lst z0 hn hq⟩, k _ H2 (fun H => W H0 H) w2 z0 (fun a b x z => by rw [hW] at x; exact x.1 z) ?_⟩
    rw [← allp_len hp]
    refine ⟨fun i H hi z => walk_list.goes i H hi (w.lst z hn hq), fun H z => walk_list.stops H (w.lst z hn hq), fun i Ha x Hb hi z y => ?_⟩
    obtain ⟨e1, e2⟩ := walk_list.yields i Ha x Hb hi (w.lst z hn hq) y
    subst e1
    exact ⟨w.refl _, allp_nth hp e2, z⟩
theorem ej_tupA (hW : Y.W = WO W H0 l) (h : Ev (Y.under W) G te (At W H0 (Tup K Ps))) : EvJ Y W G (iTup K te) Ps.length fun i => At W H0 (nth Ps i) := fun s H ty hx R k =>
  h s H ty hx _ fun v H2 w2 ⟨⟨p, xs, e, hq, hp⟩, z0⟩ => by
    refine ⟨p, e, ⟨xs, .inl (w.tup z0 hq)⟩, k _ H2 (fun H => W H0 H) w2 z0 (fun a b x z => by rw [hW] at x; exact x.1 z) ?_⟩
    rw [← allp_len hp]
    refine ⟨fun i H hi z => walk_tup.goes i H hi (.inl (w.tup z hq)), fun H z => walk_tup.stops H (.inl (w.tup z hq)), fun i Ha x Hb hi z y => ?_⟩
    obtain ⟨e1, e2⟩ := walk_tup.yields i Ha x Hb hi (.inl (w.tup z hq)) y
    subst e1
    exact ⟨w.refl _, allp_nth hp e2, z⟩
theorem st_weak {Y : Rs} {G G' N : Ctx} {R : Pr} {t : TS} (sb : Sub G G') (h : St Y G' t N R) : St Y G t N R := fun s H D ty hx n r => h s H D (sb s H ty) hx n r
end
/-- a list or a tuple walked -/
def iSq (K : PySem.W.Frag) (te : TE) : TI := fun σ H R => iList K te σ H R ∨ iTup K te σ H R
theorem pi_sq {X : Cx} {tg l : Expr} {tl : TE} (hl : PE X l tl) : PI X tg l (iSq X.K tl) := ⟨fun pins s σ H R I h => h.elim (fun h => (pi_list hl).run pins s σ H R I h) fun h => (pi_tup hl).run pins s σ H R I h⟩
end U

/-! ## methods of own classes, whatever they raise goes on from the slots -/
namespace U
open PySem PySem.Spec PyProof.Rows L2
/-- o.m(..), what it raises goes on from the slots -/
def tMeS (C : Addr) (m : Str) (sp : Sp) (E : L2.St → XK) (to : TE) (t : TA) : TE := fun σ H Q => to σ H fun x H1 => (∃ a dx fs, x = .ref a ∧ H1 a = some (.ins C dx fs) ∧ fs.lookup m = none) ∧ t σ H1 fun vs H2 => sp (x :: vs) H2 Q (E σ)
section
variable {X : Cx} {k : Nat} {C : Addr} {m : Str} {ps : List Str} {sp : Sp} {W : WX} {o e : Expr} {es : List Expr} {to : TE} {t : TA} {apos pos : Pos}
theorem pe_meS {pl : Sem Bool} (D : Dm X.prog X.w X.K X.mg X.base k C m ps sp) (hr : Room k X.A) (tk : L2N.Takes X W) (ho : PE X o to) (ha : PA X (e :: es) t)
    (hst : starEach (e :: es) X.env = (false, eval e X.env) :: starEach es X.env := by rfl) (hpl : (backTo pos (starEach es X.env)).any (·.1) = false := by rfl)
    (ht : eval (.Call (.Attribute o m apos) (e :: es) [] pos) X.env = (do
      let ov ← eval o X.env
      standAt apos.atName
      let (f, first) ← holding [ov] (getMethod ov m pl)
      callWith pos f first (backTo pos (starEach (e :: es) X.env)) (backToKw pos (keywordEach [] X.env))) := by rfl) :
    PE X (.Call (.Attribute o m apos) (e :: es) [] pos) (tMeS C m sp (WE W) to t) := D.use fun f fd F M B => ⟨fun pins s σ H Q I h =>
  PySem.W.methodCall_KW (pl := pl) (thn (ho.run pins s σ H _ I h) fun u s1 ⟨x, H1, I1, rx, ⟨a, dx, fs, ex, ea, l⟩, q⟩ => by
    cases ex
    cases rx
    exact getmeth_ok I1 ea D.cls M l (PySem.W.callWith_K (first := [.ref a]) (h₀ := X.base) I.ok.mod.kin M.kp (thn (ha.run pos pins s1 σ H1 _ I1 q) fun us s2 ⟨vs, H2, I2, r, q2⟩ => ⟨I2.kIn, run_fnS (us := .ref a :: us) (vs := .ref a :: vs) (E := WE W) F hr B (L2N.passAt tk σ) I2 (.cons rfl r) q2⟩) hst hpl)) ht⟩
theorem pe_meS0 {pl : Sem Bool} (D : Dm X.prog X.w X.K X.mg X.base k C m ps sp) (hr : Room k X.A) (tk : L2N.Takes X W) (ho : PE X o to)
    (ht : eval (.Call (.Attribute o m apos) [] [] pos) X.env = (do
      let ov ← eval o X.env
      standAt apos.atName
      let (f, first) ← holding [ov] (getMethod ov m pl)
      callWith pos f first (backTo pos (starEach [] X.env)) (backToKw pos (keywordEach [] X.env))) := by rfl) :
    PE X (.Call (.Attribute o m apos) [] [] pos) (tMeS C m sp (WE W) to tNil) := D.use fun f fd F M B => ⟨fun pins s σ H Q I h =>
  PySem.W.methodCall_KW (pl := pl) (thn (ho.run pins s σ H _ I h) fun u s1 ⟨x, H1, I1, rx, ⟨a, dx, fs, ex, ea, l⟩, q⟩ => by
    cases ex
    cases rx
    exact getmeth_ok I1 ea D.cls M l (PySem.W.callWith_K0 (first := [.ref a]) I1.kIn M.kp (run_fnS (us := [.ref a]) (vs := [.ref a]) (E := WE W) F hr B (L2N.passAt tk σ) I1 (.cons rfl .nil) q))) ht⟩
end
section
variable {Y : Rs} [w : PreT Y.W] [wi : PreI Y.W] {G : Ctx} {C : Addr} {m : Str} {to : TE} {t : TA} {Fs : List (Str × Pr)} {P : Pr} {Ps : List Pr} {sp : Sp}
theorem ev_meS {E : L2.St → XK} [mc : MnC Y.W G] [mf : MnL Y.W (Fs.map (·.2))] (h : Ev Y G to (Ob C Fs)) (hm : Fs.lookup m = none) (ha : EvA Y G t Ps) (ho : Cl Y.W sp (Ob C Fs :: Ps) P NoX) : Ev Y G (tMeS C m sp E to t) P := fun s H ty hx Q q =>
  h s H ty hx _ fun v H1 w1 o1 => by
    obtain ⟨p, dx, fs, e, hq, hf⟩ := id o1
    exact ⟨⟨p, dx, fs, e, hq, fsok_none hf hm⟩, ha s H1 (mc.mn s H H1 w1 ty) (hx.mono w1) _ fun vs H2 w2 pv => ho (v :: vs) H2 ⟨mn_ob.mn v H1 H2 w2 o1, pv⟩ Q _ (fun v3 H3 w3 p3 => q v3 H3 (w.trans (w.trans w1 w2) w3) p3) fun _ _ _ _ z => z.elim⟩
/-- it may raise -/
theorem ev_meX [mc : MnC Y.W G] [mf : MnL Y.W (Fs.map (·.2))] (h : Ev Y G to (Ob C Fs)) (hm : Fs.lookup m = none) (ha : EvA Y G t Ps) (ho : Cl Y.W sp (Ob C Fs :: Ps) P Y.X) (sb : Sub G Y.GX) : Ev Y G (tMeS C m sp Y.E to t) P := fun s H ty hx Q q =>
  h s H ty hx _ fun v H1 w1 o1 => by
    obtain ⟨p, dx, fs, e, hq, hf⟩ := id o1
    exact ⟨⟨p, dx, fs, e, hq, fsok_none hf hm⟩, ha s H1 (mc.mn s H H1 w1 ty) (hx.mono w1) _ fun vs H2 w2 pv => ho (v :: vs) H2 ⟨mn_ob.mn v H1 H2 w2 o1, pv⟩ Q _ (fun v3 H3 w3 p3 => q v3 H3 (w.trans (w.trans w1 w2) w3) p3) fun cls d H3 w3 x => hx s cls d H3 (w.trans (w.trans w1 w2) w3) (sb s H3 (mc.mn s H H3 (w.trans (w.trans w1 w2) w3) ty)) x⟩
end
end U

/-! ## t[::-1] of a tuple -/
namespace U
open PySem PySem.Spec PyProof.Rows L2
theorem fm_congr {A B : Type} {f g : A → Option B} : ∀ {l : List A}, (∀ m ∈ l, f m = g m) → l.filterMap f = l.filterMap g
  | [], _ => rfl
  | a :: l, h => by rw [List.filterMap_cons, List.filterMap_cons, h a List.mem_cons_self, fm_congr fun m hm => h m (List.mem_cons_of_mem _ hm)]
theorem fm_all {A : Type} : ∀ ys : List A, (List.range ys.length).filterMap (fun m => ys[m]?) = ys
  | [] => rfl
  | y :: ys => by
    rw [List.length_cons, List.range_succ_eq_map, List.filterMap_cons, List.filterMap_map]
    show y :: _ = _
    congr 1
    exact fm_all ys
theorem rev_pick (xs : Array Value) : ((List.range xs.size).filterMap fun (m : Nat) => xs[((xs.size : Int) - 1 + (m : Int) * -1).toNat]?).toArray = xs.toList.reverse.toArray := by
  have h : ∀ m ∈ List.range xs.size, xs[((xs.size : Int) - 1 + (m : Int) * -1).toNat]? = (xs.toList.reverse)[m]? := fun m hm => by
    have hm := List.mem_range.mp hm
    have e : ((xs.size : Int) - 1 + (m : Int) * -1).toNat = xs.size - 1 - m := by omega
    rw [e, List.getElem?_reverse (by simpa using hm)]
    simp
  rw [fm_congr h]
  congr 1
  have l : xs.size = xs.toList.reverse.length := by simp
  rw [l]
  exact fm_all _
section
variable {prog : Program} {w : World} {A : Around} {E : Value → Shared → Prop} {s : Shared}
theorem applied_rev {sl : Addr} {vk : Value} {n : Nat} {Q : Int × Int × Nat → Shared → Prop} (hs : s.heap.IsSliceOf sl .none .none vk) (pk : IsPart vk (some (-1))) (h : Q ((n : Int) - 1, -1, n) s) :
    wpAny (model prog w) A (Builtin.Slice.sliceApplied (.ref sl) (pure (n : Int))) Q E s := by
  obtain ⟨os, hos, hcs, hds⟩ := id hs
  unfold Builtin.Slice.sliceApplied Builtin.Slice.sliceFields
  refine wpAny_bind (wpAny_bind (wpAny_field hos hds (x := .none) rfl (wpAny_bind (wpAny_field hos hds (x := .none) rfl (wpAny_bind (wpAny_field hos hds (x := vk) rfl (wpAny_pure ?_)))))))
  refine wpAny_bind (HT.slicePart_ pk ?_)
  show wpAny _ _ (if ((-1 : Int) == 0) = true then _ else _) _ _ s
  rw [if_neg (by decide)]
  refine wpAny_bind (HT.slicePart_ .none (wpAny_bind (HT.slicePart_ .none (wpAny_bind (wpAny_pure ?_)))))
  show wpAny _ _ (match Builtin.Slice.sliceAdjust none none (-1) (n : Int) with | (lo, hi) => pure (lo, (-1 : Int), Builtin.Slice.slicePlaces lo hi (-1))) _ _ s
  have e : Builtin.Slice.sliceAdjust none none (-1) (n : Int) = ((n : Int) - 1, -1) := rfl
  rw [e]
  show wpAny _ _ (pure ((n : Int) - 1, (-1 : Int), Builtin.Slice.slicePlaces ((n : Int) - 1) (-1) (-1))) _ _ s
  have e2 : Builtin.Slice.slicePlaces ((n : Int) - 1) (-1) (-1) = n := by
    unfold Builtin.Slice.slicePlaces
    simp
    split <;> omega
  rw [e2]
  exact wpAny_pure h
theorem getItem_rev {t sl : Addr} {items : Array Value} {vk : Value} {Q : Value → Shared → Prop} (ht : IsTup s.heap t items) (hs : s.heap.IsSliceOf sl .none .none vk) (pk : IsPart vk (some (-1)))
    (h : Q (.ref s.heap.objs.size) { s with heap := s.heap.push { cls := .type "tuple", data := .seq items.toList.reverse.toArray } }) (hsz : items.size ≤ sizeLine) : wpAny (model prog w) A (getItem (.ref t) (.ref sl)) Q E s := by
  have hok : sizeOk (.seq items.toList.reverse.toArray) := by
    show items.toList.reverse.toArray.size ≤ sizeLine
    rw [List.size_toArray, List.length_reverse, Array.length_toList]
    exact hsz
  obtain ⟨os, hos, hcs, hds⟩ := id hs
  have hT : s.TypeIs (.ref sl) "slice" := ⟨os, hos, hcs⟩
  unfold getItem
  try with_reducible refine wpAny_holding ?_
  first | refine wpAny_bind (wpAny_pure ?_) | skip
  refine wpAny_bind (wpAny_sequenceKey ht.typeIs (by decide) (wpAny_bind (wpAny_callSpecial?_slot (name := Str.ofString "__getitem__") ht.typeIs PyProof.Rows.slot_tuple_getitem (wpAny_call_entry PyProof.Rows.slot_tuple_getitem ht.typeIs entry_tuple_getitem ?_ (args_tuple_getitem _ _)))))
  show wpAny _ _ (Builtin.Tuple.tupleItemsOf (.ref t) >>= _) _ _ s
  refine wpAny_bind (tupleItemsOf_ ht (wpAny_bind (wpAny_typeOf hT ?_)))
  rw [if_pos (by decide)]
  refine wpAny_bind (applied_rev hs pk ?_)
  show wpAny _ _ (if (((items.size : Int) - 1) == 0 && (-1 : Int) == 1 && items.size == items.size) = true then _ else _) _ _ s
  rw [if_neg (by rw [show ((-1 : Int) == 1) = false by decide, Bool.and_false, Bool.false_and]; exact Bool.false_ne_true), rev_pick]
  first
    | exact wpAny_bind (m := Builtin.Tuple.tupleExact _) (wpAny_newObj_type (wpAny_pure ⟨_, rfl, wpAny_pure h⟩) hok)
    | exact wpAny_bind (wpAny_bind (m := Builtin.Tuple.tupleExact _) (wpAny_newObj_type (wpAny_pure ⟨_, rfl, wpAny_pure h⟩) hok))
    | exact wpAny_bind (wpAny_bind (m := Builtin.Tuple.tupleExact _) (wpAny_newObj_type (wpAny_pure (wpAny_pure ⟨_, rfl, wpAny_pure h⟩)) hok))
    | exact wpAny_bind (m := Builtin.Tuple.tupleExact _) (wpAny_newObj_type (wpAny_bind (wpAny_pure (wpAny_pure ⟨_, rfl, wpAny_pure h⟩))) hok)
end
/-- t[::-1]: a new tuple without a dict -/
def kRevT (K : PySem.W.Frag) (x : V) (H : Hp) (Q : VK) : Prop := ∃ p xs, x = .ref p ∧ SqT K H p xs ∧ ∀ q o, H q = none → o.dict = none → Q (.ref q) (upd H q (.frz o (.tup xs.reverse)))
theorem pe_revT {X : Cx} {e : Expr} {te : TE} {k : Nat} {p1 p2 p3 pos : Pos} (he : PE X e te) : PE X (.Subscript e (.Slice none none (some (.UnaryOp .USub (.Constant (.int 1) k p1) p2)) p3) pos) (tThen te (kRevT X.K)) := by
  refine ⟨fun pins s σ H Q I h => ?_⟩
  refine Subscript_ (thn (he.run pins s σ H _ I h) fun v s1 ⟨x, H1, I1, r1, a, xs, ex, hx, q⟩ => ?_)
  cases ex
  cases r1
  have step : PO X (some (.UnaryOp .USub (.Constant (.int 1) k p1) p2)) (tPart (tUn (rU fun i => .int (-i)) (tC (.int 1)))) := po_some (pe_un un_neg pe_int)
  refine wpAny_Slice (thn (po_none.run pins s1 σ H1 (fun o H2 => o = none ∧ H2 = H1) I1 ⟨rfl, rfl⟩) fun vl s2 ⟨l, H2, I2, pl, el, e2⟩ => ?_)
  cases el; cases e2
  refine thn (po_none.run pins s2 σ H1 (fun o H3 => o = none ∧ H3 = H1) I2 ⟨rfl, rfl⟩) fun vu s3 ⟨u, H3, I3, pu, eu, e3⟩ => ?_
  cases eu; cases e3
  refine thn (step.run pins s3 σ H1 (fun o H4 => o = some (-1) ∧ H4 = H1) I3 ⟨1, rfl, -1, rfl, rfl, rfl⟩) fun vs s4 ⟨o, H4, I4, ps, eo, e4⟩ => ?_
  cases eo; cases e4
  cases pl
  cases pu
  have I5 : Inv X pins σ H1 { s4 with heap := s4.heap.push { cls := .type "slice", data := .fields #[.none, .none, vs] } } := I4.kept (t' := s4.toks) fun b ob q => Heap.get?_push_of_some _ q
  obtain ⟨its, r, ht, hz⟩ := I5.tuple hx
  show wpAny (model X.prog X.w) X.A (subscriptTail e (.Slice none none (some (.UnaryOp .USub (.Constant (.int 1) k p1) p2)) p3) (.ref a) (.ref s4.heap.objs.size)) (EP X pins σ Q) X.xe { s4 with heap := s4.heap.push { cls := .type "slice", data := .fields #[.none, .none, vs] } }
  refine tail_any (ops := [.ref a, .ref s4.heap.objs.size]) ht.typeIs (PyProof.Rows.slot_tuple_getitem.lookup) ?_ (by with_unfolding_all rfl)
  refine getItem_rev ht (Heap.IsSliceOf.new _ .none .none vs) ps ?_ (by rw [List.size_toArray, ← r.length]; exact hz)
  have I6 := I5.laid (t' := s4.toks) (o := .frz { cls := .type "tuple", data := .seq its.toArray.toList.reverse.toArray } (.tup xs.reverse)) (fun b ob q => Heap.get?_push_of_some _ q) (Nat.le_refl _)
    (show ObjOk X.prog X.w _ _ _ (.frz _ (.tup xs.reverse)) from ⟨Heap.get?_push_size _ rfl, by rw [List.length_reverse]; exact hz, its.reverse, r.reverse, IsTup.new _ _⟩)
  exact ⟨.ref _, _, I6, rfl, q _ _ (I5.hok.fresh (Nat.le_refl _)) rfl⟩
theorem allp_rev {Ps : List Pr} {xs : List V} {H : Hp} (h : AllP Ps xs H) : AllP Ps.reverse xs.reverse H := by
  induction Ps generalizing xs with
  | nil => cases xs with
    | nil => exact True.intro
    | cons _ _ => exact h.elim
  | cons P Ps ih => cases xs with
    | nil => exact h.elim
    | cons x xs =>
      rw [List.reverse_cons, List.reverse_cons]
      exact allp_app (ih h.2) (show AllP [P] [x] H from ⟨h.1, True.intro⟩)
theorem ev_revT {Y : Rs} [w : PreT Y.W] {G : Ctx} {te : TE} {K : PySem.W.Frag} {Ps : List Pr} [ml : MnL Y.W Ps] (h : Ev Y G te (Tup K Ps)) : Ev Y G (tThen te (kRevT K)) (TupN Ps.reverse) := fun s H ty hx Q q =>
  h s H ty hx _ fun v H1 w1 ⟨p, xs, e, hq, hp⟩ => ⟨p, xs, e, .inl hq, fun a o ha d => by
    have w2 : Y.W H1 (upd H1 a (.frz o (.tup xs.reverse))) := w.ext (Evl.Ex.new ha)
    exact q _ _ (w.trans w1 w2) ⟨a, xs.reverse, o, rfl, upd_same, d, allp_rev (ml.mn xs _ _ w2 hp)⟩⟩
end U

/-! ## try with several clauses, each with or without a name -/
namespace U
open PySem PySem.Spec PyProof.Rows L2
/-- a clause: the slot of its name (none: it has no name), its class, its suite -/
structure Clause where
  slot : Option Nat
  cls : Value
  run : Addr → Value → Option Addr → TS
/-- the suite of a clause, begun with the exception at a -/
def Clause.go (c : Clause) (a : Addr) (cls : Value) (d : Option Addr) (D : Ends) (σ : L2.St) (H : Hp) : Prop := match c.slot with
  | none => c.run a cls d D σ H
  | some i => c.run a cls d { nx := fun τ H' => D.nx (τ.set i none) H', rt := D.rt, bk := fun τ H' => D.bk (τ.set i none) H', ct := fun τ H' => D.ct (τ.set i none) H' } (σ.set i (some (.ref a))) H
def wMix (K : PySem.W.Frag) (Wout : WX) (D : Ends) : List Clause → WX
  | [] => Wout
  | c :: r => fun cls d σ H => ∃ b, PySem.W.exmOne K cls c.cls = some b ∧ (b = true → ∀ a, H a = none → c.go a cls d D σ H) ∧ (b = false → wMix K Wout D r cls d σ H)
/-- the clauses of the text -/
inductive Mix (X : Cx) : List ExceptHandler → List Clause → Prop
  | nil : Mix X [] []
  | bare {x : Str} {c : Value} {ts : Addr → Value → Option Addr → TS} {b0 : Stmt} {suite : List Stmt} {np pos : Pos} {hs : List ExceptHandler} {l : List Clause} (hc : Names X x c)
      (run : ∀ (a : Addr) (oe : Obj) (cls : Value) (d : Option Addr) (pn : List (Addr × Obj)), L2N.Zn cls d oe → (∃ vs, oe.data = .fields vs) → PSs (X.suite a ((a, oe) :: pn)) (b0 :: suite) (ts a cls d)) (r : Mix X hs l) :
      Mix X (.ExceptHandler (some (.Name x np)) none (b0 :: suite) pos :: hs) (⟨none, c, ts⟩ :: l)
  | named {x n : Str} {c : Value} {i : Nat} {ts : Addr → Value → Option Addr → TS} {b0 : Stmt} {suite : List Stmt} {np pos : Pos} {hs : List ExceptHandler} {l : List Clause} (hi : X.N[i]? = some n) (hl : X.env.kindOf n = some .local) (hc : Names X x c)
      (run : ∀ (a : Addr) (oe : Obj) (cls : Value) (d : Option Addr) (pn : List (Addr × Obj)), L2N.Zn cls d oe → (∃ vs, oe.data = .fields vs) → PSs (X.suite a ((a, oe) :: pn)) (b0 :: suite) (ts a cls d)) (r : Mix X hs l) :
      Mix X (.ExceptHandler (some (.Name x np)) (some n) (b0 :: suite) pos :: hs) (⟨some i, c, ts⟩ :: l)
theorem ps_try_mix {X : Cx} {body : List Stmt} {h0 : ExceptHandler} {hs : List ExceptHandler} {l : List Clause} {pos : Pos} {tb : WX → TS} {Wout : WX} (hst : X.stack = X.env :: X.outer) (hf : X.env.frame = some X.env.locals) (hN : X.N.Nodup) (tk : L2N.Takes X Wout)
    (hb : ∀ (W : WX) (pn : List (Addr × Obj)) (xe : Value → Shared → Prop), L2N.Takes (X.tr pn xe) W → PassesOwn (model X.prog X.w) X.A X.env xe → PSs (X.tr pn xe) body (tb W)) (hm : Mix X (h0 :: hs) l) :
    PS X (.Try body (h0 :: hs) [] [] pos) (fun D σ H => tb (wMix X.K Wout D l) D σ H) := by
  refine ⟨fun pins s σ H D I h => ?_⟩
  have ok := I.ok
  have hfr : X.A.frames = some (X.env :: X.outer) := by rw [ok.frames, hst]
  refine wpAny_Try_except (wpAny_mono ((hb (wMix X.K Wout D l) (X.pn ++ pins) (fun e s₁ => wpAny (model X.prog X.w) X.A (noteFrame e X.env) (fun _ s₂ => wpAny (model X.prog X.w) X.A (setFlight e none) (fun _ s₃ =>
    wpAny (model X.prog X.w) X.A (handleBy e X.env (h0 :: hs)) (SP X pins D) X.xe s₃) X.xe s₂) X.xe s₁) (fun u s' xx => ?caught) PassesOwn.looking).run [] s σ H D (I.toTry _) h) (fun f s1 hsp => ?through) (fun e s1 he => he))
  case through =>
    cases f with
    | next => obtain ⟨τ, G, J, q⟩ := hsp; exact wpAny_execs_nil ⟨τ, G, J.ofTry ok, q⟩
    | brk => obtain ⟨τ, G, J, q⟩ := hsp; exact ⟨τ, G, J.ofTry ok, q⟩
    | cont => obtain ⟨τ, G, J, q⟩ := hsp; exact ⟨τ, G, J.ofTry ok, q⟩
    | ret u => obtain ⟨v, τ, G, J, r, q⟩ := hsp; exact ⟨v, τ, G, J.ofTry ok, r, q⟩
  obtain ⟨a, B, sI, pins', τ, G, cls, d, rfl, J', nb, up, sky, na, os, ag, w⟩ := xx
  have J : Inv X pins τ G sI := J'.ofTry ok
  show wpAny (model X.prog X.w) X.A (noteFrame (.ref a) X.env) _ _ _
  refine L2N.Sky.land L2N.Zn.steady hfr hf (by rw [← hst]; exact sky) fun h3 fl3 up3 => ?_
  have J3 : Inv X pins τ G { s' with heap := h3 } := J.landed nb fl3.1 (up.trans up3) os ag
  obtain ⟨oe3, vs3, he3, hz3, hd3⟩ := fl3.there
  have nfr : a ∉ frs (X.env :: X.outer) := fun hm => by
    obtain ⟨_, o', e', hnf⟩ := fl3.2.2.1.mem hm
    rw [he3] at e'; cases e'
    exact hnf _ hd3
  have nL : a ≠ X.env.locals := fun z => nfr (List.mem_filterMap.mpr ⟨X.env, List.mem_cons_self, by rw [hf, z]⟩)
  have nF : a ∉ X.fs := fun hm => by
    obtain ⟨e, he, q⟩ := List.mem_filterMap.mp hm
    exact nfr (List.mem_filterMap.mpr ⟨e, List.mem_cons_of_mem _ he, q⟩)
  have S3 := J3.suite he3 hd3 na nL nF
  have asked : ∀ {x : Str} {c : Value} {np : Pos} {Q : Value → Shared → Prop} {E : Value → Shared → Prop}, Names X x c → Q c { s' with heap := h3 } → wpAny (model X.prog X.w) (X.A.mark (some (.ref a))) (eval (.Name x np) X.env) Q E { s' with heap := h3 } := fun {x c np Q E} hc q => by
    obtain ⟨hg, hdbg, hm | ⟨hm, hv, hnn⟩⟩ := hc
    · exact ld_glob (X := X.suite a ((a, oe3) :: (X.pn ++ pins))) S3 hg hm q hdbg
    · exact ld_blt (X := X.suite a ((a, oe3) :: (X.pn ++ pins))) S3 hg hm hv q hnn hdbg
  have LT : PySem.W.Looks (model X.prog X.w) h3 (typeOf (.ref a)) cls := fun A Q E s k q => wpAny_typeOf_ref (k _ _ he3) (by rw [hz3.1]; exact q)
  have go : ∀ {hs' : List ExceptHandler} {l' : List Clause}, Mix X hs' l' → wMix X.K Wout D l' cls d τ G → wpAny (model X.prog X.w) X.A (handleBy (.ref a) X.env hs') (SP X pins D) X.xe { s' with heap := h3 } := by
    intro hs' l' hk
    induction hk with
    | nil =>
      intro w
      refine wpAny_handleBy_nil ?_
      obtain ⟨_, _, _, _, _, T, _, _, he, _, hd, h1, _⟩ := id fl3
      unfold PySem.passOn
      refine wpAny_bind (wpAny_field he hd h1 ?_)
      rw [if_neg (show ¬ ((Value.ref T == Value.none) = true) from by simp)]
      have fin : wpAny (model X.prog X.w) X.A (setFlight (.ref a) X.env.frame) (fun _ s4 => wpAny (model X.prog X.w) X.A (throw (.ref a) : Sem Flow) (SP X pins D) X.xe s4) X.xe { s' with heap := h3 } := by
        rw [hf]
        exact HandSPX.setFlight_upZ fl3 fun h4 hh4 up4 => wpAny_throw (tk _ _ ⟨a, B, sI, pins, τ, G, cls, d, rfl, J, nb, (up.trans up3).trans up4, .inr (.inr (by rw [hst]; exact hh4)), na, os, ag, w⟩)
      first
        | exact wpAny_bind (wpAny_pure (wpAny_bind fin))
        | exact wpAny_bind fin
    | bare hc run r ih =>
      rintro ⟨b, hb1, yes, no⟩
      refine wpAny_handleBy_cons (codeAny_handlers_test ?_) (by intro q; cases q)
      refine asked hc ((PySem.W.exm_one (M := model X.prog X.w) J3.kIn LT hb1).here ?_)
      cases b with
      | false => exact ih (no rfl)
      | true =>
        refine codeAny_handlers_suite (HandSPX.lands_againZ fl3 fun h4 fl4 up4 => ?_)
        have J4 : Inv X pins τ G { s' with heap := h4 } := J.landed nb fl4.1 ((up.trans up3).trans up4) os ag
        obtain ⟨oe4, vs4, he4, hz4, hd4⟩ := fl4.there
        refine wpAny_mono ((run a oe4 cls d (X.pn ++ pins) hz4 ⟨_, hd4⟩).run [] _ _ G D (J4.suite he4 hd4 na nL nF) (yes rfl a na)) (fun f s6 hsp => ?_) (fun _ _ z => False.elim z)
        cases f with
        | next => obtain ⟨_, _, S6, q6⟩ := hsp; exact ⟨_, _, S6.unsuite ok, q6⟩
        | brk => obtain ⟨_, _, S6, q6⟩ := hsp; exact ⟨_, _, S6.unsuite ok, q6⟩
        | cont => obtain ⟨_, _, S6, q6⟩ := hsp; exact ⟨_, _, S6.unsuite ok, q6⟩
        | ret u => obtain ⟨_, _, _, S6, r6, q6⟩ := hsp; exact ⟨_, _, _, S6.unsuite ok, r6, q6⟩
    | @named x n c i ts b0 suite np pos' hs2 l2 hi hl hc run r ih =>
      rintro ⟨b, hb1, yes, no⟩
      refine wpAny_handleBy_cons (codeAny_handlers_test ?_) (by intro q; cases q)
      refine asked hc ((PySem.W.exm_one (M := model X.prog X.w) J3.kIn LT hb1).here ?_)
      cases b with
      | false => exact ih (no rfl)
      | true =>
        refine codeAny_handlers_suite_as (HandSPX.lands_againZ fl3 fun h4 fl4 up4 => ?_)
        have J4 : Inv X pins τ G { s' with heap := h4 } := J.landed nb fl4.1 ((up.trans up3).trans up4) os ag
        obtain ⟨oe4, vs4, he4, hz4, hd4⟩ := fl4.there
        refine store_ok (X := X.suite a ((a, oe4) :: (X.pn ++ pins))) (v := .ref a) (J4.suite he4 hd4 na nL nF) hN hi (.inl hl) rfl (fun s5 S5 => ?_) (.inr hl)
        refine wpAny_mono ((run a oe4 cls d (X.pn ++ pins) hz4 ⟨_, hd4⟩).run [] s5 _ G _ S5 (yes rfl a na)) (fun f s6 hsp => ?_) (fun _ _ z => False.elim z)
        have over : ∀ {τ6 : L2.St} {G6 : Hp} {Q : Shared → Prop}, Inv (X.suite a ((a, oe4) :: (X.pn ++ pins))) [] τ6 G6 s6 → (∀ s7, Inv X pins (τ6.set i none) G6 s7 → Q s7) →
            wpAny (model X.prog X.w) X.A (do bindName X.env n .none; unbindBehindTheSuite X.env n pos') (fun _ s7 => Q s7) X.xe s6 := fun {τ6 G6 Q} S6 hq => gone_ok (S6.unsuite ok) hN hi hl hq
        cases f with
        | next => obtain ⟨_, _, S6, q6⟩ := hsp; exact over S6 fun s7 J7 => ⟨_, _, J7, q6⟩
        | brk => obtain ⟨_, _, S6, q6⟩ := hsp; exact over S6 fun s7 J7 => ⟨_, _, J7, q6⟩
        | cont => obtain ⟨_, _, S6, q6⟩ := hsp; exact over S6 fun s7 J7 => ⟨_, _, J7, q6⟩
        | ret u => obtain ⟨_, _, _, S6, r6, q6⟩ := hsp; exact over S6 fun s7 J7 => ⟨_, _, _, J7, r6, q6⟩
  exact go hm w
end U

/-! ## pairs walked while a list of the def's own grows; tries of several clauses by slots -/
namespace U
open PySem PySem.Spec PyProof.Rows L2
section
variable {Y : Rs} {W : HR} [w : PreD W] {H0 : Hp} {l : Addr} {G : Ctx} {tu : TS} {R : Pr} {tr : TA} {wi : TI} {n : Nat} {K : PySem.W.Frag} {Ps : List Pr}
theorem st_forW2 (hW : Y.W = WO W H0 l) {I1 I2 : Nat → Pr} {j k : Nat} (hi : EvJ Y W G wi n fun i => Tup K [I1 i, I2 i]) (L : Nat → Ctx) (h0 : Sub G (L 0)) [mc : MnC W G] [ml : ∀ i, MnC W (L i)] (body : ∀ i, i < n → St Y (((L i).set j (some (I1 i))).set k (some (I2 i))) tu (L (i + 1)) R) :
    St Y G (tFor wi (gTup K 2 (gCons (gName j) (gCons (gName k) gNil))) tu) (L n) R := by
  obtain ⟨YW, E, GX, X⟩ := Y
  have hW' : YW = WO W H0 l := hW
  subst hW'
  have p : PreT (WO W H0 l) := pret_wo
  intro s H D ty hx nx rt
  refine hi s H ty (hx_under rfl hx) _ fun J H2 Gd w2 g2 gm wk => ?_
  refine for_it wk (fun i s' H' => WO W H0 l H H' ∧ Gd H' ∧ Ty (L i) s' H') ⟨wo_of w2, g2, h0 s H2 (mc.mn s H H2 w2 ty)⟩ (fun i s' H' _ z => z.2.1) (fun i x s' Ha Hb hi z y => ?_) fun s' H' z => nx s' H' z.1 z.2.2
  obtain ⟨z1, z2, z3⟩ := z
  obtain ⟨y1, q, xs, e, hq, hp⟩ := y
  obtain ⟨a, b, rfl, pa, pb⟩ := allp2 hp
  have y1' : WO W H0 l Ha Hb := wo_of y1
  have wb := p.trans z1 y1'
  refine ⟨q, [a, b], e, .inl hq, rfl, a, [b], rfl, b, [], rfl, rfl, ?_⟩
  exact body i hi _ Hb _ ((((ml i).mn s' Ha Hb y1 z3).put pa).put pb) (fun s cls d H2 e2 t x => hx s cls d H2 (p.trans wb e2) t x) (fun s2 H3 w3 t3 => ⟨p.trans wb w3, gm _ _ (p.trans y1' w3) z2, t3⟩) fun v H3 w3 r => rt v H3 (p.trans wb w3) r
theorem ej_enT (hW : Y.W = WO W H0 l) [ml : MnL W Ps] [mi : ∀ i, Mn W (nth Ps i)] (h : EvA (Y.under W) G tr [At W H0 (Tup K Ps)]) : EvJ Y W G (iEnK K tr) Ps.length fun i => Tup K [Is (.int (i : Int)), nth Ps i] := fun s H ty hx R k =>
  h s H ty hx _ fun vs H2 w2 ha => by
    obtain ⟨x, ev, ⟨p, xs, e, hq, hp⟩, z0⟩ := allp1 ha
    subst e
    have lx := allp_len hp
    refine ⟨p, .T, xs, ev, .inl (w.tup z0 hq), k _ H2 (fun H => W H0 H) w2 z0 (fun a b x z => by rw [hW] at x; exact x.1 z) ⟨fun i H hi z => ⟨xs, xs[i]'(by omega), .inl (w.tup z hq), by simp⟩, fun H z => ⟨xs, .inl (w.tup z hq), by omega⟩, fun i Ha x Hb hi z y => ?_⟩⟩
    obtain ⟨T, b, e1, e2, e3, e5⟩ := y
    subst e3
    have w3 : W Ha (upd Ha T (.tup [.int (i : Nat), b])) := w.ext (Evl.Ex.new e2)
    exact ⟨w3, T, _, e1, Rd.of upd_same, rfl, (mi i).mn _ _ _ w3 (allp_nth (ml.mn xs _ _ z hp) (e5 xs (show Sq K Ha .T p xs from .inl (w.tup z hq)))), True.intro⟩
end
/-! ### tries of several clauses -/
/-- what is caught by the clauses, one after the other -/
def Handled (K : PySem.W.Frag) (Y : Rs) (G' : Ctx) (X' : XP) (cls : Value) (d : Option Addr) (N : Ctx) (R : Pr) : List Clause → Prop
  | [] => False
  | c :: r => (PySem.W.exmOne K cls c.cls = some true ∧ ∀ a, (match c.slot with
      | none => St Y G' (c.run a cls d) N R
      | some i => ∃ M, St Y (G'.set i (some (fun v H => v = .ref a ∧ X' cls d H))) (c.run a cls d) M R ∧ ∀ s H, Ty M s H → Ty N (s.set i none) H)) ∨ (PySem.W.exmOne K cls c.cls = some false ∧ Handled K Y G' X' cls d N R r)
theorem handled_mix {Y : Rs} [w : PreT Y.W] {K : PySem.W.Frag} {G' N : Ctx} {R : Pr} {X' : XP} {cls : Value} {d : Option Addr} {Wout : WX} {D : Ends} {s' : L2.St} {H' : Hp} (ty : Ty G' s' H') (x : X' cls d H') (hx : Hx Y H') (n : ∀ s2 H2, Y.W H' H2 → Ty N s2 H2 → D.nx s2 H2) (r : ∀ v H2, Y.W H' H2 → R v H2 → D.rt v H2) :
    ∀ {l : List Clause}, Handled K Y G' X' cls d N R l → wMix K Wout D l cls d s' H'
  | [], h => h.elim
  | c :: l, .inr ⟨e, h⟩ => ⟨false, e, (fun z => nomatch z), fun _ => handled_mix ty x hx n r h⟩
  | c :: l, .inl ⟨e, k⟩ => ⟨true, e, fun _ a _ => by
      have k := k a
      unfold Clause.go
      cases hs : c.slot with
      | none =>
        rw [hs] at k
        exact k s' H' D ty hx n r
      | some i =>
        rw [hs] at k
        obtain ⟨M, k, hm⟩ := k
        exact k _ H' _ (ty.put (P := fun v H => v = .ref a ∧ X' cls d H) ⟨rfl, x⟩) hx (fun s2 H2 w2 t2 => n _ H2 w2 (hm s2 H2 t2)) r, fun z => nomatch z⟩
theorem st_mix {Y : Rs} [w : PreT Y.W] {K : PySem.W.Frag} {G G' N : Ctx} {R : Pr} {X' : XP} {l : List Clause} {tb : WX → TS} {Wout : WX} (body : ∀ W : WX, St ⟨Y.W, WE W, G', X'⟩ G (tb W) N R) (hd : ∀ cls d, (∃ H, X' cls d H) → Handled K Y G' X' cls d N R l) :
    St Y G (fun D σ H => tb (wMix K Wout D l) D σ H) N R := fun s H D ty hx n r =>
  body (wMix K Wout D l) s H D ty (fun s' cls d H' w1 ty' x => handled_mix ty' x (hx.mono w1) (fun s2 H2 w2 t2 => n s2 H2 (w.trans w1 w2) t2) (fun v H2 w2 p => r v H2 (w.trans w1 w2) p) (hd cls d ⟨H', x⟩)) n r
end U

/-! ## sum of a tuple of whole numbers -/
namespace U
open PySem PySem.Spec PyProof.Rows L2
def rSumT (K : PySem.W.Frag) : List V → Hp → VK → Prop := fun vs H Q => ∃ (a : Addr) (ns : List Int), vs = [V.ref a] ∧ SqT K H a (ns.map V.int) ∧ Q (.int ns.sum) H
theorem call_sumT {X : Cx} (hc : X.calm = true) : CallR X (.builtin "sum") (rSumT X.K) := by
  intro pins s σ H vs us Q I r h
  obtain ⟨a, ns, rfl, hs, q⟩ := h
  obtain ⟨its, rv, ht, _⟩ := I.tuple hs
  rw [Vals.ref1 r]
  obtain ⟨o, ho, hcl, n, hd⟩ := ht
  have hl : s.heap.IsTuple a its.toArray := ⟨o, ho, hcl, n, hd⟩
  have hi : IntsAre its ns := rv.ints
  obtain ⟨xs, hx⟩ := hi.allInts.items
  have hn : numsOf its.toArray.toList = ns := by rw [show its.toArray.toList = its from rfl, hi.numsOf]
  rw [hx] at hl hn
  rw [nums_intItems] at hn
  refine PySem.W.ktm_sumG (I.ok.hd hc) hl fun h' tk t' hk => ?_
  rw [preSum_eq, List.take_of_length_le (by simp), hn]
  exact ⟨.int ns.sum, H, I.kept hk, ⟨_, rfl⟩, q⟩
theorem op_eqT {X : Cx} {pn : List (Addr × Obj)} {xe : Value → Shared → Prop} (hu : X.A.units + 64 < cLine) : OpR (X.tr pn xe) (compareOp .Eq) (rEqA X.K) := op_eqA (X := X.tr pn xe) hu
theorem op_neT {X : Cx} {pn : List (Addr × Obj)} {xe : Value → Shared → Prop} (hu : X.A.units + 64 < cLine) : OpR (X.tr pn xe) (compareOp .NotEq) (rNeA X.K) := op_neA (X := X.tr pn xe) hu
theorem opA_sumT {W : HR} [w : PreT W] {K : PySem.W.Frag} {ws : List Int} : OpA W (rSumT K) [Tup K (ws.map fun i => Is (.int i))] (Is (.int ws.sum)) := fun vs H al Q q => by
  obtain ⟨x, rfl, p, xs, e, hq, hp⟩ := allp1 al
  have ex : ∀ {ws : List Int} {xs : List V}, AllP (ws.map fun i => Is (.int i)) xs H → xs = ws.map V.int := by
    intro ws
    induction ws with
    | nil => intro xs h; cases xs with
      | nil => rfl
      | cons _ _ => exact h.elim
    | cons y ys ih => intro xs h; cases xs with
      | nil => exact h.elim
      | cons x xs => rw [show x = V.int y from h.1, ih h.2]; rfl
  rw [ex hp] at hq
  exact ⟨p, ws, by rw [e], .inl hq, q _ H (w.refl H) rfl⟩
end U

/-! ## a list that begins as a display and grows; displays walked meanwhile; three names out of a tuple -/
namespace U
open PySem PySem.Spec PyProof.Rows L2
section
variable {Y : Rs} {G N : Ctx} {tr : TA} {tu : TS} {R : Pr} {Ps : List Pr}
/-- made = [..] : from here on the list is one's own -/
theorem st_localD [w : PreD Y.W] [mc : MnC Y.W G] [ml : MnL Y.W Ps] {i : Nat} {N' : Hp → Addr → Ctx} {R' : Hp → Addr → Pr} (ha : EvA Y G tr Ps) (hz : Ps.length ≤ 100000)
    (k : ∀ (H0 : Hp) (l : Addr), H0 l = none → St ⟨WO Y.W H0 l, Y.E, Y.GX, Y.X⟩ ((G.map (Option.map (At Y.W H0))).set i (some (Loc l Ps))) tu (N' H0 l) (R' H0 l))
    (hN : ∀ H0 l s H', Y.W H0 H' → Ty (N' H0 l) s H' → Ty N s H') (hR : ∀ H0 l v H', Y.W H0 H' → R' H0 l v H' → R v H') : St Y G (tSeq (tAsg (tLst tr) (gName i)) tu) N R := fun s H D ty hx nx rt =>
  ha s H ty hx _ fun vs H1 w1 pv => ⟨by rw [allp_len pv, sizeLine_eq]; omega, fun l hl => by
    have k0 : Y.W H1 (upd H1 l (.lst vs)) := w.ext (Evl.Ex.new hl)
    have t1 := (ty_at k0 (mc.mn s H H1 w1 ty)).put (i := i) (P := Loc l Ps) (v := .ref l) ⟨rfl, vs, upd_same, True.intro, ml.mn vs _ _ k0 pv⟩
    exact k H1 l hl _ _ D t1 (fun s2 cls d H2 e2 t2 x => hx s2 cls d H2 (w.trans w1 (e2.1 k0)) t2 x) (fun s2 H2 e2 t2 => nx s2 H2 (w.trans w1 (e2.1 k0)) (hN H1 l s2 H2 (e2.1 k0) t2)) fun v H2 e2 p => rt v H2 (w.trans w1 (e2.1 k0)) (hR H1 l v H2 (e2.1 k0) p)⟩
end
section
variable {Y : Rs} {W : HR} [w : PreD W] {H0 : Hp} {l : Addr} {G N : Ctx} {tr : TA} {ts : TS} {R : Pr} {K : PySem.W.Frag} {Ps Qs : List Pr}
/-- nothing is appended any more -/
theorem St.upW (hW : Y.W = WO W H0 l) (h : St (Y.under W) G ts N R) : St Y G ts N R := fun s H D ty hx n r =>
  h s H D ty (hx_under hW hx) (fun s2 H2 w2 t => n s2 H2 (by rw [hW]; exact wo_of w2) t) fun v H2 w2 p => r v H2 (by rw [hW]; exact wo_of w2) p
/-- for .. in [..], while the list at l grows -/
theorem ej_disp (hW : Y.W = WO W H0 l) [mc : MnC W G] [ml : MnL W Ps] [mo : MnL (WO W H0 l) Ps] {j : Nat} (hj : G[j]? = some (some (Loc l Qs))) (hz : Ps.length ≤ 100000) (ha : EvA (Y.under W) G tr Ps) : EvJ Y W G (iList K (tLst tr)) Ps.length (nth Ps) := fun s H ty hx R k =>
  ha s H ty hx _ fun vs H1 w1 pv => ⟨by rw [allp_len pv, sizeLine_eq]; omega, fun p hp => by
    obtain ⟨v, _, e, zs, hl, _⟩ := (mc.mn s H H1 w1 ty).get hj
    have ne : p ≠ l := fun z => by rw [z, hl] at hp; cases hp
    have k0 : W H1 (upd H1 p (.lst vs)) := w.ext (Evl.Ex.new hp)
    have at_ : ∀ Hx, W (del l (upd H1 p (.lst vs))) (del l Hx) → Hx p = some (.lst vs) := fun Hx z => (del_some (w.own z True.intro (show del l (upd H1 p (.lst vs)) p = some (.lst vs) by rw [del_ne ne]; exact upd_same))).2
    refine ⟨p, rfl, ⟨vs, SqL.of upd_same⟩, k _ (upd H1 p (.lst vs)) (fun Hx => W (del l (upd H1 p (.lst vs))) (del l Hx) ∧ AllP Ps vs Hx) (w.trans w1 k0) ⟨w.refl _, ml.mn vs _ _ k0 pv⟩ (fun a b x z => by
      rw [hW] at x
      exact ⟨w.trans z.1 x.2.1, mo.mn vs a b x z.2⟩) ?_⟩
    rw [← allp_len pv]
    refine ⟨fun i H hi z => walk_list.goes i H hi (SqL.of (at_ H z.1)), fun H z => walk_list.stops H (SqL.of (at_ H z.1)), fun i Ha x Hb hi z y => ?_⟩
    obtain ⟨e1, e2⟩ := walk_list.yields i Ha x Hb hi (SqL.of (at_ Ha z.1)) y
    subst e1
    exact ⟨w.refl _, allp_nth z.2 e2⟩⟩
end
/-- for a, b, c in .. -/
theorem st_for3 {Y : Rs} [w : Pre Y.W] {G : Ctx} {tu : TS} {R : Pr} {K : PySem.W.Frag} {wi : TI} {n : Nat} {I1 I2 I3 : Nat → Pr} {j l m : Nat} (hi : EvI Y G wi n fun i => Tup K [I1 i, I2 i, I3 i]) (L : Nat → Ctx) (h0 : Sub G (L 0)) [mc : MnC Y.W G] [ml : ∀ i, MnC Y.W (L i)]
    (body : ∀ i, i < n → St Y ((((L i).set j (some (I1 i))).set l (some (I2 i))).set m (some (I3 i))) tu (L (i + 1)) R) : St Y G (tFor wi (gTup K 3 (gCons (gName j) (gCons (gName l) (gCons (gName m) gNil)))) tu) (L n) R := fun s H D ty hx nx rt =>
  hi s H ty hx _ fun J H2 Gd w2 g2 gm wk => by
    refine for_it wk (fun i s' H' => Y.W H H' ∧ Gd H' ∧ Ty (L i) s' H') ⟨w2, g2, h0 s H2 (mc.mn s H H2 w2 ty)⟩ (fun i s' H' _ z => z.2.1) (fun i x s' Ha Hb hi z y => ?_) fun s' H' z => nx s' H' z.1 z.2.2
    obtain ⟨z1, z2, z3⟩ := z
    obtain ⟨y1, p, xs, e, hq, hp⟩ := y
    have wb := w.trans z1 y1
    obtain ⟨a, b, c, rfl, pa, pb, pc⟩ := allp3 hp
    refine ⟨p, [a, b, c], e, .inl hq, rfl, a, [b, c], rfl, b, [c], rfl, c, [], rfl, rfl, ?_⟩
    exact body i hi _ Hb _ (((((ml i).mn s' Ha Hb y1 z3).put pa).put pb).put pc) (hx.mono wb) (fun s2 H3 w3 t3 => ⟨w.trans wb w3, gm _ _ (w.trans y1 w3) z2, t3⟩) fun v H3 w3 p => rt v H3 (w.trans wb w3) p
end U

/-! ## data none of whose lists is the list that grows -/
namespace U
open PySem PySem.Spec PyProof.Rows L2
mutual
/-- as Dv; no list of it stands at l; no dicts -/
def DvO (K : PySem.W.Frag) (l : Addr) : D → Pr
  | .non => Is .non
  | .bl b => Is (.bl b)
  | .int i => Is (.int i)
  | .str s => Is (.str s)
  | .tup ds => Tup K (DvOL K l ds)
  | .lst ds => fun v H => ∃ p xs, v = .ref p ∧ p ≠ l ∧ H p = some (.lst xs) ∧ AllP (DvOL K l ds) xs H
  | .dct => fun _ _ => False
def DvOL (K : PySem.W.Frag) (l : Addr) : List D → List Pr
  | [] => []
  | d :: ds => DvO K l d :: DvOL K l ds
end
section
variable {K : PySem.W.Frag} {l : Addr}
theorem dvol_map : ∀ ds : List D, DvOL K l ds = ds.map (DvO K l)
  | [] => rfl
  | d :: ds => by show DvO K l d :: DvOL K l ds = _; rw [dvol_map ds]; rfl
mutual
theorem dvo_mnW {W : HR} [w : PreL W] : ∀ d : D, Mn W (DvO K l d)
  | .non => mn_is
  | .bl _ => mn_is
  | .int _ => mn_is
  | .str _ => mn_is
  | .tup ds => by
    haveI := dvol_mnW (W := W) ds
    exact mn_tup (K := K)
  | .lst ds => ⟨fun v H H' k ⟨p, xs, e, ne, hp, ha⟩ => ⟨p, xs, e, ne, w.std k hp rfl, (dvol_mnW ds).mn xs H H' k ha⟩⟩
  | .dct => ⟨fun _ _ _ _ z => z⟩
theorem dvol_mnW {W : HR} [w : PreL W] : ∀ ds : List D, MnL W (DvOL K l ds)
  | [] => mnl_nil
  | d :: ds => by
    haveI := dvo_mnW (W := W) d
    haveI := dvol_mnW (W := W) ds
    exact mnl_cons
end
mutual
theorem dvo_mnO {W : HR} [w : PreL W] [wd : PreD W] {H0 : Hp} : ∀ d : D, Mn (WO W H0 l) (DvO K l d)
  | .non => mn_is
  | .bl _ => mn_is
  | .int _ => mn_is
  | .str _ => mn_is
  | .tup ds => by
    haveI := dvol_mnO (W := W) (H0 := H0) ds
    exact mn_tup (K := K)
  | .lst ds => ⟨fun v H H' k ⟨p, xs, e, ne, hp, ha⟩ => ⟨p, xs, e, ne, (del_some (w.std k.2.1 (show del l H p = some (.lst xs) by rw [del_ne ne]; exact hp) rfl)).2, (dvol_mnO (W := W) (H0 := H0) ds).mn xs H H' k ha⟩⟩
  | .dct => ⟨fun _ _ _ _ z => z⟩
theorem dvol_mnO {W : HR} [w : PreL W] [wd : PreD W] {H0 : Hp} : ∀ ds : List D, MnL (WO W H0 l) (DvOL K l ds)
  | [] => mnl_nil
  | d :: ds => by
    haveI := dvo_mnO (W := W) (H0 := H0) d
    haveI := dvol_mnO (W := W) (H0 := H0) ds
    exact mnl_cons
end
mutual
theorem dvo_dv : ∀ (d : D) v H, DvO K l d v H → Dv K d v H
  | .non, _, _, h => h
  | .bl _, _, _, h => h
  | .int _, _, _, h => h
  | .str _, _, _, h => h
  | .tup ds, v, H, ⟨p, xs, e, hp, ha⟩ => ⟨p, xs, e, hp, dvol_dvl ds xs H ha⟩
  | .lst ds, v, H, ⟨p, xs, e, _, hp, ha⟩ => ⟨p, xs, e, hp, True.intro, dvol_dvl ds xs H ha⟩
  | .dct, _, _, h => h.elim
theorem dvol_dvl : ∀ (ds : List D) xs H, AllP (DvOL K l ds) xs H → AllP (DvL K ds) xs H
  | [], [], _, _ => True.intro
  | [], _ :: _, _, h => h.elim
  | _ :: _, [], _, h => h.elim
  | d :: ds, x :: xs, H, h => ⟨dvo_dv d x H h.1, dvol_dvl ds xs H h.2⟩
end
mutual
/-- the lists of a datum -/
def D.subs : D → List (List D)
  | .tup ds => D.subsL ds
  | .lst ds => ds :: D.subsL ds
  | _ => []
def D.subsL : List D → List (List D)
  | [] => []
  | d :: ds => d.subs ++ D.subsL ds
end
theorem rd_one {H : Hp} {a : Addr} {xs ys : List V} (h : Rd H a (.tup xs)) (k : Rd H a (.tup ys)) : xs = ys := by
  rcases h with h | ⟨u, h⟩ <;> rcases k with k | ⟨u', k⟩ <;> rw [h] at k <;> cases k <;> rfl
theorem rd_lst {H : Hp} {a : Addr} {xs ys : List V} (h : Rd H a (.tup xs)) (k : H a = some (.lst ys)) : False := by
  rcases h with h | ⟨u, h⟩ <;> rw [h] at k <;> cases k
mutual
/-- what stands there is one datum -/
theorem dv_one : ∀ (d d' : D) v H, d.nod = true → d'.nod = true → Dv K d v H → Dv K d' v H → d = d'
  | .non, d', v, H, _, n, h, k => by
    obtain rfl : v = .non := h
    cases d' with
    | non => rfl
    | dct => cases n
    | tup _ => obtain ⟨_, _, e, _⟩ := k; cases e
    | lst _ => obtain ⟨_, _, e, _⟩ := k; cases e
    | bl b => cases k
    | int i => cases k
    | str s => cases k
  | .bl b, d', v, H, _, n, h, k => by
    obtain rfl : v = .bl b := h
    cases d' with
    | dct => cases n
    | tup _ => obtain ⟨_, _, e, _⟩ := k; cases e
    | lst _ => obtain ⟨_, _, e, _⟩ := k; cases e
    | bl b => cases k; rfl
    | non => cases k
    | int i => cases k
    | str s => cases k
  | .int i, d', v, H, _, n, h, k => by
    obtain rfl : v = .int i := h
    cases d' with
    | dct => cases n
    | tup _ => obtain ⟨_, _, e, _⟩ := k; cases e
    | lst _ => obtain ⟨_, _, e, _⟩ := k; cases e
    | int b => cases k; rfl
    | non => cases k
    | bl i => cases k
    | str s => cases k
  | .str s, d', v, H, _, n, h, k => by
    obtain rfl : v = .str s := h
    cases d' with
    | dct => cases n
    | tup _ => obtain ⟨_, _, e, _⟩ := k; cases e
    | lst _ => obtain ⟨_, _, e, _⟩ := k; cases e
    | str b => cases k; rfl
    | non => cases k
    | bl i => cases k
    | int s => cases k
  | .tup ds, d', v, H, m, n, ⟨p, xs, e, hp, ha⟩, k => by
    subst e
    cases d' with
    | dct => cases n
    | tup es =>
      obtain ⟨p', ys, e, hp', hb⟩ := k
      cases e
      cases rd_one hp hp'
      rw [dvl_one ds es xs H m n ha hb]
    | lst _ => obtain ⟨_, _, e, hp', _⟩ := k; cases e; exact (rd_lst hp hp').elim
    | non => cases k
    | bl _ => cases k
    | int _ => cases k
    | str _ => cases k
  | .lst ds, d', v, H, m, n, ⟨p, xs, e, hp, _, ha⟩, k => by
    subst e
    cases d' with
    | dct => cases n
    | tup es => obtain ⟨_, _, e, hp', _⟩ := k; cases e; exact (rd_lst hp' hp).elim
    | lst es =>
      obtain ⟨p', ys, e, hp', _, hb⟩ := k
      cases e
      rw [hp] at hp'
      cases hp'
      rw [dvl_one ds es xs H m n ha hb]
    | non => cases k
    | bl _ => cases k
    | int _ => cases k
    | str _ => cases k
  | .dct, _, _, _, m, _, _, _ => by cases m
theorem dvl_one : ∀ (ds es : List D) xs H, D.nodL ds = true → D.nodL es = true → AllP (DvL K ds) xs H → AllP (DvL K es) xs H → ds = es
  | [], [], _, _, _, _, _, _ => rfl
  | [], _ :: _, [], _, _, _, _, k => k.elim
  | [], _ :: _, _ :: _, _, _, _, h, _ => h.elim
  | _ :: _, [], [], _, _, _, h, _ => h.elim
  | _ :: _, [], _ :: _, _, _, _, _, k => k.elim
  | _ :: _, _ :: _, [], _, _, _, h, _ => h.elim
  | d :: ds, e :: es, x :: xs, H, m, n, h, k => by
    have m' := (Bool.and_eq_true _ _).mp m
    have n' := (Bool.and_eq_true _ _).mp n
    rw [dv_one d e x H m'.1 n'.1 h.1 k.1, dvl_one ds es xs H m'.2 n'.2 h.2 k.2]
end
mutual
/-- the list at l is L, and no list of d is L -/
theorem dvo_of {L : List D} {H : Hp} (nL : D.nodL L = true) (hl : Dv K (.lst L) (.ref l) H) : ∀ (d : D) v, d.nod = true → (∀ ds ∈ d.subs, ds ≠ L) → Dv K d v H → DvO K l d v H
  | .non, _, _, _, h => h
  | .bl _, _, _, _, h => h
  | .int _, _, _, _, h => h
  | .str _, _, _, _, h => h
  | .tup ds, v, n, k, ⟨p, xs, e, hp, ha⟩ => ⟨p, xs, e, hp, dvol_of nL hl ds xs n k ha⟩
  | .lst ds, v, n, k, ⟨p, xs, e, hp, sf, ha⟩ => ⟨p, xs, e, fun z => by
      have := dv_one (.lst ds) (.lst L) (.ref p) H n nL ⟨p, xs, rfl, hp, sf, ha⟩ (by rw [z]; exact hl)
      cases this
      exact k L List.mem_cons_self rfl, hp, dvol_of nL hl ds xs n (fun es h => k es (List.mem_cons_of_mem _ h)) ha⟩
  | .dct, _, n, _, _ => by cases n
theorem dvol_of {L : List D} {H : Hp} (nL : D.nodL L = true) (hl : Dv K (.lst L) (.ref l) H) : ∀ (ds : List D) xs, D.nodL ds = true → (∀ es ∈ D.subsL ds, es ≠ L) → AllP (DvL K ds) xs H → AllP (DvOL K l ds) xs H
  | [], [], _, _, _ => True.intro
  | [], _ :: _, _, _, h => h.elim
  | _ :: _, [], _, _, h => h.elim
  | d :: ds, x :: xs, n, k, h => by
    have n' := (Bool.and_eq_true _ _).mp n
    exact ⟨dvo_of nL hl d x n'.1 (fun es m => k es (List.mem_append_left _ m)) h.1, dvol_of nL hl ds xs n'.2 (fun es m => k es (List.mem_append_right _ m)) h.2⟩
end
end
end U

namespace U
open PySem PySem.Spec PyProof.Rows L2
def top (i : Nat) : Stmt := PySem.Challenge.pw_untoldgaps_k04_whole_rows_turned_mirrore.main.body.getD i (.Pass ⟨0, 0, 0, 0⟩)
/-- the classes' places -/
structure Addrs where
  BadRatio : Addr
  GapError : Addr
  BadRow : Addr
  Row : Addr
  NoMirror : Addr
  NoHurry : Addr
structure Txt (P : Program) (w : World) (K : PySem.W.Frag) (mg : Str → Option Value) (CX : Addrs) : Prop where
  n_isinstance : mg "isinstance" = none
  n_len : mg "len" = none
  n_int : mg "int" = none
  n_bool : mg "bool" = none
  n_tuple : mg "tuple" = none
  n_abs : mg "abs" = none
  n_enumerate : mg "enumerate" = none
  n_list : mg "list" = none
  n_range : mg "range" = none
  n_ValueError : mg "ValueError" = none
  n_zip : mg "zip" = none
  n_sum : mg "sum" = none
  i_gcd : mg "gcd" = some (.builtin "math.gcd")
  g_GapError : mg "GapError" = some (.ref CX.GapError)
  g_BadRatio : mg "BadRatio" = some (.ref CX.BadRatio)
  c_BadRatio : Er P w K mg "BadRatio" CX.BadRatio [] [] fun _ => True
  x_BadRatio : ExcC K CX.BadRatio
  m_BadRatio : PySem.W.exmOne K (.ref CX.BadRatio) (.ref CX.BadRatio) = some true
  k_BadRatio_GapError : PySem.W.kitOne K (.ref CX.BadRatio) (.ref CX.GapError) = some true
  k_BadRatio_ValueError : PySem.W.kitOne K (.ref CX.BadRatio) (.type "ValueError") = some true
  g_BadRow : mg "BadRow" = some (.ref CX.BadRow)
  c_BadRow : Er P w K mg "BadRow" CX.BadRow ["index", "what"] [("index", "index"), ("what", "what")] fun vs => ∃ (x : Int) (y : Str), vs = [.int x, .str y] ∧ x.natAbs < 1000 ∧ y.length ≤ 20
  x_BadRow : ExcC K CX.BadRow
  m_BadRow : PySem.W.exmOne K (.ref CX.BadRow) (.ref CX.BadRow) = some true
  k_BadRow_GapError : PySem.W.kitOne K (.ref CX.BadRow) (.ref CX.GapError) = some true
  k_BadRow_ValueError : PySem.W.kitOne K (.ref CX.BadRow) (.type "ValueError") = some true
  f_BadRow : XfC K CX.BadRow
  f_BadRow_index : PySem.W.findIn K (.ref CX.BadRow) "index" = some none
  f_BadRow_what : PySem.W.findIn K (.ref CX.BadRow) "what" = some none
  g_NoMirror : mg "NoMirror" = some (.ref CX.NoMirror)
  c_NoMirror : Er P w K mg "NoMirror" CX.NoMirror [] [] fun _ => True
  x_NoMirror : ExcC K CX.NoMirror
  m_NoMirror : PySem.W.exmOne K (.ref CX.NoMirror) (.ref CX.NoMirror) = some true
  k_NoMirror_GapError : PySem.W.kitOne K (.ref CX.NoMirror) (.ref CX.GapError) = some true
  k_NoMirror_ValueError : PySem.W.kitOne K (.ref CX.NoMirror) (.type "ValueError") = some true
  g_NoHurry : mg "NoHurry" = some (.ref CX.NoHurry)
  c_NoHurry : Er P w K mg "NoHurry" CX.NoHurry [] [] fun _ => True
  x_NoHurry : ExcC K CX.NoHurry
  m_NoHurry : PySem.W.exmOne K (.ref CX.NoHurry) (.ref CX.NoHurry) = some true
  k_NoHurry_GapError : PySem.W.kitOne K (.ref CX.NoHurry) (.ref CX.GapError) = some true
  k_NoHurry_ValueError : PySem.W.kitOne K (.ref CX.NoHurry) (.type "ValueError") = some true
  v_MOST_BALLS : ∃ t, mg "MOST_BALLS" = some (.int 40 t)
  v_MOST_WEIGHT : ∃ t, mg "MOST_WEIGHT" = some (.int 9 t)
  r_cls : Cls K CX.Row
  r_no : ∀ f ∈ (["weights", "speeds", "wall", "pairs", "gap_count", "is_like", "first_sum", "second_sum"] : List Str), NoAttr K CX.Row f
  g_Row : mg "Row" = some (.ref CX.Row)
  r_in : InC K CX.Row
  k_Row_tuple : PySem.W.kitOne K (.ref CX.Row) (.type "tuple") = some false
  k_Row_Row : PySem.W.kitOne K (.ref CX.Row) (.ref CX.Row) = some true
  k_tuple_Row : PySem.W.kitOne K (.type "tuple") (.ref CX.Row) = some false
  nf_Row : PySem.W.notFirst K CX.Row (.ref CX.Row) = true
  nf_tuple : PySem.W.notFirst K CX.Row (.type "tuple") = true
  e_NoHurry_NoMirror : PySem.W.exmOne K (.ref CX.NoHurry) (.ref CX.NoMirror) = some false
  e_BadRatio_NoMirror : PySem.W.exmOne K (.ref CX.BadRatio) (.ref CX.NoMirror) = some false
  e_BadRatio_NoHurry : PySem.W.exmOne K (.ref CX.BadRatio) (.ref CX.NoHurry) = some false
  e_BadRow_NoMirror : PySem.W.exmOne K (.ref CX.BadRow) (.ref CX.NoMirror) = some false
  e_BadRow_NoHurry : PySem.W.exmOne K (.ref CX.BadRow) (.ref CX.NoHurry) = some false
  e_BadRow_BadRatio : PySem.W.exmOne K (.ref CX.BadRow) (.ref CX.BadRatio) = some false
/-! ### ratios.py -/
abbrev s_is_whole : Stmt := top 8
theorem sc_is_whole : FnScope ["thing"] ["thing"] (defScope s_is_whole) := ⟨rfl, rfl, rfl, by decide +kernel, rfl, by decide +kernel, by decide +kernel⟩
abbrev s_is_ratio : Stmt := top 9
theorem sc_is_ratio : FnScope ["thing"] ["thing"] (defScope s_is_ratio) := ⟨rfl, rfl, rfl, by decide +kernel, rfl, by decide +kernel, by decide +kernel⟩
abbrev s_lowest_terms : Stmt := top 10
theorem sc_lowest_terms : FnScope ["top", "bottom", "common"] ["top", "bottom"] (defScope s_lowest_terms) := ⟨rfl, rfl, rfl, by decide +kernel, rfl, by decide +kernel, by decide +kernel⟩
abbrev s_ratio_of : Stmt := top 11
theorem sc_ratio_of : FnScope ["thing"] ["thing"] (defScope s_ratio_of) := ⟨rfl, rfl, rfl, by decide +kernel, rfl, by decide +kernel, by decide +kernel⟩
abbrev s_plus : Stmt := top 12
theorem sc_plus : FnScope ["one", "other", "top", "bottom", "more", "part"] ["one", "other"] (defScope s_plus) := ⟨rfl, rfl, rfl, by decide +kernel, rfl, by decide +kernel, by decide +kernel⟩
abbrev s_times : Stmt := top 13
theorem sc_times : FnScope ["one", "other", "top", "bottom", "factor", "part"] ["one", "other"] (defScope s_times) := ⟨rfl, rfl, rfl, by decide +kernel, rfl, by decide +kernel, by decide +kernel⟩
/-- a thing of the kind t -/
structure KindOf (K : PySem.W.Frag) (P : Pr) (t : String) : Prop where
  mn : Mn Evl.Ex P
  ty : HasTy K t P
def wWhole (i : Pr × String × Bool × Bool) : Way := ⟨[i.1], Is (.bl (i.2.2.1 && !i.2.2.2)), NoX⟩
def sp_is_whole (K : PySem.W.Frag) : Sp := SpW Evl.Ex (fun i : Pr × String × Bool × Bool => KindOf K i.1 i.2.1 ∧ kitB i.2.1 "int" = some i.2.2.1 ∧ kitB i.2.1 "bool" = some i.2.2.2) wWhole
/-- things that are no ratios, by why -/
inductive OddW
  | other (P : Pr) (t : String)
  | len (Ps : List Pr)
  | fst (P Q : Pr) (t : String)
  | snd (i : Int) (Q : Pr) (t : String)
  | low (a b : Int)
/-- it is not whole: its kind is another -/
def notWhole (t : String) : Prop := ∃ b1 b2, kitB t "int" = some b1 ∧ kitB t "bool" = some b2 ∧ (b1 && !b2) = false
def OddW.ok (K : PySem.W.Frag) : OddW → Prop
  | .other P t => KindOf K P t ∧ notWhole t ∧ kitB t "tuple" = some false
  | .len Ps => MnL Evl.Ex Ps ∧ Ps.length ≠ 2
  | .fst P Q t => KindOf K P t ∧ Mn Evl.Ex Q ∧ notWhole t
  | .snd _ Q t => KindOf K Q t ∧ notWhole t
  | .low _ b => b < 1
def OddW.pr (K : PySem.W.Frag) : OddW → Pr
  | .other P _ => P
  | .len Ps => Tup K Ps
  | .fst P Q _ => Tup K [P, Q]
  | .snd i Q _ => Tup K [Is (.int i), Q]
  | .low a b => Tup K [Is (.int a), Is (.int b)]
theorem OddW.mn {K : PySem.W.Frag} : ∀ {o : OddW}, o.ok K → Mn Evl.Ex (o.pr K)
  | .other P t, h => h.1.mn
  | .len Ps, h => by haveI := h.1; exact mn_tup (K := K) (Ps := Ps)
  | .fst P Q t, h => by haveI := h.1.mn; haveI := h.2.1; exact mn_tup (K := K)
  | .snd i Q t, h => by haveI := h.1.mn; exact mn_tup (K := K)
  | .low a b, _ => mn_tup (K := K)
inductive RofW
  | int (i : Int)
  | tup (a b : Int)
  | odd (o : OddW)
def wIsR (K : PySem.W.Frag) : RofW → Way
  | .int i => ⟨[Is (.int i)], Is (.bl true), NoX⟩
  | .tup a b => ⟨[Tup K [Is (.int a), Is (.int b)]], Is (.bl true), NoX⟩
  | .odd o => ⟨[o.pr K], Is (.bl false), NoX⟩
def okIsR (K : PySem.W.Frag) : RofW → Prop
  | .int _ => True
  | .tup _ b => 0 < b
  | .odd o => o.ok K
def sp_is_ratio (K : PySem.W.Frag) : Sp := SpW Evl.Ex (okIsR K) (wIsR K)
def sp_lowest_terms (K : PySem.W.Frag) : Sp := SpW Evl.Ex (fun i : Int × Int => i.2 ≠ 0 ∧ Big 9000 i.2) fun i => ⟨[Is (.int i.1), Is (.int i.2)], Told K (Rat.divInt i.1 i.2), NoX⟩
def RX (CX : Addrs) : XP := fun cls d _ => cls = .ref CX.BadRatio ∧ d = none
def NoV : Pr := fun _ _ => False
def wRof (K : PySem.W.Frag) (CX : Addrs) : RofW → Way
  | .int i => ⟨[Is (.int i)], Told K (i : Rat), NoX⟩
  | .tup a b => ⟨[Tup K [Is (.int a), Is (.int b)]], Told K (Rat.divInt a b), NoX⟩
  | .odd o => ⟨[o.pr K], NoV, RX CX⟩
def okRof (K : PySem.W.Frag) : RofW → Prop
  | .int _ => True
  | .tup _ b => 0 < b ∧ Big 9000 b
  | .odd o => o.ok K
def sp_ratio_of (K : PySem.W.Frag) (CX : Addrs) : Sp := SpW Evl.Ex (okRof K) (wRof K CX)
theorem st_false {Y : Rs} {G : Ctx} {ts : TS} {N : Ctx} {R P : Pr} {i : Nat} (h : G[i]? = some (some P)) (no : ∀ v H, P v H → False) : St Y G ts N R := fun s H D ty _ _ _ => by
  obtain ⟨v, _, p⟩ := ty.get h
  exact (no v H p).elim
section
variable {P : Program} {w : World} {K : PySem.W.Frag} {mg : Str → Option Value} {base : Heap} {CX : Addrs}
theorem ok_is_whole {f : Addr} {fd : FuncData} (F : Fun K "is_whole" "is_whole" s_is_whole f fd) (T : Txt P w K mg CX) : FnOk P w K mg base (L2N.CX P w) 1 f fd ["thing"] (sp_is_whole K) := by
  refine okW F sc_is_whole (fun i => rfl) (by decide) (fun cdv A outer s H E hr => ⟨_, (pss_one (ps_ret (pe_and (pe_callB call_isi (by rfl) T.n_isinstance (by decide +kernel) (pa_cons (pv 0) (pa_cons (pe_bltn (v := .ty "int") (by rfl) T.n_int (by decide +kernel) rfl) pa_nil))) (pe_one (pe_not (pe_callB call_isi (by rfl) T.n_isinstance (by decide +kernel) (pa_cons (pv 0) (pa_cons (pe_bltn (v := .ty "bool") (by rfl) T.n_bool (by decide +kernel) rfl) pa_nil)))))))), fun i c => ⟨Dead, ?_, fun _ _ h => (dead h).elim⟩⟩)
  obtain ⟨P, t, b1, b2⟩ := i
  obtain ⟨⟨m, ty⟩, k1, k2⟩ := c
  haveI := m
  show St (RsE E NoX 1) [some P] _ Dead (Is (.bl (b1 && !b2)))
  exact st_ret (ev_andV (ev_cb (ea_cons (ev_var rfl) (ea_cons ev_c ea_nil)) (opA_isi ty k1)) fun _ => ev_notV (ev_cb (ea_cons (ev_var rfl) (ea_cons ev_c ea_nil)) (opA_isi ty k2)))
theorem kit_ii : kitB "int" "int" = some true := by decide +kernel
theorem kit_ib : kitB "int" "bool" = some false := by decide +kernel
theorem cl_whole {W : HR} [Pre W] {i : Int} : Cl W (sp_is_whole K) [Is (.int i)] (Is (.bl true)) NoX :=
  cl_of (C := fun i : Pr × String × Bool × Bool => KindOf K i.1 i.2.1 ∧ kitB i.2.1 "int" = some i.2.2.1 ∧ kitB i.2.1 "bool" = some i.2.2.2) (f := wWhole) (Is (.int i), "int", true, false) ⟨⟨inferInstance, hasTy_int⟩, kit_ii, kit_ib⟩
theorem cl_wholeT {W : HR} [Pre W] {P : Pr} {t : String} {b1 b2 : Bool} (k : KindOf K P t) (h1 : kitB t "int" = some b1) (h2 : kitB t "bool" = some b2) : Cl W (sp_is_whole K) [P] (Is (.bl (b1 && !b2))) NoX :=
  cl_of (W := Evl.Ex) (C := fun i : Pr × String × Bool × Bool => KindOf K i.1 i.2.1 ∧ kitB i.2.1 "int" = some i.2.2.1 ∧ kitB i.2.1 "bool" = some i.2.2.2) (f := wWhole) (P, t, b1, b2) ⟨k, h1, h2⟩
theorem cl_notWhole {W : HR} [Pre W] {P : Pr} {t : String} (k : KindOf K P t) (h : notWhole t) : Cl W (sp_is_whole K) [P] (Is (.bl false)) NoX := by
  obtain ⟨b1, b2, h1, h2, e⟩ := h
  rw [← e]
  exact cl_wholeT k h1 h2
theorem ok_is_ratio {f : Addr} {fd : FuncData} (F : Fun K "is_ratio" "is_ratio" s_is_ratio f fd) (T : Txt P w K mg CX) (D_is_whole : Df P w K mg base 1 "is_whole" ["thing"] (sp_is_whole K)) :
    FnOk P w K mg base (L2N.CX P w) 2 f fd ["thing"] (sp_is_ratio K) := by
  refine okW F sc_is_ratio (fun i => by cases i <;> rfl) (by decide) (fun cdv A outer s H E hr => ⟨_, (pss_cons (ps_if (pt_not (pt_val (pe_callB call_isi (by rfl) T.n_isinstance (by decide +kernel) (pa_cons (pv 0) (pa_cons (pe_bltn (v := .ty "tuple") (by rfl) T.n_tuple (by decide +kernel) rfl) pa_nil))))) (pss_one (ps_ret (pe_df D_is_whole (hr.mono (by decide)) (L2N.takes_of rfl rfl rfl rfl) (pa_cons (pv 0) pa_nil)))) pss_nil) (pss_one (ps_ret (pe_and (pe_cmpR (op_eqA hr.units) (pe_callB call_lenA (by rfl) T.n_len (by decide +kernel) (pa_cons (pv 0) pa_nil)) pe_int (nomark _)) (pe_and (pe_df D_is_whole (hr.mono (by decide)) (L2N.takes_of rfl rfl rfl rfl) (pa_cons (pe_ix ix_seq (pv 0) pe_int (fun _ _ => rfl)) pa_nil)) (pe_and (pe_df D_is_whole (hr.mono (by decide)) (L2N.takes_of rfl rfl rfl rfl) (pa_cons (pe_ix ix_seq (pv 0) pe_int (fun _ _ => rfl)) pa_nil)) (pe_one (pe_cmpR op_ge (pe_ix ix_seq (pv 0) pe_int (fun _ _ => rfl)) pe_int (nomark _))))))))), fun i c => ⟨Dead, ?_, fun _ _ h => (dead h).elim⟩⟩)
  cases i with
  | int i =>
    show St (RsE E NoX 1) [some (Is (.int i))] _ Dead (Is (.bl true))
    refine st_seq (M := Dead) (st_if (et_not (et_B (ev_cb (ea_cons (ev_var rfl) (ea_cons ev_c ea_nil)) (opA_isi hasTy_int (b := false) (by decide +kernel))))) (fun _ => st_ret (ev_call (ea_cons (ev_var rfl) ea_nil) cl_whole)) (fun h => by cases h)) ?_
    exact fun s H D ty => (dead ty).elim
  | tup a b =>
    have hb : 0 < b := c
    show St (RsE E NoX 1) [some (Tup K [Is (.int a), Is (.int b)])] _ Dead (Is (.bl true))
    refine st_seq (st_if (et_not (et_B (ev_cb (ea_cons (ev_var rfl) (ea_cons ev_c ea_nil)) (opA_isi hasTy_tup (b := true) (by decide +kernel))))) (fun h => by cases h) (fun _ => st_next)) ?_
    refine st_ret (Ev.to (ev_andV (ev_op (ev_cb (ea_cons (ev_var rfl) ea_nil) opA_lenT) ev_c o_eqI) fun _ => ev_andV (ev_call (ea_cons (ev_op (ev_var rfl) ev_c (o_ixT (i := 0) rfl)) ea_nil) cl_whole) fun _ => ev_andV (ev_call (ea_cons (ev_op (ev_var rfl) ev_c (o_ixT (i := 1) rfl)) ea_nil) cl_whole) fun _ => (ev_op (ev_op (ev_var rfl) ev_c (o_ixT (i := 1) rfl)) ev_c op2_I0)) ?_)
    show V.bl (true && (true && (true && decide (1 ≤ b)))) = V.bl true
    rw [decide_eq_true (show 1 ≤ b by omega)]
    rfl
  | odd o =>
    haveI := OddW.mn (K := K) (o := o) c
    have ist : ∀ {Ps : List Pr} [MnL Evl.Ex Ps] {ts : TS}, EvT (RsE E NoX 1) [some (Tup K Ps)] (tNot (tB (tCB (rIsi K) (tCons (tVar 0) (tCons (tC (.ty "tuple")) tNil))))) (!true) := fun {Ps} _ {ts} => et_not (et_B (ev_cb (ea_cons (ev_var rfl) (ea_cons ev_c ea_nil)) (opA_isi hasTy_tup (b := true) (by decide +kernel))))
    cases o with
    | other P t =>
      obtain ⟨k, nw, kt⟩ := (c : KindOf K P t ∧ notWhole t ∧ kitB t "tuple" = some false)
      haveI := k.mn
      show St (RsE E NoX 1) [some P] _ Dead (Is (.bl false))
      refine st_seq (M := Dead) (st_if (et_not (et_B (ev_cb (ea_cons (ev_var rfl) (ea_cons ev_c ea_nil)) (opA_isi k.ty kt)))) (fun _ => st_ret (ev_call (ea_cons (ev_var rfl) ea_nil) (cl_notWhole k nw))) (fun h => by cases h)) (fun s H D ty => (dead ty).elim)
    | len Ps =>
      obtain ⟨m, l⟩ := (c : MnL Evl.Ex Ps ∧ Ps.length ≠ 2)
      haveI := m
      show St (RsE E NoX 1) [some (Tup K Ps)] _ Dead (Is (.bl false))
      refine st_seq (st_if (ist (ts := tNext)) (fun h => by cases h) (fun _ => st_next)) ?_
      refine st_ret (Ev.to (ev_andV (b := false) (ev_op (ev_cb (ea_cons (ev_var rfl) ea_nil) opA_lenT) ev_c o_eqI) fun h => absurd (of_decide_eq_true h) (by omega)) ?_)
      rw [Bool.and_false]
    | fst P Q t =>
      obtain ⟨k, mq, nw⟩ := (c : KindOf K P t ∧ Mn Evl.Ex Q ∧ notWhole t)
      haveI := k.mn
      haveI := mq
      show St (RsE E NoX 1) [some (Tup K [P, Q])] _ Dead (Is (.bl false))
      refine st_seq (st_if (ist (ts := tNext)) (fun h => by cases h) (fun _ => st_next)) ?_
      exact st_ret (Ev.to (ev_andV (b := false && false) (ev_op (ev_cb (ea_cons (ev_var rfl) ea_nil) opA_lenT) ev_c o_eqI) fun _ => ev_andV (ev_call (ea_cons (ev_op (ev_var rfl) ev_c (o_ixT (i := 0) rfl)) ea_nil) (cl_notWhole k nw)) fun h => by cases h) rfl)
    | snd i Q t =>
      obtain ⟨k, nw⟩ := (c : KindOf K Q t ∧ notWhole t)
      haveI := k.mn
      show St (RsE E NoX 1) [some (Tup K [Is (.int i), Q])] _ Dead (Is (.bl false))
      refine st_seq (st_if (ist (ts := tNext)) (fun h => by cases h) (fun _ => st_next)) ?_
      exact st_ret (Ev.to (ev_andV (b := true && (false && false)) (ev_op (ev_cb (ea_cons (ev_var rfl) ea_nil) opA_lenT) ev_c o_eqI) fun _ => ev_andV (ev_call (ea_cons (ev_op (ev_var rfl) ev_c (o_ixT (i := 0) rfl)) ea_nil) cl_whole) fun _ => ev_andV (ev_call (ea_cons (ev_op (ev_var rfl) ev_c (o_ixT (i := 1) rfl)) ea_nil) (cl_notWhole k nw)) fun h => by cases h) rfl)
    | low a b =>
      have hb : b < 1 := c
      show St (RsE E NoX 1) [some (Tup K [Is (.int a), Is (.int b)])] _ Dead (Is (.bl false))
      refine st_seq (st_if (ist (ts := tNext)) (fun h => by cases h) (fun _ => st_next)) ?_
      refine st_ret (Ev.to (ev_andV (ev_op (ev_cb (ea_cons (ev_var rfl) ea_nil) opA_lenT) ev_c o_eqI) fun _ => ev_andV (ev_call (ea_cons (ev_op (ev_var rfl) ev_c (o_ixT (i := 0) rfl)) ea_nil) cl_whole) fun _ => ev_andV (ev_call (ea_cons (ev_op (ev_var rfl) ev_c (o_ixT (i := 1) rfl)) ea_nil) cl_whole) fun _ => (ev_op (ev_op (ev_var rfl) ev_c (o_ixT (i := 1) rfl)) ev_c op2_I0)) ?_)
      show V.bl (true && (true && (true && decide (1 ≤ b)))) = V.bl false
      rw [decide_eq_false (show ¬ 1 ≤ b by omega)]
      rfl
theorem cl_is_ratio_i {W : HR} [Pre W] {i : Int} : Cl W (sp_is_ratio K) [Is (.int i)] (Is (.bl true)) NoX := cl_of (W := Evl.Ex) (C := okIsR K) (f := wIsR K) (.int i) True.intro
theorem cl_is_ratio_t {W : HR} [Pre W] {a b : Int} (h : 0 < b) : Cl W (sp_is_ratio K) [Tup K [Is (.int a), Is (.int b)]] (Is (.bl true)) NoX := cl_of (W := Evl.Ex) (C := okIsR K) (f := wIsR K) (.tup a b) h
theorem cl_is_ratio_o {W : HR} [Pre W] {o : OddW} (h : o.ok K) : Cl W (sp_is_ratio K) [o.pr K] (Is (.bl false)) NoX := cl_of (W := Evl.Ex) (C := okIsR K) (f := wIsR K) (.odd o) h
theorem ok_lowest_terms {f : Addr} {fd : FuncData} (F : Fun K "lowest_terms" "lowest_terms" s_lowest_terms f fd) (T : Txt P w K mg CX) : FnOk P w K mg base (L2N.CX P w) 1 f fd ["top", "bottom"] (sp_lowest_terms K) := by
  refine okW F sc_lowest_terms (fun i => rfl) (by decide) (fun cdv A outer s H E hr => ⟨_, (pss_cons (ps_set (i := 2) sc_lowest_terms.nd rfl (by first | exact Or.inl rfl | exact Or.inr rfl) (pe_callBfun cr_gcd (by rfl) T.i_gcd (pa_cons (pv 0) (pa_cons (pv 1) pa_nil)))) (pss_cons (ps_if (pt_cmpR op_lt (pv 1) pe_int (nomark _)) (pss_one (ps_set (i := 2) sc_lowest_terms.nd rfl (by first | exact Or.inl rfl | exact Or.inr rfl) (pe_un un_neg (pv 2)))) pss_nil) (pss_one (ps_ret (pe_tup (pa_cons (pe_op op_fd (pv 0) (pv 2)) (pa_cons (pe_op op_fd (pv 1) (pv 2)) pa_nil))))))), fun i c => ⟨Dead, ?_, fun _ _ h => (dead h).elim⟩⟩)
  obtain ⟨t, b⟩ := i
  obtain ⟨hb, bb⟩ := c
  show St (RsE E NoX 3) [some (Is (.int t)), some (Is (.int b)), none] _ Dead (Told K (Rat.divInt t b))
  obtain ⟨c0, c1, c2⟩ := low_terms (t := t) hb _ rfl
  have cb : Big 9000 (if b < 0 then -((Nat.gcd t.natAbs b.natAbs : Nat) : Int) else ((Nat.gcd t.natAbs b.natAbs : Nat) : Int)) := by
    have hle : Nat.gcd t.natAbs b.natAbs ≤ b.natAbs := Nat.gcd_le_right _ (by omega)
    have : (if b < 0 then -((Nat.gcd t.natAbs b.natAbs : Nat) : Int) else ((Nat.gcd t.natAbs b.natAbs : Nat) : Int)).natAbs = Nat.gcd t.natAbs b.natAbs := by split <;> omega
    unfold Big at *
    rw [this]
    exact Nat.lt_of_le_of_lt hle bb
  refine st_seq (st_set (ev_cb (ea_cons (ev_var rfl) (ea_cons (ev_var rfl) ea_nil)) opA_gcd)) ?_
  refine st_seq (M := [some (Is (.int t)), some (Is (.int b)), some (Is (.int (if b < 0 then -((Nat.gcd t.natAbs b.natAbs : Nat) : Int) else ((Nat.gcd t.natAbs b.natAbs : Nat) : Int))))]) (st_if (et_test (ev_op (ev_var rfl) ev_c op2_I0)) (fun h => ?_) (fun h => ?_)) ?_
  · have hn : b < 0 := of_decide_eq_true h
    rw [if_pos hn]
    exact st_set (ev_un (ev_var rfl) op1_neg)
  · have hn : ¬ b < 0 := of_decide_eq_false h
    rw [if_neg hn]
    exact st_next
  · refine st_ret (Ev.sub (ev_tup (K := K) (ea_cons (ev_op (ev_var rfl) (ev_var rfl) (o_fd9 c0 cb (Nat.le_refl _))) (ea_cons (ev_op (ev_var rfl) (ev_var rfl) (o_fd9 c0 cb (Nat.le_refl _))) ea_nil))) ?_)
    rw [c1, c2]
    exact fun _ _ h => h
theorem cl_low {W : HR} [Pre W] {t b : Int} (h : b ≠ 0) (k : Big 9000 b) : Cl W (sp_lowest_terms K) [Is (.int t), Is (.int b)] (Told K (Rat.divInt t b)) NoX :=
  cl_of (C := fun i : Int × Int => i.2 ≠ 0 ∧ Big 9000 i.2) (f := fun i => ⟨[Is (.int i.1), Is (.int i.2)], Told K (Rat.divInt i.1 i.2), NoX⟩) (t, b) ⟨h, k⟩
theorem ok_ratio_of {f : Addr} {fd : FuncData} (F : Fun K "ratio_of" "ratio_of" s_ratio_of f fd) (T : Txt P w K mg CX) (D_is_ratio : Df P w K mg base 2 "is_ratio" ["thing"] (sp_is_ratio K)) (D_lowest_terms : Df P w K mg base 1 "lowest_terms" ["top", "bottom"] (sp_lowest_terms K)) :
    FnOk P w K mg base (L2N.CX P w) 3 f fd ["thing"] (sp_ratio_of K CX) := by
  refine okW F sc_ratio_of (fun i => by cases i <;> rfl) (by decide) (fun cdv A outer s H E hr => ⟨_, (pss_cons (ps_if (pt_not (pt_val (pe_df D_is_ratio (hr.mono (by decide)) (L2N.takes_of rfl rfl rfl rfl) (pa_cons (pv 0) pa_nil)))) (pss_one (L2N.ps_raise rfl (L2N.takes_of rfl rfl rfl rfl) (pmk_er0 T.c_BadRatio (hr.mono (by decide))))) pss_nil) (pss_cons (ps_if (pt_val (pe_callB call_isi (by rfl) T.n_isinstance (by decide +kernel) (pa_cons (pv 0) (pa_cons (pe_bltn (v := .ty "tuple") (by rfl) T.n_tuple (by decide +kernel) rfl) pa_nil)))) (pss_one (ps_ret (pe_df D_lowest_terms (hr.mono (by decide)) (L2N.takes_of rfl rfl rfl rfl) (pa_cons (pe_ix ix_seq (pv 0) pe_int (fun _ _ => rfl)) (pa_cons (pe_ix ix_seq (pv 0) pe_int (fun _ _ => rfl)) pa_nil))))) pss_nil) (pss_one (ps_ret (pe_tup (pa_cons (pv 0) (pa_cons pe_int pa_nil))))))), fun i c => ⟨Dead, ?_, fun _ _ h => (dead h).elim⟩⟩)
  cases i with
  | int i =>
    show St (RsE E NoX 1) [some (Is (.int i))] _ Dead (Told K (i : Rat))
    refine st_seq (st_if (et_not (et_B (ev_call (ea_cons (ev_var rfl) ea_nil) cl_is_ratio_i))) (fun h => by cases h) (fun _ => st_next)) ?_
    refine st_seq (st_if (et_B (ev_cb (ea_cons (ev_var rfl) (ea_cons ev_c ea_nil)) (opA_isi hasTy_int (b := false) (by decide +kernel)))) (fun h => by cases h) (fun _ => st_next)) ?_
    exact st_ret (ev_tup (K := K) (ea_cons (ev_var rfl) (ea_cons ev_c ea_nil)))
  | tup a b =>
    obtain ⟨hb, bb⟩ := (c : 0 < b ∧ Big 9000 b)
    show St (RsE E NoX 1) [some (Tup K [Is (.int a), Is (.int b)])] _ Dead (Told K (Rat.divInt a b))
    refine st_seq (st_if (et_not (et_B (ev_call (ea_cons (ev_var rfl) ea_nil) (cl_is_ratio_t hb)))) (fun h => by cases h) (fun _ => st_next)) ?_
    refine st_seq (M := Dead) (st_if (et_B (ev_cb (ea_cons (ev_var rfl) (ea_cons ev_c ea_nil)) (opA_isi hasTy_tup (b := true) (by decide +kernel)))) (fun _ => ?_) (fun h => by cases h)) (fun s H D ty => (dead ty).elim)
    exact st_ret (ev_call (ea_cons (ev_op (ev_var rfl) ev_c (o_ixT (i := 0) rfl)) (ea_cons (ev_op (ev_var rfl) ev_c (o_ixT (i := 1) rfl)) ea_nil)) (cl_low (by omega) bb))
  | odd o =>
    haveI := OddW.mn (K := K) (o := o) c
    show St (RsE E (RX CX) 1) [some (o.pr K)] _ Dead NoV
    refine st_seq (M := Dead) (st_if (et_not (et_B (ev_call (ea_cons (ev_var rfl) ea_nil) (cl_is_ratio_o c)))) (fun _ => ?_) (fun h => by cases h)) (fun s H D ty => (dead ty).elim)
    refine st_raise (sub_none rfl) (fun s H Q ty k => ?_)
    exact ⟨rfl, True.intro, fun _ => k _ _ _ (Evl.Ex.refl H) ty ⟨rfl, rfl⟩, fun z => absurd rfl z⟩
/-- what a def is worth upon any of two things -/
theorem cl_or {W : HR} {sp : Sp} {P1 P2 : Pr} {Ps : List Pr} {R : Pr} {X : XP} (h1 : Cl W sp (P1 :: Ps) R X) (h2 : Cl W sp (P2 :: Ps) R X) : Cl W sp ((fun v H => P1 v H ∨ P2 v H) :: Ps) R X := fun vs H a Q E q e => by
  cases vs with
  | nil => exact a.elim
  | cons v vs => exact a.1.elim (fun z => h1 (v :: vs) H ⟨z, a.2⟩ Q E q e) fun z => h2 (v :: vs) H ⟨z, a.2⟩ Q E q e
theorem cl_ratio_of {W : HR} [Pre W] {n : Nat} {q : Rat} {X : XP} (hn : n ≤ 9000) : Cl W (sp_ratio_of K CX) [RatD K n q] (Told K q) X := fun vs H al Q E k e => by
  obtain ⟨v, rfl, h⟩ := allp1 al
  rcases h with ⟨i, rfl, rfl⟩ | ⟨a, b, t, h0, h2, rfl⟩
  · exact cl_of (W := Evl.Ex) (W' := W) (C := okRof K) (f := wRof K CX) (.int i) True.intro _ H (show AllP [Is (.int i)] [V.int i] H from ⟨rfl, True.intro⟩) Q E k fun _ _ _ _ z => z.elim
  · exact cl_of (W := Evl.Ex) (W' := W) (C := okRof K) (f := wRof K CX) (.tup a b) ⟨h0, big_mono h2 hn⟩ _ H (show AllP [Tup K [Is (.int a), Is (.int b)]] [v] H from ⟨t, True.intro⟩) Q E k fun _ _ _ _ z => z.elim
theorem cl_rofX {W : HR} [Pre W] {o : OddW} {Q : Pr} (h : o.ok K) : Cl W (sp_ratio_of K CX) [o.pr K] Q (RX CX) := fun vs H a Q' E _ e =>
  cl_of (W := Evl.Ex) (W' := W) (C := okRof K) (f := wRof K CX) (.odd o) h vs H a Q' E (fun _ _ _ z => False.elim z) e
/-- two ratios, sizes -/
structure Two where
  n : Nat
  d : Nat
  e : Nat
  q : Rat
  r : Rat
def Two.ok (i : Two) : Prop := i.n ≤ 400000 ∧ i.d + i.e ≤ 9000 ∧ Sz2 i.n i.d i.q ∧ Sz2 i.n i.e i.r
/-- both good; the first odd; the second odd -/
inductive W2
  | good (i : Two)
  | bad1 (o : OddW) (P : Pr)
  | bad2 (n : Nat) (q : Rat) (o : OddW)
def ok2 (K : PySem.W.Frag) : W2 → Prop
  | .good i => i.ok
  | .bad1 o P => o.ok K ∧ Mn Evl.Ex P
  | .bad2 n _ o => n ≤ 9000 ∧ o.ok K
def w2 (K : PySem.W.Frag) (CX : Addrs) (f : Rat → Rat → Pr) : W2 → Way
  | .good i => ⟨[RatD K i.d i.q, RatD K i.e i.r], f i.q i.r, NoX⟩
  | .bad1 o P => ⟨[o.pr K, P], NoV, RX CX⟩
  | .bad2 n q o => ⟨[RatD K n q, o.pr K], NoV, RX CX⟩
def sp_2 (K : PySem.W.Frag) (CX : Addrs) (f : Rat → Rat → Pr) : Sp := SpW Evl.Ex (ok2 K) (w2 K CX f)
abbrev sp_plus (K : PySem.W.Frag) (CX : Addrs) : Sp := sp_2 K CX fun q r => Told K (q + r)
abbrev sp_minus (K : PySem.W.Frag) (CX : Addrs) : Sp := sp_2 K CX fun q r => Told K (q - r)
abbrev sp_times (K : PySem.W.Frag) (CX : Addrs) : Sp := sp_2 K CX fun q r => Told K (q * r)
def cmpR (q r : Rat) : Int := if q < r then -1 else if q = r then 0 else 1
abbrev sp_compare (K : PySem.W.Frag) (CX : Addrs) : Sp := sp_2 K CX fun q r => Is (.int (cmpR q r))
theorem cl_2 {W : HR} [Pre W] {f : Rat → Rat → Pr} {n d e : Nat} {q r : Rat} {X : XP} (hn : n ≤ 400000) (hd : d + e ≤ 9000) (hq : Sz2 n d q) (hr : Sz2 n e r) : Cl W (sp_2 K CX f) [RatD K d q, RatD K e r] (f q r) X := fun vs H a Q E k _ =>
  cl_of (W := Evl.Ex) (W' := W) (C := ok2 K) (f := w2 K CX f) (.good ⟨n, d, e, q, r⟩) ⟨hn, hd, hq, hr⟩ vs H a Q E k fun _ _ _ _ z => z.elim
theorem cl_2a {W : HR} [Pre W] {f : Rat → Rat → Pr} {o : OddW} {P Q : Pr} [m : Mn Evl.Ex P] (h : o.ok K) : Cl W (sp_2 K CX f) [o.pr K, P] Q (RX CX) := fun vs H a Q' E _ e =>
  cl_of (W := Evl.Ex) (W' := W) (C := ok2 K) (f := w2 K CX f) (.bad1 o P) ⟨h, m⟩ vs H a Q' E (fun _ _ _ z => False.elim z) e
theorem cl_2b {W : HR} [Pre W] {f : Rat → Rat → Pr} {n : Nat} {q : Rat} {o : OddW} {Q : Pr} (hn : n ≤ 9000) (h : o.ok K) : Cl W (sp_2 K CX f) [RatD K n q, o.pr K] Q (RX CX) := fun vs H a Q' E _ e =>
  cl_of (W := Evl.Ex) (W' := W) (C := ok2 K) (f := w2 K CX f) (.bad2 n q o) ⟨hn, h⟩ vs H a Q' E (fun _ _ _ z => False.elim z) e
/-- the two ways that raise -/
theorem st_bad1 {o : OddW} {P Q : Pr} {rest : TS} {N : Ctx} {E : XK} {G : Ctx} [mc : MnC Evl.Ex G] [m : Mn Evl.Ex P] (h : o.ok K) : St (RsE E (RX CX) (G.length + 4)) (some (o.pr K) :: some P :: none :: none :: G) (tSeq (tAsg (tCallS (sp_ratio_of K CX) (fun _ => E) (tCons (tVar 0) tNil)) (gTup K 2 (gCons (gName 2) (gCons (gName 3) gNil)))) rest) N Q := by
  haveI := OddW.mn h
  refine st_seq (st_un2 (P1 := NoV) (P2 := NoV) (ev_callX (Y := RsE E (RX CX) (G.length + 4)) (ea_cons (ev_var rfl) ea_nil) (cl_rofX h) (sub_none (by simp)))) (st_false (i := 2) rfl fun _ _ h => h)
theorem st_bad2 {n : Nat} {q : Rat} {o : OddW} {Q : Pr} {rest : TS} {N : Ctx} {E : XK} {G : Ctx} [mc : MnC Evl.Ex G] (hn : n ≤ 9000) (h : o.ok K) : St (RsE E (RX CX) (G.length + 6)) (some (RatD K n q) :: some (o.pr K) :: none :: none :: none :: none :: G) (tSeq (tAsg (tCallS (sp_ratio_of K CX) (fun _ => E) (tCons (tVar 0) tNil)) (gTup K 2 (gCons (gName 2) (gCons (gName 3) gNil)))) (tSeq (tAsg (tCallS (sp_ratio_of K CX) (fun _ => E) (tCons (tVar 1) tNil)) (gTup K 2 (gCons (gName 4) (gCons (gName 5) gNil)))) rest)) N Q := by
  haveI := OddW.mn h
  refine st_seq (st_un2 (ev_callX (Y := RsE E (RX CX) (G.length + 6)) (ea_cons (ev_var rfl) ea_nil) (cl_ratio_of hn) (sub_none (by simp)))) ?_
  refine st_seq (st_un2 (P1 := NoV) (P2 := NoV) (ev_callX (Y := RsE E (RX CX) (G.length + 6)) (ea_cons (ev_var rfl) ea_nil) (cl_rofX h) (sub_none (by simp)))) (st_false (i := 4) rfl fun _ _ h => h)
theorem rat_add (q r : Rat) : Rat.divInt (q.num * r.den + r.num * q.den) (q.den * r.den) = q + r := by
  rw [← Rat.divInt_add_divInt _ _ (by have := q.den_pos; omega) (by have := r.den_pos; omega)]; simp
theorem rat_sub (q r : Rat) : Rat.divInt (q.num * r.den - r.num * q.den) (q.den * r.den) = q - r := by
  rw [← Rat.divInt_sub_divInt _ _ (by have := q.den_pos; omega) (by have := r.den_pos; omega)]; simp
theorem rat_mul (q r : Rat) : Rat.divInt (q.num * r.num) (q.den * r.den) = q * r := by
  rw [← Rat.divInt_mul_divInt]; simp
theorem den_ne (q r : Rat) : ((q.den : Int) * (r.den : Int)) ≠ 0 := Int.mul_ne_zero (by have := q.den_pos; omega) (by have := r.den_pos; omega)
theorem sz_den {n d : Nat} {q : Rat} (h : Sz2 n d q) : Big d (q.den : Int) := by have := h.2; unfold Big; omega
theorem ok_plus {f : Addr} {fd : FuncData} (F : Fun K "plus" "plus" s_plus f fd) (D_ratio_of : Df P w K mg base 3 "ratio_of" ["thing"] (sp_ratio_of K CX)) (D_lowest_terms : Df P w K mg base 1 "lowest_terms" ["top", "bottom"] (sp_lowest_terms K)) :
    FnOk P w K mg base (L2N.CX P w) 4 f fd ["one", "other"] (sp_plus K CX) := by
  refine okW F sc_plus (fun i => by cases i <;> rfl) (by decide) (fun cdv A outer s H E hr => ⟨_, (pss_cons (ps_asg (pe_df D_ratio_of (hr.mono (by decide)) (L2N.takes_of rfl rfl rfl rfl) (pa_cons (pv 0) pa_nil)) (pg_tup rfl (pgs_cons (pg_name (i := 2) sc_plus.nd rfl (by first | exact Or.inl rfl | exact Or.inr rfl)) (pgs_cons (pg_name (i := 3) sc_plus.nd rfl (by first | exact Or.inl rfl | exact Or.inr rfl)) pgs_nil)))) (pss_cons (ps_asg (pe_df D_ratio_of (hr.mono (by decide)) (L2N.takes_of rfl rfl rfl rfl) (pa_cons (pv 1) pa_nil)) (pg_tup rfl (pgs_cons (pg_name (i := 4) sc_plus.nd rfl (by first | exact Or.inl rfl | exact Or.inr rfl)) (pgs_cons (pg_name (i := 5) sc_plus.nd rfl (by first | exact Or.inl rfl | exact Or.inr rfl)) pgs_nil)))) (pss_one (ps_ret (pe_df D_lowest_terms (hr.mono (by decide)) (L2N.takes_of rfl rfl rfl rfl) (pa_cons (pe_op op_addA (pe_op op_mulA (pv 2) (pv 5)) (pe_op op_mulA (pv 4) (pv 3))) (pa_cons (pe_op op_mulA (pv 3) (pv 5)) pa_nil))))))), fun i c => ⟨Dead, ?_, fun _ _ h => (dead h).elim⟩⟩)
  cases i with
  | bad1 o P =>
    obtain ⟨h, m⟩ := (c : o.ok K ∧ Mn Evl.Ex P)
    haveI := m
    exact st_bad1 (G := [none, none]) h
  | bad2 n q o => exact st_bad2 (G := []) c.1 c.2
  | good i =>
    obtain ⟨n, d, e, q, r⟩ := i
    obtain ⟨hn, hd, hq, hr'⟩ := c
    replace hn : n ≤ 400000 := hn
    replace hd : d + e ≤ 9000 := hd
    replace hq : Sz2 n d q := hq
    replace hr' : Sz2 n e r := hr'
    show St (RsE E NoX 6) [some (RatD K d q), some (RatD K e r), none, none, none, none] _ Dead (Told K (q + r))
    refine st_seq (st_un2 (ev_call (ea_cons (ev_var rfl) ea_nil) (cl_ratio_of (by omega)))) ?_
    refine st_seq (st_un2 (ev_call (ea_cons (ev_var rfl) ea_nil) (cl_ratio_of (by omega)))) ?_
    rw [← rat_add]
    exact st_ret (ev_call (ea_cons (ev_op (ev_op (ev_var rfl) (ev_var rfl) (o_mul hq.1 (sz_den hr') (by omega))) (ev_op (ev_var rfl) (ev_var rfl) (o_mul hr'.1 (sz_den hq) (by omega))) o_add) (ea_cons (ev_op (ev_var rfl) (ev_var rfl) (o_mul (sz_den hq) (sz_den hr') (by omega))) ea_nil)) (cl_low (den_ne q r) (big_mono (big_mul (sz_den hq) (sz_den hr')) (by omega))))
theorem ok_times {f : Addr} {fd : FuncData} (F : Fun K "times" "times" s_times f fd) (D_ratio_of : Df P w K mg base 3 "ratio_of" ["thing"] (sp_ratio_of K CX)) (D_lowest_terms : Df P w K mg base 1 "lowest_terms" ["top", "bottom"] (sp_lowest_terms K)) :
    FnOk P w K mg base (L2N.CX P w) 4 f fd ["one", "other"] (sp_times K CX) := by
  refine okW F sc_times (fun i => by cases i <;> rfl) (by decide) (fun cdv A outer s H E hr => ⟨_, (pss_cons (ps_asg (pe_df D_ratio_of (hr.mono (by decide)) (L2N.takes_of rfl rfl rfl rfl) (pa_cons (pv 0) pa_nil)) (pg_tup rfl (pgs_cons (pg_name (i := 2) sc_times.nd rfl (by first | exact Or.inl rfl | exact Or.inr rfl)) (pgs_cons (pg_name (i := 3) sc_times.nd rfl (by first | exact Or.inl rfl | exact Or.inr rfl)) pgs_nil)))) (pss_cons (ps_asg (pe_df D_ratio_of (hr.mono (by decide)) (L2N.takes_of rfl rfl rfl rfl) (pa_cons (pv 1) pa_nil)) (pg_tup rfl (pgs_cons (pg_name (i := 4) sc_times.nd rfl (by first | exact Or.inl rfl | exact Or.inr rfl)) (pgs_cons (pg_name (i := 5) sc_times.nd rfl (by first | exact Or.inl rfl | exact Or.inr rfl)) pgs_nil)))) (pss_one (ps_ret (pe_df D_lowest_terms (hr.mono (by decide)) (L2N.takes_of rfl rfl rfl rfl) (pa_cons (pe_op op_mulA (pv 2) (pv 4)) (pa_cons (pe_op op_mulA (pv 3) (pv 5)) pa_nil))))))), fun i c => ⟨Dead, ?_, fun _ _ h => (dead h).elim⟩⟩)
  cases i with
  | bad1 o P =>
    obtain ⟨h, m⟩ := (c : o.ok K ∧ Mn Evl.Ex P)
    haveI := m
    exact st_bad1 (G := [none, none]) h
  | bad2 n q o => exact st_bad2 (G := []) c.1 c.2
  | good i =>
    obtain ⟨n, d, e, q, r⟩ := i
    obtain ⟨hn, hd, hq, hr'⟩ := c
    replace hn : n ≤ 400000 := hn
    replace hd : d + e ≤ 9000 := hd
    replace hq : Sz2 n d q := hq
    replace hr' : Sz2 n e r := hr'
    show St (RsE E NoX 6) [some (RatD K d q), some (RatD K e r), none, none, none, none] _ Dead (Told K (q * r))
    refine st_seq (st_un2 (ev_call (ea_cons (ev_var rfl) ea_nil) (cl_ratio_of (by omega)))) ?_
    refine st_seq (st_un2 (ev_call (ea_cons (ev_var rfl) ea_nil) (cl_ratio_of (by omega)))) ?_
    rw [← rat_mul]
    exact st_ret (ev_call (ea_cons (ev_op (ev_var rfl) (ev_var rfl) (o_mul hq.1 hr'.1 (by omega))) (ea_cons (ev_op (ev_var rfl) (ev_var rfl) (o_mul (sz_den hq) (sz_den hr') (by omega))) ea_nil)) (cl_low (den_ne q r) (big_mono (big_mul (sz_den hq) (sz_den hr')) (by omega))))
end
end U

namespace U
open PySem PySem.Spec PyProof.Rows L2
/-! ### rows.py: the check of good rows -/
/-- a sequence: a list, or a tuple without a dict -/
def SeqP (K : PySem.W.Frag) : Kd → List Pr → Pr
  | .L, Ps => Lst K Ps
  | .T, Ps => TupN Ps
instance mn_seqP {W : HR} [w : Pre W] [z : PreZ W] {K : PySem.W.Frag} {Ps : List Pr} [ml : MnL W Ps] : ∀ {k : Kd}, Mn W (SeqP K k Ps)
  | .L => mn_lst (K := K)
  | .T => mn_tupN
section
variable {K : PySem.W.Frag} {W : HR} [w : Pre W] {Ps : List Pr}
theorem opA_lenS : ∀ {k : Kd}, OpA W (rLenA K) [SeqP K k Ps] (Is (.int (Ps.length : Int)))
  | .L => opA_lenL
  | .T => fun vs H a Q q => opA_lenT vs H (by obtain ⟨v, e, h⟩ := allp1 a; subst e; exact ⟨tupN_tup h, True.intro⟩) Q q
theorem o_ixS {i : Nat} {P : Pr} (h : Ps[i]? = some P) : ∀ {k : Kd}, Op2 W (rIx K) (SeqP K k Ps) (Is (.int (i : Int))) P
  | .L => o_ixL h
  | .T => fun x y H a b Q q => o_ixT h x y H (tupN_tup a) b Q q
theorem opA_isiS : ∀ {k : Kd}, OpA W (rIsiT K) [SeqP K k Ps, TyT ["list", "tuple"]] (Is (.bl true))
  | .L => opA_isiT (t := "list") hasTy_lst (by decide +kernel)
  | .T => opA_isiT (t := "tuple") (fun v H h => hasTy_tup v H (tupN_tup (K := K) h)) (by decide +kernel)
theorem ei_enS {Y : Rs} [w : Pre Y.W] {G : Ctx} {te : TE} [ml : MnL Y.W Ps] [mi : ∀ i, Mn Y.W (nth Ps i)] [wz : PreZ Y.W] [mc : MnC Y.W G] : ∀ {k : Kd}, Ev Y G te (SeqP K k Ps) → EvI Y G (iEnK K (tCons te tNil)) Ps.length (fun i => Tup K [Is (.int (i : Int)), nth Ps i])
  | .L, h => ei_enL (ea_cons (P1 := Lst K Ps) h ea_nil)
  | .T, h => ei_enT (ea_cons (P1 := Tup K Ps) (ev_asT h) ea_nil)
end
abbrev s__check_balls : Stmt := top 17
theorem sc__check_balls : FnScope ["weights", "speeds", "wall", "fewest", "ball", "weight"] ["weights", "speeds", "wall"] (defScope s__check_balls) := ⟨rfl, rfl, rfl, by decide +kernel, rfl, by decide +kernel, by decide +kernel⟩
def pairsOf (ws : List Int) (b : Bool) : List Int := (List.range (((ws.length : Int) - 1) - (if b then -1 else 0)).toNat).map fun (i : Nat) => (if b then -1 else 0) + (i : Int)
def drivesOf (ws : List Int) (qs : List Rat) : List Rat := (List.range ws.length).map fun j => (ws.getD j 0 : Rat) * qs.getD j 0
def firstOf (ws : List Int) (qs : List Rat) : Rat := sumR (drivesOf ws qs)
def secondsOf (ws : List Int) (qs : List Rat) : List Rat := (List.range ws.length).map fun j => (drivesOf ws qs).getD j 0 * qs.getD j 0
def secondOf (ws : List Int) (qs : List Rat) : Rat := sumR (secondsOf ws qs)
theorem drives_len' {ws : List Int} {qs : List Rat} : (drivesOf ws qs).length = ws.length := by unfold drivesOf; simp
/-- all beginnings of a row's two sums are of such a size -/
def SumsOk (ws : List Int) (qs : List Rat) (d : Nat) : Prop := ∃ N D, N ≤ 100000 ∧ D + (1 + d + d) ≤ 9000 ∧ (∀ i, i < ws.length → Sz2 N D (sumR ((drivesOf ws qs).take i))) ∧ ∀ i, i < ws.length → Sz2 N D (sumR ((secondsOf ws qs).take i))
theorem sums_of {ws : List Int} {qs : List Rat} {n d : Nat} (len : qs.length = ws.length) (many : ws.length ≤ 40) (hw : ∀ y ∈ ws, 1 ≤ y ∧ y ≤ 9) (hn : n ≤ 1000) (hd : d ≤ 110) (hq : ∀ q ∈ qs, Sz2 n d q) : SumsOk ws qs d := by
  have dg : ∀ i, i < ws.length → (drivesOf ws qs).getD i 0 = (ws.getD i 0 : Rat) * qs.getD i 0 := fun i hi => by unfold drivesOf; simp [hi]
  have szw : ∀ i, i < ws.length → Sz2 1000 1 (ws.getD i 0 : Rat) := fun i hi => by
    have h1 := hw (ws.getD i 0) (by rw [List.getD_eq_getElem?_getD, List.getElem?_eq_getElem hi]; exact List.getElem_mem hi)
    exact (sz2_int (n := 4) (d := 1) (show Big 4 (ws.getD i 0) by unfold Big; omega) (by decide)).mono (by decide) (by decide)
  have szq : ∀ i, i < ws.length → Sz2 1000 d (qs.getD i 0) := fun i hi => by
    have hi' : i < qs.length := by omega
    exact (hq _ (by rw [List.getD_eq_getElem?_getD, List.getElem?_eq_getElem hi']; exact List.getElem_mem hi')).mono hn (Nat.le_refl _)
  have szd : ∀ i, i < ws.length → Sz2 2000 (1 + d) ((drivesOf ws qs).getD i 0) := fun i hi => by
    rw [dg i hi]; exact sz2_mul (szw i hi) (szq i hi)
  have dl : (drivesOf ws qs).length = ws.length := drives_len'
  have sl : (secondsOf ws qs).length = ws.length := by unfold secondsOf; simp
  have e1 : ∀ x ∈ drivesOf ws qs, Sz2 2000 111 x := fun x hx => by
    obtain ⟨i, hi, e⟩ := List.getElem_of_mem hx
    have := szd i (by omega)
    rw [List.getD_eq_getElem?_getD, List.getElem?_eq_getElem hi] at this
    rw [← e]; exact Sz2.mono this (Nat.le_refl _) (by omega)
  have e2 : ∀ x ∈ secondsOf ws qs, Sz2 3000 221 x := fun x hx => by
    obtain ⟨i, hi, e⟩ := List.getElem_of_mem hx
    have hi' : i < ws.length := by omega
    have := sz2_mul (szd i hi') (szq i hi')
    have e2 : (secondsOf ws qs)[i] = (drivesOf ws qs).getD i 0 * qs.getD i 0 := by unfold secondsOf; simp
    rw [← e, e2]; exact Sz2.mono this (by omega) (by omega)
  refine ⟨20000, 8779, by decide, by omega, fun i hi => ?_, fun i hi => ?_⟩
  · exact Sz2.mono (sz2_sum e1 i (by omega)) (by omega) (by omega)
  · exact Sz2.mono (sz2_sum e2 i (by omega)) (by omega) (by omega)
/-- a good row as it is passed -/
structure GoodW where
  kw : Kd
  ks : Kd
  ws : List Int
  n : Nat
  d : Nat
  e : Nat
  qs : List Rat
  b : Bool
def intPs (ws : List Int) : List Pr := ws.map fun i => Is (.int i)
def ratPs (K : PySem.W.Frag) (n : Nat) (qs : List Rat) : List Pr := qs.map fun q => RatD K n q
structure GoodW.ok (i : GoodW) : Prop where
  len : i.qs.length = i.ws.length
  few : (if i.b then 1 else 2) ≤ i.ws.length
  many : i.ws.length ≤ 40
  ws : ∀ x ∈ i.ws, 1 ≤ x ∧ x ≤ 9
  n : i.n ≤ 1000
  d : i.d ≤ 400
  e : i.e ≤ 8000
  qs : ∀ q ∈ i.qs, Sz2 i.n i.d q
  sums : SumsOk i.ws i.qs i.d
def GoodW.ps (K : PySem.W.Frag) (i : GoodW) : List Pr := [SeqP K i.kw (intPs i.ws), SeqP K i.ks (ratPs K i.e i.qs), Is (.bl i.b)]
theorem nth_int {ws : List Int} {i : Nat} (h : i < ws.length) : nth (intPs ws) i = Is (.int (ws.getD i 0)) := by unfold nth intPs; simp [h]
theorem nth_rat {K : PySem.W.Frag} {n : Nat} {qs : List Rat} {i : Nat} (h : i < qs.length) : nth (ratPs K n qs) i = RatD K n (qs.getD i 0) := by unfold nth ratPs; simp [h]
theorem nth_no {Ps : List Pr} {i : Nat} (h : ¬ i < Ps.length) : nth Ps i = fun _ _ => False := by unfold nth; simp [h]
instance mn_nthI {W : HR} {ws : List Int} : ∀ i, Mn W (nth (intPs ws) i) := fun i => by
  by_cases h : i < ws.length
  · rw [nth_int h]; exact mn_is
  · rw [nth_no (by unfold intPs; simpa using h)]; exact ⟨fun _ _ _ _ h => h⟩
instance mnl_int {W : HR} : ∀ {ws : List Int}, MnL W (intPs ws)
  | [] => mnl_nil
  | _ :: ws => @mnl_cons W _ _ mn_is (mnl_int (ws := ws))
instance mnl_rat {W : HR} [w : PreT W] {K : PySem.W.Frag} {n : Nat} : ∀ {qs : List Rat}, MnL W (ratPs K n qs)
  | [] => mnl_nil
  | _ :: qs => @mnl_cons W _ _ mn_ratD (mnl_rat (qs := qs))
instance mn_nthR {W : HR} [w : PreT W] {K : PySem.W.Frag} {n : Nat} {qs : List Rat} : ∀ i, Mn W (nth (ratPs K n qs) i) := fun i => by
  by_cases h : i < qs.length
  · rw [nth_rat h]; exact mn_ratD
  · rw [nth_no (by unfold ratPs; simpa using h)]; exact ⟨fun _ _ _ _ h => h⟩
section
variable {P : Program} {w : World} {K : PySem.W.Frag} {mg : Str → Option Value} {base : Heap} {CX : Addrs}
theorem cl_is_ratioR {W : HR} [Pre W] {n : Nat} {q : Rat} {X : XP} : Cl W (sp_is_ratio K) [RatD K n q] (Is (.bl true)) X := fun vs H al Q E k e => by
  obtain ⟨v, rfl, h⟩ := allp1 al
  rcases h with ⟨i, rfl, rfl⟩ | ⟨a, b, t, h0, h2, rfl⟩
  · exact cl_of (W := Evl.Ex) (W' := W) (C := okIsR K) (f := wIsR K) (.int i) True.intro _ H (show AllP [Is (.int i)] [V.int i] H from ⟨rfl, True.intro⟩) Q E k fun _ _ _ _ z => z.elim
  · exact cl_of (W := Evl.Ex) (W' := W) (C := okIsR K) (f := wIsR K) (.tup a b) h0 _ H (show AllP [Tup K [Is (.int a), Is (.int b)]] [v] H from ⟨t, True.intro⟩) Q E k fun _ _ _ _ z => z.elim
def toldPs (K : PySem.W.Frag) (qs : List Rat) : List Pr := qs.map fun q => Told K q
theorem nth_told {qs : List Rat} {i : Nat} (h : i < qs.length) : nth (toldPs K qs) i = Told K (qs.getD i 0) := by unfold nth toldPs; simp [h]
instance mnl_told {W : HR} [w : PreT W] : ∀ {qs : List Rat}, MnL W (toldPs K qs)
  | [] => mnl_nil
  | _ :: qs => @mnl_cons W _ _ mn_told (mnl_told (qs := qs))
instance mn_nthT {W : HR} [w : PreT W] {qs : List Rat} : ∀ i, Mn W (nth (toldPs K qs) i) := fun i => by
  by_cases h : i < qs.length
  · rw [nth_told h]; exact mn_told
  · rw [nth_no (by unfold toldPs; simpa using h)]; exact ⟨fun _ _ _ _ h => h⟩
abbrev s__sum_of : Stmt := top 18
theorem sc__sum_of : FnScope ["numbers", "total", "number"] ["numbers"] (defScope s__sum_of) := ⟨rfl, rfl, rfl, by decide +kernel, rfl, by decide +kernel, by decide +kernel⟩
structure SumW where
  n : Nat
  D : Nat
  d : Nat
  qs : List Rat
structure SumW.ok (i : SumW) : Prop where
  n : i.n ≤ 200000
  d : i.D + i.d ≤ 9000
  few : i.qs.length ≤ 1000
  qs : ∀ q ∈ i.qs, Sz2 i.n i.d q
  sums : ∀ k, k < i.qs.length → Sz2 i.n i.D (sumR (i.qs.take k))
def sp_sum_of (K : PySem.W.Frag) : Sp := SpW Evl.Ex SumW.ok fun i => ⟨[Lst K (toldPs K i.qs)], Told K (sumR i.qs), NoX⟩
theorem ok_sum_of {f : Addr} {fd : FuncData} (F : Fun K "_sum_of" "_sum_of" s__sum_of f fd) (D_plus : Df P w K mg base 4 "plus" ["one", "other"] (sp_plus K CX)) :
    FnOk P w K mg base (L2N.CX P w) 5 f fd ["numbers"] (sp_sum_of K) := by
  refine okW F sc__sum_of (fun i => rfl) (by decide) (fun cdv A outer s H E hr => ⟨_, (pss_cons (ps_set (i := 1) sc__sum_of.nd rfl (by first | exact Or.inl rfl | exact Or.inr rfl) (pe_tup (pa_cons pe_int (pa_cons pe_int pa_nil)))) (pss_cons (ps_for (passes_of rfl) rfl (pi_list (pv 0)) (pg_name (i := 2) sc__sum_of.nd rfl (by first | exact Or.inl rfl | exact Or.inr rfl)) (pss_one (ps_set (i := 1) sc__sum_of.nd rfl (by first | exact Or.inl rfl | exact Or.inr rfl) (pe_df D_plus (hr.mono (by decide)) (L2N.takes_of rfl rfl rfl rfl) (pa_cons (pv 1) (pa_cons (pv 2) pa_nil)))))) (pss_one (ps_ret (pv 1))))), fun i c => ⟨Dead, ?_, fun _ _ h => (dead h).elim⟩⟩)
  obtain ⟨n, D, d, qs⟩ := i
  obtain ⟨hn, hd, few, hq, hsum⟩ := c
  replace hn : n ≤ 200000 := hn
  replace hd : D + d ≤ 9000 := hd
  replace few : qs.length ≤ 1000 := few
  replace hq : ∀ q ∈ qs, Sz2 n d q := hq
  replace hsum : ∀ k, k < qs.length → Sz2 n D (sumR (qs.take k)) := hsum
  have lq : (toldPs K qs).length = qs.length := List.length_map _
  show St (RsE E NoX 3) [some (Lst K (toldPs K qs)), none, none] _ Dead (Told K (sumR qs))
  refine st_seq (st_set (P := Told K 0) (ev_tup (K := K) (ea_cons ev_c (ea_cons ev_c ea_nil)))) ?_
  refine st_seq (M := [some (Lst K (toldPs K qs)), some (Told K (sumR qs)), none]) ?_ (st_ret (ev_var rfl))
  have e0 : sumR (qs.take (toldPs K qs).length) = sumR qs := by rw [lq, List.take_length]
  rw [← e0]
  refine st_for (Y := RsE E NoX 3) (ei_list (Y := RsE E NoX 3) (ev_var rfl)) (fun i => [some (Lst K (toldPs K qs)), some (Told K (sumR (qs.take i))), none]) sub_refl (fun i hi => ?_)
  rw [lq] at hi
  rw [nth_told hi, sumR_take hi]
  have hx : Sz2 n d (qs.getD i 0) := hq _ (by rw [List.getD_eq_getElem?_getD, List.getElem?_eq_getElem hi]; exact List.getElem_mem hi)
  have hs := hsum i hi
  refine st_post (N' := [some (Lst K (toldPs K qs)), some (Told K (sumR (qs.take i) + qs.getD i 0)), some (Told K (qs.getD i 0))]) (R' := Told K (sumR (qs.take (toldPs K qs).length))) ?_ (sub_keep (sub_keep (sub_drop sub_nil))) (fun _ _ h => h)
  exact st_set (ev_call (ea_cons (P1 := RatD K D (sumR (qs.take i))) (Ev.sub (ev_var rfl) fun _ _ h => told_ratD hs.2 h) (ea_cons (P1 := RatD K d (qs.getD i 0)) (Ev.sub (ev_var rfl) fun _ _ h => told_ratD hx.2 h) ea_nil)) (cl_2 (n := n) (by omega) (by omega) hs hx))
end
end U

namespace U
open PySem PySem.Spec PyProof.Rows L2
/-! ### data asked: whole numbers, ratios -/
def goodS : D → Bool
  | .int _ => true
  | .tup [.int _, .int b] => decide (0 < b)
  | _ => false
def goodW : D → Bool
  | .int i => decide (1 ≤ i) && decide (i ≤ 9)
  | _ => false
/-- the ratio that is meant -/
def valD : D → Rat
  | .int i => (i : Rat)
  | .tup [.int a, .int b] => Rat.divInt a b
  | _ => 0
def botD : D → Int
  | .tup [_, .int b] => b
  | _ => 1
def D.isWh : D → Bool
  | .int _ => true
  | _ => false
theorem kit_intD : ∀ d : D, kitB d.ty "int" = some d.isInt
  | .non => (by decide +kernel : kitB "NoneType" "int" = some false)
  | .bl _ => (by decide +kernel : kitB "bool" "int" = some true)
  | .int _ => (by decide +kernel : kitB "int" "int" = some true)
  | .str _ => (by decide +kernel : kitB "str" "int" = some false)
  | .tup _ => (by decide +kernel : kitB "tuple" "int" = some false)
  | .lst _ => (by decide +kernel : kitB "list" "int" = some false)
  | .dct => (by decide +kernel : kitB "dict" "int" = some false)
theorem kit_boolD : ∀ d : D, kitB d.ty "bool" = some d.isBool
  | .non => (by decide +kernel : kitB "NoneType" "bool" = some false)
  | .bl _ => (by decide +kernel : kitB "bool" "bool" = some true)
  | .int _ => (by decide +kernel : kitB "int" "bool" = some false)
  | .str _ => (by decide +kernel : kitB "str" "bool" = some false)
  | .tup _ => (by decide +kernel : kitB "tuple" "bool" = some false)
  | .lst _ => (by decide +kernel : kitB "list" "bool" = some false)
  | .dct => (by decide +kernel : kitB "dict" "bool" = some false)
theorem kit_tupD : ∀ d : D, kitB d.ty "tuple" = some d.isTup
  | .non => (by decide +kernel : kitB "NoneType" "tuple" = some false)
  | .bl _ => (by decide +kernel : kitB "bool" "tuple" = some false)
  | .int _ => (by decide +kernel : kitB "int" "tuple" = some false)
  | .str _ => (by decide +kernel : kitB "str" "tuple" = some false)
  | .tup _ => (by decide +kernel : kitB "tuple" "tuple" = some true)
  | .lst _ => (by decide +kernel : kitB "list" "tuple" = some false)
  | .dct => (by decide +kernel : kitB "dict" "tuple" = some false)
theorem isWh_eq (d : D) : (d.isInt && !d.isBool) = d.isWh := by cases d <;> rfl
section
variable {P : Program} {w : World} {K : PySem.W.Frag} {mg : Str → Option Value} {base : Heap} {CX : Addrs}
theorem kind_d (d : D) : KindOf K (Dv K d) d.ty := ⟨mn_dv, hasTy_d d⟩
theorem cl_wholeD {W : HR} [Pre W] {d : D} : Cl W (sp_is_whole K) [Dv K d] (Is (.bl d.isWh)) NoX := by
  rw [← isWh_eq]
  exact cl_wholeT (kind_d d) (kit_intD d) (kit_boolD d)
theorem notWholeD {d : D} (h : d.isWh = false) : notWhole d.ty := ⟨_, _, kit_intD d, kit_boolD d, by rw [isWh_eq]; exact h⟩
theorem odd_of : ∀ d : D, goodS d = false → ∃ o : OddW, o.ok K ∧ ∀ v H, Dv K d v H → o.pr K v H
  | .non, _ => ⟨.other (Dv K .non) _, ⟨kind_d .non, notWholeD rfl, kit_tupD .non⟩, fun _ _ h => h⟩
  | .bl b, _ => ⟨.other (Dv K (.bl b)) _, ⟨kind_d (.bl b), notWholeD rfl, kit_tupD (.bl b)⟩, fun _ _ h => h⟩
  | .int _, h => by cases h
  | .str s, _ => ⟨.other (Dv K (.str s)) _, ⟨kind_d (.str s), notWholeD rfl, kit_tupD (.str s)⟩, fun _ _ h => h⟩
  | .lst s, _ => ⟨.other (Dv K (.lst s)) _, ⟨kind_d (.lst s), notWholeD rfl, kit_tupD (.lst s)⟩, fun _ _ h => h⟩
  | .dct, _ => ⟨.other (Dv K .dct) _, ⟨kind_d .dct, notWholeD rfl, kit_tupD .dct⟩, fun _ _ h => h⟩
  | .tup [], _ => ⟨.len (DvL K []), ⟨mnl_dvl, by rw [dvl_len]; decide⟩, fun _ _ h => h⟩
  | .tup [x], _ => ⟨.len (DvL K [x]), ⟨mnl_dvl, by show (1 : Nat) ≠ 2; decide⟩, fun _ _ h => h⟩
  | .tup (x :: y :: z :: r), _ => ⟨.len (DvL K (x :: y :: z :: r)), ⟨mnl_dvl, by rw [dvl_len]; simp⟩, fun _ _ h => h⟩
  | .tup [x, y], h => by
    cases hx : x.isWh with
    | false => exact ⟨.fst (Dv K x) (Dv K y) x.ty, ⟨kind_d x, mn_dv, notWholeD hx⟩, fun _ _ h => h⟩
    | true =>
      cases x with
      | int a =>
        cases hy : y.isWh with
        | false => exact ⟨.snd a (Dv K y) y.ty, ⟨kind_d y, notWholeD hy⟩, fun _ _ h => h⟩
        | true =>
          cases y with
          | int b =>
            refine ⟨.low a b, ?_, fun _ _ h => h⟩
            have : ¬ 0 < b := by simpa [goodS] using h
            show b < 1
            omega
          | _ => cases hy
      | _ => cases hx
theorem good_cases {d : D} (h : goodS d = true) : (∃ i, d = .int i) ∨ ∃ a b, d = .tup [.int a, .int b] ∧ 0 < b := by
  unfold goodS at h
  split at h
  · exact .inl ⟨_, rfl⟩
  · exact .inr ⟨_, _, rfl, of_decide_eq_true h⟩
  · cases h
theorem cl_ratioD {W : HR} [Pre W] {d : D} : Cl W (sp_is_ratio K) [Dv K d] (Is (.bl (goodS d))) NoX := by
  cases h : goodS d with
  | true =>
    rcases good_cases h with ⟨i, rfl⟩ | ⟨a, b, rfl, hb⟩
    · exact cl_is_ratio_i
    · exact cl_is_ratio_t hb
  | false =>
    obtain ⟨o, ok, hv⟩ := odd_of (K := K) d h
    intro vs H al Q E k e
    obtain ⟨v, rfl, hd⟩ := allp1 al
    exact cl_is_ratio_o ok [v] H ⟨hv v H hd, True.intro⟩ Q E k e
/-- a good thing as the ratio it is -/
theorem ratd_of {d : D} {n : Nat} (h : goodS d = true) (hb : Big n (botD d)) {v : V} {H : Hp} (hv : Dv K d v H) : RatD K n (valD d) v H := by
  rcases good_cases h with ⟨i, rfl⟩ | ⟨a, b, rfl, h0⟩
  · exact .inl ⟨i, hv, rfl⟩
  · exact .inr ⟨a, b, hv, h0, hb, rfl⟩
end
end U

namespace U
open PySem PySem.Spec PyProof.Rows L2
/-! ### rows refused -/
abbrev Fault := Option (Int × Str)
def scan : Nat → List D → List D → Fault
  | i, w :: ws, s :: ss => if goodW w = false then some ((i : Int), "weight") else if goodS s = false then some ((i : Int), "speed") else scan (i + 1) ws ss
  | _, _, _ => none
def D.items : D → Option (List D)
  | .lst ds => some ds
  | .tup ds => some ds
  | _ => none
def least (b : Bool) : Nat := if b then 1 else 2
def dueC (w s sh : D) : Fault :=
  match sh with
  | .bl b => match w.items with
    | some ws => if least b ≤ ws.length ∧ ws.length ≤ 40 then match s.items with
        | some ss => if ss.length = ws.length then scan 0 ws ss else some ((0 : Int), ("length" : Str))
        | none => some ((0 : Int), ("length" : Str))
      else some ((0 : Int), ("many" : Str))
    | none => some ((0 : Int), ("many" : Str))
  | _ => some ((0 : Int), ("wall" : Str))
/-- BadRow with these attributes -/
def BX (CX : Addrs) (e : Int × Str) : XP := fun cls d H => cls = .ref CX.BadRow ∧ ∃ dd, d = some dd ∧ H dd = some (.xd [("what", .str e.2), ("index", .int e.1)])
section
variable {P : Program} {w : World} {K : PySem.W.Frag} {mg : Str → Option Value} {base : Heap} {CX : Addrs}
abbrev badMV : List V → Prop := fun vs => ∃ (i : Int) (x : Str), vs = [.int i, .str x] ∧ i.natAbs < 1000 ∧ x.length ≤ 20
theorem st_badRow {Y : Rs} [w : PreT Y.W] {G N : Ctx} {R : Pr} {tr : TA} {i : Int} {x : Str} [mc : MnC Y.W G] (hE : EvA Y G tr [Is (.int i), Is (.str x)]) (sb : Sub G Y.GX) (hi : i.natAbs < 1000) (hx : x.length ≤ 20) (hX : ∀ cls d H, BX CX (i, x) cls d H → Y.X cls d H) :
    St Y G (fun _ s H => tMkSup CX.BadRow ["index", "what"] [("index", "index"), ("what", "what")] badMV tr s H fun cls d H' => Y.E s cls d H') N R :=
  fun s H D ty hx2 n r => hE s H ty hx2 _ fun vs H1 w1 hp => by
    obtain ⟨u, v, rfl, e1, e2⟩ := allp2 hp
    subst e1 e2
    refine ⟨rfl, ⟨i, x, rfl, hi, hx⟩, (fun z => by cases z), fun _ d hd => ?_⟩
    have w2 := w.trans w1 (w.ext (Evl.Ex.new (o := .xd (fldV ["index", "what"] [.int i, .str x] [("index", "index"), ("what", "what")])) hd))
    exact hx2 s _ _ _ w2 (sb s _ (mc.mn s H _ w2 ty)) (hX _ _ _ ⟨rfl, d, rfl, by rw [upd_same]; rfl⟩)
/-- a list or a tuple of data -/
def SqD : Kd → List D → D
  | .L, ds => .lst ds
  | .T, ds => .tup ds
theorem items_sq {d : D} {ds : List D} (h : d.items = some ds) : ∃ k, d = SqD k ds := by
  cases d with
  | lst x => cases h; exact ⟨.L, rfl⟩
  | tup x => cases h; exact ⟨.T, rfl⟩
  | _ => cases h
theorem sq_seq : ∀ {k : Kd} {ds : List D}, ((SqD k ds).isLst || (SqD k ds).isTup) = true
  | .L, _ => rfl
  | .T, _ => rfl
theorem opA_lenSq {W : HR} [w : PreL W] {ds : List D} : ∀ {k : Kd}, OpA W (rLenA K) [Dv K (SqD k ds)] (Is (.int (ds.length : Int)))
  | .L => opA_lenDL
  | .T => opA_lenDT
theorem o_ixSq {W : HR} [w : PreL W] {ds : List D} {i : Nat} (h : i < ds.length) : ∀ {k : Kd}, Op2 W (rIx K) (Dv K (SqD k ds)) (Is (.int (i : Int))) (Dv K (ds.getD i .non))
  | .L => o_ixDL h
  | .T => o_ixDT h
theorem ei_enSq {Y : Rs} [w : PreL Y.W] [wz : PreZ Y.W] {G : Ctx} {te : TE} {ds : List D} [mc : MnC Y.W G] : ∀ {k : Kd}, Ev Y G te (Dv K (SqD k ds)) → EvI Y G (iEnK K (tCons te tNil)) (DvL K ds).length (fun i => Tup K [Is (.int (i : Int)), nth (DvL K ds) i])
  | .L, h => ei_enL (ea_cons (P1 := Lst K (DvL K ds)) (h.sub fun _ _ z => own_lst z) ea_nil)
  | .T, h => ei_enT (ea_cons (P1 := Tup K (DvL K ds)) h ea_nil)
inductive CkW
  | good (i : GoodW)
  | bad (w s sh : D) (e : Int × Str)
def okCk : CkW → Prop
  | .good i => i.ok
  | .bad w s sh e => dueC w s sh = some e
def ckW (K : PySem.W.Frag) (CX : Addrs) : CkW → Way
  | .good i => ⟨i.ps K, Is .non, NoX⟩
  | .bad w s sh e => ⟨[Dv K w, Dv K s, Dv K sh], fun _ _ => False, BX CX e⟩
def sp_check (K : PySem.W.Frag) (CX : Addrs) : Sp := SpW Evl.Ex okCk (ckW K CX)
theorem scan_none : ∀ {i : Nat} {ws : List D}, scan i [] ws = none
  | _, _ => rfl
theorem drop_cons {ds : List D} {i : Nat} (h : i < ds.length) : ds.drop i = ds.getD i .non :: ds.drop (i + 1) := by
  rw [List.drop_eq_getElem_cons h]
  simp [h]
theorem dueC_bl {w s : D} {b : Bool} {ws : List D} (h : w.items = some ws) : dueC w s (.bl b) = if least b ≤ ws.length ∧ ws.length ≤ 40 then (match s.items with
        | some ss => if ss.length = ws.length then scan 0 ws ss else some ((0 : Int), ("length" : Str))
        | none => some ((0 : Int), ("length" : Str)))
      else some ((0 : Int), ("many" : Str)) := by
  unfold dueC
  simp only [h]
theorem ok_check {f : Addr} {fd : FuncData} (F : Fun K "_check_balls" "_check_balls" s__check_balls f fd) (T : Txt P w K mg CX) (D_is_whole : Df P w K mg base 1 "is_whole" ["thing"] (sp_is_whole K)) (D_is_ratio : Df P w K mg base 2 "is_ratio" ["thing"] (sp_is_ratio K)) :
    FnOk P w K mg base (L2N.CX P w) 3 f fd ["weights", "speeds", "wall"] (sp_check K CX) := by
  refine okW F sc__check_balls (fun i => by cases i <;> rfl) (by decide) (fun cdv A outer s H E hr => ⟨_, (pss_cons (ps_if (PW.pt (pw_and (pt_cmpR op_notX (pv 2) pe_bl (nomark _)) (pw_and1 (pt_cmpR op_notX (pv 2) pe_bl (nomark _))))) (pss_one (L2N.ps_raise rfl (L2N.takes_of rfl rfl rfl rfl) (pmk_er T.c_BadRow (hr.mono (by decide)) (pa_cons pe_int (pa_cons pe_str pa_nil))))) pss_nil) (pss_cons (ps_set (i := 3) sc__check_balls.nd rfl (by first | exact Or.inl rfl | exact Or.inr rfl) (pe_ifExp (pt_truth (pv 2) (fun _ => rfl)) pe_int pe_int)) (pss_cons (ps_if (PW.pt (pw_or (pt_not (pt_val (pe_callB call_isiT (by rfl) T.n_isinstance (by decide +kernel) (pa_cons (pv 0) (pa_cons (pe_tup (pa_cons (pe_bltn (v := .ty "list") (by rfl) T.n_list (by decide +kernel) rfl) (pa_cons (pe_bltn (v := .ty "tuple") (by rfl) T.n_tuple (by decide +kernel) rfl) pa_nil))) pa_nil))))) (pw_or1 (pt_not (pt_chain op_le op_le (pv 3) (pe_callB call_lenA (by rfl) T.n_len (by decide +kernel) (pa_cons (pv 0) pa_nil)) (pe_globI rfl T.v_MOST_BALLS)))))) (pss_one (L2N.ps_raise rfl (L2N.takes_of rfl rfl rfl rfl) (pmk_er T.c_BadRow (hr.mono (by decide)) (pa_cons pe_int (pa_cons pe_str pa_nil))))) pss_nil) (pss_cons (ps_if (PW.pt (pw_or (pt_not (pt_val (pe_callB call_isiT (by rfl) T.n_isinstance (by decide +kernel) (pa_cons (pv 1) (pa_cons (pe_tup (pa_cons (pe_bltn (v := .ty "list") (by rfl) T.n_list (by decide +kernel) rfl) (pa_cons (pe_bltn (v := .ty "tuple") (by rfl) T.n_tuple (by decide +kernel) rfl) pa_nil))) pa_nil))))) (pw_or1 (pt_cmpR (op_neA hr.units) (pe_callB call_lenA (by rfl) T.n_len (by decide +kernel) (pa_cons (pv 1) pa_nil)) (pe_callB call_lenA (by rfl) T.n_len (by decide +kernel) (pa_cons (pv 0) pa_nil)) (nomark _))))) (pss_one (L2N.ps_raise rfl (L2N.takes_of rfl rfl rfl rfl) (pmk_er T.c_BadRow (hr.mono (by decide)) (pa_cons pe_int (pa_cons pe_str pa_nil))))) pss_nil) (pss_one (ps_for (passes_of rfl) rfl (pi_enK (by rfl) T.n_enumerate (pa_cons (pv 0) pa_nil)) (pg_tup rfl (pgs_cons (pg_name (i := 4) sc__check_balls.nd rfl (by first | exact Or.inl rfl | exact Or.inr rfl)) (pgs_cons (pg_name (i := 5) sc__check_balls.nd rfl (by first | exact Or.inl rfl | exact Or.inr rfl)) pgs_nil))) (pss_cons (ps_if (PW.pt (pw_or (pt_not (pt_val (pe_df D_is_whole (hr.mono (by decide)) (L2N.takes_of rfl rfl rfl rfl) (pa_cons (pv 5) pa_nil)))) (pw_or1 (pt_not (pt_chain op_le op_le pe_int (pv 5) (pe_globI rfl T.v_MOST_WEIGHT)))))) (pss_one (L2N.ps_raise rfl (L2N.takes_of rfl rfl rfl rfl) (pmk_er T.c_BadRow (hr.mono (by decide)) (pa_cons (pv 4) (pa_cons pe_str pa_nil))))) pss_nil) (pss_one (ps_if (pt_not (pt_val (pe_df D_is_ratio (hr.mono (by decide)) (L2N.takes_of rfl rfl rfl rfl) (pa_cons (pe_ix ix_seq (pv 1) (pv 4) (fun _ _ => rfl)) pa_nil)))) (pss_one (L2N.ps_raise rfl (L2N.takes_of rfl rfl rfl rfl) (pmk_er T.c_BadRow (hr.mono (by decide)) (pa_cons (pv 4) (pa_cons pe_str pa_nil))))) pss_nil))))))))), fun i c => ?_⟩)
  cases i with
  | good i =>
    refine ⟨[some (SeqP K i.kw (intPs i.ws)), some (SeqP K i.ks (ratPs K i.e i.qs)), some (Is (.bl i.b)), some (Is (.int (if i.b then 1 else 2))), none, none], ?_, fun _ _ _ => rfl⟩
    obtain ⟨kw, ks, ws, n, d, e, qs, b⟩ := i
    obtain ⟨len, few, many, hw, hn, hd, he, hq⟩ := c
    replace len : qs.length = ws.length := len
    replace few : (if b then 1 else 2) ≤ ws.length := few
    replace many : ws.length ≤ 40 := many
    show St (RsE E NoX 6) [some (SeqP K kw (intPs ws)), some (SeqP K ks (ratPs K e qs)), some (Is (.bl b)), none, none, none] _ [some (SeqP K kw (intPs ws)), some (SeqP K ks (ratPs K e qs)), some (Is (.bl b)), some (Is (.int (if b then 1 else 2))), none, none] (Is .non)
    have lw : (intPs ws).length = ws.length := List.length_map _
    have ls : (ratPs K e qs).length = qs.length := List.length_map _
    refine st_seq (st_if (b := false) ?_ (fun h => by cases h) (fun _ => st_next)) ?_
    · cases b with
      | true => exact et_and (a := false) (b := false) (et_test (ev_op (ev_var rfl) ev_c (o_notXD (K := K) (d := .bl _)))) (fun h => by cases h)
      | false => exact et_and (a := true) (b := false) (et_test (ev_op (ev_var rfl) ev_c (o_notXD (K := K) (d := .bl _)))) (fun _ => et_test (ev_op (ev_var rfl) ev_c (o_notXD (K := K) (d := .bl _))))
    refine st_seq (st_set (P := Is (.int (if b then 1 else 2))) (ev_if (b := b) (et_truB (ev_var rfl)) (fun h => by subst h; exact ev_c) (fun h => by subst h; exact ev_c))) ?_
    refine st_seq (st_if (b := false) (EvT.to (et_or (et_not (et_B (ev_cb (ea_cons (ev_var rfl) (ea_cons (ev_tyT (ts := ["list", "tuple"]) (ea_cons ev_c (ea_cons ev_c ea_nil))) ea_nil)) opA_isiS))) (fun _ => et_not (et_test (ev_chain (ev_var rfl) (ev_cb (ea_cons (ev_var rfl) ea_nil) opA_lenS) op2_I0 (fun _ => ev_c) (fun _ => op2_I0))))) ?_) (fun h => by cases h) (fun _ => st_next)) ?_
    · rw [lw, decide_eq_true (show (if b then (1 : Int) else 2) ≤ (ws.length : Int) by cases b <;> simp at few ⊢ <;> omega), decide_eq_true (show (ws.length : Int) ≤ 40 by omega)]
      rfl
    refine st_seq (st_if (b := false) (EvT.to (et_or (et_not (et_B (ev_cb (ea_cons (ev_var rfl) (ea_cons (ev_tyT (ts := ["list", "tuple"]) (ea_cons ev_c (ea_cons ev_c ea_nil))) ea_nil)) opA_isiS))) (fun _ => et_test (ev_op (ev_cb (ea_cons (ev_var rfl) ea_nil) opA_lenS) (ev_cb (ea_cons (ev_var rfl) ea_nil) opA_lenS) o_neI))) ?_) (fun h => by cases h) (fun _ => st_next)) ?_
    · rw [lw, ls, len, decide_eq_false (show ¬ ((ws.length : Int) ≠ (ws.length : Int)) from fun z => z rfl)]
      rfl
    refine (st_for2 (Y := RsE E NoX 6) (ei_enS (Y := RsE E NoX 6) (ev_var rfl)) (fun _ => [some (SeqP K kw (intPs ws)), some (SeqP K ks (ratPs K e qs)), some (Is (.bl b)), some (Is (.int (if b then 1 else 2))), none, none]) sub_refl (fun i hi => ?_))
    rw [lw] at hi
    rw [nth_int hi]
    have hx := hw (ws.getD i 0) (by rw [List.getD_eq_getElem?_getD, List.getElem?_eq_getElem hi]; exact List.getElem_mem hi)
    have hi' : i < qs.length := by omega
    have hr' : (ratPs K e qs)[i]? = some (RatD K e (qs.getD i 0)) := by unfold ratPs; simp [hi']
    refine st_seq (st_if (b := false) (EvT.to (et_or (et_not (et_B (ev_call (ea_cons (ev_var rfl) ea_nil) cl_whole))) (fun _ => et_not (et_test (ev_chain ev_c (ev_var rfl) op2_I0 (fun _ => ev_c) (fun _ => op2_I0))))) ?_) (fun h => by cases h) (fun _ => st_next)) ?_
    · rw [decide_eq_true hx.1, decide_eq_true hx.2]
      rfl
    refine st_post (N' := [some (SeqP K kw (intPs ws)), some (SeqP K ks (ratPs K e qs)), some (Is (.bl b)), some (Is (.int (if b then 1 else 2))), some (Is (.int (i : Int))), some (Is (.int (ws.getD i 0)))]) (R' := Is .non) ?_ (sub_keep (sub_keep (sub_keep (sub_keep (sub_drop (sub_drop sub_nil)))))) (fun _ _ h => h)
    exact st_if (b := false) (EvT.to (et_not (et_B (ev_call (ea_cons (ev_op (ev_var rfl) (ev_var rfl) (o_ixS hr')) ea_nil) cl_is_ratioR))) rfl) (fun h => by cases h) (fun _ => st_next)
  | bad w s sh e =>
    refine ⟨Dead, ?_, fun _ _ h => (dead h).elim⟩
    have c : dueC w s sh = some e := c
    show St (RsE E (BX CX e) 6) [some (Dv K w), some (Dv K s), some (Dv K sh), none, none, none] _ Dead (fun _ _ => False)
    by_cases hsh : ∃ b, sh = .bl b
    · obtain ⟨b, rfl⟩ := hsh
      refine st_seq (st_if (b := false) ?_ (fun h => by cases h) (fun _ => st_next)) ?_
      · cases b with
        | true => exact et_and (a := false) (b := false) (et_test (ev_op (ev_var rfl) ev_c (o_notXD (K := K) (d := .bl true)))) (fun h => by cases h)
        | false => exact et_and (a := true) (b := false) (et_test (ev_op (ev_var rfl) ev_c (o_notXD (K := K) (d := .bl false)))) (fun _ => et_test (ev_op (ev_var rfl) ev_c (o_notXD (K := K) (d := .bl false))))
      refine st_seq (st_set (P := Is (.int (least b : Int))) (ev_if (b := b) (et_truB (ev_var rfl)) (fun h => by subst h; exact ev_c) (fun h => by subst h; exact ev_c))) ?_
      cases hw : w.items with
      | none =>
        have hd : (w.isLst || w.isTup) = false := by cases w <;> first | rfl | cases hw
        have he : ((0 : Int), ("many" : Str)) = e := by
          unfold dueC at c
          simp only [hw] at c
          exact Option.some.inj c
        refine st_seq (M := Dead) (st_if (b := true) (EvT.to (et_or (b := false) (et_not (et_B (ev_cb (ea_cons (ev_var rfl) (ea_cons (ev_tyT (ts := ["list", "tuple"]) (ea_cons ev_c (ea_cons ev_c ea_nil))) ea_nil)) isi_seq))) (fun h => by rw [hd] at h; cases h)) (b := true) (by rw [hd]; rfl)) (fun _ => st_badRow (Y := RsE E (BX CX e) 6) (i := 0) (x := "many") (ea_cons ev_c (ea_cons ev_c ea_nil)) (sub_none rfl) (by decide) (by decide) (fun _ _ _ h => by rw [← he]; exact h)) (fun h => by cases h)) (st_false (i := 0) rfl fun _ _ z => z)
      | some ws =>
        obtain ⟨kw, rfl⟩ := items_sq hw
        rw [dueC_bl hw] at c
        by_cases hmn : least b ≤ ws.length ∧ ws.length ≤ 40
        · rw [if_pos hmn] at c
          refine st_seq (st_if (b := false) (EvT.to (et_or (et_not (et_B (ev_cb (ea_cons (ev_var (P := Dv K (SqD kw ws)) rfl) (ea_cons (ev_tyT (ts := ["list", "tuple"]) (ea_cons ev_c (ea_cons ev_c ea_nil))) ea_nil)) isi_seq))) (fun _ => et_not (et_test (ev_chain (ev_var rfl) (ev_cb (ea_cons (ev_var (P := Dv K (SqD kw ws)) rfl) ea_nil) opA_lenSq) op2_I0 (fun _ => ev_c) (fun _ => op2_I0))))) (by rw [sq_seq]; rw [decide_eq_true (show (least b : Int) ≤ (ws.length : Int) by omega), decide_eq_true (show (ws.length : Int) ≤ 40 by omega)]; rfl)) (fun h => by cases h) (fun _ => st_next)) ?_
          cases hs : s.items with
          | none =>
            have hd : (s.isLst || s.isTup) = false := by cases s <;> first | rfl | cases hs
            simp only [hs] at c
            refine st_seq (M := Dead) (st_if (b := true) (EvT.to (et_or (b := false) (et_not (et_B (ev_cb (ea_cons (ev_var rfl) (ea_cons (ev_tyT (ts := ["list", "tuple"]) (ea_cons ev_c (ea_cons ev_c ea_nil))) ea_nil)) isi_seq))) (fun h => by rw [hd] at h; cases h)) (b := true) (by rw [hd]; rfl)) (fun _ => st_badRow (Y := RsE E (BX CX e) 6) (i := 0) (x := "length") (ea_cons ev_c (ea_cons ev_c ea_nil)) (sub_none rfl) (by decide) (by decide) (fun _ _ _ h => by rw [← Option.some.inj c]; exact h)) (fun h => by cases h)) (st_false (i := 0) rfl fun _ _ z => z)
          | some ss =>
            obtain ⟨ks, rfl⟩ := items_sq hs
            simp only [hs] at c
            by_cases hl : ss.length = ws.length
            · rw [if_pos hl] at c
              refine st_seq (st_if (b := false) (EvT.to (et_or (et_not (et_B (ev_cb (ea_cons (ev_var (P := Dv K (SqD ks ss)) rfl) (ea_cons (ev_tyT (ts := ["list", "tuple"]) (ea_cons ev_c (ea_cons ev_c ea_nil))) ea_nil)) isi_seq))) (fun _ => et_test (ev_op (ev_cb (ea_cons (ev_var (P := Dv K (SqD ks ss)) rfl) ea_nil) opA_lenSq) (ev_cb (ea_cons (ev_var (P := Dv K (SqD kw ws)) rfl) ea_nil) opA_lenSq) o_neI))) (by rw [sq_seq]; exact decide_eq_false (by omega))) (fun h => by cases h) (fun _ => st_next)) ?_
              have lw : (DvL K ws).length = ws.length := dvl_len ws
              refine st_post (N' := [some (Some (fun _ : Unit => scan 0 ws ss = scan (DvL K ws).length (ws.drop (DvL K ws).length) (ss.drop (DvL K ws).length)) fun _ => Dv K (SqD kw ws)), some (Dv K (SqD ks ss)), some (Dv K (.bl b)), some (Is (.int (least b : Int))), none, none]) (R' := fun _ _ => False) ?_ (fun s H ty => ?_) (fun _ _ h => h)
              · refine st_for2 (Y := RsE E (BX CX e) 6) (ei_enSq (K := K) (Y := RsE E (BX CX e) 6) (ev_var rfl)) (fun i => [some (Some (fun _ : Unit => scan 0 ws ss = scan i (ws.drop i) (ss.drop i)) fun _ => Dv K (SqD kw ws)), some (Dv K (SqD ks ss)), some (Dv K (.bl b)), some (Is (.int (least b : Int))), none, none]) (sub_imp (fun v H h => ⟨(), rfl, h⟩) sub_refl) (fun i hi => ?_)
                rw [lw] at hi
                rw [nth_dvl hi]
                refine st_open 0 rfl fun _ hsc => ?_
                have hi' : i < ss.length := by omega
                rw [drop_cons hi, drop_cons hi'] at hsc
                have hsc' : scan 0 ws ss = if goodW (ws.getD i .non) = false then some ((i : Int), ("weight" : Str)) else if goodS (ss.getD i .non) = false then some ((i : Int), ("speed" : Str)) else scan (i + 1) (ws.drop (i + 1)) (ss.drop (i + 1)) := hsc
                refine st_ifB (b := !goodW (ws.getD i .non)) (EvT.to (et_or (et_not (et_B (ev_call (ea_cons (ev_var rfl) ea_nil) cl_wholeD))) (b := !goodW (ws.getD i .non)) (fun h => ?_)) ?_) (fun h => ?_) (fun h => st_nextB ?_)
                · cases hd : ws.getD i .non with
                  | int z => exact et_not (et_test (ev_chain ev_c (ev_var (P := Dv K (.int z)) (by rw [← hd]; rfl)) op2_I0 (fun _ => ev_c) (fun _ => op2_I0)))
                  | _ => rw [hd] at h; cases h
                · cases ws.getD i .non <;> rfl
                · have hg : goodW (ws.getD i .non) = false := by simpa using h
                  rw [c, if_pos hg] at hsc'
                  exact st_seq (M := Dead) (st_badRow (Y := RsE E (BX CX e) 6) (i := (i : Int)) (x := "weight") (ea_cons (ev_var rfl) (ea_cons ev_c ea_nil)) (sub_none rfl) (by omega) (by decide) (fun _ _ _ h => by rw [Option.some.inj hsc']; exact h)) (st_false (i := 0) rfl fun _ _ z => z)
                · have hg : goodW (ws.getD i .non) = true := by simpa using h
                  rw [if_neg (by rw [hg]; simp)] at hsc'
                  refine st_if (b := !goodS (ss.getD i .non)) (et_not (et_B (ev_call (ea_cons (ev_op (ev_var rfl) (ev_var rfl) (o_ixSq hi')) ea_nil) cl_ratioD))) (fun h => ?_) (fun h => ?_)
                  · have hg : goodS (ss.getD i .non) = false := by simpa using h
                    rw [c, if_pos hg] at hsc'
                    exact st_badRow (Y := RsE E (BX CX e) 6) (i := (i : Int)) (x := "speed") (ea_cons (ev_var rfl) (ea_cons ev_c ea_nil)) (sub_none rfl) (by omega) (by decide) (fun _ _ _ h => by rw [Option.some.inj hsc']; exact h)
                  · have hg : goodS (ss.getD i .non) = true := by simpa using h
                    rw [if_neg (by rw [hg]; simp)] at hsc'
                    exact st_post (N' := [some (Dv K (SqD kw ws)), some (Dv K (SqD ks ss)), some (Dv K (.bl b)), some (Is (.int (least b : Int))), some (Is (.int (i : Int))), some (Dv K (ws.getD i .non))]) (R' := fun _ _ => False) st_next (sub_imp (fun v H h => ⟨(), hsc', h⟩) (sub_keep (sub_keep (sub_keep (sub_drop (sub_drop sub_nil)))))) (fun _ _ h => h)
              · obtain ⟨v, _, _, hsc, _⟩ := ty.get (i := 0) rfl
                rw [c, lw, List.drop_length] at hsc
                cases hsc
            · rw [if_neg hl] at c
              refine st_seq (M := Dead) (st_if (b := true) (EvT.to (et_or (et_not (et_B (ev_cb (ea_cons (ev_var (P := Dv K (SqD ks ss)) rfl) (ea_cons (ev_tyT (ts := ["list", "tuple"]) (ea_cons ev_c (ea_cons ev_c ea_nil))) ea_nil)) isi_seq))) (fun _ => et_test (ev_op (ev_cb (ea_cons (ev_var (P := Dv K (SqD ks ss)) rfl) ea_nil) opA_lenSq) (ev_cb (ea_cons (ev_var (P := Dv K (SqD kw ws)) rfl) ea_nil) opA_lenSq) o_neI))) (by rw [sq_seq]; exact decide_eq_true (by omega))) (fun _ => st_badRow (Y := RsE E (BX CX e) 6) (i := 0) (x := "length") (ea_cons ev_c (ea_cons ev_c ea_nil)) (sub_none rfl) (by decide) (by decide) (fun _ _ _ h => by rw [← Option.some.inj c]; exact h)) (fun h => by cases h)) (st_false (i := 0) rfl fun _ _ z => z)
        · rw [if_neg hmn] at c
          refine st_seq (M := Dead) (st_if (b := true) (EvT.to (et_or (et_not (et_B (ev_cb (ea_cons (ev_var (P := Dv K (SqD kw ws)) rfl) (ea_cons (ev_tyT (ts := ["list", "tuple"]) (ea_cons ev_c (ea_cons ev_c ea_nil))) ea_nil)) isi_seq))) (fun _ => et_not (et_test (ev_chain (ev_var rfl) (ev_cb (ea_cons (ev_var (P := Dv K (SqD kw ws)) rfl) ea_nil) opA_lenSq) op2_I0 (fun _ => ev_c) (fun _ => op2_I0))))) (?_)) (fun _ => st_badRow (Y := RsE E (BX CX e) 6) (i := 0) (x := "many") (ea_cons ev_c (ea_cons ev_c ea_nil)) (sub_none rfl) (by decide) (by decide) (fun _ _ _ h => by rw [← Option.some.inj c]; exact h)) (fun h => by cases h)) (st_false (i := 0) rfl fun _ _ z => z)
          rw [sq_seq]
          show (!(decide ((least b : Int) ≤ (ws.length : Int)) && decide ((ws.length : Int) ≤ 40))) = true
          rw [Bool.not_eq_true']
          refine Bool.eq_false_iff.mpr fun z => hmn ?_
          obtain ⟨z1, z2⟩ := (Bool.and_eq_true _ _).mp z
          have := of_decide_eq_true z1
          have := of_decide_eq_true z2
          exact ⟨by omega, by omega⟩
    · have hb : ∀ x, sh.isB x = false := fun x => by
        cases sh with
        | bl b => exact absurd ⟨b, rfl⟩ hsh
        | _ => rfl
      have he : ((0 : Int), ("wall" : Str)) = e := by
        unfold dueC at c
        cases sh with
        | bl b => exact absurd ⟨b, rfl⟩ hsh
        | _ => exact Option.some.inj c
      refine st_seq (M := Dead) (st_if (b := true) (EvT.to (et_and (et_test (ev_op (ev_var rfl) ev_c (o_notXD (K := K)))) (fun _ => et_test (ev_op (ev_var rfl) ev_c (o_notXD (K := K))))) (by rw [hb, hb]; rfl)) (fun _ => ?_) (fun h => by cases h)) (st_false (i := 0) rfl fun _ _ z => z)
      exact st_badRow (Y := RsE E (BX CX e) 6) (i := 0) (x := "wall") (ea_cons ev_c (ea_cons ev_c ea_nil)) (sub_none rfl) (by decide) (by decide) (fun _ _ _ h => by rw [← he]; exact h)
end
end U

namespace U
open PySem PySem.Spec PyProof.Rows L2
/-! ### Row.__init__ of good rows -/
/-- a list or a tuple walked -/
def iSeq (K : PySem.W.Frag) (te : TE) : TI := fun σ H R => iList K te σ H R ∨ iTup K te σ H R
theorem pi_seq {X : Cx} {tg l : Expr} {tl : TE} (hl : PE X l tl) : PI X tg l (iSeq X.K tl) := ⟨fun pins s σ H R I h => h.elim (fun h => (pi_list hl).run pins s σ H R I h) fun h => (pi_tup hl).run pins s σ H R I h⟩
theorem ei_seq {K : PySem.W.Frag} {Ps : List Pr} {Y : Rs} [w : Pre Y.W] {G : Ctx} {te : TE} [ml : MnL Y.W Ps] : ∀ {k : Kd}, Ev Y G te (SeqP K k Ps) → EvI Y G (iSeq K te) Ps.length (nth Ps)
  | .L, h => fun s H ty hx R k => .inl (ei_list h s H ty hx R k)
  | .T, h => fun s H ty hx R k => .inr (ei_tup (ev_asT h) s H ty hx R k)
abbrev s_Row___init__ : Stmt := inClass (top 19) 0
theorem sc_Row___init__ : FnScope ["self", "weights", "speeds", "wall", "speed", "drives", "weight", "drive"] ["self", "weights", "speeds", "wall"] (defScope s_Row___init__) := ⟨rfl, rfl, rfl, by decide +kernel, rfl, by decide +kernel, by decide +kernel⟩
def rowFs (K : PySem.W.Frag) (ws : List Int) (qs : List Rat) (b : Bool) : List (Str × Pr) :=
  [("weights", TupN (intPs ws)), ("speeds", TupN (toldPs K qs)), ("wall", Is (.bl b)), ("pairs", Tup K (intPs (pairsOf ws b))), ("gap_count", Is (.int ((pairsOf ws b).length : Int))),
    ("is_like", Is (.bl (decide ((ws.count (ws.getD 0 0) : Int) = (ws.length : Int))))), ("first_sum", Told K (firstOf ws qs)), ("second_sum", Told K (secondOf ws qs))]
inductive RowI
  | good (i : GoodW)
  | bad (w s sh : D) (e : Int × Str)
def okRow : RowI → Prop
  | .good i => i.ok
  | .bad w s sh e => dueC w s sh = some e
def rowW (K : PySem.W.Frag) (CX : Addrs) : RowI → MkW
  | .good i => ⟨i.ps K, rowFs K i.ws i.qs i.b, NoX⟩
  | .bad w s sh e => ⟨[Dv K w, Dv K s, Dv K sh], [("none", fun _ _ => False)], BX CX e⟩
theorem st_dropEN {Y : Rs} [w : PreT Y.W] {G : Ctx} {te : TE} {tr : TS} {N : Ctx} {R : Pr} (h : Ev Y.ex G te fun _ _ => False) : St Y G (tSeq (tDrop te) tr) N R := fun s H D ty hx n r => h s H ty (hx_ex hx) _ fun v H2 w2 p => p.elim
section
variable {P : Program} {w : World} {K : PySem.W.Frag} {mg : Str → Option Value} {base : Heap} {CX : Addrs}
instance mnf_nil {W : HR} : MnL W (List.map (fun (x : Str × Pr) => x.2) []) := (mnl_nil : MnL W [])
instance mnf_app {W : HR} {Fs : List (Str × Pr)} {f : Str} {P : Pr} [m : Mn W P] [g : MnL W (List.map (fun (x : Str × Pr) => x.2) Fs)] : MnL W (List.map (fun (x : Str × Pr) => x.2) (Fs ++ [(f, P)])) := ⟨fun vs H H' w h => by
  rw [List.map_append] at h ⊢
  obtain ⟨us, ws, e, h1, h2⟩ := allp_split h
  subst e
  exact allp_app (g.mn us H H' w h1) ((mnl_cons (P := P) (Ps := [])).mn ws H H' w h2)⟩
theorem ty_self {x C dx : Addr} {Fs : List (Str × Pr)} {G : Ctx} : ∀ {s : L2.St} {H : Hp}, Ty (some (SelfT x C dx Fs) :: G) s H → Ob C Fs (.ref x) H
  | [], _, h => h.elim
  | _ :: _, _, ⟨⟨v, _, h⟩, _⟩ => by
    have e := h.1
    subst e
    exact self_ob h
theorem ev_self {Y : Rs} [w : PreT Y.W] {x C dx : Addr} {Fs : List (Str × Pr)} {G : Ctx} : Ev Y (some (SelfT x C dx Fs) :: G) (tVar 0) (Ob C Fs) := Ev.sub (ev_var rfl) fun _ _ h => self_ob h
theorem safe_told {K : PySem.W.Frag} {qs : List Rat} : ∀ vs H, AllP (toldPs K qs) vs H → Safe H vs := fun _ _ _ => True.intro
theorem new_told {K : PySem.W.Frag} {qs : List Rat} {v : V} {H : Hp} (h : New (toldPs K qs) v H) : Lst K (toldPs K qs) v H := let ⟨p, xs, e, hp, ha⟩ := h; ⟨p, xs, e, .inl (.inl hp), safe_told xs H ha, ha⟩
/-- tuple(range(a, b)) -/
theorem ev_tupRg {Y : Rs} [w : PreT Y.W] {G : Ctx} [mc : MnC Y.W G] {ta tb : TE} {K : PySem.W.Frag} {a b : Int} (ha : Ev Y G ta (Is (.int a))) (hb : Ev Y G tb (Is (.int b))) (ok : RgOk a b) :
    Ev Y G (tTupRg (tRg2 ta tb)) (Tup K (intPs ((List.range (b - a).toNat).map fun (i : Nat) => a + (i : Int)))) := fun s H ty hx Q q =>
  ha s H ty hx _ fun x H1 w1 e1 => hb s H1 (mc.mn s H H1 w1 ty) (hx.mono w1) _ fun y H2 w2 e2 => ⟨a, b, e1, e2, ok, fun p hp => by
    have w3 : Y.W H2 (upd H2 p (.tup (rgV a b))) := w.ext (Evl.Ex.new hp)
    refine q _ _ (w.trans (w.trans w1 w2) w3) ⟨p, _, rfl, Rd.of upd_same, ?_⟩
    unfold rgV intPs
    rw [List.map_map]
    generalize upd H2 p _ = H3
    generalize List.range (b - a).toNat = l
    induction l with
    | nil => exact True.intro
    | cons i l ih => exact ⟨rfl, ih⟩⟩
theorem each_told {f : Nat → Rat} {n : Nat} : each n (fun i => Told K (f i)) = toldPs K ((List.range n).map f) := by unfold each toldPs; rw [List.map_map]; rfl
theorem map_getD {qs : List Rat} : (List.range qs.length).map (fun i => qs.getD i 0) = qs := by
  apply List.ext_getElem?
  intro i
  by_cases h : i < qs.length
  · simp [h]
  · simp [h]
theorem drives_len {ws : List Int} {qs : List Rat} : (drivesOf ws qs).length = ws.length := by unfold drivesOf; simp
theorem cl_sum {W : HR} [Pre W] {i : SumW} (h : i.ok) : Cl W (sp_sum_of K) [Lst K (toldPs K i.qs)] (Told K (sumR i.qs)) NoX := cl_of (W := Evl.Ex) (C := SumW.ok) (f := fun i => ⟨[Lst K (toldPs K i.qs)], Told K (sumR i.qs), NoX⟩) i h
theorem cl_check {W : HR} [Pre W] {i : GoodW} (h : i.ok) : Cl W (sp_check K CX) (i.ps K) (Is .non) NoX := cl_of (W := Evl.Ex) (C := okCk) (f := ckW K CX) (.good i) h
theorem cl_checkX {W : HR} [Pre W] {w s sh : D} {e : Int × Str} (h : dueC w s sh = some e) : Cl W (sp_check K CX) [Dv K w, Dv K s, Dv K sh] (fun _ _ => False) (BX CX e) := cl_of (W := Evl.Ex) (C := okCk) (f := ckW K CX) (.bad w s sh e) h
theorem ok_Row {f : Addr} {fd : FuncData} (F : FunS K "__init__" "Row.__init__" s_Row___init__ [.bl false] f fd) (T : Txt P w K mg CX) (D__check_balls : Df P w K mg base 3 "_check_balls" ["weights", "speeds", "wall"] (sp_check K CX))
    (D_ratio_of : Df P w K mg base 3 "ratio_of" ["thing"] (sp_ratio_of K CX)) (D_times : Df P w K mg base 4 "times" ["one", "other"] (sp_times K CX)) (D__sum_of : Df P w K mg base 5 "_sum_of" ["numbers"] (sp_sum_of K)) :
    FnOk P w K mg base (L2N.CX P w) 6 f fd ["self", "weights", "speeds", "wall"] (SpI CX.Row okRow (rowW K CX)) := by
  refine okND F sc_Row___init__ (fun i => by cases i <;> rfl) (by decide) (fun cdv A outer s H E hr i c x dx => ⟨_, (pss_cons (ps_expr (pe_df D__check_balls (hr.mono (by decide)) (L2N.takes_of rfl rfl rfl rfl) (pa_cons (pv 1) (pa_cons (pv 2) (pa_cons (pv 3) pa_nil))))) (pss_cons (ps_fld (pv 0) (pe_tupleF (by rfl) T.n_tuple (pv 1)) rfl) (pss_cons (ps_fld (pv 0) (pe_tupleF (by rfl) T.n_tuple (pe_lc (own := [("speed", 4)]) (g := gName 4) (by rfl) sc_Row___init__.nd (pi_seq (pv 2)) (blkOk_by (own := [("speed", 4)]) (N := ["self", "weights", "speeds", "wall", "speed", "drives", "weight", "drive"]) (sc := defScope s_Row___init__) (by decide +kernel)) (fun _ _ _ _ _ => pg_name (i := 4) sc_Row___init__.nd rfl (by first | exact Or.inl rfl | exact Or.inr rfl)) (fun _ _ _ _ _ => pts_nil) (fun _ _ _ _ _ => (pe_df D_ratio_of (hr.mono (by decide)) takesF (pa_cons (pv 4) pa_nil))))) rfl) (pss_cons (ps_fld (pv 0) (pv 3) rfl) (pss_cons (ps_fld (pv 0) (pe_tupRg rfl (by rfl) T.n_tuple (prg_2 (by rfl) T.n_range (pe_ifExp (pt_truth (pv 3) (fun _ => rfl)) (pe_un un_neg pe_int) pe_int) (pe_op op_sub (pe_callB call_lenA (by rfl) T.n_len (by decide +kernel) (pa_cons (pe_fld (pv 0) rfl) pa_nil)) pe_int))) rfl) (pss_cons (ps_fld (pv 0) (pe_callB call_lenA (by rfl) T.n_len (by decide +kernel) (pa_cons (pe_fld (pv 0) rfl) pa_nil)) rfl) (pss_cons (ps_fld (pv 0) (pe_cmpR (op_eqA hr.units) (pe_bmF PySem.F.plainAttrs_tuple PySem.F.slot_tuple_count PySem.F.type_tuple_count mt_tcount (pe_fld (pv 0) rfl) (pa_cons (pe_ix ix_seq (pe_fld (pv 0) rfl) pe_int (fun _ _ => rfl)) pa_nil)) (pe_callB call_lenA (by rfl) T.n_len (by decide +kernel) (pa_cons (pe_fld (pv 0) rfl) pa_nil)) (nomark _)) rfl) (pss_cons (ps_setLc (i := 5) (own := [("weight", 6), ("speed", 4)]) (g := (gTup _ 2 (gCons (gName 6) (gCons (gName 4) gNil)))) (by rfl) sc_Row___init__.nd rfl rfl (sw_true rfl rfl rfl (by decide +kernel)) (RZ.pi_zipA (by rfl) T.n_zip (pa_cons (pe_fld (pv 0) rfl) (pa_cons (pe_fld (pv 0) rfl) pa_nil))) (blkOk_by (own := [("weight", 6), ("speed", 4)]) (N := ["self", "weights", "speeds", "wall", "speed", "drives", "weight", "drive"]) (sc := defScope s_Row___init__) (by decide +kernel)) (fun _ _ _ _ _ => (pg_tup rfl (pgs_cons (pg_name (i := 6) sc_Row___init__.nd rfl (by first | exact Or.inl rfl | exact Or.inr rfl)) (pgs_cons (pg_name (i := 4) sc_Row___init__.nd rfl (by first | exact Or.inl rfl | exact Or.inr rfl)) pgs_nil)))) (fun _ _ _ _ _ => pts_nil) (fun _ _ _ _ _ => (pe_df D_times (hr.mono (by decide)) takesF (pa_cons (pv 6) (pa_cons (pv 4) pa_nil))))) (pss_cons (ps_fld (pv 0) (pe_df D__sum_of (hr.mono (by decide)) (L2N.takes_of rfl rfl rfl rfl) (pa_cons (pv 5) pa_nil)) rfl) (pss_one (ps_fld (pv 0) (pe_df D__sum_of (hr.mono (by decide)) (L2N.takes_of rfl rfl rfl rfl) (pa_cons (pe_lc (own := [("drive", 7), ("speed", 4)]) (g := (gTup _ 2 (gCons (gName 7) (gCons (gName 4) gNil)))) (by rfl) sc_Row___init__.nd (pi_zipL (by rfl) T.n_zip (pa_cons (pv 5) (pa_cons (pe_fld (pv 0) rfl) pa_nil))) (blkOk_by (own := [("drive", 7), ("speed", 4)]) (N := ["self", "weights", "speeds", "wall", "speed", "drives", "weight", "drive"]) (sc := defScope s_Row___init__) (by decide +kernel)) (fun _ _ _ _ _ => (pg_tup rfl (pgs_cons (pg_name (i := 7) sc_Row___init__.nd rfl (by first | exact Or.inl rfl | exact Or.inr rfl)) (pgs_cons (pg_name (i := 4) sc_Row___init__.nd rfl (by first | exact Or.inl rfl | exact Or.inr rfl)) pgs_nil)))) (fun _ _ _ _ _ => pts_nil) (fun _ _ _ _ _ => (pe_df D_times (hr.mono (by decide)) takesF (pa_cons (pv 7) (pa_cons (pv 4) pa_nil))))) pa_nil)) rfl))))))))))), ?_⟩)
  cases i with
  | bad w s sh e =>
    refine ⟨Dead, ?_, fun _ _ h => (dead h).elim⟩
    show St (RsW (WI x) E (BX CX e) 8) (some (SelfT x CX.Row dx []) :: [some (Dv K w), some (Dv K s), some (Dv K sh), none, none, none, none]) _ _ _
    exact st_dropEN (ev_callX (Y := Rs.ex (RsW (WI x) E (BX CX e) 8)) (ea_cons (ev_var rfl) (ea_cons (ev_var rfl) (ea_cons (ev_var rfl) ea_nil))) (cl_checkX c) (sub_none rfl))
  | good i =>
  obtain ⟨kw, ks, ws, n, d, e, qs, b⟩ := i
  have c0 : GoodW.ok ⟨kw, ks, ws, n, d, e, qs, b⟩ := c
  replace c : GoodW.ok ⟨kw, ks, ws, n, d, e, qs, b⟩ := c
  obtain ⟨len, few, many, hw, hn, hd, he, hq, N, D, hN, hD, hs1, hs2⟩ := c
  replace len : qs.length = ws.length := len
  replace few : (if b then 1 else 2) ≤ ws.length := few
  replace many : ws.length ≤ 40 := many
  replace hw : ∀ y ∈ ws, 1 ≤ y ∧ y ≤ 9 := hw
  replace hn : n ≤ 1000 := hn
  replace hd : d ≤ 400 := hd
  replace hD : D + (1 + d + d) ≤ 9000 := hD
  replace hs1 : ∀ i, i < ws.length → Sz2 N D (sumR ((drivesOf ws qs).take i)) := hs1
  replace hs2 : ∀ i, i < ws.length → Sz2 N D (sumR ((secondsOf ws qs).take i)) := hs2
  replace he : e ≤ 8000 := he
  replace hq : ∀ q ∈ qs, Sz2 n d q := hq
  refine ⟨some (SelfT x CX.Row dx (rowFs K ws qs b)) :: [some (SeqP K kw (intPs ws)), some (SeqP K ks (ratPs K e qs)), some (Is (.bl b)), none, some (Lst K (toldPs K (drivesOf ws qs))), none, none], ?_, fun s' H' ty => ty_self ty⟩
  show St (RsW (WI x) E NoX 8) (some (SelfT x CX.Row dx []) :: [some (SeqP K kw (intPs ws)), some (SeqP K ks (ratPs K e qs)), some (Is (.bl b)), none, none, none, none]) _ _ _
  refine st_seq (st_dropE (ev_call (ea_cons (ev_var rfl) (ea_cons (ev_var rfl) (ea_cons (ev_var rfl) ea_nil))) (cl_check c0))) ?_
  refine st_seq (st_fset rfl T.r_cls (T.r_no _ (by decide)) rfl (by decide) (P := TupN (intPs ws)) ?_) ?_
  · cases kw with
    | L => exact ev_tupF (ev_var rfl)
    | T => exact ev_tupFT (ev_var rfl)
  have lw : (intPs ws).length = ws.length := List.length_map _
  have ls : (ratPs K e qs).length = qs.length := List.length_map _
  have lt : (toldPs K qs).length = qs.length := List.length_map _
  refine st_seq (st_fset rfl T.r_cls (T.r_no _ (by decide)) rfl (by simp) (P := TupN (toldPs K qs)) (ev_tupF (K := K) (Ev.sub (P := New (toldPs K qs)) ?_ fun _ _ h => new_told h))) ?_
  · have e1 : toldPs K qs = each (ratPs K e qs).length (fun i => Told K (qs.getD i 0)) := by rw [each_told, ls, map_getD]
    rw [e1]
    refine ev_lc (ei_seq (ev_var rfl)) (by rw [ls]; omega) (fun i => mn_told) (fun i => mn_told) (fun i hi => ?_) (fun i acc H' _ h => ?_)
    · rw [ls] at hi
      rw [nth_rat hi]
      exact ev_call (ea_cons (ev_var rfl) ea_nil) (cl_ratio_of (by omega))
    · rw [each_told] at h
      exact safe_told acc H' h
  refine st_seq (st_fset rfl T.r_cls (T.r_no _ (by decide)) rfl (by simp) (P := Is (.bl b)) (ev_var rfl)) ?_
  refine st_seq (st_fset rfl T.r_cls (T.r_no _ (by decide)) rfl (by simp) (P := Tup K (intPs (pairsOf ws b))) (ev_tupRg (ev_if (b := b) (et_truB (ev_var rfl)) (fun h => ?_) (fun h => ?_)) (Ev.to (ev_op (ev_cb (ea_cons (ev_asT (ev_fld T.r_cls (T.r_no _ (by decide)) rfl ev_self)) ea_nil) opA_lenT) ev_c op2_I0) ?_) ?_)) ?_
  · subst h; exact ev_un ev_c op1_neg
  · subst h; exact ev_c
  · rw [lw]
  · cases b <;> exact ⟨by decide, by decide, by omega, by omega, by simp; omega⟩
  refine st_seq (st_fset rfl T.r_cls (T.r_no _ (by decide)) rfl (by simp) (P := Is (.int ((pairsOf ws b).length : Int))) (Ev.to (ev_cb (ea_cons (ev_fld T.r_cls (T.r_no _ (by decide)) rfl ev_self) ea_nil) opA_lenT) ?_)) ?_
  · unfold intPs; rw [List.length_map]
  have hz : 0 < ws.length := by cases b <;> simp at few <;> omega
  have hi0 : (intPs ws)[0]? = some (Is (.int (ws.getD 0 0))) := by unfold intPs; simp [hz]
  refine st_seq (st_fset rfl T.r_cls (T.r_no _ (by decide)) rfl (by simp) (P := Is (.bl (decide ((ws.count (ws.getD 0 0) : Int) = (ws.length : Int))))) (Ev.to (ev_op (ev_count (zs := ws) (ev_fld T.r_cls (T.r_no _ (by decide)) rfl ev_self) (ev_op (ev_asT (K := K) (ev_fld T.r_cls (T.r_no _ (by decide)) rfl ev_self)) ev_c (o_ixT (i := 0) hi0))) (ev_cb (ea_cons (ev_asT (K := K) (ev_fld T.r_cls (T.r_no _ (by decide)) rfl ev_self)) ea_nil) opA_lenT) o_eqI) ?_)) ?_
  · rw [lw]
  have dl : (drivesOf ws qs).length = ws.length := drives_len
  have dg : ∀ i, i < ws.length → (drivesOf ws qs).getD i 0 = (ws.getD i 0 : Rat) * qs.getD i 0 := fun i hi => by unfold drivesOf; simp [hi]
  have szw : ∀ i, i < ws.length → Sz2 1000 1 (ws.getD i 0 : Rat) := fun i hi => by
    have h1 := hw (ws.getD i 0) (by rw [List.getD_eq_getElem?_getD, List.getElem?_eq_getElem hi]; exact List.getElem_mem hi)
    exact (sz2_int (n := 4) (d := 1) (show Big 4 (ws.getD i 0) by unfold Big; omega) (by decide)).mono (by decide) (by decide)
  have szq : ∀ i, i < ws.length → Sz2 1000 d (qs.getD i 0) := fun i hi => by
    have hi' : i < qs.length := by omega
    exact (hq _ (by rw [List.getD_eq_getElem?_getD, List.getElem?_eq_getElem hi']; exact List.getElem_mem hi')).mono hn (Nat.le_refl _)
  have szd : ∀ i, i < ws.length → Sz2 2000 (1 + d) ((drivesOf ws qs).getD i 0) := fun i hi => by
    rw [dg i hi]; exact sz2_mul (szw i hi) (szq i hi)
  refine st_seq (st_setE (P := Lst K (toldPs K (drivesOf ws qs))) (Ev.sub (P := New (toldPs K (drivesOf ws qs))) ?_ fun _ _ h => new_told h)) ?_
  · have e1 : toldPs K (drivesOf ws qs) = each (intPs ws).length (fun i => Told K ((ws.getD i 0 : Rat) * qs.getD i 0)) := by rw [each_told, lw]; rfl
    rw [e1]
    refine ev_lc2 (ei_zipT (by rw [lw, lt, len]) (ea_cons (ev_asT (ev_fld T.r_cls (T.r_no _ (by decide)) rfl ev_self)) (ea_cons (ev_asT (ev_fld T.r_cls (T.r_no _ (by decide)) rfl ev_self)) ea_nil))) (by rw [lw]; omega) (fun i => mn_told) (fun i => mn_told) (by decide) (fun i hi => ?_) (fun i acc H' _ h => ?_)
    · rw [lw] at hi
      rw [nth_int hi, nth_told (show i < qs.length by omega)]
      exact ev_call (ea_cons (P1 := RatD K 1 (ws.getD i 0 : Rat)) (Ev.sub (ev_var rfl) fun _ _ h => int_ratD h) (ea_cons (P1 := RatD K d (qs.getD i 0)) (Ev.sub (ev_var rfl) fun _ _ h => told_ratD (szq i hi).2 h) ea_nil)) (cl_2 (n := 1000) (by omega) (by omega) (szw i hi) (szq i hi))
    · rw [each_told] at h
      exact safe_told acc H' h
  refine st_seq (st_fset rfl T.r_cls (T.r_no _ (by decide)) rfl (by simp) (P := Told K (firstOf ws qs)) (ev_call (ea_cons (ev_var rfl) ea_nil) (cl_sum (i := ⟨N + 3000, D, 1 + d, drivesOf ws qs⟩) ⟨by show N + 3000 ≤ 200000; omega, by show D + (1 + d) ≤ 9000; omega, by show (drivesOf ws qs).length ≤ 1000; omega, fun q hq => ?_, fun k hk => Sz2.mono (hs1 k (by rw [← dl]; exact hk)) (by show N ≤ N + 3000; omega) (Nat.le_refl _)⟩))) ?_
  · obtain ⟨i, hi, e⟩ := List.getElem_of_mem hq
    replace hi : i < (drivesOf ws qs).length := hi
    have := szd i (by omega)
    rw [List.getD_eq_getElem?_getD, List.getElem?_eq_getElem hi] at this
    rw [← e]; exact Sz2.mono this (by show 2000 ≤ N + 3000; omega) (Nat.le_refl _)
  have sl : (secondsOf ws qs).length = ws.length := by unfold secondsOf; simp
  refine st_fset rfl T.r_cls (T.r_no _ (by decide)) rfl (by simp) (P := Told K (secondOf ws qs)) (ev_call (ea_cons (P1 := Lst K (toldPs K (secondsOf ws qs))) (Ev.sub (P := New (toldPs K (secondsOf ws qs))) ?_ fun _ _ h => new_told h) ea_nil) (cl_sum (i := ⟨N + 3000, D, 1 + d + d, secondsOf ws qs⟩) ⟨by show N + 3000 ≤ 200000; omega, by show D + (1 + d + d) ≤ 9000; omega, by show (secondsOf ws qs).length ≤ 1000; omega, fun q hq => ?_, fun k hk => Sz2.mono (hs2 k (by rw [← sl]; exact hk)) (by show N ≤ N + 3000; omega) (Nat.le_refl _)⟩))
  · have e1 : toldPs K (secondsOf ws qs) = each (toldPs K (drivesOf ws qs)).length (fun i => Told K ((drivesOf ws qs).getD i 0 * qs.getD i 0)) := by rw [each_told]; unfold toldPs secondsOf; rw [List.length_map, dl]
    have ld : (toldPs K (drivesOf ws qs)).length = ws.length := by unfold toldPs; rw [List.length_map, dl]
    rw [e1]
    refine ev_lc2 (ei_zipL (by rw [ld, lt, len]) (ea_cons (ev_var rfl) (ea_cons (ev_asT (ev_fld T.r_cls (T.r_no _ (by decide)) rfl ev_self)) ea_nil))) (by rw [ld]; omega) (fun i => mn_told) (fun i => mn_told) (by decide) (fun i hi => ?_) (fun i acc H' _ h => ?_)
    · rw [ld] at hi
      rw [nth_told (show i < (drivesOf ws qs).length by omega), nth_told (show i < qs.length by omega)]
      exact ev_call (ea_cons (P1 := RatD K (1 + d) ((drivesOf ws qs).getD i 0)) (Ev.sub (ev_var rfl) fun _ _ h => told_ratD (szd i hi).2 h) (ea_cons (P1 := RatD K d (qs.getD i 0)) (Ev.sub (ev_var rfl) fun _ _ h => told_ratD (szq i hi).2 h) ea_nil)) (cl_2 (n := 2000) (by omega) (by omega) (szd i hi) ((szq i hi).mono (by decide) (Nat.le_refl _)))
    · rw [each_told] at h
      exact safe_told acc H' h
  · obtain ⟨i, hi, e⟩ := List.getElem_of_mem hq
    replace hi : i < (secondsOf ws qs).length := hi
    have hi' : i < ws.length := by omega
    have := sz2_mul (szd i hi') (szq i hi')
    have e2 : (secondsOf ws qs)[i] = (drivesOf ws qs).getD i 0 * qs.getD i 0 := by unfold secondsOf; simp
    rw [← e, e2]; exact Sz2.mono this (by show 2000 + 1000 ≤ N + 3000; omega) (Nat.le_refl _)
end
end U

namespace U
open PySem PySem.Spec PyProof.Rows L2
/-! ### the law's draws -/
abbrev s__law_mix : Stmt := top 21
theorem sc__law_mix : FnScope ["_law_number", "_law_turn", "_law_once", "_law_twice"] ["_law_number", "_law_turn"] (defScope s__law_mix) := ⟨rfl, rfl, rfl, by decide +kernel, rfl, by decide +kernel, by decide +kernel⟩
abbrev s__law_hand : Stmt := top 22
theorem sc__law_hand : FnScope ["_law_script", "_law_total", "_law_k", "_law_cell"] ["_law_script"] (defScope s__law_hand) := ⟨rfl, rfl, rfl, by decide +kernel, rfl, by decide +kernel, by decide +kernel⟩
abbrev s__law_draw : Stmt := top 23
theorem sc__law_draw : FnScope ["_law_hand_here", "_law_many", "_law_cell", "_law_rest"] ["_law_hand_here", "_law_many"] (defScope s__law_draw) := ⟨rfl, rfl, rfl, by decide +kernel, rfl, by decide +kernel, by decide +kernel⟩
def sp_mix : Sp := SpW Evl.Ex (fun i : Int × Int => (0 ≤ i.1 ∧ i.1 < 2147483647) ∧ 0 ≤ i.2 ∧ i.2 ≤ 100) fun i => ⟨[Is (.int i.1), Is (.int i.2)], Rng 0 2147483648, NoX⟩
/-- so, and since H0 the heap only grew -/
def Snc (H0 : Hp) (P : Pr) : Pr := fun v H => P v H ∧ Evl.Ex H0 H
instance mn_snc {H0 : Hp} {P : Pr} [m : Mn Evl.Ex P] : Mn Evl.Ex (Snc H0 P) := ⟨fun v H H' e h => ⟨m.mn v H H' e h.1, h.2.trans e⟩⟩
section
variable {P : Program} {w : World} {K : PySem.W.Frag} {mg : Str → Option Value} {base : Heap} {CX : Addrs}
theorem ok_mix {f : Addr} {fd : FuncData} (F : Fun K "_law_mix" "_law_mix" s__law_mix f fd) (T : Txt P w K mg CX) : FnOk P w K mg base (L2N.CX P w) 1 f fd ["_law_number", "_law_turn"] sp_mix := by
  refine okW F sc__law_mix (fun i => rfl) (by decide) (fun cdv A outer s H E hr => ⟨_, (pss_cons (ps_set (i := 2) sc__law_mix.nd rfl (by first | exact Or.inl rfl | exact Or.inr rfl) (pe_op op_mod (pe_callTy call_int1 (by rfl) T.n_int (by decide +kernel) (pa_cons (pe_op op_addA (pe_op op_addA (pe_op op_mulA (pv 0) pe_int) (pe_op op_mulA (pv 1) pe_int)) pe_int) pa_nil)) pe_int)) (pss_cons (ps_set (i := 3) sc__law_mix.nd rfl (by first | exact Or.inl rfl | exact Or.inr rfl) (pe_op op_mod (pe_callTy call_int1 (by rfl) T.n_int (by decide +kernel) (pa_cons (pe_op op_addA (pe_op op_addA (pe_op op_mulA (pv 2) (pv 2)) (pe_op op_mulA (pe_op op_fd (pv 2) pe_int) pe_int)) (pe_op op_mulA (pv 1) pe_int)) pa_nil)) pe_int)) (pss_one (ps_ret (pe_op op_fd (pe_op op_mod (pe_callTy call_int1 (by rfl) T.n_int (by decide +kernel) (pa_cons (pe_op op_addA (pe_op op_fd (pe_op op_mulA (pv 3) (pv 3)) pe_int) (pv 2)) pa_nil)) pe_int) pe_int))))), fun i c => ⟨Dead, ?_, fun _ _ h => (dead h).elim⟩⟩)
  obtain ⟨x, y⟩ := i
  obtain ⟨hx, h0, h1⟩ := (c : (0 ≤ x ∧ x < 2147483647) ∧ 0 ≤ y ∧ y ≤ 100)
  show St (RsE E NoX 4) [some (Is (.int x)), some (Is (.int y)), none, none] _ Dead (Rng 0 2147483648)
  have bx : Big 31 x := big_rng hx (by decide)
  have by' : Big 7 y := big_rng ⟨h0, show y < 101 by omega⟩ (by decide)
  have bc : ∀ c : Int, -(2 ^ 31) < c ∧ c < 2 ^ 31 → Big 31 c := fun c h => big_of h.1 h.2
  refine st_seq (st_set (ev_some (C := fun i : Int => 0 ≤ i ∧ i < 2147483647) (P := fun i => Is (.int i)) _ (mod_rng (by decide)) (ev_op (ev_cb (ea_cons (ev_op (ev_op (ev_op (ev_var rfl) ev_c (o_mul bx (bc 48271 (by decide)) (by decide))) (ev_op (ev_var rfl) ev_c (o_mul by' (bc 16807 (by decide)) (by decide))) o_add) ev_c o_add) ea_nil) opA_int) ev_c (o_mod (by decide))))) ?_
  refine st_open 2 rfl fun o ho => ?_
  have bo : Big 31 o := big_rng ho (by decide)
  refine st_seq (st_set (ev_some (C := fun i : Int => 0 ≤ i ∧ i < 2147483399) (P := fun i => Is (.int i)) _ (mod_rng (by decide)) (ev_op (ev_cb (ea_cons (ev_op (ev_op (ev_op (ev_var rfl) (ev_var rfl) (o_mul bo bo (by decide))) (ev_op (ev_op (ev_var rfl) ev_c (o_fd (n := 31) (by decide) (bc 127 (by decide)) (by decide))) ev_c (o_mul (n := 31) ?_ (bc 40692 (by decide)) (by decide))) o_add) (ev_op (ev_var rfl) ev_c (o_mul by' (bc 69621 (by decide)) (by decide))) o_add) ea_nil) opA_int) ev_c (o_mod (by decide))))) ?_
  · rw [Int.fdiv_eq_ediv_of_nonneg _ (by decide)]
    exact big_rng (m := 2147483648) ⟨Int.ediv_nonneg ho.1 (by decide), by omega⟩ (by decide)
  refine st_open 3 rfl fun q hq => ?_
  have bq : Big 31 q := big_rng hq (by decide)
  refine st_ret (Ev.sub (ev_op (ev_op (ev_cb (ea_cons (ev_op (ev_op (ev_op (ev_var rfl) (ev_var rfl) (o_mul bq bq (by decide))) ev_c (o_fd (n := 31) (by decide) (bc 1009 (by decide)) (by decide))) (ev_var rfl) o_add) ea_nil) opA_int) ev_c (o_mod (by decide))) ev_c (o_fd (n := 31) (by decide) (bc 16 (by decide)) (by decide))) ?_)
  rintro v H e
  have hm := mod_rng (i := (q * q).fdiv 1009 + o) (m := 2147483563) (by decide)
  refine ⟨_, ⟨?_, ?_⟩, e⟩
  · rw [Int.fdiv_eq_ediv_of_nonneg _ (by decide)]; exact Int.ediv_nonneg hm.1 (by decide)
  · rw [Int.fdiv_eq_ediv_of_nonneg _ (by decide)]; omega
theorem cl_mix {W : HR} [Pre W] {x y : Int} (hx : 0 ≤ x ∧ x < 2147483647) (h0 : 0 ≤ y) (h1 : y ≤ 100) : Cl W sp_mix [Is (.int x), Is (.int y)] (Rng 0 2147483648) NoX :=
  cl_of (W := Evl.Ex) (C := fun i : Int × Int => (0 ≤ i.1 ∧ i.1 < 2147483647) ∧ 0 ≤ i.2 ∧ i.2 ≤ 100) (f := fun i => ⟨[Is (.int i.1), Is (.int i.2)], Rng 0 2147483648, NoX⟩) (x, y) ⟨hx, h0, h1⟩
theorem ok_hand {f : Addr} {fd : FuncData} (F : Fun K "_law_hand" "_law_hand" s__law_hand f fd) (T : Txt P w K mg CX) : FnOk P w K mg base (L2N.CX P w) 1 f fd ["_law_script"] (sp_hand K) := by
  refine hand_ext (F.okN sc__law_hand (fun vs H Q E h => by obtain ⟨ns, _, al, _⟩ := h; rw [allp_len al]; rfl) (fun cdv A outer s H0 vs Q E hr h => ⟨_, (pss_cons (ps_set (i := 1) sc__law_hand.nd rfl (by first | exact Or.inl rfl | exact Or.inr rfl) pe_int) (pss_cons (ps_for (passes_of rfl) rfl (pi_enum (by rfl) T.n_enumerate (pa_cons (pv 0) pa_nil)) (pg_tup rfl (pgs_cons (pg_name (i := 2) sc__law_hand.nd rfl (by first | exact Or.inl rfl | exact Or.inr rfl)) (pgs_cons (pg_name (i := 3) sc__law_hand.nd rfl (by first | exact Or.inl rfl | exact Or.inr rfl)) pgs_nil))) (pss_one (ps_set (i := 1) sc__law_hand.nd rfl (by first | exact Or.inl rfl | exact Or.inr rfl) (pe_op op_mod (pe_callTy call_int1 (by rfl) T.n_int (by decide +kernel) (pa_cons (pe_op op_addA (pe_op op_mulA (pv 1) pe_int) (pe_op op_mulA (pe_callTy call_int1 (by rfl) T.n_int (by decide +kernel) (pa_cons (pv 3) pa_nil)) (pe_op op_addA (pv 2) pe_int))) pa_nil)) pe_int)))) (pss_one (ps_ret (pe_lst (pa_cons (pe_lc (own := [("_law_cell", 3)]) (g := gName 3) (by rfl) sc__law_hand.nd (pi_list (pv 0)) (blkOk_by (own := [("_law_cell", 3)]) (N := ["_law_script", "_law_total", "_law_k", "_law_cell"]) (sc := defScope s__law_hand) (by decide +kernel)) (fun _ _ _ _ _ => pg_name (i := 3) sc__law_hand.nd rfl (by first | exact Or.inl rfl | exact Or.inr rfl)) (fun _ _ _ _ _ => pts_nil) (fun _ _ _ _ _ => (pe_callB call_abs (by rfl) T.n_abs (by decide +kernel) (pa_cons (pe_callTy call_int1 (by rfl) T.n_int (by decide +kernel) (pa_cons (pv 3) pa_nil)) pa_nil)))) (pa_cons pe_int (pa_cons pe_int (pa_cons (pv 1) pa_nil))))))))), ?_⟩))
  obtain ⟨ns, hl, al, q⟩ := h
  have go : ∀ t, St (RsE E NoX 4) [some (Snc H0 (Lst K (ns.map fun n => Is (.int n)))), none, none, none] t Dead (HandN H0) → t { nx := fun _ H' => Q .non H', rt := Q } (L2.start ["_law_script", "_law_total", "_law_k", "_law_cell"] vs) H0 := fun t key => key _ H0 _ (by
    obtain ⟨v, rfl, hv⟩ := allp1 al
    exact ⟨⟨v, rfl, hv, Evl.Ex.refl H0⟩, True.intro⟩) (fun s cls d H' x _ y => y.elim) (fun s' H' x ty => (dead ty).elim) q
  refine go _ ?_
  have en : (ns.map fun n => Is (.int n)).length = ns.length := List.length_map _
  have nthI : ∀ i, i < ns.length → nth (ns.map fun n => Is (.int n)) i = Is (.int (ns.getD i 0)) := fun i hi => by
    unfold nth; simp [hi]
  haveI mn1 : ∀ i, Mn Evl.Ex (nth (ns.map fun n => Is (.int n)) i) := fun i => by
    by_cases hi : i < ns.length
    · rw [nthI i hi]; exact mn_is
    · have : nth (ns.map fun n => Is (.int n)) i = fun _ _ => False := by unfold nth; simp [hi]
      rw [this]; exact ⟨fun _ _ _ _ h => h⟩
  refine st_seq (st_set ev_c) ?_
  refine st_seq (M := [some (Snc H0 (Lst K (ns.map fun n => Is (.int n)))), some (Rng 0 2147483629), none, none]) ?_ ?_
  · refine st_for2 (Y := RsE E NoX 4) (ei_enum (Y := RsE E NoX 4) (ea_cons (Y := RsE E NoX 4) (Ev.sub (ev_var rfl) fun _ _ h => h.1) ea_nil)) (fun _ => [some (Snc H0 (Lst K (ns.map fun n => Is (.int n)))), some (Rng 0 2147483629), none, none]) (sub_keep (sub_imp (fun v H e => ⟨0, by decide, e⟩) sub_refl)) (fun i hi => ?_)
    rw [en] at hi
    rw [nthI i hi]
    refine st_open 1 rfl fun z hz => ?_
    refine st_post (N' := [some (Snc H0 (Lst K (ns.map fun n => Is (.int n)))), some (Rng 0 2147483629), some (Is (.int (i : Int))), some (Is (.int (ns.getD i 0)))]) (st_set (ev_some (C := fun i : Int => 0 ≤ i ∧ i < 2147483629) (P := fun i => Is (.int i)) _ (mod_rng (by decide)) (ev_op (ev_cb (ea_cons (ev_op (ev_op (ev_var rfl) ev_c (o_mulS (by decide))) (ev_op (ev_cb (ea_cons (ev_var rfl) ea_nil) opA_int) (ev_op (ev_var rfl) ev_c o_add) (o_mulS (by omega))) o_add) ea_nil) opA_int) ev_c (o_mod (by decide))))) (sub_keep (sub_keep (sub_drop (sub_drop sub_nil)))) (fun _ _ h => h)
  · refine st_ret (ev_hand (Y := RsE E NoX 4) (H0 := H0) (fun s H ty => by
      cases s with
      | nil => exact ty.elim
      | cons x s => obtain ⟨⟨v, _, h⟩, _⟩ := ty; exact h.2) (fun a b h => h) (xs := (List.range ns.length).map fun i => ((ns.getD i 0).natAbs : Int)) (lo := 0) (hi := 2147483629) (fun x hx => ?_) ?_ (Int.le_refl _) (Int.le_refl _) (ea_cons ?_ (ea_cons ev_c (ea_cons ev_c (ea_cons (ev_var rfl) ea_nil)))))
    · obtain ⟨i, _, rfl⟩ := List.mem_map.mp hx
      exact Int.natCast_nonneg _
    · rw [List.length_map, List.length_range]; exact hl
    · have key : ((List.range ns.length).map fun i => ((ns.getD i 0).natAbs : Int)).map (fun x => Is (.int x)) = each (ns.map fun n => Is (.int n)).length (fun i => Is (.int ((ns.getD i 0).natAbs : Int))) := by
        unfold each
        rw [en, List.map_map]
        rfl
      rw [key]
      refine ev_lc (ei_list (Ev.sub (ev_var rfl) fun _ _ h => h.1)) (by rw [en]; omega) (fun i => mn_is) (fun i => mn_is) (fun i hi => ?_) (fun i acc H hi ha => ?_)
      · rw [en] at hi
        rw [nthI i hi]
        exact ev_cb (ea_cons (ev_cb (ea_cons (ev_var rfl) ea_nil) opA_int) ea_nil) opA_abs
      · exact True.intro
theorem cl_hand {ns : List Int} (h : ns.length ≤ 63) : Cl WL (sp_hand K) [Lst K (ns.map fun n => Is (.int n))] Hand NoX :=
  cl_of (W := Evl.Ex) (C := fun ns : List Int => ns.length ≤ 63) (f := fun ns => ⟨[Lst K (ns.map fun n => Is (.int n))], Hand, NoX⟩) ns h
theorem ok_draw {f : Addr} {fd : FuncData} (F : Fun K "_law_draw" "_law_draw" s__law_draw f fd) (T : Txt P w K mg CX) (D__law_mix : Df P w K mg base 1 "_law_mix" ["_law_number", "_law_turn"] sp_mix) : FnOk P w K mg base (L2N.CX P w) 2 f fd ["_law_hand_here", "_law_many"] sp_draw := by
  refine draw_ext (F.okN sc__law_draw (fun vs H Q E h => by obtain ⟨m, p, c, xs, a, r, t, _, _, e, _⟩ := h; rw [e]; rfl) (fun cdv A outer s H0 vs Q E hr h => ⟨_, (pss_cons (ps_if (PW.pt (pw_and (pt_cmpR (op_eqA hr.units) (pe_ix ix_seq (pv 0) pe_int (fun _ _ => rfl)) pe_int (nomark _)) (pw_and1 (pt_cmpR op_lt (pe_ix ix_seq (pv 0) pe_int (fun _ _ => rfl)) (pe_callB call_lenA (by rfl) T.n_len (by decide +kernel) (pa_cons (pe_ix ix_seq (pv 0) pe_int (fun _ _ => rfl)) pa_nil)) (nomark _))))) (pss_cons (ps_set (i := 2) sc__law_draw.nd rfl (by first | exact Or.inl rfl | exact Or.inr rfl) (pe_ix ix_seq (pe_ix ix_seq (pv 0) pe_int (fun _ _ => rfl)) (pe_ix ix_seq (pv 0) pe_int (fun _ _ => rfl)) (fun _ _ => rfl))) (pss_cons (ps_asg (pe_op op_addA (pe_ix ix_seq (pv 0) pe_int (fun _ _ => rfl)) pe_int) (pg_sub (pv 0) pe_int set_list)) (pss_cons (ps_if (pt_cmpR op_lt (pv 2) (pe_op op_pow pe_int pe_int) (nomark _)) (pss_one (ps_ret (pe_op op_mod (pe_callTy call_int1 (by rfl) T.n_int (by decide +kernel) (pa_cons (pe_df D__law_mix (hr.mono (by decide)) (L2N.takes_of rfl rfl rfl rfl) (pa_cons (pe_op op_mod (pe_callTy call_int1 (by rfl) T.n_int (by decide +kernel) (pa_cons (pv 2) pa_nil)) pe_int) (pa_cons (pe_ix ix_seq (pv 0) pe_int (fun _ _ => rfl)) pa_nil))) pa_nil)) (pv 1)))) pss_nil) (pss_one (ps_asg (pv 2) (pg_sub (pv 0) pe_int set_list)))))) pss_nil) (pss_cons (ps_if (pt_cmpR op_gt (pe_ix ix_seq (pv 0) pe_int (fun _ _ => rfl)) pe_int (nomark _)) (pss_cons (ps_set (i := 3) sc__law_draw.nd rfl (by first | exact Or.inl rfl | exact Or.inr rfl) (pe_ix ix_seq (pv 0) pe_int (fun _ _ => rfl))) (pss_cons (ps_asg (pe_op op_fd (pv 3) (pv 1)) (pg_sub (pv 0) pe_int set_list)) (pss_one (ps_ret (pe_op op_mod (pe_callTy call_int1 (by rfl) T.n_int (by decide +kernel) (pa_cons (pv 3) pa_nil)) (pv 1)))))) pss_nil) (pss_cons (ps_asg (pe_op op_mod (pe_callTy call_int1 (by rfl) T.n_int (by decide +kernel) (pa_cons (pe_op op_addA (pe_ix ix_seq (pv 0) pe_int (fun _ _ => rfl)) pe_int) pa_nil)) pe_int) (pg_sub (pv 0) pe_int set_list)) (pss_one (ps_ret (pe_op op_mod (pe_callTy call_int1 (by rfl) T.n_int (by decide +kernel) (pa_cons (pe_df D__law_mix (hr.mono (by decide)) (L2N.takes_of rfl rfl rfl rfl) (pa_cons (pe_ix ix_seq (pv 0) pe_int (fun _ _ => rfl)) (pa_cons (pe_ix ix_seq (pv 0) pe_int (fun _ _ => rfl)) pa_nil))) pa_nil)) (pv 1))))))), ?_⟩))
  obtain ⟨m, p, c, xs, a, r, t, m0, mb, e, hv, q⟩ := h
  subst e
  have go : ∀ t, St (RsW (WD p) E NoX 4) [some (HVs p c xs), some (Is (.int m)), none, none] t Dead (fun v H => Rng 0 m v H ∧ ∃ a r t, HandV H p c xs a r t) → t { nx := fun _ H' => Q .non H', rt := Q } (L2.start ["_law_hand_here", "_law_many", "_law_cell", "_law_rest"] [.ref p, .int m]) H0 := fun t key => key _ H0 _
    ⟨⟨_, rfl, _, _, _, rfl, hv⟩, ⟨_, rfl, rfl⟩, True.intro⟩ (fun s cls d H' x _ y => y.elim) (fun s' H' x ty => (dead ty).elim) q
  refine go _ ?_
  refine st_seq (M := [some (HVs p c xs), some (Is (.int m)), none, none]) (st_openHV fun a r t a0 al xl pos r0 t0 tl => ?_) (st_openHV fun a r t a0 al xl pos r0 t0 tl => ?_)
  · refine st_ifE (et_and (et_test (ev_op (ev_op (ev_var rfl) ev_c o_hv2) ev_c o_eqI)) (fun _ => et_test (ev_op (ev_op (ev_var rfl) ev_c o_hv1) (ev_cb (ea_cons (ev_op (ev_var rfl) ev_c o_hv0) ea_nil) o_cellsLen) op2_I0))) (fun h => ?_) (fun h => ?_)
    · have h2 := of_decide_eq_true ((Bool.and_eq_true _ _).mp h).2
      have h1 := of_decide_eq_true ((Bool.and_eq_true _ _).mp h).1
      refine st_seq (st_setE (ev_op (ev_op (ev_var rfl) ev_c o_hv0) (ev_op (ev_var rfl) ev_c o_hv1) (o_cell a0 h2))) ?_
      refine st_open 2 rfl fun z hz => ?_
      have z0 := pos z hz
      refine st_seq (st_hset (a' := a + 1) (r' := r) (t' := t) rfl (ev_op (ev_op (ev_var rfl) ev_c o_hv1) ev_c o_add) (j := 1) rfl rfl (by decide) (by omega) (by omega) r0 t0 tl) ?_
      refine st_seq (st_ifE (et_test (ev_op (ev_var rfl) (ev_op ev_c ev_c (o_pow ⟨by decide, by decide, by decide⟩)) op2_I0)) (fun _ => ?_) (fun _ => st_next)) ?_
      · refine st_retHV ((ev_op (ev_cb (ea_cons (ev_call (ea_cons (ev_op (ev_cb (ea_cons (ev_var rfl) ea_nil) opA_int) ev_c (o_mod (by decide))) (ea_cons (ev_op (ev_var rfl) ev_c o_hv1) ea_nil)) (cl_mix (mod_rng (by decide)) (by omega) (by omega))) ea_nil) opA_intR) (ev_var rfl) (o_modR m0)))
      · refine st_post (st_hset (a' := a + 1) (r' := z) (t' := t) rfl (ev_var rfl) (j := 2) rfl rfl (by decide) (by omega) (by omega) z0 t0 tl) (sub_imp hv_hvs (sub_keep (sub_drop (sub_drop sub_nil)))) (fun _ _ h => h)
    · exact st_post st_next (sub_imp hv_hvs (sub_keep (sub_keep (sub_keep sub_nil)))) (fun _ _ h => h)
  · refine st_seq (M := [some (HV p c xs a r t), some (Is (.int m)), none, none]) (st_ifE (et_test (ev_op (ev_op (ev_var rfl) ev_c o_hv2) ev_c op2_I0)) (fun h => ?_) (fun _ => st_next)) ?_
    · refine st_seq (st_setE (ev_op (ev_var rfl) ev_c o_hv2)) ?_
      refine st_seq (st_hset (a' := a) (r' := r.fdiv m) (t' := t) rfl (ev_op (ev_var rfl) (ev_var rfl) (o_fd (n := 300) (by omega) mb (by decide))) (j := 2) rfl rfl (by decide) a0 al (by rw [Int.fdiv_eq_ediv_of_nonneg _ (by omega)]; exact Int.ediv_nonneg r0 (by omega)) t0 tl) ?_
      exact st_retHV ((ev_some _ (mod_rng m0) (ev_op (ev_cb (ea_cons (ev_var rfl) ea_nil) opA_int) (ev_var rfl) (o_mod m0))))
    · have ht := mod_rng (i := t + 1) (m := 2147483629) (by decide)
      refine st_seq (st_hset (a' := a) (r' := r) (t' := (t + 1) % 2147483629) rfl (ev_op (ev_cb (ea_cons (ev_op (ev_op (ev_var rfl) ev_c o_hv3) ev_c o_add) ea_nil) opA_int) ev_c (o_mod (by decide))) (j := 3) rfl rfl (by decide) a0 al r0 ht.1 ht.2) ?_
      exact st_retHV ((ev_op (ev_cb (ea_cons (ev_call (ea_cons (ev_op (ev_var rfl) ev_c o_hv3) (ea_cons (ev_op (ev_var rfl) ev_c o_hv1) ea_nil)) (cl_mix ⟨ht.1, by omega⟩ a0 (by omega))) ea_nil) opA_intR) (ev_var rfl) (o_modR m0)))
theorem cl_draw {m : Int} (h : 0 < m) (k : Big 300 m) : Cl WL sp_draw [Hand, Is (.int m)] (Rng 0 m) NoX :=
  cl_of (W := WL) (C := fun m : Int => 0 < m ∧ Big 300 m) (f := fun m => ⟨[Hand, Is (.int m)], Rng 0 m, NoX⟩) m ⟨h, k⟩
end
end U

namespace U
open PySem PySem.Spec PyProof.Rows L2
/-! ### the law: sums, products, speeds, cases -/
abbrev s__law_low : Stmt := top 24
theorem sc__law_low : FnScope ["_law_top", "_law_bottom", "_law_one", "_law_other"] ["_law_top", "_law_bottom"] (defScope s__law_low) := ⟨rfl, rfl, rfl, by decide +kernel, rfl, by decide +kernel, by decide +kernel⟩
abbrev s__law_add : Stmt := top 25
theorem sc__law_add : FnScope ["_law_a", "_law_b"] ["_law_a", "_law_b"] (defScope s__law_add) := ⟨rfl, rfl, rfl, by decide +kernel, rfl, by decide +kernel, by decide +kernel⟩
abbrev s__law_mul : Stmt := top 27
theorem sc__law_mul : FnScope ["_law_a", "_law_b"] ["_law_a", "_law_b"] (defScope s__law_mul) := ⟨rfl, rfl, rfl, by decide +kernel, rfl, by decide +kernel, by decide +kernel⟩
theorem gcd_step (a b : Nat) : Nat.gcd b (a % b) = Nat.gcd a b := by rw [Nat.gcd_comm b, ← Nat.gcd_rec, Nat.gcd_comm]
instance mnl_each {W : HR} {n : Nat} {P : Nat → Pr} [m : ∀ i, Mn W (P i)] : MnL W (each n P) := ⟨fun vs H H' w h => allp_mn (fun Q hQ => by obtain ⟨i, _, rfl⟩ := each_mem hQ; exact m i) w h⟩
theorem allp_someL {A : Type} {C : A → Prop} {P : A → Pr} {H : Hp} : ∀ {n : List Nat} {xs : List V}, AllP (n.map fun _ => Some C P) xs H → ∃ as : List A, as.length = n.length ∧ (∀ a ∈ as, C a) ∧ AllP (as.map P) xs H
  | [], [], _ => ⟨[], rfl, (fun _ h => by cases h), True.intro⟩
  | [], _ :: _, h => h.elim
  | _ :: _, [], h => h.elim
  | _ :: n, x :: xs, ⟨⟨a, ca, pa⟩, h⟩ => by
    obtain ⟨as, e, c, p⟩ := allp_someL (n := n) h
    exact ⟨a :: as, by rw [List.length_cons, List.length_cons, e], fun b hb => by
      rcases List.mem_cons.mp hb with z | z
      · subst z; exact ca
      · exact c b z, pa, p⟩
theorem allp_some {A : Type} {C : A → Prop} {P : A → Pr} {H : Hp} {n : Nat} {xs : List V} (h : AllP (each n fun _ => Some C P) xs H) : ∃ as : List A, as.length = n ∧ (∀ a ∈ as, C a) ∧ AllP (as.map P) xs H := by
  obtain ⟨as, e, c, p⟩ := allp_someL h
  exact ⟨as, by rw [e, List.length_range], c, p⟩
theorem cl_sub {W : HR} {sp : Sp} {Ps : List Pr} {P P' : Pr} {X : XP} (h : Cl W sp Ps P X) (k : ∀ v H, P v H → P' v H) : Cl W sp Ps P' X := fun vs H a Q E q e => h vs H a Q E (fun v H2 w p => q v H2 w (k v H2 p)) e
/-- a speed as it is drawn -/
inductive Spd
  | i (n : Int)
  | t (a b : Int)
def Spd.d : Spd → D
  | .i n => .int n
  | .t a b => .tup [.int a, .int b]
def Spd.ok : Spd → Prop
  | .i n => Big 101 n
  | .t a b => 0 < b ∧ Big 101 a ∧ Big 101 b
instance mn_spd {W : HR} [w : PreT W] {K : PySem.W.Frag} : ∀ s : Spd, Mn W (Dv K s.d)
  | .i n => mn_is
  | .t a b => mn_tup (K := K) (Ps := [Is (.int a), Is (.int b)])
def SpdP (K : PySem.W.Frag) : Pr := Some (fun s : Spd => s.ok) fun s => Dv K s.d
instance mn_spdP {W : HR} [w : PreT W] {K : PySem.W.Frag} : Mn W (SpdP K) := mn_some (m := mn_spd)
theorem spd_good {s : Spd} (h : s.ok) : goodS s.d = true := by
  cases s with
  | i n => rfl
  | t a b => exact decide_eq_true h.1
section
variable {P : Program} {w : World} {K : PySem.W.Frag} {mg : Str → Option Value} {base : Heap} {CX : Addrs}
theorem ok_low {f : Addr} {fd : FuncData} (F : Fun K "_law_low" "_law_low" s__law_low f fd) (T : Txt P w K mg CX) : FnOk P w K mg base (L2N.CX P w) 1 f fd ["_law_top", "_law_bottom"] (sp_lowest_terms K) := by
  refine okW F sc__law_low (fun i => rfl) (by decide) (fun cdv A outer s H E hr => ⟨_, (pss_cons (ps_set (i := 2) sc__law_low.nd rfl (by first | exact Or.inl rfl | exact Or.inr rfl) (pe_callB call_abs (by rfl) T.n_abs (by decide +kernel) (pa_cons (pv 0) pa_nil))) (pss_cons (ps_set (i := 3) sc__law_low.nd rfl (by first | exact Or.inl rfl | exact Or.inr rfl) (pe_callB call_abs (by rfl) T.n_abs (by decide +kernel) (pa_cons (pv 1) pa_nil))) (pss_cons (ps_while (passes_of rfl) (pt_truth (pv 3) (fun _ => rfl)) (pss_one (ps_par (i := 2) (j := 3) rfl sc__law_low.nd rfl rfl (by decide) rfl rfl (pa_cons (pv 3) (pa_cons (pe_op op_mod (pe_callTy call_int1 (by rfl) T.n_int (by decide +kernel) (pa_cons (pv 2) pa_nil)) (pv 3)) pa_nil)) rfl))) (pss_cons (ps_if (pt_cmpR op_lt (pv 1) pe_int (nomark _)) (pss_one (ps_set (i := 2) sc__law_low.nd rfl (by first | exact Or.inl rfl | exact Or.inr rfl) (pe_un un_neg (pv 2)))) pss_nil) (pss_one (ps_ret (pe_tup (pa_cons (pe_op op_fd (pv 0) (pv 2)) (pa_cons (pe_op op_fd (pv 1) (pv 2)) pa_nil))))))))), fun i c => ⟨Dead, ?_, fun _ _ h => (dead h).elim⟩⟩)
  obtain ⟨t, b⟩ := i
  obtain ⟨hb, bb⟩ := c
  replace hb : b ≠ 0 := hb
  replace bb : Big 9000 b := bb
  show St (RsE E NoX 4) [some (Is (.int t)), some (Is (.int b)), none, none] _ Dead (Told K (Rat.divInt t b))
  obtain ⟨c0, c1, c2⟩ := low_terms (t := t) hb _ rfl
  have cb : Big 9000 (if b < 0 then -((Nat.gcd t.natAbs b.natAbs : Nat) : Int) else ((Nat.gcd t.natAbs b.natAbs : Nat) : Int)) := by
    have hle : Nat.gcd t.natAbs b.natAbs ≤ b.natAbs := Nat.gcd_le_right _ (by omega)
    have : (if b < 0 then -((Nat.gcd t.natAbs b.natAbs : Nat) : Int) else ((Nat.gcd t.natAbs b.natAbs : Nat) : Int)).natAbs = Nat.gcd t.natAbs b.natAbs := by split <;> omega
    unfold Big at *
    rw [this]
    exact Nat.lt_of_le_of_lt hle bb
  refine st_seq (st_set (ev_cb (ea_cons (ev_var rfl) ea_nil) opA_abs)) ?_
  refine st_seq (st_set (ev_cb (ea_cons (ev_var rfl) ea_nil) opA_abs)) ?_
  refine st_seq (M := [some (Is (.int t)), some (Is (.int b)), some (Is (.int ((Nat.gcd t.natAbs b.natAbs : Nat) : Int))), none]) ?_ ?_
  · refine st_while (A := Nat × Nat) (b := fun a => ((a.2 : Nat) : Int) != 0) (fun a => [some (Is (.int t)), some (Is (.int b)), some (Is (.int (a.1 : Int))), some (Is (.int (a.2 : Int)))]) (fun a => a.2) (fun a => Nat.gcd a.1 a.2 = Nat.gcd t.natAbs b.natAbs) (t.natAbs, b.natAbs) rfl sub_refl (fun a c => et_truI (ev_var rfl)) (fun a c h => ?_) (fun a c h => ?_)
    · have h2 : 0 < a.2 := by
        have : ((a.2 : Nat) : Int) ≠ 0 := by simpa using h
        omega
      refine ⟨(a.2, a.1 % a.2), (gcd_step a.1 a.2).trans c, Nat.mod_lt _ h2, ?_⟩
      refine st_post (st_par (ea_cons (ev_var rfl) (ea_cons (ev_op (ev_cb (ea_cons (ev_var rfl) ea_nil) opA_int) (ev_var rfl) (o_mod (by omega))) ea_nil))) (fun s H ty => ?_) (fun _ _ h => h)
      exact ty
    · have h2 : a.2 = 0 := by
        have : ((a.2 : Nat) : Int) = 0 := by simpa using h
        omega
      have e : a.1 = Nat.gcd t.natAbs b.natAbs := by rw [← c, h2, Nat.gcd_zero_right]
      rw [← e]
      exact sub_keep (sub_keep (sub_keep (sub_drop sub_nil)))
  refine st_seq (M := [some (Is (.int t)), some (Is (.int b)), some (Is (.int (if b < 0 then -((Nat.gcd t.natAbs b.natAbs : Nat) : Int) else ((Nat.gcd t.natAbs b.natAbs : Nat) : Int)))), none]) (st_if (et_test (ev_op (ev_var rfl) ev_c op2_I0)) (fun h => ?_) (fun h => ?_)) ?_
  · have hn : b < 0 := of_decide_eq_true h
    rw [if_pos hn]
    exact st_set (ev_un (ev_var rfl) op1_neg)
  · have hn : ¬ b < 0 := of_decide_eq_false h
    rw [if_neg hn]
    exact st_next
  · refine st_ret (Ev.sub (ev_tup (K := K) (ea_cons (ev_op (ev_var rfl) (ev_var rfl) (o_fd9 c0 cb (Nat.le_refl _))) (ea_cons (ev_op (ev_var rfl) (ev_var rfl) (o_fd9 c0 cb (Nat.le_refl _))) ea_nil))) ?_)
    rw [c1, c2]
    exact fun _ _ h => h
/-- two told ratios, f of them -/
def sp_t2 (K : PySem.W.Frag) (f : Rat → Rat → Rat) : Sp := SpW Evl.Ex Two.ok fun i => ⟨[Told K i.q, Told K i.r], Told K (f i.q i.r), NoX⟩
theorem cl_t2 {W : HR} [Pre W] {f : Rat → Rat → Rat} {n d e : Nat} {q r : Rat} (hn : n ≤ 400000) (hd : d + e ≤ 9000) (hq : Sz2 n d q) (hr : Sz2 n e r) : Cl W (sp_t2 K f) [Told K q, Told K r] (Told K (f q r)) NoX :=
  cl_of (W := Evl.Ex) (W' := W) (C := Two.ok) (f := fun i => ⟨[Told K i.q, Told K i.r], Told K (f i.q i.r), NoX⟩) ⟨n, d, e, q, r⟩ ⟨hn, hd, hq, hr⟩
theorem o_t0 {W : HR} [w : PreT W] {q : Rat} : Op2 W (rIx K) (Told K q) (Is (.int 0)) (Is (.int q.num)) := o_ixT (i := 0) rfl
theorem o_t1 {W : HR} [w : PreT W] {q : Rat} : Op2 W (rIx K) (Told K q) (Is (.int 1)) (Is (.int q.den)) := o_ixT (i := 1) rfl
theorem ok_add {f : Addr} {fd : FuncData} (F : Fun K "_law_add" "_law_add" s__law_add f fd) (D__law_low : Df P w K mg base 1 "_law_low" ["_law_top", "_law_bottom"] (sp_lowest_terms K)) : FnOk P w K mg base (L2N.CX P w) 2 f fd ["_law_a", "_law_b"] (sp_t2 K fun q r => q + r) := by
  refine okW F sc__law_add (fun i => rfl) (by decide) (fun cdv A outer s H E hr => ⟨_, (pss_one (ps_ret (pe_df D__law_low (hr.mono (by decide)) (L2N.takes_of rfl rfl rfl rfl) (pa_cons (pe_op op_addA (pe_op op_mulA (pe_ix ix_seq (pv 0) pe_int (fun _ _ => rfl)) (pe_ix ix_seq (pv 1) pe_int (fun _ _ => rfl))) (pe_op op_mulA (pe_ix ix_seq (pv 1) pe_int (fun _ _ => rfl)) (pe_ix ix_seq (pv 0) pe_int (fun _ _ => rfl)))) (pa_cons (pe_op op_mulA (pe_ix ix_seq (pv 0) pe_int (fun _ _ => rfl)) (pe_ix ix_seq (pv 1) pe_int (fun _ _ => rfl))) pa_nil))))), fun i c => ⟨Dead, ?_, fun _ _ h => (dead h).elim⟩⟩)
  obtain ⟨n, d, e, q, r⟩ := i
  obtain ⟨hn, hd, hq, hr'⟩ := c
  replace hn : n ≤ 400000 := hn
  replace hd : d + e ≤ 9000 := hd
  replace hq : Sz2 n d q := hq
  replace hr' : Sz2 n e r := hr'
  show St (RsE E NoX 2) [some (Told K q), some (Told K r)] _ Dead (Told K (q + r))
  have bq := sz_den hq
  have br := sz_den hr'
  refine st_ret (ev_call (ea_cons (ev_op (ev_op (ev_op (ev_var rfl) ev_c o_t0) (ev_op (ev_var rfl) ev_c o_t1) (o_mul (n := n) (m := e) hq.1 br (by omega))) (ev_op (ev_op (ev_var rfl) ev_c o_t0) (ev_op (ev_var rfl) ev_c o_t1) (o_mul (n := n) (m := d) hr'.1 bq (by omega))) o_add) (ea_cons (ev_op (ev_op (ev_var rfl) ev_c o_t1) (ev_op (ev_var rfl) ev_c o_t1) (o_mul (n := d) (m := e) bq br (by omega))) ea_nil)) (cl_sub (cl_low (den_ne q r) (big_mono (big_mul bq br) hd)) fun v H h => ?_))
  rw [rat_add] at h
  exact h
theorem ok_mul {f : Addr} {fd : FuncData} (F : Fun K "_law_mul" "_law_mul" s__law_mul f fd) (D__law_low : Df P w K mg base 1 "_law_low" ["_law_top", "_law_bottom"] (sp_lowest_terms K)) : FnOk P w K mg base (L2N.CX P w) 2 f fd ["_law_a", "_law_b"] (sp_t2 K fun q r => q * r) := by
  refine okW F sc__law_mul (fun i => rfl) (by decide) (fun cdv A outer s H E hr => ⟨_, (pss_one (ps_ret (pe_df D__law_low (hr.mono (by decide)) (L2N.takes_of rfl rfl rfl rfl) (pa_cons (pe_op op_mulA (pe_ix ix_seq (pv 0) pe_int (fun _ _ => rfl)) (pe_ix ix_seq (pv 1) pe_int (fun _ _ => rfl))) (pa_cons (pe_op op_mulA (pe_ix ix_seq (pv 0) pe_int (fun _ _ => rfl)) (pe_ix ix_seq (pv 1) pe_int (fun _ _ => rfl))) pa_nil))))), fun i c => ⟨Dead, ?_, fun _ _ h => (dead h).elim⟩⟩)
  obtain ⟨n, d, e, q, r⟩ := i
  obtain ⟨hn, hd, hq, hr'⟩ := c
  replace hn : n ≤ 400000 := hn
  replace hd : d + e ≤ 9000 := hd
  replace hq : Sz2 n d q := hq
  replace hr' : Sz2 n e r := hr'
  show St (RsE E NoX 2) [some (Told K q), some (Told K r)] _ Dead (Told K (q * r))
  have bq := sz_den hq
  have br := sz_den hr'
  refine st_ret (ev_call (ea_cons (ev_op (ev_op (ev_var rfl) ev_c o_t0) (ev_op (ev_var rfl) ev_c o_t0) (o_mul (n := n) (m := n) hq.1 hr'.1 (by omega))) (ea_cons (ev_op (ev_op (ev_var rfl) ev_c o_t1) (ev_op (ev_var rfl) ev_c o_t1) (o_mul (n := d) (m := e) bq br (by omega))) ea_nil)) (cl_sub (cl_low (den_ne q r) (big_mono (big_mul bq br) hd)) fun v H h => ?_))
  rw [rat_mul] at h
  exact h
/-! draws in expressions -/
theorem o_eqR {W : HR} [w : PreT W] {lo hi j : Int} : Op2 W (rEqA K) (Rng lo hi) (Is (.int j)) Boo := op2_some1 fun a _ => op2_sub o_eqI fun v H e => ⟨_, True.intro, e⟩
theorem o_subR {W : HR} [w : PreT W] {lo hi j : Int} : Op2 W (rI0 fun i j => .int (i - j)) (Rng lo hi) (Is (.int j)) (Rng (lo - j) (hi - j)) := op2_some1 fun a h => op2_sub op2_I0 fun v H e => ⟨_, by omega, e⟩
theorem o_addLR {W : HR} [w : PreT W] {lo hi j : Int} : Op2 W (rAddA K) (Is (.int j)) (Rng lo hi) (Rng (j + lo) (j + hi)) := op2_some2 fun a h => op2_sub o_add fun v H e => ⟨_, by omega, e⟩
theorem o_mul2R {W : HR} [w : PreT W] {lo hi : Int} (h : -(2 ^ 120) < lo ∧ hi < 2 ^ 120) : Op2 W rMulA (Is (.int 2)) (Rng lo hi) (Rng (2 * lo) (2 * hi)) := op2_some2 fun a ha => op2_sub (o_mul (n := 2) (m := 120) (big_of (by decide) (by decide)) (big_of (by omega) (by omega)) (by decide)) fun v H e => ⟨_, by omega, e⟩
theorem o_mul3R {W : HR} [w : PreT W] {lo hi : Int} (h : -(2 ^ 120) < lo ∧ hi < 2 ^ 120) : Op2 W rMulA (Is (.int 3)) (Rng lo hi) (Rng (3 * lo) (3 * hi)) := op2_some2 fun a ha => op2_sub (o_mul (n := 2) (m := 120) (big_of (by decide) (by decide)) (big_of (by omega) (by omega)) (by decide)) fun v H e => ⟨_, by omega, e⟩
theorem big300 {m : Int} (h : -(2 ^ 120) < m ∧ m < 2 ^ 120) : Big 300 m := big_mono (n := 120) (big_of h.1 h.2) (by decide)
theorem ten30 : (10 : Int) ^ 30 = 1000000000000000000000000000000 := by decide
end
end U

namespace U
open PySem PySem.Spec PyProof.Rows L2
/-! ### rows as objects: len, == -/
abbrev s_Row___len__ : Stmt := inClass (top 19) 1
theorem sc_Row___len__ : FnScope ["self"] ["self"] (defScope s_Row___len__) := ⟨rfl, rfl, rfl, by decide +kernel, rfl, by decide +kernel, by decide +kernel⟩
abbrev s_Row___eq__ : Stmt := inClass (top 19) 2
theorem sc_Row___eq__ : FnScope ["self", "other"] ["self", "other"] (defScope s_Row___eq__) := ⟨rfl, rfl, rfl, by decide +kernel, rfl, by decide +kernel, by decide +kernel⟩
theorem cutL_len {A : Type} {xs : List A} {lo hi : Option Int} : (cutL xs lo hi).length ≤ xs.length := by
  unfold cutL
  rw [List.length_take, List.length_drop]
  omega
theorem cutL_mem {A : Type} {xs : List A} {lo hi : Option Int} {x : A} (h : x ∈ cutL xs lo hi) : x ∈ xs := List.mem_of_mem_drop (List.mem_of_mem_take h)
section
variable {P : Program} {w : World} {K : PySem.W.Frag} {mg : Str → Option Value} {base : Heap} {CX : Addrs}
theorem o_ixO {W : HR} [w : PreL W] {ds : List D} {i : Int} (h : 0 ≤ i ∧ i < ds.length) : Op2 W (rIx K) (Dv K (.lst ds)) (Is (.int i)) (Dv K (ds.getD i.toNat .non)) := by
  have e : i = (i.toNat : Int) := by omega
  have h2 : i.toNat < ds.length := by omega
  exact fun x y H a b Q q => o_ixDL (K := K) (W := W) h2 x y H a (show y = V.int (i.toNat : Int) by rw [← e]; exact b) Q q
instance mn_boo {W : HR} : Mn W Boo := mn_some
theorem dvl_list {A : Type} {f : A → D} {as : List A} : DvL K (as.map f) = as.map fun a => Dv K (f a) := by rw [dvl_map, List.map_map]; rfl
/-- weights as they are drawn, speeds as they are drawn -/
def WtP (K : PySem.W.Frag) (n : Nat) : Pr := Some (fun ws : List Int => ws.length = n) fun ws => Dv K (.lst (ws.map D.int))
def SpsP (K : PySem.W.Frag) (n : Nat) : Pr := Some (fun ss : List Spd => ss.length = n ∧ ∀ s ∈ ss, s.ok) fun ss => Dv K (.lst (ss.map Spd.d))
instance mn_wtP {W : HR} [PreL W] {n : Nat} : Mn W (WtP K n) := mn_some
instance mn_spsP {W : HR} [PreL W] {n : Nat} : Mn W (SpsP K n) := mn_some
theorem wt_of {n : Nat} {v : V} {H : Hp} (h : Own (each n fun _ => Rng 1 10) v H) : WtP K n v H := by
  obtain ⟨p, xs, e, hp, s, ha⟩ := h
  obtain ⟨ws, l, _, a⟩ := allp_some ha
  exact ⟨ws, l, p, xs, e, hp, s, by rw [dvl_list]; exact a⟩
theorem sps_of {n : Nat} {v : V} {H : Hp} (h : New (each n fun _ => SpdP K) v H) : SpsP K n v H := by
  obtain ⟨p, xs, e, hp, ha⟩ := h
  obtain ⟨ss, l, c, a⟩ := allp_some ha
  exact ⟨ss, ⟨l, c⟩, p, xs, e, hp, True.intro, by rw [dvl_list]; exact a⟩
end
def ratD (q : Rat) : D := .tup [.int q.num, .int q.den]
theorem ints_dvl {K : PySem.W.Frag} {ws : List Int} : intPs ws = DvL K (ws.map D.int) := by rw [dvl_list]; rfl
theorem told_dvl {K : PySem.W.Frag} {qs : List Rat} : toldPs K qs = DvL K (qs.map ratD) := by rw [dvl_list]; rfl
theorem nodL_map {A : Type} {f : A → D} {as : List A} (h : ∀ a ∈ as, (f a).nod = true) : D.nodL (as.map f) = true := by
  induction as with
  | nil => rfl
  | cons a as ih =>
    show ((f a).nod && D.nodL (as.map f)) = true
    rw [h a List.mem_cons_self, ih fun b hb => h b (List.mem_cons_of_mem _ hb)]; rfl
theorem depL_map {A : Type} {f : A → D} {k : Nat} {as : List A} (h : ∀ a ∈ as, (f a).dep ≤ k) : D.depL (as.map f) ≤ k := by
  induction as with
  | nil => exact Nat.zero_le _
  | cons a as ih =>
    show max (f a).dep (D.depL (as.map f)) ≤ k
    have := h a List.mem_cons_self
    have := ih fun b hb => h b (List.mem_cons_of_mem _ hb)
    omega
theorem eqL_map {A : Type} [DecidableEq A] {f : A → D} (h : ∀ a b, D.eq (f a) (f b) = decide (a = b)) : ∀ {as bs : List A}, D.eqL (as.map f) (bs.map f) = decide (as = bs)
  | [], [] => rfl
  | [], _ :: _ => rfl
  | _ :: _, [] => rfl
  | a :: as, b :: bs => by
    show (D.eq (f a) (f b) && D.eqL (as.map f) (bs.map f)) = _
    rw [h, eqL_map h]
    by_cases h1 : a = b <;> by_cases h2 : as = bs <;> simp [h1, h2]
theorem eq_ratD (q r : Rat) : D.eq (ratD q) (ratD r) = decide (q = r) := by
  have e : D.eq (ratD q) (ratD r) = ((q.num == r.num) && (((q.den : Int) == (r.den : Int)) && true)) := rfl
  rw [e]
  by_cases h : q = r
  · subst h; simp
  · rw [decide_eq_false h]
    by_cases h1 : q.num = r.num
    · have h2 : q.den ≠ r.den := fun h2 => h (Rat.ext h1 h2)
      have h3 : ((q.den : Int) == (r.den : Int)) = false := by rw [beq_eq_false_iff_ne]; omega
      rw [h3]; simp
    · have h3 : (q.num == r.num) = false := by rw [beq_eq_false_iff_ne]; exact h1
      rw [h3]; rfl
theorem eq_intD (a b : Int) : D.eq (.int a) (.int b) = decide (a = b) := by
  show (a == b) = _
  by_cases h : a = b <;> simp [h]
def wD (ws : List Int) : D := .tup (ws.map D.int)
def sD (qs : List Rat) : D := .tup (qs.map ratD)
theorem wD_ok (ws : List Int) : (wD ws).ok := ⟨nodL_map fun _ _ => rfl, by have := depL_map (f := D.int) (k := 0) (as := ws) fun _ _ => Nat.le_refl _; show D.depL (ws.map D.int) + 1 ≤ 64; omega⟩
theorem sD_ok (qs : List Rat) : (sD qs).ok := ⟨nodL_map fun _ _ => rfl, by have := depL_map (f := ratD) (k := 1) (as := qs) fun _ _ => Nat.le_refl _; show D.depL (qs.map ratD) + 1 ≤ 64; omega⟩
theorem bD_ok (b : Bool) : (D.bl b).ok := ⟨rfl, Nat.zero_le _⟩
theorem eq_wD (a b : List Int) : D.eq (wD a) (wD b) = decide (a = b) := eqL_map eq_intD
theorem eq_sD (a b : List Rat) : D.eq (sD a) (sD b) = decide (a = b) := eqL_map eq_ratD
theorem eq_bD (a b : Bool) : D.eq (.bl a) (.bl b) = decide (a = b) := by cases a <;> cases b <;> rfl
structure RowT where
  ws : List Int
  qs : List Rat
  b : Bool
def RowT.pr (K : PySem.W.Frag) (CX : Addrs) (r : RowT) : Pr := Ob CX.Row (rowFs K r.ws r.qs r.b)
inductive EqW
  | row (r r' : RowT)
  | tup (r : RowT) (Ps : List Pr)
def eqW (K : PySem.W.Frag) (CX : Addrs) : EqW → Way
  | .row r r' => ⟨[r.pr K CX, r'.pr K CX], Is (.bl (decide (r.ws = r'.ws) && (decide (r.qs = r'.qs) && decide (r.b = r'.b)))), NoX⟩
  | .tup r Ps => ⟨[r.pr K CX, Tup K Ps], Is (.bl false), NoX⟩
def okEq : EqW → Prop
  | .row _ _ => True
  | .tup _ Ps => MnL Evl.Ex Ps
def sp_eq (K : PySem.W.Frag) (CX : Addrs) : Sp := SpW Evl.Ex okEq (eqW K CX)
def sp_len (K : PySem.W.Frag) (CX : Addrs) : Sp := SpW Evl.Ex (fun r : RowT => r.ws.length ≤ 1000) fun r => ⟨[r.pr K CX], Is (.int (r.ws.length : Int)), NoX⟩
section
variable {P : Program} {w : World} {K : PySem.W.Frag} {mg : Str → Option Value} {base : Heap} {CX : Addrs}
instance mnl_rowFs {W : HR} [w : PreT W] [z : PreZ W] {ws : List Int} {qs : List Rat} {b : Bool} : MnL W ((rowFs K ws qs b).map (·.2)) := by
  unfold rowFs
  show MnL W [TupN (intPs ws), TupN (toldPs K qs), Is (.bl b), Tup K (intPs (pairsOf ws b)), Is _, Is _, Told K _, Told K _]
  infer_instance
instance mn_row {W : HR} [w : PreT W] [wi : PreI W] [z : PreZ W] {r : RowT} : Mn W (r.pr K CX) := by
  unfold RowT.pr
  infer_instance
section
variable {Y : Rs} [w : PreT Y.W] {G : Ctx} {te : TE} {r : RowT}
theorem ev_rw {w' : World} (T : Txt P w' K mg CX) (h : Ev Y G te (r.pr K CX)) : Ev Y G (tFld K te "weights") (Dv K (wD r.ws)) := (ev_fld T.r_cls (T.r_no _ (by decide)) rfl h).sub fun v H z => by
  show Tup K (DvL K (r.ws.map D.int)) v H
  rw [← ints_dvl]; exact tupN_tup z
theorem ev_rs {w' : World} (T : Txt P w' K mg CX) (h : Ev Y G te (r.pr K CX)) : Ev Y G (tFld K te "speeds") (Dv K (sD r.qs)) := (ev_fld T.r_cls (T.r_no _ (by decide)) rfl h).sub fun v H z => by
  show Tup K (DvL K (r.qs.map ratD)) v H
  rw [← told_dvl]; exact tupN_tup z
theorem ev_rb {w' : World} (T : Txt P w' K mg CX) (h : Ev Y G te (r.pr K CX)) : Ev Y G (tFld K te "wall") (Dv K (.bl r.b)) := ev_fld T.r_cls (T.r_no _ (by decide)) rfl h
theorem ev_rp {w' : World} (T : Txt P w' K mg CX) (h : Ev Y G te (r.pr K CX)) : Ev Y G (tFld K te "pairs") (Dv K (wD (pairsOf r.ws r.b))) := (ev_fld T.r_cls (T.r_no _ (by decide)) rfl h).sub fun v H z => by
  show Tup K (DvL K ((pairsOf r.ws r.b).map D.int)) v H
  rw [← ints_dvl]; exact z
theorem ev_rg {w' : World} (T : Txt P w' K mg CX) (h : Ev Y G te (r.pr K CX)) : Ev Y G (tFld K te "gap_count") (Is (.int ((pairsOf r.ws r.b).length : Int))) := ev_fld T.r_cls (T.r_no _ (by decide)) rfl h
theorem ev_rl {w' : World} (T : Txt P w' K mg CX) (h : Ev Y G te (r.pr K CX)) : Ev Y G (tFld K te "is_like") (Dv K (.bl (decide ((r.ws.count (r.ws.getD 0 0) : Int) = (r.ws.length : Int))))) := ev_fld T.r_cls (T.r_no _ (by decide)) rfl h
theorem ev_r1 {w' : World} (T : Txt P w' K mg CX) (h : Ev Y G te (r.pr K CX)) : Ev Y G (tFld K te "first_sum") (Told K (firstOf r.ws r.qs)) := ev_fld T.r_cls (T.r_no _ (by decide)) rfl h
theorem ev_r2 {w' : World} (T : Txt P w' K mg CX) (h : Ev Y G te (r.pr K CX)) : Ev Y G (tFld K te "second_sum") (Told K (secondOf r.ws r.qs)) := ev_fld T.r_cls (T.r_no _ (by decide)) rfl h
end
theorem hasT_row (T : Txt P w K mg CX) {r : RowT} : HasT K (.ref CX.Row) (r.pr K CX) := hasT_ob T.r_in
theorem ok_len {f : Addr} {fd : FuncData} (F : Fun K "__len__" "Row.__len__" s_Row___len__ f fd) (T : Txt P w K mg CX) : FnOk P w K mg base (L2N.CX P w) 1 f fd ["self"] (sp_len K CX) := by
  refine okW F sc_Row___len__ (fun i => rfl) (by decide) (fun cdv A outer s H E hr => ⟨_, (pss_one (ps_ret (pe_callB call_lenA (by rfl) T.n_len (by decide +kernel) (pa_cons (pe_fld (pv 0) rfl) pa_nil)))), fun r c => ⟨Dead, ?_, fun _ _ h => (dead h).elim⟩⟩)
  show St (RsE E NoX 1) [some (r.pr K CX)] _ Dead (Is (.int (r.ws.length : Int)))
  have e : (r.ws.map D.int).length = r.ws.length := List.length_map _
  rw [← e]
  exact st_ret (ev_cb (ea_cons (ev_rw T (ev_var rfl)) ea_nil) opA_lenDT)
theorem ok_eq {f : Addr} {fd : FuncData} (F : Fun K "__eq__" "Row.__eq__" s_Row___eq__ f fd) (T : Txt P w K mg CX) : FnOk P w K mg base (L2N.CX P w) 1 f fd ["self", "other"] (sp_eq K CX) := by
  refine okW F sc_Row___eq__ (fun i => by cases i <;> rfl) (by decide) (fun cdv A outer s H E hr => ⟨_, (pss_one (ps_ret (pe_and (pe_callB call_isi (by rfl) T.n_isinstance (by decide +kernel) (pa_cons (pv 1) (pa_cons (pe_glob (v := .ref CX.Row) (by rfl) T.g_Row rfl) pa_nil))) (pe_and (pe_cmpR (op_eqA hr.units) (pe_fld (pv 0) rfl) (pe_fld (pv 1) rfl) (nomark _)) (pe_and (pe_cmpR (op_eqA hr.units) (pe_fld (pv 0) rfl) (pe_fld (pv 1) rfl) (nomark _)) (pe_one (pe_cmpR (op_eqA hr.units) (pe_fld (pv 0) rfl) (pe_fld (pv 1) rfl) (nomark _)))))))), fun i c => ⟨Dead, ?_, fun _ _ h => (dead h).elim⟩⟩)
  cases i with
  | row r r' =>
    show St (RsE E NoX 2) [some (r.pr K CX), some (r'.pr K CX)] _ Dead (Is (.bl (decide (r.ws = r'.ws) && (decide (r.qs = r'.qs) && decide (r.b = r'.b)))))
    refine st_ret (Ev.to (ev_andV (b := decide (r.ws = r'.ws) && (decide (r.qs = r'.qs) && decide (r.b = r'.b))) (ev_cb (ea_cons (ev_var rfl) (ea_cons ev_c ea_nil)) (opA_isiX (hasT_row T) (.own _) T.k_Row_Row)) (fun _ => ev_andV (Ev.to (ev_op (ev_rw T (ev_var rfl)) (ev_rw T (ev_var rfl)) (o_eqD (wD_ok _) (wD_ok _))) (by rw [eq_wD])) (fun _ => ev_andV (Ev.to (ev_op (ev_rs T (ev_var rfl)) (ev_rs T (ev_var rfl)) (o_eqD (sD_ok _) (sD_ok _))) (by rw [eq_sD])) (fun _ => Ev.to (ev_op (ev_rb T (ev_var rfl)) (ev_rb T (ev_var rfl)) (o_eqD (bD_ok _) (bD_ok _))) (by rw [eq_bD]))))) rfl)
  | tup r Ps =>
    haveI : MnL Evl.Ex Ps := c
    show St (RsE E NoX 2) [some (r.pr K CX), some (Tup K Ps)] _ Dead (Is (.bl false))
    exact st_ret (Ev.to (ev_andV (b := false) (ev_cb (ea_cons (ev_var rfl) (ea_cons ev_c ea_nil)) (opA_isiX (hasT_of hasTy_tup) (.own _) T.k_tuple_Row)) (fun h => by cases h)) rfl)
end
end U

namespace U
open PySem PySem.Spec PyProof.Rows L2
/-! ### rows.py: rows led along -/
abbrev s_Row_with_speeds : Stmt := inClass (top 19) 3
theorem sc_Row_with_speeds : FnScope ["self", "speeds"] ["self", "speeds"] (defScope s_Row_with_speeds) := ⟨rfl, rfl, rfl, by decide +kernel, rfl, by decide +kernel, by decide +kernel⟩
abbrev s_Row_quicker : Stmt := inClass (top 19) 5
theorem sc_Row_quicker : FnScope ["self", "factor", "told", "speed"] ["self", "factor"] (defScope s_Row_quicker) := ⟨rfl, rfl, rfl, by decide +kernel, rfl, by decide +kernel, by decide +kernel⟩
abbrev s_Row_turned : Stmt := inClass (top 19) 4
theorem sc_Row_turned : FnScope ["self"] ["self"] (defScope s_Row_turned) := ⟨rfl, rfl, rfl, by decide +kernel, rfl, by decide +kernel, by decide +kernel⟩
abbrev s_Row_mirrored : Stmt := inClass (top 19) 6
theorem sc_Row_mirrored : FnScope ["self", "speed"] ["self"] (defScope s_Row_mirrored) := ⟨rfl, rfl, rfl, by decide +kernel, rfl, by decide +kernel, by decide +kernel⟩
abbrev s_Row_hurried : Stmt := inClass (top 19) 7
theorem sc_Row_hurried : FnScope ["self", "more", "told", "speed"] ["self", "more"] (defScope s_Row_hurried) := ⟨rfl, rfl, rfl, by decide +kernel, rfl, by decide +kernel, by decide +kernel⟩
section
variable {P : Program} {w : World} {K : PySem.W.Frag} {mg : Str → Option Value} {base : Heap} {CX : Addrs}
/-- a row that can be made -/
def RG (r : RowT) : Prop := ∃ n d, GoodW.ok ⟨.T, .L, r.ws, n, d, 8000, r.qs, r.b⟩
theorem RG.of {r : RowT} (h : RG r) (kw ks : Kd) : ∃ n d, GoodW.ok ⟨kw, ks, r.ws, n, d, 8000, r.qs, r.b⟩ := let ⟨n, d, a, b, c, e, f, g, h1, h2, h3⟩ := h; ⟨n, d, a, b, c, e, f, g, h1, h2, h3⟩
/-- with_speeds: good ones, or a fault of the speeds -/
inductive WsI
  | good (r : RowT) (k : Kd) (qs : List Rat)
  | bad (r : RowT) (d : D) (e : Int × Str)
def okWs : WsI → Prop
  | .good r k qs => RG ⟨r.ws, qs, r.b⟩
  | .bad r d e => dueC (wD r.ws) d (.bl r.b) = some e
def wWs (K : PySem.W.Frag) (CX : Addrs) : WsI → Way
  | .good r k qs => ⟨[r.pr K CX, SeqP K k (ratPs K 8000 qs)], RowT.pr K CX ⟨r.ws, qs, r.b⟩, NoX⟩
  | .bad r d e => ⟨[r.pr K CX, Dv K d], fun _ _ => False, BX CX e⟩
def sp_ws (K : PySem.W.Frag) (CX : Addrs) : Sp := SpW Evl.Ex okWs (wWs K CX)
theorem no_made {x : Addr} {H : Hp} (h : Ob CX.Row [("none", fun _ _ => False)] (.ref x) H) : False := by
  obtain ⟨_, _, fs, _, _, hn, hp⟩ := h
  cases fs with
  | nil => cases hn
  | cons f fs => exact hp.1
theorem ok_ws {f : Addr} {fd : FuncData} (F : Fun K "with_speeds" "Row.with_speeds" s_Row_with_speeds f fd) (T : Txt P w K mg CX) (D_Row_3 : DkD P w K mg base 6 "Row" CX.Row ["self", "weights", "speeds", "wall"] [] (SpI CX.Row okRow (rowW K CX))) :
    FnOk P w K mg base (L2N.CX P w) 8 f fd ["self", "speeds"] (sp_ws K CX) := by
  refine okW F sc_Row_with_speeds (fun i => by cases i <;> rfl) (by decide) (fun cdv A outer s H E hr => ⟨_, (pss_one (ps_ret (pe_mk D_Row_3 (hr.mono (by decide)) (L2N.takes_of rfl rfl rfl rfl) (pa_cons (pe_fld (pv 0) rfl) (pa_cons (pv 1) (pa_cons (pe_fld (pv 0) rfl) pa_nil)))))), fun i c => ⟨Dead, ?_, fun _ _ h => (dead h).elim⟩⟩)
  cases i with
  | good r k qs =>
    obtain ⟨n, d, c⟩ := RG.of c .T k
    show St (RsE E NoX 2) [some (r.pr K CX), some (SeqP K k (ratPs K 8000 qs))] _ Dead (RowT.pr K CX ⟨r.ws, qs, r.b⟩)
    exact st_ret (ev_mk (f := rowW K CX) (Ps := [TupN (intPs r.ws), SeqP K k (ratPs K 8000 qs), Is (.bl r.b)]) (RowI.good ⟨.T, k, r.ws, n, d, 8000, qs, r.b⟩) c (fun vs H h => by rw [List.append_nil]; exact h) (ea_cons (ev_fld T.r_cls (T.r_no _ (by decide)) rfl (ev_var (P := r.pr K CX) rfl)) (ea_cons (ev_var rfl) (ea_cons (ev_fld T.r_cls (T.r_no _ (by decide)) rfl (ev_var (P := r.pr K CX) rfl)) ea_nil))) (fun _ _ _ h => h))
  | bad r d e =>
    show St (RsE E (BX CX e) 2) [some (r.pr K CX), some (Dv K d)] _ Dead (fun _ _ => False)
    exact st_ret (ev_mkX (f := rowW K CX) (Ps := [Dv K (wD r.ws), Dv K d, Dv K (.bl r.b)]) (RowI.bad (wD r.ws) d (.bl r.b) e) c (fun vs H h => by rw [List.append_nil]; exact h) (ea_cons (ev_rw T (ev_var rfl)) (ea_cons (ev_var rfl) (ea_cons (ev_rb T (ev_var rfl)) ea_nil))) (fun x H h => no_made h) (fun _ _ _ h => h) (sub_none rfl))
theorem cl_wsG {W : HR} [Pre W] {r : RowT} {k : Kd} {qs : List Rat} (h : RG ⟨r.ws, qs, r.b⟩) : Cl W (sp_ws K CX) [r.pr K CX, SeqP K k (ratPs K 8000 qs)] (RowT.pr K CX ⟨r.ws, qs, r.b⟩) NoX := cl_of (W := Evl.Ex) (C := okWs) (f := wWs K CX) (.good r k qs) h
theorem lk_no {r : RowT} {m : Str} (h : m ∉ (["weights", "speeds", "wall", "pairs", "gap_count", "is_like", "first_sum", "second_sum"] : List Str)) : (rowFs K r.ws r.qs r.b).lookup m = none := by
  have e : (rowFs K r.ws r.qs r.b).map (·.1) = (["weights", "speeds", "wall", "pairs", "gap_count", "is_like", "first_sum", "second_sum"] : List Str) := rfl
  rw [List.lookup_eq_none_iff]
  intro p hp
  rw [bne_iff_ne]
  intro z
  exact h (by rw [← e, z]; exact List.mem_map.mpr ⟨p, hp, rfl⟩)
/-- each speed and the ratio are of such a size -/
def Szs (n d : Nat) (r : RowT) (q : Rat) : Prop := n ≤ 100000 ∧ d ≤ 4000 ∧ Sz2 n d q ∧ ∀ x ∈ r.qs, Sz2 n d x
inductive LdI
  | good (r : RowT) (x : D)
  | bad (r : RowT) (x : D)
  | shut (r : RowT) (x : D)
def ledR (f : Rat → Rat → Rat) (r : RowT) (x : D) : RowT := ⟨r.ws, r.qs.map fun q => f q (valD x), r.b⟩
def okQk : LdI → Prop
  | .good r x => goodS x = true ∧ Big 8000 (botD x) ∧ (∃ n d, Szs n d r (valD x)) ∧ RG (ledR (fun q z => q * z) r x)
  | .bad r x => goodS x = false
  | .shut r x => False
def wQk (K : PySem.W.Frag) (CX : Addrs) : LdI → Way
  | .good r x => ⟨[r.pr K CX, Dv K x], RowT.pr K CX (ledR (fun q z => q * z) r x), NoX⟩
  | .bad r x => ⟨[r.pr K CX, Dv K x], fun _ _ => False, RX CX⟩
  | .shut r x => ⟨[r.pr K CX, Dv K x], fun _ _ => False, NoX⟩
def sp_qk (K : PySem.W.Frag) (CX : Addrs) : Sp := SpW Evl.Ex okQk (wQk K CX)
theorem cl_rofD {W : HR} [Pre W] {x : D} {Q : Pr} (h : goodS x = false) : Cl W (sp_ratio_of K CX) [Dv K x] Q (RX CX) := fun vs H a Q' E q e => by
  obtain ⟨o, ho, k⟩ := odd_of (K := K) x h
  obtain ⟨v, rfl, hv⟩ := allp1 a
  exact cl_rofX (K := K) (CX := CX) (W := W) (Q := Q) ho [v] H ⟨k v H hv, True.intro⟩ Q' E q e
theorem allp_imp' {A : Type} {P P' : A → Pr} {H : Hp} : ∀ {as : List A} {xs : List V}, (∀ a ∈ as, ∀ v, P a v H → P' a v H) → AllP (as.map P) xs H → AllP (as.map P') xs H
  | [], [], _, _ => True.intro
  | [], _ :: _, _, h => h
  | _ :: _, [], _, h => h
  | a :: as, x :: xs, k, h => ⟨k a List.mem_cons_self x h.1, allp_imp' (fun b hb => k b (List.mem_cons_of_mem _ hb)) h.2⟩
theorem told_rat {qs : List Rat} {v : V} {H : Hp} (hq : ∀ q ∈ qs, q.den < 2 ^ 8000) (h : Lst K (toldPs K qs) v H) : Lst K (ratPs K 8000 qs) v H := by
  obtain ⟨p, xs, e, hp, sf, ha⟩ := h
  exact ⟨p, xs, e, hp, sf, allp_imp' (fun q hm v h => told_ratD (hq q hm) h) ha⟩
theorem rg_den {r : RowT} (h : RG r) : ∀ q ∈ r.qs, q.den < 2 ^ 8000 := fun q hq => by
  obtain ⟨n, d, c⟩ := h
  have := (c.qs q hq).2
  have hd : d ≤ 400 := c.d
  exact Nat.lt_of_lt_of_le this (Nat.pow_le_pow_right (by decide) (show d ≤ 8000 by omega))
end
end U

namespace U
open PySem PySem.Spec PyProof.Rows L2
/-! ### quicker, turned, mirrored, hurried -/
section
variable {P : Program} {w : World} {K : PySem.W.Frag} {mg : Str → Option Value} {base : Heap} {CX : Addrs}
theorem each_map {qs : List Rat} {g : Rat → Rat} : each (toldPs K qs).length (fun i => Told K (g (qs.getD i 0))) = toldPs K (qs.map g) := by
  rw [each_told]
  congr 1
  unfold toldPs
  rw [List.length_map]
  exact List.ext_getElem (by simp) (fun i h1 h2 => by
    simp only [List.getElem_map, List.getElem_range]
    rw [List.getD_eq_getElem?_getD, List.getElem?_eq_getElem (by simpa using h2)]; rfl)
theorem szs_at {n d : Nat} {r : RowT} {q : Rat} (h : Szs n d r q) {i : Nat} (hi : i < r.qs.length) : Sz2 n d (r.qs.getD i 0) := h.2.2.2 _ (by rw [List.getD_eq_getElem?_getD, List.getElem?_eq_getElem hi]; exact List.getElem_mem hi)
theorem few_qs {r : RowT} {g : Rat → Rat} (h : RG ⟨r.ws, r.qs.map g, r.b⟩) : r.qs.length ≤ 40 := by
  obtain ⟨n, d, c⟩ := h
  have h1 : (r.qs.map g).length = r.ws.length := c.len
  have h2 : r.ws.length ≤ 40 := c.many
  rw [List.length_map] at h1
  omega
/-- a led row's speeds, made by a def of two ratios -/
theorem ev_led {Y : Rs} [w : PreT Y.W] [Pre Y.W] {G : Ctx} [mc : MnC Y.W G] {wi : TI} {te : TE} {g : Rat → Rat} {r : RowT} {j : Nat} {own : List Nat} (hr : RG ⟨r.ws, r.qs.map g, r.b⟩) (h : Ev Y G (tLc wi (gName j) tYes te own) (New (each (toldPs K r.qs).length fun i => Told K (g (r.qs.getD i 0))))) : Ev Y G (tLc wi (gName j) tYes te own) (SeqP K .L (ratPs K 8000 (r.qs.map g))) :=
  Ev.sub h fun v H hn => told_rat (rg_den hr) (new_told (by rw [← each_map]; exact hn))
theorem ok_qk {f : Addr} {fd : FuncData} (F : Fun K "quicker" "Row.quicker" s_Row_quicker f fd) (T : Txt P w K mg CX) (D_ratio_of : Df P w K mg base 3 "ratio_of" ["thing"] (sp_ratio_of K CX)) (D_times : Df P w K mg base 4 "times" ["one", "other"] (sp_times K CX))
    (D_Row_with_speeds : Dm P w K mg base 8 CX.Row "with_speeds" ["self", "speeds"] (sp_ws K CX)) : FnOk P w K mg base (L2N.CX P w) 9 f fd ["self", "factor"] (sp_qk K CX) := by
  refine okW F sc_Row_quicker (fun i => by cases i <;> rfl) (by decide) (fun cdv A outer s H E hr => ⟨_, (pss_cons (ps_set (i := 2) sc_Row_quicker.nd rfl (by first | exact Or.inl rfl | exact Or.inr rfl) (pe_df D_ratio_of (hr.mono (by decide)) (L2N.takes_of rfl rfl rfl rfl) (pa_cons (pv 1) pa_nil))) (pss_one (ps_ret (pe_meS D_Row_with_speeds (hr.mono (by decide)) (L2N.takes_of rfl rfl rfl rfl) (pv 0) (pa_cons (pe_lc (own := [("speed", 3)]) (g := gName 3) (by rfl) sc_Row_quicker.nd (pi_tup (pe_fld (pv 0) rfl)) (blkOk_by (own := [("speed", 3)]) (N := ["self", "factor", "told", "speed"]) (sc := defScope s_Row_quicker) (by decide +kernel)) (fun _ _ _ _ _ => pg_name (i := 3) sc_Row_quicker.nd rfl (by first | exact Or.inl rfl | exact Or.inr rfl)) (fun _ _ _ _ _ => pts_nil) (fun _ _ _ _ _ => (pe_df D_times (hr.mono (by decide)) takesF (pa_cons (pv 3) (pa_cons (pv 2) pa_nil))))) pa_nil))))), fun i c => ⟨Dead, ?_, fun _ _ h => (dead h).elim⟩⟩)
  cases i with
  | good r x =>
    obtain ⟨g, bx, ⟨n, d, hs⟩, hg⟩ := c
    show St (RsE E NoX 4) [some (r.pr K CX), some (Dv K x), none, none] _ Dead (RowT.pr K CX (ledR (fun q z => q * z) r x))
    refine st_seq (st_set (P := Told K (valD x)) (ev_call (ea_cons (Ev.sub (ev_var rfl) fun v H p => ratd_of (n := 8000) g bx p) ea_nil) (cl_ratio_of (by decide)))) ?_
    have few := few_qs (g := fun q => q * valD x) hg
    refine st_ret (ev_meS (Fs := rowFs K r.ws r.qs r.b) (ev_var (P := r.pr K CX) rfl) (lk_no (by decide)) (ea_cons (P1 := SeqP K .L (ratPs K 8000 (r.qs.map fun q => q * valD x))) (ev_led hg (ev_lc (Y := RsE E NoX 4) (ei_tup (Y := RsE E NoX 4) (ev_asT (ev_fld T.r_cls (T.r_no _ (by decide)) rfl (ev_var (P := r.pr K CX) rfl)))) ?_ (fun i => mn_told) (fun i => mn_told) (fun i hi => ?_) (fun i acc H' _ h => True.intro))) ea_nil) (cl_wsG (r := r) (k := .L) hg))
    · unfold toldPs; rw [List.length_map]; omega
    · have hi' : i < r.qs.length := by unfold toldPs at hi; rw [List.length_map] at hi; exact hi
      rw [nth_told hi']
      have h1 := szs_at hs hi'
      exact ev_call (ea_cons (P1 := RatD K d (r.qs.getD i 0)) (Ev.sub (ev_var rfl) fun _ _ h => told_ratD h1.2 h) (ea_cons (P1 := RatD K d (valD x)) (Ev.sub (ev_var rfl) fun _ _ h => told_ratD hs.2.2.1.2 h) ea_nil)) (cl_2 (n := n) (by have := hs.1; omega) (by have := hs.2.1; omega) h1 hs.2.2.1)
  | bad r x =>
    show St (RsE E (RX CX) 4) [some (r.pr K CX), some (Dv K x), none, none] _ Dead (fun _ _ => False)
    refine st_seq (M := Dead) (st_post (N' := [some (r.pr K CX), some (Dv K x), some (fun _ _ => False), none]) (R' := fun _ _ => False) (st_set (P := fun _ _ => False) (ev_callX (Y := RsE E (RX CX) 4) (ea_cons (ev_var rfl) ea_nil) (cl_rofD c) (sub_none rfl))) (fun s H ty => by obtain ⟨v, _, z⟩ := ty.get (i := 2) rfl; exact z.elim) (fun _ _ h => h)) (st_false (i := 0) rfl fun _ _ z => z)
  | shut r x => exact c.elim
theorem cl_qkG {W : HR} [Pre W] {r : RowT} {x : D} (c : okQk (.good r x)) : Cl W (sp_qk K CX) [r.pr K CX, Dv K x] (RowT.pr K CX (ledR (fun q z => q * z) r x)) NoX := cl_of (W := Evl.Ex) (C := okQk) (f := wQk K CX) (.good r x) c
def sp_tn (K : PySem.W.Frag) (CX : Addrs) : Sp := SpW Evl.Ex (fun r : RowT => okQk (.good r (.int (-1)))) fun r => ⟨[r.pr K CX], RowT.pr K CX (ledR (fun q z => q * z) r (.int (-1))), NoX⟩
theorem ok_tn {f : Addr} {fd : FuncData} (F : Fun K "turned" "Row.turned" s_Row_turned f fd) (T : Txt P w K mg CX) (D_Row_quicker : Dm P w K mg base 9 CX.Row "quicker" ["self", "factor"] (sp_qk K CX)) : FnOk P w K mg base (L2N.CX P w) 10 f fd ["self"] (sp_tn K CX) := by
  refine okW F sc_Row_turned (fun i => rfl) (by decide) (fun cdv A outer s H E hr => ⟨_, (pss_one (ps_ret (pe_meS D_Row_quicker (hr.mono (by decide)) (L2N.takes_of rfl rfl rfl rfl) (pv 0) (pa_cons (pe_un un_neg pe_int) pa_nil)))), fun r c => ⟨Dead, ?_, fun _ _ h => (dead h).elim⟩⟩)
  show St (RsE E NoX 1) [some (r.pr K CX)] _ Dead (RowT.pr K CX (ledR (fun q z => q * z) r (.int (-1))))
  exact st_ret (ev_meS (Fs := rowFs K r.ws r.qs r.b) (ev_var (P := r.pr K CX) rfl) (lk_no (by decide)) (ea_cons (P1 := Dv K (.int (-1))) (ev_un ev_c op1_neg) ea_nil) (cl_qkG c))
def mirR (r : RowT) : RowT := ⟨r.ws.reverse, r.qs.reverse.map fun q => q * ((-1 : Int) : Rat), false⟩
def okMi (r : RowT) : Prop := r.b = true ∨ (r.b = false ∧ (∃ n d, Szs n d ⟨r.ws, r.qs.reverse, r.b⟩ ((-1 : Int) : Rat)) ∧ RG (mirR r))
def wMi (K : PySem.W.Frag) (CX : Addrs) (r : RowT) : Way := ⟨[r.pr K CX], (if r.b then fun _ _ => False else RowT.pr K CX (mirR r)), (if r.b then XE0 CX.NoMirror else NoX)⟩
def sp_mi (K : PySem.W.Frag) (CX : Addrs) : Sp := SpW Evl.Ex okMi (wMi K CX)
theorem ok_mi {f : Addr} {fd : FuncData} (F : Fun K "mirrored" "Row.mirrored" s_Row_mirrored f fd) (T : Txt P w K mg CX) (D_times : Df P w K mg base 4 "times" ["one", "other"] (sp_times K CX)) (D_Row_2 : DkD P w K mg base 6 "Row" CX.Row ["self", "weights", "speeds", "wall"] [.bl false] (SpI CX.Row okRow (rowW K CX))) :
    FnOk P w K mg base (L2N.CX P w) 8 f fd ["self"] (sp_mi K CX) := by
  refine okW F sc_Row_mirrored (fun i => rfl) (by decide) (fun cdv A outer s H E hr => ⟨_, (pss_cons (ps_if (pt_truth (pe_fld (pv 0) rfl) (fun _ => rfl)) (pss_one (L2N.ps_raise rfl (L2N.takes_of rfl rfl rfl rfl) (pmk_er0 T.c_NoMirror (hr.mono (by decide))))) pss_nil) (pss_one (ps_ret (pe_mk D_Row_2 (hr.mono (by decide)) (L2N.takes_of rfl rfl rfl rfl) (pa_cons (pe_revT (pe_fld (pv 0) rfl)) (pa_cons (pe_lc (own := [("speed", 1)]) (g := gName 1) (by rfl) sc_Row_mirrored.nd (pi_tup (pe_revT (pe_fld (pv 0) rfl))) (blkOk_by (own := [("speed", 1)]) (N := ["self", "speed"]) (sc := defScope s_Row_mirrored) (by decide +kernel)) (fun _ _ _ _ _ => pg_name (i := 1) sc_Row_mirrored.nd rfl (by first | exact Or.inl rfl | exact Or.inr rfl)) (fun _ _ _ _ _ => pts_nil) (fun _ _ _ _ _ => (pe_df D_times (hr.mono (by decide)) takesF (pa_cons (pv 1) (pa_cons (pe_un un_neg pe_int) pa_nil))))) pa_nil)))))), fun r c => ⟨Dead, ?_, fun _ _ h => (dead h).elim⟩⟩)
  show St (RsE E (if r.b then XE0 CX.NoMirror else NoX) 2) [some (r.pr K CX), none] _ Dead (if r.b then fun _ _ => False else RowT.pr K CX (mirR r))
  rcases c with hb | ⟨hb, ⟨n, d, hs⟩, hg⟩
  · rw [if_pos hb, if_pos hb]
    exact st_seq (M := Dead) (st_if (b := true) (EvT.to (et_truB (ev_rb T (ev_var rfl))) hb) (fun _ => st_raise0 (Y := RsE E (XE0 CX.NoMirror) 2) (sub_none rfl) True.intro (fun _ _ _ h => h)) (fun h => by cases h)) (st_false (i := 0) rfl fun _ _ z => z)
  · have hf : ¬ r.b = true := by rw [hb]; simp
    rw [if_neg hf, if_neg hf]
    refine st_ifB (b := false) (EvT.to (et_truB (ev_rb T (ev_var rfl))) hb) (fun h => by cases h) (fun _ => st_nextB ?_)
    obtain ⟨n', d', cg⟩ := RG.of hg .T .L
    have few := few_qs (r := ⟨r.ws.reverse, r.qs.reverse, false⟩) (g := fun q => q * ((-1 : Int) : Rat)) hg
    replace few : r.qs.reverse.length ≤ 40 := few
    refine st_ret (ev_mk (f := rowW K CX) (Ps := [TupN (intPs r.ws.reverse), SeqP K .L (ratPs K 8000 (r.qs.reverse.map fun q => q * ((-1 : Int) : Rat)))]) (RowI.good ⟨.T, .L, r.ws.reverse, n', d', 8000, r.qs.reverse.map fun q => q * ((-1 : Int) : Rat), false⟩) cg (fun vs H h => ?_) (ea_cons (Ev.sub (ev_revT (K := K) (Ps := intPs r.ws) (ev_asT (ev_fld T.r_cls (T.r_no _ (by decide)) rfl (ev_var (P := r.pr K CX) rfl)))) fun v H h => ?_) (ea_cons (ev_led (r := ⟨r.ws.reverse, r.qs.reverse, false⟩) hg (ev_lc (Y := RsE E NoX 2) (ei_tup (Y := RsE E NoX 2) (Ps := toldPs K r.qs.reverse) (Ev.sub (ev_revT (K := K) (Ps := toldPs K r.qs) (ev_asT (ev_fld T.r_cls (T.r_no _ (by decide)) rfl (ev_var (P := r.pr K CX) rfl)))) fun v H h => ?_)) ?_ (fun i => mn_told) (fun i => mn_told) (fun i hi => ?_) (fun i acc H' _ h => True.intro))) ea_nil)) (fun _ _ _ h => h))
    · obtain ⟨u, v, rfl, h1, h2⟩ := allp2 h
      exact ⟨h1, h2, rfl, True.intro⟩
    · unfold intPs at h ⊢; rw [List.map_reverse]; exact h
    · unfold toldPs at h ⊢; rw [List.map_reverse]; exact tupN_tup h
    · unfold toldPs; rw [List.length_map]; show r.qs.reverse.length < 100000; omega
    · have hi' : i < r.qs.reverse.length := by unfold toldPs at hi; rw [List.length_map] at hi; exact hi
      rw [nth_told hi']
      have h1 := szs_at hs hi'
      exact ev_call (ea_cons (P1 := RatD K d (r.qs.reverse.getD i 0)) (Ev.sub (ev_var rfl) fun _ _ h => told_ratD h1.2 h) (ea_cons (P1 := RatD K d ((-1 : Int) : Rat)) (Ev.sub (ev_un ev_c op1_neg) fun _ _ h => int_ratD h) ea_nil)) (cl_2 (n := n) (by have := hs.1; omega) (by have := hs.2.1; omega) h1 hs.2.2.1)
def okHu : LdI → Prop
  | .good r x => r.b = false ∧ goodS x = true ∧ Big 8000 (botD x) ∧ (∃ n d, Szs n d r (valD x)) ∧ RG (ledR (fun q z => q + z) r x)
  | .bad r x => r.b = false ∧ goodS x = false
  | .shut r x => r.b = true
def wHu (K : PySem.W.Frag) (CX : Addrs) : LdI → Way
  | .good r x => ⟨[r.pr K CX, Dv K x], RowT.pr K CX (ledR (fun q z => q + z) r x), NoX⟩
  | .bad r x => ⟨[r.pr K CX, Dv K x], fun _ _ => False, RX CX⟩
  | .shut r x => ⟨[r.pr K CX, Dv K x], fun _ _ => False, XE0 CX.NoHurry⟩
def sp_hu (K : PySem.W.Frag) (CX : Addrs) : Sp := SpW Evl.Ex okHu (wHu K CX)
theorem ok_hu {f : Addr} {fd : FuncData} (F : Fun K "hurried" "Row.hurried" s_Row_hurried f fd) (T : Txt P w K mg CX) (D_ratio_of : Df P w K mg base 3 "ratio_of" ["thing"] (sp_ratio_of K CX)) (D_plus : Df P w K mg base 4 "plus" ["one", "other"] (sp_plus K CX))
    (D_Row_with_speeds : Dm P w K mg base 8 CX.Row "with_speeds" ["self", "speeds"] (sp_ws K CX)) : FnOk P w K mg base (L2N.CX P w) 9 f fd ["self", "more"] (sp_hu K CX) := by
  refine okW F sc_Row_hurried (fun i => by cases i <;> rfl) (by decide) (fun cdv A outer s H E hr => ⟨_, (pss_cons (ps_if (pt_truth (pe_fld (pv 0) rfl) (fun _ => rfl)) (pss_one (L2N.ps_raise rfl (L2N.takes_of rfl rfl rfl rfl) (pmk_er0 T.c_NoHurry (hr.mono (by decide))))) pss_nil) (pss_cons (ps_set (i := 2) sc_Row_hurried.nd rfl (by first | exact Or.inl rfl | exact Or.inr rfl) (pe_df D_ratio_of (hr.mono (by decide)) (L2N.takes_of rfl rfl rfl rfl) (pa_cons (pv 1) pa_nil))) (pss_one (ps_ret (pe_meS D_Row_with_speeds (hr.mono (by decide)) (L2N.takes_of rfl rfl rfl rfl) (pv 0) (pa_cons (pe_lc (own := [("speed", 3)]) (g := gName 3) (by rfl) sc_Row_hurried.nd (pi_tup (pe_fld (pv 0) rfl)) (blkOk_by (own := [("speed", 3)]) (N := ["self", "more", "told", "speed"]) (sc := defScope s_Row_hurried) (by decide +kernel)) (fun _ _ _ _ _ => pg_name (i := 3) sc_Row_hurried.nd rfl (by first | exact Or.inl rfl | exact Or.inr rfl)) (fun _ _ _ _ _ => pts_nil) (fun _ _ _ _ _ => (pe_df D_plus (hr.mono (by decide)) takesF (pa_cons (pv 3) (pa_cons (pv 2) pa_nil))))) pa_nil)))))), fun i c => ⟨Dead, ?_, fun _ _ h => (dead h).elim⟩⟩)
  cases i with
  | good r x =>
    obtain ⟨hb, g, bx, ⟨n, d, hs⟩, hg⟩ := c
    show St (RsE E NoX 4) [some (r.pr K CX), some (Dv K x), none, none] _ Dead (RowT.pr K CX (ledR (fun q z => q + z) r x))
    refine st_ifB (b := false) (EvT.to (et_truB (ev_rb T (ev_var rfl))) hb) (fun h => by cases h) (fun _ => st_nextB ?_)
    refine st_seq (st_set (P := Told K (valD x)) (ev_call (ea_cons (Ev.sub (ev_var rfl) fun v H p => ratd_of (n := 8000) g bx p) ea_nil) (cl_ratio_of (by decide)))) ?_
    have few := few_qs (g := fun q => q + valD x) hg
    refine st_ret (ev_meS (Fs := rowFs K r.ws r.qs r.b) (ev_var (P := r.pr K CX) rfl) (lk_no (by decide)) (ea_cons (P1 := SeqP K .L (ratPs K 8000 (r.qs.map fun q => q + valD x))) (ev_led hg (ev_lc (Y := RsE E NoX 4) (ei_tup (Y := RsE E NoX 4) (ev_asT (ev_fld T.r_cls (T.r_no _ (by decide)) rfl (ev_var (P := r.pr K CX) rfl)))) ?_ (fun i => mn_told) (fun i => mn_told) (fun i hi => ?_) (fun i acc H' _ h => True.intro))) ea_nil) (cl_wsG (r := r) (k := .L) hg))
    · unfold toldPs; rw [List.length_map]; omega
    · have hi' : i < r.qs.length := by unfold toldPs at hi; rw [List.length_map] at hi; exact hi
      rw [nth_told hi']
      have h1 := szs_at hs hi'
      exact ev_call (ea_cons (P1 := RatD K d (r.qs.getD i 0)) (Ev.sub (ev_var rfl) fun _ _ h => told_ratD h1.2 h) (ea_cons (P1 := RatD K d (valD x)) (Ev.sub (ev_var rfl) fun _ _ h => told_ratD hs.2.2.1.2 h) ea_nil)) (cl_2 (n := n) (by have := hs.1; omega) (by have := hs.2.1; omega) h1 hs.2.2.1)
  | bad r x =>
    obtain ⟨hb, hx⟩ := c
    show St (RsE E (RX CX) 4) [some (r.pr K CX), some (Dv K x), none, none] _ Dead (fun _ _ => False)
    refine st_ifB (b := false) (EvT.to (et_truB (ev_rb T (ev_var rfl))) hb) (fun h => by cases h) (fun _ => st_nextB ?_)
    refine st_seq (M := Dead) (st_post (N' := [some (r.pr K CX), some (Dv K x), some (fun _ _ => False), none]) (R' := fun _ _ => False) (st_set (P := fun _ _ => False) (ev_callX (Y := RsE E (RX CX) 4) (ea_cons (ev_var rfl) ea_nil) (cl_rofD hx) (sub_none rfl))) (fun s H ty => by obtain ⟨v, _, z⟩ := ty.get (i := 2) rfl; exact z.elim) (fun _ _ h => h)) (st_false (i := 0) rfl fun _ _ z => z)
  | shut r x =>
    show St (RsE E (XE0 CX.NoHurry) 4) [some (r.pr K CX), some (Dv K x), none, none] _ Dead (fun _ _ => False)
    exact st_seq (M := Dead) (st_if (b := true) (EvT.to (et_truB (ev_rb T (ev_var rfl))) c) (fun _ => st_raise0 (Y := RsE E (XE0 CX.NoHurry) 4) (sub_none rfl) True.intro (fun _ _ _ h => h)) (fun h => by cases h)) (st_false (i := 0) rfl fun _ _ z => z)
end
end U

namespace U
open PySem PySem.Spec PyProof.Rows L2
/-! ### heavier -/
abbrev s_Row_heavier : Stmt := inClass (top 19) 8
theorem sc_Row_heavier : FnScope ["self", "factor", "told", "weights", "ball", "weight", "top", "bottom"] ["self", "factor"] (defScope s_Row_heavier) := ⟨rfl, rfl, rfl, by decide +kernel, rfl, by decide +kernel, by decide +kernel⟩
theorem st_un2W {K : PySem.W.Frag} {Y : Rs} {W : HR} [w : PreD W] {H0 : Hp} {l : Addr} {G : Ctx} {te : TE} {P1 P2 R : Pr} (hW : Y.W = WO W H0 l) [mc : MnC W G] {i j : Nat} (h : Ev (Y.under W) G te (Tup K [P1, P2])) : St Y G (tAsg te (gTup K 2 (gCons (gName i) (gCons (gName j) gNil)))) ((G.set i (some P1)).set j (some P2)) R := fun s H D ty hx n _ =>
  h s H ty (hx_under hW hx) _ fun v H2 k ⟨p, xs, e, hq, hp⟩ => by
    obtain ⟨a, b, rfl, pa, pb⟩ := allp2 hp
    exact ⟨p, [a, b], e, .inl hq, rfl, a, [b], rfl, b, [], rfl, rfl, n _ H2 (by rw [hW]; exact wo_of k) (((mc.mn s H H2 k ty).put pa).put pb)⟩
section
variable {P : Program} {w : World} {K : PySem.W.Frag} {mg : Str → Option Value} {base : Heap} {CX : Addrs}
/-- a weight that is no weight any more -/
def hvBad (q : Rat) (y : Int) : Bool := decide ((((y : Rat) * q).den : Int) ≠ 1) || !(decide (1 ≤ ((y : Rat) * q).num) && decide (((y : Rat) * q).num ≤ 9))
def hvWs (q : Rat) (ws : List Int) : List Int := ws.map fun (y : Int) => ((y : Rat) * q).num
inductive HvI
  | good (r : RowT) (x : D)
  | bad (r : RowT) (x : D)
  | at_ (r : RowT) (x : D) (k : Nat)
def HvSz (r : RowT) (x : D) : Prop := r.ws.length ≤ 1000 ∧ (∀ y ∈ r.ws, 1 ≤ y ∧ y ≤ 9) ∧ ∃ n d, n ≤ 100000 ∧ d ≤ 8000 ∧ Sz2 n d (valD x)
def okHv : HvI → Prop
  | .good r x => goodS x = true ∧ Big 8000 (botD x) ∧ HvSz r x ∧ (∀ y ∈ r.ws, hvBad (valD x) y = false) ∧ RG ⟨hvWs (valD x) r.ws, r.qs, r.b⟩
  | .bad r x => goodS x = false
  | .at_ r x k => goodS x = true ∧ Big 8000 (botD x) ∧ HvSz r x ∧ k < r.ws.length ∧ (∀ j, j < k → hvBad (valD x) (r.ws.getD j 0) = false) ∧ hvBad (valD x) (r.ws.getD k 0) = true
def wHv (K : PySem.W.Frag) (CX : Addrs) : HvI → Way
  | .good r x => ⟨[r.pr K CX, Dv K x], RowT.pr K CX ⟨hvWs (valD x) r.ws, r.qs, r.b⟩, NoX⟩
  | .bad r x => ⟨[r.pr K CX, Dv K x], fun _ _ => False, RX CX⟩
  | .at_ r x k => ⟨[r.pr K CX, Dv K x], fun _ _ => False, BX CX ((k : Int), "weight")⟩
def sp_hv (K : PySem.W.Frag) (CX : Addrs) : Sp := SpW Evl.Ex okHv (wHv K CX)
theorem weights_at {E : XK} {GX : Ctx} {X : XP} {G : Ctx} {H0 : Hp} {r : RowT} {w' : World} (T : Txt P w' K mg CX) : Ev ⟨Evl.Ex, fun _ => E, GX, X⟩ (some (At Evl.Ex H0 (r.pr K CX)) :: G) (tFld K (tVar 0) "weights") (At Evl.Ex H0 (Tup K (intPs r.ws))) := fun s H ty hx Q q => by
  obtain ⟨v, ev, ⟨p, dx, fs, e, hq, hf⟩, z0⟩ := ty.get (i := 0) rfl
  obtain ⟨y, e1, e2⟩ := fsok_get (f := "weights") hf rfl
  exact ⟨v, ev, p, CX.Row, dx, fs, y, e, z0 _ _ hq, T.r_cls, T.r_no _ (by decide), e1, q y H (Evl.Ex.refl H) ⟨tupN_tup e2, z0⟩⟩
theorem ok_hv {f : Addr} {fd : FuncData} (F : Fun K "heavier" "Row.heavier" s_Row_heavier f fd) (T : Txt P w K mg CX) (D_ratio_of : Df P w K mg base 3 "ratio_of" ["thing"] (sp_ratio_of K CX)) (D_times : Df P w K mg base 4 "times" ["one", "other"] (sp_times K CX)) (D_Row_3 : DkD P w K mg base 6 "Row" CX.Row ["self", "weights", "speeds", "wall"] [] (SpI CX.Row okRow (rowW K CX))) :
    FnOk P w K mg base (L2N.CX P w) 8 f fd ["self", "factor"] (sp_hv K CX) := by
  refine okW F sc_Row_heavier (fun i => by cases i <;> rfl) (by decide) (fun cdv A outer s H E hr => ⟨_, (pss_cons (ps_set (i := 2) sc_Row_heavier.nd rfl (by first | exact Or.inl rfl | exact Or.inr rfl) (pe_df D_ratio_of (hr.mono (by decide)) (L2N.takes_of rfl rfl rfl rfl) (pa_cons (pv 1) pa_nil))) (pss_cons (ps_set (i := 3) sc_Row_heavier.nd rfl (by first | exact Or.inl rfl | exact Or.inr rfl) (pe_lst pa_nil)) (pss_cons (ps_for (passes_of rfl) rfl (pi_enK (by rfl) T.n_enumerate (pa_cons (pe_fld (pv 0) rfl) pa_nil)) (pg_tup rfl (pgs_cons (pg_name (i := 4) sc_Row_heavier.nd rfl (by first | exact Or.inl rfl | exact Or.inr rfl)) (pgs_cons (pg_name (i := 5) sc_Row_heavier.nd rfl (by first | exact Or.inl rfl | exact Or.inr rfl)) pgs_nil))) (pss_cons (ps_asg (pe_df D_times (hr.mono (by decide)) (L2N.takes_of rfl rfl rfl rfl) (pa_cons (pv 5) (pa_cons (pv 2) pa_nil))) (pg_tup rfl (pgs_cons (pg_name (i := 6) sc_Row_heavier.nd rfl (by first | exact Or.inl rfl | exact Or.inr rfl)) (pgs_cons (pg_name (i := 7) sc_Row_heavier.nd rfl (by first | exact Or.inl rfl | exact Or.inr rfl)) pgs_nil)))) (pss_cons (ps_if (PW.pt (pw_or (pt_cmpR (op_neA hr.units) (pv 7) pe_int (nomark _)) (pw_or1 (pt_not (pt_chain op_le op_le pe_int (pv 6) (pe_globI rfl T.v_MOST_WEIGHT)))))) (pss_one (L2N.ps_raise rfl (L2N.takes_of rfl rfl rfl rfl) (pmk_er T.c_BadRow (hr.mono (by decide)) (pa_cons (pv 4) (pa_cons pe_str pa_nil))))) pss_nil) (pss_one (ps_expr (pe_bm PySem.F.plainAttrs_list PySem.F.slot_list_append PySem.F.type_list_append mt_append (pv 3) (pa_cons (pv 6) pa_nil))))))) (pss_one (ps_ret (pe_mk D_Row_3 (hr.mono (by decide)) (L2N.takes_of rfl rfl rfl rfl) (pa_cons (pv 3) (pa_cons (pe_fld (pv 0) rfl) (pa_cons (pe_fld (pv 0) rfl) pa_nil))))))))), fun i c => ⟨Dead, ?_, fun _ _ h => (dead h).elim⟩⟩)
  have step : ∀ {E : XK} {X : XP} {r : RowT} {x : D} {H0 : Hp} {l : Addr} {i : Nat} {tr : TS} {N : Ctx} {R : Pr} {own : Pr} {E1 : L2.St → XK} [Mn Evl.Ex own], HvSz r x → i < r.ws.length →
      St ⟨WO Evl.Ex H0 l, fun _ => E, List.replicate 8 none, X⟩ [some (At Evl.Ex H0 (r.pr K CX)), some (At Evl.Ex H0 (Dv K x)), some (At Evl.Ex H0 (Told K (valD x))), some own, some (Is (.int (i : Int))), some (Is (.int (r.ws.getD i 0))), some (Is (.int ((r.ws.getD i 0 : Rat) * valD x).num)), some (Is (.int (((r.ws.getD i 0 : Rat) * valD x).den : Int)))] tr N R →
      St ⟨WO Evl.Ex H0 l, fun _ => E, List.replicate 8 none, X⟩ [some (At Evl.Ex H0 (r.pr K CX)), some (At Evl.Ex H0 (Dv K x)), some (At Evl.Ex H0 (Told K (valD x))), some own, some (Is (.int (i : Int))), some (Is (.int (r.ws.getD i 0))), none, none] (tSeq (tAsg (tCallS (sp_times K CX) E1 (tCons (tVar 5) (tCons (tVar 2) tNil))) (gTup K 2 (gCons (gName 6) (gCons (gName 7) gNil)))) tr) N R := fun {E X r x H0 l i tr N R own E1} _ hz hi k => by
    obtain ⟨_, hw, n, d, hn, hd, hs⟩ := hz
    have h1 := hw (r.ws.getD i 0) (by rw [List.getD_eq_getElem?_getD, List.getElem?_eq_getElem hi]; exact List.getElem_mem hi)
    have s1 : Sz2 (n + 4) 1 (r.ws.getD i 0 : Rat) := (sz2_int (n := 4) (d := 1) (show Big 4 (r.ws.getD i 0) by unfold Big; omega) (by decide)).mono (by omega) (by decide)
    refine st_seq (st_un2W (W := Evl.Ex) (H0 := H0) (l := l) rfl (P1 := Is (.int ((r.ws.getD i 0 : Rat) * valD x).num)) (P2 := Is (.int (((r.ws.getD i 0 : Rat) * valD x).den : Int))) (ev_call (ea_cons (P1 := RatD K 1 (r.ws.getD i 0 : Rat)) (Ev.sub (ev_var rfl) fun _ _ h => int_ratD h) (ea_cons (P1 := RatD K d (valD x)) (Ev.sub (ev_var rfl) fun _ _ h => told_ratD hs.2 (at_now h)) ea_nil)) (cl_2 (n := n + 4) (by omega) (by omega) s1 (hs.mono (by omega) (Nat.le_refl _))))) k
  have told_ratN : ∀ {qs : List Rat} {v : V} {H : Hp}, (∀ q ∈ qs, q.den < 2 ^ 8000) → TupN (toldPs K qs) v H → TupN (ratPs K 8000 qs) v H := fun {qs v H} hq ⟨p, xs, o, e, hp, d, ha⟩ => ⟨p, xs, o, e, hp, d, allp_imp' (fun q hm v h => told_ratD (hq q hm) h) ha⟩
  have now : ∀ {r : RowT} {H0 : Hp} v H, At Evl.Ex H0 (r.pr K CX) v H → r.pr K CX v H := fun v H h => at_now h
  have tk : ∀ (q : Rat) (ws : List Int) (i : Nat), i < ws.length → intPs ((hvWs q ws).take (i + 1)) = intPs ((hvWs q ws).take i) ++ [Is (.int ((ws.getD i 0 : Rat) * q).num)] := fun q ws i hi => by
    have e : (hvWs q ws)[i]? = some (((ws.getD i 0 : Int) : Rat) * q).num := by unfold hvWs; simp [hi]
    rw [List.take_succ, e]
    unfold intPs
    rw [List.map_append]
    rfl
  cases i with
  | bad r x =>
    show St (RsE E (RX CX) 8) [some (r.pr K CX), some (Dv K x), none, none, none, none, none, none] _ Dead (fun _ _ => False)
    refine st_seq (M := Dead) (st_post (N' := [some (r.pr K CX), some (Dv K x), some (fun _ _ => False), none, none, none, none, none]) (R' := fun _ _ => False) (st_set (P := fun _ _ => False) (ev_callX (Y := RsE E (RX CX) 8) (ea_cons (ev_var rfl) ea_nil) (cl_rofD c) (sub_none rfl))) (fun s H ty => by obtain ⟨v, _, z⟩ := ty.get (i := 2) rfl; exact z.elim) (fun _ _ h => h)) (st_false (i := 0) rfl fun _ _ z => z)
  | good r x =>
    obtain ⟨g, bx, hz, hgood, hg⟩ := c
    have lw : (intPs r.ws).length = r.ws.length := List.length_map _
    have hz' := hz
    obtain ⟨few, _⟩ := hz'
    show St (RsE E NoX 8) [some (r.pr K CX), some (Dv K x), none, none, none, none, none, none] _ Dead (RowT.pr K CX ⟨hvWs (valD x) r.ws, r.qs, r.b⟩)
    refine st_seq (st_set (P := Told K (valD x)) (ev_call (ea_cons (Ev.sub (ev_var rfl) fun v H p => ratd_of (n := 8000) g bx p) ea_nil) (cl_ratio_of (by decide)))) ?_
    refine st_local (Y := RsE E NoX 8) (N' := fun _ _ => Dead) (R' := fun _ _ => RowT.pr K CX ⟨hvWs (valD x) r.ws, r.qs, r.b⟩) (fun H0 l hl => ?_) (fun _ _ _ _ _ h => (dead h).elim) (fun _ _ _ _ _ h => h)
    show St ⟨WO Evl.Ex H0 l, fun _ => E, List.replicate 8 none, NoX⟩ [some (At Evl.Ex H0 (r.pr K CX)), some (At Evl.Ex H0 (Dv K x)), some (At Evl.Ex H0 (Told K (valD x))), some (Loc l []), none, none, none, none] _ Dead (RowT.pr K CX ⟨hvWs (valD x) r.ws, r.qs, r.b⟩)
    refine st_seq (M := [some (At Evl.Ex H0 (r.pr K CX)), some (At Evl.Ex H0 (Dv K x)), some (At Evl.Ex H0 (Told K (valD x))), some (Loc l (intPs ((hvWs (valD x) r.ws).take (intPs r.ws).length))), none, none, none, none]) ?_ ?_
    · refine st_forW2 (W := Evl.Ex) (H0 := H0) (l := l) rfl (ej_enT (K := K) (Ps := intPs r.ws) rfl (ea_cons (Y := ⟨Evl.Ex, fun _ => E, List.replicate 8 none, NoX⟩) (weights_at T) ea_nil)) (fun i => [some (At Evl.Ex H0 (r.pr K CX)), some (At Evl.Ex H0 (Dv K x)), some (At Evl.Ex H0 (Told K (valD x))), some (Loc l (intPs ((hvWs (valD x) r.ws).take i))), none, none, none, none]) sub_refl (fun i hi => ?_)
      rw [lw] at hi
      rw [nth_int hi]
      refine step hz hi ?_
      have hb := hgood (r.ws.getD i 0) (by rw [List.getD_eq_getElem?_getD, List.getElem?_eq_getElem hi]; exact List.getElem_mem hi)
      refine st_seq (st_ifW (W := Evl.Ex) (H0 := H0) (l := l) (b := false) rfl (EvT.to (et_or (et_test (ev_op (ev_var rfl) ev_c o_neI)) (fun _ => et_not (et_test (ev_chain ev_c (ev_var rfl) op2_I0 (fun _ => ev_c) (fun _ => op2_I0))))) hb) (fun h => by cases h) (fun _ => st_next)) ?_
      refine st_post (N' := [some (At Evl.Ex H0 (r.pr K CX)), some (At Evl.Ex H0 (Dv K x)), some (At Evl.Ex H0 (Told K (valD x))), some (Loc l (intPs ((hvWs (valD x) r.ws).take i) ++ [Is (.int ((r.ws.getD i 0 : Rat) * valD x).num)])), some (Is (.int (i : Int))), some (Is (.int (r.ws.getD i 0))), some (Is (.int ((r.ws.getD i 0 : Rat) * valD x).num)), some (Is (.int (((r.ws.getD i 0 : Rat) * valD x).den : Int)))]) (R' := RowT.pr K CX ⟨hvWs (valD x) r.ws, r.qs, r.b⟩) ?_ (sub_keep (sub_keep (sub_keep (sub_imp (fun v H h => by rw [tk _ _ _ hi]; exact h) (sub_drop (sub_drop (sub_drop (sub_drop sub_nil)))))))) (fun _ _ h => h)
      exact st_append (W := Evl.Ex) (H0 := H0) (l := l) rfl hl (i := 3) (G' := [some (At Evl.Ex H0 (r.pr K CX)), some (At Evl.Ex H0 (Dv K x)), some (At Evl.Ex H0 (Told K (valD x))), none, some (Is (.int (i : Int))), some (Is (.int (r.ws.getD i 0))), some (Is (.int ((r.ws.getD i 0 : Rat) * valD x).num)), some (Is (.int (((r.ws.getD i 0 : Rat) * valD x).den : Int)))]) rfl rfl (fun _ _ _ => True.intro) (by unfold intPs; rw [List.length_map, List.length_take]; omega) (ev_var rfl)
    · obtain ⟨n', d', cg⟩ := RG.of hg .L .T
      have lh : (hvWs (valD x) r.ws).length = (intPs r.ws).length := by unfold hvWs; rw [List.length_map, lw]
      rw [← lh, List.take_length]
      refine st_ret (Ev.upW (W := Evl.Ex) (H0 := H0) (l := l) rfl (ev_mk (f := rowW K CX) (Ps := [Lst K (intPs (hvWs (valD x) r.ws)), TupN (ratPs K 8000 r.qs), Is (.bl r.b)]) (RowI.good ⟨.L, .T, hvWs (valD x) r.ws, n', d', 8000, r.qs, r.b⟩) cg (fun vs H h => by rw [List.append_nil]; exact h) (ea_cons (Ev.sub (ev_var rfl) fun v H h => own_lst (loc_own h)) (ea_cons (Ev.sub (ev_fld T.r_cls (T.r_no _ (by decide)) rfl (Ev.sub (ev_var rfl) now)) fun v H h => told_ratN (fun q hq => rg_den (r := ⟨hvWs (valD x) r.ws, r.qs, r.b⟩) hg q hq) h) (ea_cons (ev_fld T.r_cls (T.r_no _ (by decide)) rfl (Ev.sub (ev_var rfl) now)) ea_nil))) (fun _ _ _ h => h)))
  | at_ r x k =>
    obtain ⟨g, bx, hz, hk, hgood, hbad⟩ := c
    have lw : (intPs r.ws).length = r.ws.length := List.length_map _
    have hz' := hz
    obtain ⟨few, _⟩ := hz'
    show St (RsE E (BX CX ((k : Int), "weight")) 8) [some (r.pr K CX), some (Dv K x), none, none, none, none, none, none] _ Dead (fun _ _ => False)
    refine st_seq (st_set (P := Told K (valD x)) (ev_call (ea_cons (Ev.sub (ev_var rfl) fun v H p => ratd_of (n := 8000) g bx p) ea_nil) (cl_ratio_of (by decide)))) ?_
    refine st_local (Y := RsE E (BX CX ((k : Int), "weight")) 8) (N' := fun _ _ => Dead) (R' := fun _ _ => fun _ _ => False) (fun H0 l hl => ?_) (fun _ _ _ _ _ h => (dead h).elim) (fun _ _ _ _ _ h => h)
    show St ⟨WO Evl.Ex H0 l, fun _ => E, List.replicate 8 none, BX CX ((k : Int), "weight")⟩ [some (At Evl.Ex H0 (r.pr K CX)), some (At Evl.Ex H0 (Dv K x)), some (At Evl.Ex H0 (Told K (valD x))), some (Loc l []), none, none, none, none] _ Dead (fun _ _ => False)
    refine st_seq (M := [some (Some (fun _ : Unit => (intPs r.ws).length ≤ k) fun _ => At Evl.Ex H0 (r.pr K CX)), some (At Evl.Ex H0 (Dv K x)), some (At Evl.Ex H0 (Told K (valD x))), some (Loc l (intPs ((hvWs (valD x) r.ws).take (intPs r.ws).length))), none, none, none, none]) ?_ ?_
    · refine st_forW2 (W := Evl.Ex) (H0 := H0) (l := l) rfl (ej_enT (K := K) (Ps := intPs r.ws) rfl (ea_cons (Y := ⟨Evl.Ex, fun _ => E, List.replicate 8 none, BX CX ((k : Int), "weight")⟩) (weights_at T) ea_nil)) (fun i => [some (Some (fun _ : Unit => i ≤ k) fun _ => At Evl.Ex H0 (r.pr K CX)), some (At Evl.Ex H0 (Dv K x)), some (At Evl.Ex H0 (Told K (valD x))), some (Loc l (intPs ((hvWs (valD x) r.ws).take i))), none, none, none, none]) (sub_imp (fun v H h => ⟨(), Nat.zero_le _, h⟩) sub_refl) (fun i hi => ?_)
      rw [lw] at hi
      rw [nth_int hi]
      refine st_open 0 rfl fun _ hik => ?_
      replace hik : i ≤ k := hik
      refine step hz hi ?_
      have hb : hvBad (valD x) (r.ws.getD i 0) = decide (i = k) := by
        by_cases e : i = k
        · rw [e, hbad, decide_eq_true rfl]
        · rw [hgood i (by omega), decide_eq_false e]
      refine st_seq (M := [some (Some (fun _ : Unit => i + 1 ≤ k) fun _ => At Evl.Ex H0 (r.pr K CX)), some (At Evl.Ex H0 (Dv K x)), some (At Evl.Ex H0 (Told K (valD x))), some (Loc l (intPs ((hvWs (valD x) r.ws).take i))), some (Is (.int (i : Int))), some (Is (.int (r.ws.getD i 0))), some (Is (.int ((r.ws.getD i 0 : Rat) * valD x).num)), some (Is (.int (((r.ws.getD i 0 : Rat) * valD x).den : Int)))]) (st_ifW (W := Evl.Ex) (H0 := H0) (l := l) (b := decide (i = k)) rfl (EvT.to (et_or (et_test (ev_op (ev_var rfl) ev_c o_neI)) (fun _ => et_not (et_test (ev_chain ev_c (ev_var rfl) op2_I0 (fun _ => ev_c) (fun _ => op2_I0))))) hb) (fun h => ?_) (fun h => ?_)) ?_
      · have e : i = k := of_decide_eq_true h
        exact st_weak (G' := [none, none, none, none, some (Is (.int (i : Int))), none, none, none]) (sub_drop (sub_drop (sub_drop (sub_drop (sub_keep (sub_drop (sub_drop (sub_drop sub_nil)))))))) (st_badRow (Y := ⟨WO Evl.Ex H0 l, fun _ => E, List.replicate 8 none, BX CX ((k : Int), "weight")⟩) (i := (i : Int)) (x := "weight") (ea_cons (ev_var rfl) (ea_cons ev_c ea_nil)) (sub_none rfl) (by omega) (by decide) (fun _ _ _ h => by rw [← e]; exact h))
      · have e : ¬ i = k := of_decide_eq_false h
        exact st_post (N' := [some (At Evl.Ex H0 (r.pr K CX)), some (At Evl.Ex H0 (Dv K x)), some (At Evl.Ex H0 (Told K (valD x))), some (Loc l (intPs ((hvWs (valD x) r.ws).take i))), some (Is (.int (i : Int))), some (Is (.int (r.ws.getD i 0))), some (Is (.int ((r.ws.getD i 0 : Rat) * valD x).num)), some (Is (.int (((r.ws.getD i 0 : Rat) * valD x).den : Int)))]) (R' := fun _ _ => False) st_next (sub_imp (fun v H z => ⟨(), show i + 1 ≤ k by omega, z⟩) sub_refl) (fun _ _ h => h)
      refine st_open 0 rfl fun _ hik2 => ?_
      refine st_post (N' := [some (At Evl.Ex H0 (r.pr K CX)), some (At Evl.Ex H0 (Dv K x)), some (At Evl.Ex H0 (Told K (valD x))), some (Loc l (intPs ((hvWs (valD x) r.ws).take i) ++ [Is (.int ((r.ws.getD i 0 : Rat) * valD x).num)])), some (Is (.int (i : Int))), some (Is (.int (r.ws.getD i 0))), some (Is (.int ((r.ws.getD i 0 : Rat) * valD x).num)), some (Is (.int (((r.ws.getD i 0 : Rat) * valD x).den : Int)))]) (R' := fun _ _ => False) ?_ (sub_imp (fun v H z => ⟨(), hik2, z⟩) (sub_keep (sub_keep (sub_imp (fun v H h => by rw [tk _ _ _ hi]; exact h) (sub_drop (sub_drop (sub_drop (sub_drop sub_nil)))))))) (fun _ _ h => h)
      exact st_append (W := Evl.Ex) (H0 := H0) (l := l) rfl hl (i := 3) (G' := [some (At Evl.Ex H0 (r.pr K CX)), some (At Evl.Ex H0 (Dv K x)), some (At Evl.Ex H0 (Told K (valD x))), none, some (Is (.int (i : Int))), some (Is (.int (r.ws.getD i 0))), some (Is (.int ((r.ws.getD i 0 : Rat) * valD x).num)), some (Is (.int (((r.ws.getD i 0 : Rat) * valD x).den : Int)))]) rfl rfl (fun _ _ _ => True.intro) (by unfold intPs; rw [List.length_map, List.length_take]; omega) (ev_var rfl)
    · refine st_open 0 rfl fun _ hlen => ?_
      replace hlen : (intPs r.ws).length ≤ k := hlen
      omega
end
end U

namespace U
open PySem PySem.Spec PyProof.Rows L2
/-! ### the law: ratios, heavier weights, sums -/
abbrev s__law_sub : Stmt := top 26
theorem sc__law_sub : FnScope ["_law_a", "_law_b"] ["_law_a", "_law_b"] (defScope s__law_sub) := ⟨rfl, rfl, rfl, by decide +kernel, rfl, by decide +kernel, by decide +kernel⟩
abbrev s__law_ratio : Stmt := top 28
theorem sc__law_ratio : FnScope ["_law_hand_here", "_law_far", "_law_top"] ["_law_hand_here"] (defScope s__law_ratio) := ⟨rfl, rfl, rfl, by decide +kernel, rfl, by decide +kernel, by decide +kernel⟩
abbrev s__law_heavier : Stmt := top 30
theorem sc__law_heavier : FnScope ["_law_weights", "_law_x", "_law_made", "_law_k", "_law_new"] ["_law_weights", "_law_x"] (defScope s__law_heavier) := ⟨rfl, rfl, rfl, by decide +kernel, rfl, by decide +kernel, by decide +kernel⟩
abbrev s__law_sums : Stmt := top 31
theorem sc__law_sums : FnScope ["_law_weights", "_law_speeds", "_law_once", "_law_twice", "_law_k", "_law_part"] ["_law_weights", "_law_speeds"] (defScope s__law_sums) := ⟨rfl, rfl, rfl, by decide +kernel, rfl, by decide +kernel, by decide +kernel⟩
section
variable {P : Program} {w : World} {K : PySem.W.Frag} {mg : Str → Option Value} {base : Heap} {CX : Addrs}
theorem ok_sub {f : Addr} {fd : FuncData} (F : Fun K "_law_sub" "_law_sub" s__law_sub f fd) (D__law_low : Df P w K mg base 1 "_law_low" ["_law_top", "_law_bottom"] (sp_lowest_terms K)) : FnOk P w K mg base (L2N.CX P w) 2 f fd ["_law_a", "_law_b"] (sp_t2 K fun q r => q - r) := by
  refine okW F sc__law_sub (fun i => rfl) (by decide) (fun cdv A outer s H E hr => ⟨_, (pss_one (ps_ret (pe_df D__law_low (hr.mono (by decide)) (L2N.takes_of rfl rfl rfl rfl) (pa_cons (pe_op op_sub (pe_op op_mulA (pe_ix ix_seq (pv 0) pe_int (fun _ _ => rfl)) (pe_ix ix_seq (pv 1) pe_int (fun _ _ => rfl))) (pe_op op_mulA (pe_ix ix_seq (pv 1) pe_int (fun _ _ => rfl)) (pe_ix ix_seq (pv 0) pe_int (fun _ _ => rfl)))) (pa_cons (pe_op op_mulA (pe_ix ix_seq (pv 0) pe_int (fun _ _ => rfl)) (pe_ix ix_seq (pv 1) pe_int (fun _ _ => rfl))) pa_nil))))), fun i c => ⟨Dead, ?_, fun _ _ h => (dead h).elim⟩⟩)
  obtain ⟨n, d, e, q, r⟩ := i
  obtain ⟨hn, hd, hq, hr'⟩ := c
  replace hn : n ≤ 400000 := hn
  replace hd : d + e ≤ 9000 := hd
  replace hq : Sz2 n d q := hq
  replace hr' : Sz2 n e r := hr'
  show St (RsE E NoX 2) [some (Told K q), some (Told K r)] _ Dead (Told K (q - r))
  have bq := sz_den hq
  have br := sz_den hr'
  refine st_ret (ev_call (ea_cons (ev_op (ev_op (ev_op (ev_var rfl) ev_c o_t0) (ev_op (ev_var rfl) ev_c o_t1) (o_mul (n := n) (m := e) hq.1 br (by omega))) (ev_op (ev_op (ev_var rfl) ev_c o_t0) (ev_op (ev_var rfl) ev_c o_t1) (o_mul (n := n) (m := d) hr'.1 bq (by omega))) op2_I0) (ea_cons (ev_op (ev_op (ev_var rfl) ev_c o_t1) (ev_op (ev_var rfl) ev_c o_t1) (o_mul (n := d) (m := e) bq br (by omega))) ea_nil)) (cl_sub (cl_low (den_ne q r) (big_mono (big_mul bq br) hd)) fun v H h => ?_))
  rw [rat_sub] at h
  exact h
theorem ten20 : (10 : Int) ^ 20 = 100000000000000000000 := by decide
def RatioP (K : PySem.W.Frag) : Pr := Some (fun q : Rat => Sz2 67 67 q) fun q => Told K q
instance mn_ratioP {W : HR} [w : PreT W] : Mn W (RatioP K) := mn_some
theorem ok_ratio {f : Addr} {fd : FuncData} (F : Fun K "_law_ratio" "_law_ratio" s__law_ratio f fd) (D__law_draw : Df P w K mg base 2 "_law_draw" ["_law_hand_here", "_law_many"] sp_draw) (D__law_low : Df P w K mg base 1 "_law_low" ["_law_top", "_law_bottom"] (sp_lowest_terms K)) :
    FnOk P w K mg base (L2N.CX P w) 3 f fd ["_law_hand_here"] (SpW WL (fun _ : Unit => True) fun _ => ⟨[Hand], RatioP K, NoX⟩) := by
  refine okW F sc__law_ratio (fun i => rfl) (by decide) (fun cdv A outer s H E hr => ⟨_, (pss_cons (ps_set (i := 1) sc__law_ratio.nd rfl (by first | exact Or.inl rfl | exact Or.inr rfl) (pe_ifExp (pt_cmpR (op_eqA hr.units) (pe_df D__law_draw (hr.mono (by decide)) (L2N.takes_of rfl rfl rfl rfl) (pa_cons (pv 0) (pa_cons pe_int pa_nil))) pe_int (nomark _)) pe_int (pe_op op_pow pe_int pe_int))) (pss_cons (ps_set (i := 2) sc__law_ratio.nd rfl (by first | exact Or.inl rfl | exact Or.inr rfl) (pe_op op_sub (pe_df D__law_draw (hr.mono (by decide)) (L2N.takes_of rfl rfl rfl rfl) (pa_cons (pv 0) (pa_cons (pe_op op_addA (pe_op op_mulA pe_int (pv 1)) pe_int) pa_nil))) (pv 1))) (pss_one (ps_ret (pe_df D__law_low (hr.mono (by decide)) (L2N.takes_of rfl rfl rfl rfl) (pa_cons (pv 2) (pa_cons (pe_op op_addA pe_int (pe_df D__law_draw (hr.mono (by decide)) (L2N.takes_of rfl rfl rfl rfl) (pa_cons (pv 0) (pa_cons (pe_ifExp (pt_cmpR (op_eqA hr.units) (pe_df D__law_draw (hr.mono (by decide)) (L2N.takes_of rfl rfl rfl rfl) (pa_cons (pv 0) (pa_cons pe_int pa_nil))) pe_int (nomark _)) pe_int (pv 1)) pa_nil)))) pa_nil))))))), fun i c => ⟨Dead, ?_, fun _ _ h => (dead h).elim⟩⟩)
  show St (RsW WL E NoX 3) [some Hand, none, none] _ Dead (RatioP K)
  refine st_seq (st_set (P := Some (fun f : Int => 4 ≤ f ∧ f ≤ 10 ^ 20) fun f => Is (.int f)) (ev_ifU (eu_test (ev_op (ev_call (ea_cons (ev_var rfl) (ea_cons ev_c ea_nil)) (cl_draw (m := 2) (by decide) (big300 (by decide)))) ev_c o_eqR)) (ev_some 4 (by decide) ev_c) (ev_some (10 ^ 20) (by decide) (ev_op ev_c ev_c (o_pow ⟨by decide, by decide, by decide⟩))))) ?_
  refine st_open 1 rfl fun g hg => ?_
  rw [ten20] at hg
  refine st_seq (st_set (P := Rng (-g) (g + 1)) (ev_op (ev_call (ea_cons (ev_var rfl) (ea_cons (ev_op (ev_op ev_c (ev_var rfl) (o_mul (n := 2) (m := 120) (big_of (by decide) (by decide)) (big_of (by omega) (by omega)) (by decide))) ev_c o_add) ea_nil)) (cl_draw (by omega) (big300 (by omega)))) (ev_var rfl) (op2_sub o_subR fun v H ⟨i, h, e⟩ => ⟨i, by omega, e⟩))) ?_
  refine st_open 2 rfl fun t ht => ?_
  refine st_ret (fun s H ty hx Q q => ?_)
  refine ev_call (Y := RsW WL E NoX 3) (Ps := [Is (.int t), Rng 1 (10 ^ 20 + 1)]) (P := RatioP K) (ea_cons (ev_var rfl) (ea_cons (ev_op ev_c (ev_call (Ps := [Hand, Some (fun m : Int => 1 ≤ m ∧ m ≤ 10 ^ 20) fun m => Is (.int m)]) (P := Rng 0 (10 ^ 20)) (ea_cons (ev_var rfl) (ea_cons (ev_ifU (eu_test (ev_op (ev_call (ea_cons (ev_var rfl) (ea_cons ev_c ea_nil)) (cl_draw (m := 2) (by decide) (big300 (by decide)))) ev_c o_eqR)) (ev_some 6 (by decide) ev_c) (ev_some g ⟨by omega, by rw [ten20]; omega⟩ (ev_var rfl))) ea_nil)) ?_) (op2_sub o_addLR fun v H ⟨i, h, e⟩ => ⟨i, by omega, e⟩)) ea_nil)) ?_ s H ty hx Q q
  · intro vs H1 al Q1 E1 q1 e1
    obtain ⟨x, y, rfl, a1, m, hm, a2⟩ := allp2 al
    rw [ten20] at hm
    exact cl_draw (m := m) (by omega) (big300 (by omega)) [x, y] H1 ⟨a1, a2, True.intro⟩ Q1 E1 (fun v H2 w2 ⟨i, hi, e⟩ => q1 v H2 w2 ⟨i, by rw [ten20]; omega, e⟩) e1
  · intro vs H1 al Q1 E1 q1 e1
    obtain ⟨x, y, rfl, a1, m, hm, a2⟩ := allp2 al
    rw [ten20] at hm
    exact cl_low (K := K) (t := t) (b := m) (W := WL) (by omega) (big_mono (n := 67) (big_of (by omega) (by omega)) (by decide)) [x, y] H1 ⟨a1, a2, True.intro⟩ Q1 E1 (fun v H2 w2 h => q1 v H2 w2 ⟨_, sz2_divInt (by omega) (big_of (by omega) (by omega)) (big_of (by omega) (by omega)), h⟩) e1
end
end U

namespace U
open PySem PySem.Spec PyProof.Rows L2
/-! ### the law: heavier weights, sums -/
section
variable {P : Program} {w : World} {K : PySem.W.Frag} {mg : Str → Option Value} {base : Heap} {CX : Addrs}
theorem hv_cases (q : Rat) : ∀ ws : List Int, (∀ y ∈ ws, hvBad q y = false) ∨ ∃ k, k < ws.length ∧ (∀ j, j < k → hvBad q (ws.getD j 0) = false) ∧ hvBad q (ws.getD k 0) = true
  | [] => .inl fun _ h => by cases h
  | y :: ys => by
    cases hy : hvBad q y with
    | true => exact .inr ⟨0, Nat.succ_pos _, fun j hj => absurd hj (Nat.not_lt_zero j), hy⟩
    | false =>
      rcases hv_cases q ys with h | ⟨k, hk, hg, hb⟩
      · refine .inl fun z hz => ?_
        rcases List.mem_cons.mp hz with e | e
        · rw [e]; exact hy
        · exact h z e
      · refine .inr ⟨k + 1, by simp; omega, fun j hj => ?_, by simpa using hb⟩
        cases j with
        | zero => exact hy
        | succ j => have := hg j (by omega); simpa using this
inductive HlI
  | good (ws : List Int) (q : Rat)
  | at_ (ws : List Int) (q : Rat) (k : Nat)
def HlSz (ws : List Int) (q : Rat) : Prop := ws.length ≤ 1000 ∧ (∀ y ∈ ws, 1 ≤ y ∧ y ≤ 9) ∧ Sz2 1000 8000 q
def okHl : HlI → Prop
  | .good ws q => HlSz ws q ∧ ∀ y ∈ ws, hvBad q y = false
  | .at_ ws q k => HlSz ws q ∧ k < ws.length ∧ (∀ j, j < k → hvBad q (ws.getD j 0) = false) ∧ hvBad q (ws.getD k 0) = true
def wHl (K : PySem.W.Frag) : HlI → Way
  | .good ws q => ⟨[Dv K (wD ws), Told K q], Dv K (wD (hvWs q ws)), NoX⟩
  | .at_ ws q k => ⟨[Dv K (wD ws), Told K q], Dv K (.lst [.int (k : Int), .str "weight"]), NoX⟩
def sp_hl (K : PySem.W.Frag) : Sp := SpW Evl.Ex okHl (wHl K)
theorem hvBad_eq {q : Rat} {y : Int} : (decide ((((y : Rat) * q).den : Int) ≠ 1) || (decide (((y : Rat) * q).num < 1) || decide (((y : Rat) * q).num > 9))) = hvBad q y := by
  unfold hvBad
  generalize ((y : Rat) * q).num = m
  congr 1
  by_cases h1 : 1 ≤ m
  · rw [decide_eq_true h1, decide_eq_false (show ¬ m < 1 by omega)]
    by_cases h2 : m ≤ 9
    · rw [decide_eq_true h2, decide_eq_false (show ¬ m > 9 by omega)]; rfl
    · rw [decide_eq_false h2, decide_eq_true (show m > 9 by omega)]; rfl
  · rw [decide_eq_false h1, decide_eq_true (show m < 1 by omega)]; rfl
theorem ok_hl {f : Addr} {fd : FuncData} (F : Fun K "_law_heavier" "_law_heavier" s__law_heavier f fd) (T : Txt P w K mg CX) (D__law_mul : Df P w K mg base 2 "_law_mul" ["_law_a", "_law_b"] (sp_t2 K fun q r => q * r)) : FnOk P w K mg base (L2N.CX P w) 3 f fd ["_law_weights", "_law_x"] (sp_hl K) := by
  refine okW F sc__law_heavier (fun i => by cases i <;> rfl) (by decide) (fun cdv A outer s H E hr => ⟨_, (pss_cons (ps_set (i := 2) sc__law_heavier.nd rfl (by first | exact Or.inl rfl | exact Or.inr rfl) (pe_lst pa_nil)) (pss_cons (ps_for (passes_of rfl) rfl (pi_range1 (by rfl) T.n_range (pa_cons (pe_callB call_lenA (by rfl) T.n_len (by decide +kernel) (pa_cons (pv 0) pa_nil)) pa_nil)) (pg_name (i := 3) sc__law_heavier.nd rfl (by first | exact Or.inl rfl | exact Or.inr rfl)) (pss_cons (ps_set (i := 4) sc__law_heavier.nd rfl (by first | exact Or.inl rfl | exact Or.inr rfl) (pe_df D__law_mul (hr.mono (by decide)) (L2N.takes_of rfl rfl rfl rfl) (pa_cons (pe_tup (pa_cons (pe_ix ix_seq (pv 0) (pv 3) (fun _ _ => rfl)) (pa_cons pe_int pa_nil))) (pa_cons (pv 1) pa_nil)))) (pss_cons (ps_if (PW.pt (pw_or (pt_cmpR (op_neA hr.units) (pe_ix ix_seq (pv 4) pe_int (fun _ _ => rfl)) pe_int (nomark _)) (pw_or (pt_cmpR op_lt (pe_ix ix_seq (pv 4) pe_int (fun _ _ => rfl)) pe_int (nomark _)) (pw_or1 (pt_cmpR op_gt (pe_ix ix_seq (pv 4) pe_int (fun _ _ => rfl)) pe_int (nomark _)))))) (pss_one (ps_ret (pe_lst (pa_cons (pv 3) (pa_cons pe_str pa_nil))))) pss_nil) (pss_one (ps_expr (pe_bm PySem.F.plainAttrs_list PySem.F.slot_list_append PySem.F.type_list_append mt_append (pv 2) (pa_cons (pe_ix ix_seq (pv 4) pe_int (fun _ _ => rfl)) pa_nil))))))) (pss_one (ps_ret (pe_callTy call_tupA (by rfl) T.n_tuple (by decide +kernel) (pa_cons (pv 2) pa_nil)))))), fun i c => ⟨Dead, ?_, fun _ _ h => (dead h).elim⟩⟩)
  have tk : ∀ (q : Rat) (ws : List Int) (i : Nat), i < ws.length → intPs ((hvWs q ws).take (i + 1)) = intPs ((hvWs q ws).take i) ++ [Is (.int ((ws.getD i 0 : Rat) * q).num)] := fun q ws i hi => by
    have e : (hvWs q ws)[i]? = some (((ws.getD i 0 : Int) : Rat) * q).num := by unfold hvWs; simp [hi]
    rw [List.take_succ, e]
    unfold intPs
    rw [List.map_append]
    rfl
  have newv : ∀ {ws : List Int} {q : Rat} {H0 : Hp} {i : Nat} {E1 : L2.St → XK} {X : XP} {own : Pr}, HlSz ws q → i < ws.length → [Mn Evl.Ex own] → Ev ⟨Evl.Ex, fun _ => E, List.replicate 5 none, X⟩ [some (At Evl.Ex H0 (Dv K (wD ws))), some (At Evl.Ex H0 (Told K q)), some own, some (Is (.int (i : Int))), none] (tCallS (sp_t2 K fun q r => q * r) E1 (tCons (tTup (tCons (tOp (rIx K) (tVar 0) (tVar 3)) (tCons (tC (.int 1)) tNil))) (tCons (tVar 1) tNil))) (Told K ((ws.getD i 0 : Rat) * q)) := fun {ws q H0 i E1 X own} hz hi _ => by
    obtain ⟨_, hw, hs⟩ := hz
    have h1 := hw (ws.getD i 0) (by rw [List.getD_eq_getElem?_getD, List.getElem?_eq_getElem hi]; exact List.getElem_mem hi)
    have s1 : Sz2 1000 1 (ws.getD i 0 : Rat) := (sz2_int (n := 4) (d := 1) (show Big 4 (ws.getD i 0) by unfold Big; omega) (by decide)).mono (by decide) (by decide)
    have e0 : (ws.map D.int).getD i .non = .int (ws.getD i 0) := by simp [hi]
    refine ev_call (ea_cons (P1 := Told K (ws.getD i 0 : Rat)) (ev_tup (K := K) (ea_cons (P1 := Is (.int (ws.getD i 0))) (Ev.sub (ev_op (P1 := Dv K (.tup (ws.map D.int))) (Ev.sub (ev_var rfl) fun v H h => at_now h) (ev_var rfl) (o_ixDT (i := i) (by rw [List.length_map]; exact hi))) fun v H h => by rw [e0] at h; exact h) (ea_cons ev_c ea_nil))) (ea_cons (P1 := Told K q) (Ev.sub (ev_var rfl) fun v H h => at_now h) ea_nil)) (cl_t2 (n := 1000) (by decide) (by decide) s1 hs)
  cases i with
  | good ws q =>
    obtain ⟨hz, hgood⟩ := c
    show St (RsE E NoX 5) [some (Dv K (wD ws)), some (Told K q), none, none, none] _ Dead (Dv K (wD (hvWs q ws)))
    have few := hz.1
    refine st_local (Y := RsE E NoX 5) (N' := fun _ _ => Dead) (R' := fun _ _ => Dv K (wD (hvWs q ws))) (fun H0 l hl => ?_) (fun _ _ _ _ _ h => (dead h).elim) (fun _ _ _ _ _ h => h)
    show St ⟨WO Evl.Ex H0 l, fun _ => E, List.replicate 5 none, NoX⟩ [some (At Evl.Ex H0 (Dv K (wD ws))), some (At Evl.Ex H0 (Told K q)), some (Loc l []), none, none] _ Dead (Dv K (wD (hvWs q ws)))
    have lw : (ws.map D.int).length = ws.length := List.length_map _
    refine st_seq (M := [some (At Evl.Ex H0 (Dv K (wD ws))), some (At Evl.Ex H0 (Told K q)), some (Loc l (intPs ((hvWs q ws).take ((ws.map D.int).length : Int).toNat))), none, none]) ?_ ?_
    · refine st_forW (W := Evl.Ex) (H0 := H0) (l := l) rfl (ej_range1 (ea_cons (Ev.sub (P := Is (.int ((ws.map D.int).length : Int))) (ev_cb (Y := ⟨Evl.Ex, fun _ => E, List.replicate 5 none, NoX⟩) (ea_cons (P1 := Dv K (.tup (ws.map D.int))) (Ev.sub (ev_var rfl) fun v H h => at_now h) ea_nil) opA_lenDT) fun _ _ h => h) ea_nil) (by omega)) (fun i => [some (At Evl.Ex H0 (Dv K (wD ws))), some (At Evl.Ex H0 (Told K q)), some (Loc l (intPs ((hvWs q ws).take i))), none, none]) sub_refl (fun i hi => ?_)
      have hi : i < ws.length := by omega
      have hb := hgood (ws.getD i 0) (by rw [List.getD_eq_getElem?_getD, List.getElem?_eq_getElem hi]; exact List.getElem_mem hi)
      refine st_seq (st_setW (W := Evl.Ex) (H0 := H0) (l := l) rfl (newv hz hi)) ?_
      refine st_seq (st_ifW (W := Evl.Ex) (H0 := H0) (l := l) (b := false) rfl (EvT.to (et_or (et_test (ev_op (ev_op (ev_var rfl) ev_c o_t1) ev_c o_neI)) (fun _ => et_or (et_test (ev_op (ev_op (ev_var rfl) ev_c o_t0) ev_c op2_I0)) (fun _ => et_test (ev_op (ev_op (ev_var rfl) ev_c o_t0) ev_c op2_I0)))) (by rw [hvBad_eq]; exact hb)) (fun h => by cases h) (fun _ => st_next)) ?_
      refine st_post (N' := [some (At Evl.Ex H0 (Dv K (wD ws))), some (At Evl.Ex H0 (Told K q)), some (Loc l (intPs ((hvWs q ws).take i) ++ [Is (.int ((ws.getD i 0 : Rat) * q).num)])), some (Is (.int (i : Int))), some (Told K ((ws.getD i 0 : Rat) * q))]) (R' := Dv K (wD (hvWs q ws))) ?_ (sub_keep (sub_keep (sub_imp (fun v H h => by rw [tk _ _ _ hi]; exact h) (sub_drop (sub_drop sub_nil))))) (fun _ _ h => h)
      exact st_append (W := Evl.Ex) (H0 := H0) (l := l) rfl hl (i := 2) (G' := [some (At Evl.Ex H0 (Dv K (wD ws))), some (At Evl.Ex H0 (Told K q)), none, some (Is (.int (i : Int))), some (Told K ((ws.getD i 0 : Rat) * q))]) rfl rfl (fun _ _ _ => True.intro) (by unfold intPs; rw [List.length_map, List.length_take]; omega) (ev_op (ev_var rfl) ev_c o_t0)
    · have lh : (hvWs q ws).take ((ws.map D.int).length : Int).toNat = hvWs q ws := List.take_of_length_le (by unfold hvWs; rw [List.length_map]; omega)
      rw [lh]
      refine st_ret (Ev.upW (W := Evl.Ex) (H0 := H0) (l := l) rfl (Ev.sub (ev_cb (ea_cons (P1 := Lst K (intPs (hvWs q ws))) (Ev.sub (ev_var rfl) fun v H h => own_lst (loc_own h)) ea_nil) opA_tupL) fun v H h => ?_))
      show Tup K (DvL K ((hvWs q ws).map D.int)) v H
      rw [← ints_dvl]; exact h
  | at_ ws q k =>
    obtain ⟨hz, hk, hgood, hbad⟩ := c
    show St (RsE E NoX 5) [some (Dv K (wD ws)), some (Told K q), none, none, none] _ Dead (Dv K (.lst [.int (k : Int), .str "weight"]))
    have few := hz.1
    refine st_local (Y := RsE E NoX 5) (N' := fun _ _ => Dead) (R' := fun _ _ => Dv K (.lst [.int (k : Int), .str "weight"])) (fun H0 l hl => ?_) (fun _ _ _ _ _ h => (dead h).elim) (fun _ _ _ _ _ h => h)
    show St ⟨WO Evl.Ex H0 l, fun _ => E, List.replicate 5 none, NoX⟩ [some (At Evl.Ex H0 (Dv K (wD ws))), some (At Evl.Ex H0 (Told K q)), some (Loc l []), none, none] _ Dead (Dv K (.lst [.int (k : Int), .str "weight"]))
    have lw : (ws.map D.int).length = ws.length := List.length_map _
    refine st_seq (M := [some (Some (fun _ : Unit => ((ws.map D.int).length : Int).toNat ≤ k) fun _ => At Evl.Ex H0 (Dv K (wD ws))), some (At Evl.Ex H0 (Told K q)), some (Loc l (intPs ((hvWs q ws).take ((ws.map D.int).length : Int).toNat))), none, none]) ?_ ?_
    · refine st_forW (W := Evl.Ex) (H0 := H0) (l := l) rfl (ej_range1 (ea_cons (Ev.sub (P := Is (.int ((ws.map D.int).length : Int))) (ev_cb (Y := ⟨Evl.Ex, fun _ => E, List.replicate 5 none, NoX⟩) (ea_cons (P1 := Dv K (.tup (ws.map D.int))) (Ev.sub (ev_var rfl) fun v H h => at_now h) ea_nil) opA_lenDT) fun _ _ h => h) ea_nil) (by omega)) (fun i => [some (Some (fun _ : Unit => i ≤ k) fun _ => At Evl.Ex H0 (Dv K (wD ws))), some (At Evl.Ex H0 (Told K q)), some (Loc l (intPs ((hvWs q ws).take i))), none, none]) (sub_imp (fun v H h => ⟨(), Nat.zero_le _, h⟩) sub_refl) (fun i hi => ?_)
      have hi : i < ws.length := by omega
      refine st_open 0 rfl fun _ hik => ?_
      replace hik : i ≤ k := hik
      have hb : hvBad q (ws.getD i 0) = decide (i = k) := by
        by_cases e : i = k
        · rw [e, hbad, decide_eq_true rfl]
        · rw [hgood i (by omega), decide_eq_false e]
      refine st_seq (st_setW (W := Evl.Ex) (H0 := H0) (l := l) rfl (newv hz hi)) ?_
      refine st_seq (M := [some (Some (fun _ : Unit => i + 1 ≤ k) fun _ => At Evl.Ex H0 (Dv K (wD ws))), some (At Evl.Ex H0 (Told K q)), some (Loc l (intPs ((hvWs q ws).take i))), some (Is (.int (i : Int))), some (Told K ((ws.getD i 0 : Rat) * q))]) (st_ifW (W := Evl.Ex) (H0 := H0) (l := l) (b := decide (i = k)) rfl (EvT.to (et_or (et_test (ev_op (ev_op (ev_var rfl) ev_c o_t1) ev_c o_neI)) (fun _ => et_or (et_test (ev_op (ev_op (ev_var rfl) ev_c o_t0) ev_c op2_I0)) (fun _ => et_test (ev_op (ev_op (ev_var rfl) ev_c o_t0) ev_c op2_I0)))) (by rw [hvBad_eq]; exact hb)) (fun h => ?_) (fun h => ?_)) ?_
      · have e : i = k := of_decide_eq_true h
        subst e
        exact st_ret (Ev.upW (W := Evl.Ex) (H0 := H0) (l := l) rfl (ev_dlst (Y := ⟨Evl.Ex, fun _ => E, List.replicate 5 none, NoX⟩) (ea_d (d := .int (i : Int)) (ev_var rfl) (ea_d (d := .str "weight") ev_c ea_d0))))
      · have e : ¬ i = k := of_decide_eq_false h
        exact st_post (N' := [some (At Evl.Ex H0 (Dv K (wD ws))), some (At Evl.Ex H0 (Told K q)), some (Loc l (intPs ((hvWs q ws).take i))), some (Is (.int (i : Int))), some (Told K ((ws.getD i 0 : Rat) * q))]) (R' := Dv K (.lst [.int (k : Int), .str "weight"])) st_next (sub_imp (fun v H z => ⟨(), show i + 1 ≤ k by omega, z⟩) sub_refl) (fun _ _ h => h)
      refine st_open 0 rfl fun _ hik2 => ?_
      refine st_post (N' := [some (At Evl.Ex H0 (Dv K (wD ws))), some (At Evl.Ex H0 (Told K q)), some (Loc l (intPs ((hvWs q ws).take i) ++ [Is (.int ((ws.getD i 0 : Rat) * q).num)])), some (Is (.int (i : Int))), some (Told K ((ws.getD i 0 : Rat) * q))]) (R' := Dv K (.lst [.int (k : Int), .str "weight"])) ?_ (sub_imp (fun v H z => ⟨(), hik2, z⟩) (sub_keep (sub_imp (fun v H h => by rw [tk _ _ _ hi]; exact h) (sub_drop (sub_drop sub_nil))))) (fun _ _ h => h)
      exact st_append (W := Evl.Ex) (H0 := H0) (l := l) rfl hl (i := 2) (G' := [some (At Evl.Ex H0 (Dv K (wD ws))), some (At Evl.Ex H0 (Told K q)), none, some (Is (.int (i : Int))), some (Told K ((ws.getD i 0 : Rat) * q))]) rfl rfl (fun _ _ _ => True.intro) (by unfold intPs; rw [List.length_map, List.length_take]; omega) (ev_op (ev_var rfl) ev_c o_t0)
    · refine st_open 0 rfl fun _ hlen => ?_
      replace hlen : ((ws.map D.int).length : Int).toNat ≤ k := hlen
      omega
end
end U

namespace U
open PySem PySem.Spec PyProof.Rows L2
/-! ### the law: sums -/
section
variable {P : Program} {w : World} {K : PySem.W.Frag} {mg : Str → Option Value} {base : Heap} {CX : Addrs}
theorem sz0 {n d : Nat} (h : 0 < n) (k : 0 < d) : Sz2 n d 0 := by
  have := sz2_int (n := n) (d := d) (i := 0) (show Big n 0 by unfold Big; exact Nat.two_pow_pos n) k
  simpa using this
def sp_sums (K : PySem.W.Frag) : Sp := SpW Evl.Ex (fun r : RowT => RG r) fun r => ⟨[Dv K (wD r.ws), Dv K (sD r.qs)], Tup K [Told K (firstOf r.ws r.qs), Told K (secondOf r.ws r.qs)], NoX⟩
theorem ok_sums {f : Addr} {fd : FuncData} (F : Fun K "_law_sums" "_law_sums" s__law_sums f fd) (T : Txt P w K mg CX) (D__law_mul : Df P w K mg base 2 "_law_mul" ["_law_a", "_law_b"] (sp_t2 K fun q r => q * r)) (D__law_add : Df P w K mg base 2 "_law_add" ["_law_a", "_law_b"] (sp_t2 K fun q r => q + r)) : FnOk P w K mg base (L2N.CX P w) 3 f fd ["_law_weights", "_law_speeds"] (sp_sums K) := by
  refine okW F sc__law_sums (fun i => rfl) (by decide) (fun cdv A outer s H E hr => ⟨_, (pss_cons (ps_set (i := 2) sc__law_sums.nd rfl (by first | exact Or.inl rfl | exact Or.inr rfl) (pe_tup (pa_cons pe_int (pa_cons pe_int pa_nil)))) (pss_cons (ps_set (i := 3) sc__law_sums.nd rfl (by first | exact Or.inl rfl | exact Or.inr rfl) (pe_tup (pa_cons pe_int (pa_cons pe_int pa_nil)))) (pss_cons (ps_for (passes_of rfl) rfl (pi_range1 (by rfl) T.n_range (pa_cons (pe_callB call_lenA (by rfl) T.n_len (by decide +kernel) (pa_cons (pv 0) pa_nil)) pa_nil)) (pg_name (i := 4) sc__law_sums.nd rfl (by first | exact Or.inl rfl | exact Or.inr rfl)) (pss_cons (ps_set (i := 5) sc__law_sums.nd rfl (by first | exact Or.inl rfl | exact Or.inr rfl) (pe_df D__law_mul (hr.mono (by decide)) (L2N.takes_of rfl rfl rfl rfl) (pa_cons (pe_tup (pa_cons (pe_ix ix_seq (pv 0) (pv 4) (fun _ _ => rfl)) (pa_cons pe_int pa_nil))) (pa_cons (pe_ix ix_seq (pv 1) (pv 4) (fun _ _ => rfl)) pa_nil)))) (pss_cons (ps_set (i := 2) sc__law_sums.nd rfl (by first | exact Or.inl rfl | exact Or.inr rfl) (pe_df D__law_add (hr.mono (by decide)) (L2N.takes_of rfl rfl rfl rfl) (pa_cons (pv 2) (pa_cons (pv 5) pa_nil)))) (pss_one (ps_set (i := 3) sc__law_sums.nd rfl (by first | exact Or.inl rfl | exact Or.inr rfl) (pe_df D__law_add (hr.mono (by decide)) (L2N.takes_of rfl rfl rfl rfl) (pa_cons (pv 3) (pa_cons (pe_df D__law_mul (hr.mono (by decide)) (L2N.takes_of rfl rfl rfl rfl) (pa_cons (pv 5) (pa_cons (pe_ix ix_seq (pv 1) (pv 4) (fun _ _ => rfl)) pa_nil))) pa_nil)))))))) (pss_one (ps_ret (pe_tup (pa_cons (pv 2) (pa_cons (pv 3) pa_nil)))))))), fun r c => ⟨Dead, ?_, fun _ _ h => (dead h).elim⟩⟩)
  obtain ⟨ws, qs, b⟩ := r
  obtain ⟨n, d, len, few, many, hw, hn, hd, he, hq, N, DD, hN, hD, hs1, hs2⟩ := c
  replace len : qs.length = ws.length := len
  replace many : ws.length ≤ 40 := many
  replace hw : ∀ y ∈ ws, 1 ≤ y ∧ y ≤ 9 := hw
  replace hn : n ≤ 1000 := hn
  replace hd : d ≤ 400 := hd
  replace hq : ∀ q ∈ qs, Sz2 n d q := hq
  replace hD : DD + (1 + d + d) ≤ 9000 := hD
  replace hs1 : ∀ i, i < ws.length → Sz2 N DD (sumR ((drivesOf ws qs).take i)) := hs1
  replace hs2 : ∀ i, i < ws.length → Sz2 N DD (sumR ((secondsOf ws qs).take i)) := hs2
  have lw : (ws.map D.int).length = ws.length := List.length_map _
  have lq : (qs.map ratD).length = qs.length := List.length_map _
  have dl : (drivesOf ws qs).length = ws.length := drives_len'
  have sl : (secondsOf ws qs).length = ws.length := by unfold secondsOf; simp
  show St (RsE E NoX 6) [some (Dv K (wD ws)), some (Dv K (sD qs)), none, none, none, none] _ Dead (Tup K [Told K (firstOf ws qs), Told K (secondOf ws qs)])
  refine st_seq (st_set (P := Told K 0) (ev_tup (K := K) (ea_cons ev_c (ea_cons ev_c ea_nil)))) ?_
  refine st_seq (st_set (P := Told K 0) (ev_tup (K := K) (ea_cons ev_c (ea_cons ev_c ea_nil)))) ?_
  refine st_seq (M := [some (Dv K (wD ws)), some (Dv K (sD qs)), some (Told K (sumR ((drivesOf ws qs).take ((ws.map D.int).length : Int).toNat))), some (Told K (sumR ((secondsOf ws qs).take ((ws.map D.int).length : Int).toNat))), none, none]) (st_for (Y := RsE E NoX 6) (ei_range1 (Y := RsE E NoX 6) (ea_cons (Y := RsE E NoX 6) (Ev.sub (P := Is (.int ((ws.map D.int).length : Int))) (ev_cb (Y := RsE E NoX 6) (ea_cons (P1 := Dv K (.tup (ws.map D.int))) (ev_var rfl) ea_nil) opA_lenDT) fun _ _ h => h) ea_nil) (by omega)) (fun i => [some (Dv K (wD ws)), some (Dv K (sD qs)), some (Told K (sumR ((drivesOf ws qs).take i))), some (Told K (sumR ((secondsOf ws qs).take i))), none, none]) sub_refl (fun i hi => ?_)) ?_
  · have hi : i < ws.length := by omega
    have hi' : i < qs.length := by omega
    have h1 := hw (ws.getD i 0) (by rw [List.getD_eq_getElem?_getD, List.getElem?_eq_getElem hi]; exact List.getElem_mem hi)
    have s1 : Sz2 1000 1 (ws.getD i 0 : Rat) := (sz2_int (n := 4) (d := 1) (show Big 4 (ws.getD i 0) by unfold Big; omega) (by decide)).mono (by decide) (by decide)
    have s2 : Sz2 1000 d (qs.getD i 0) := (hq _ (by rw [List.getD_eq_getElem?_getD, List.getElem?_eq_getElem hi']; exact List.getElem_mem hi')).mono hn (Nat.le_refl _)
    have s3 : Sz2 2000 (1 + d) ((ws.getD i 0 : Rat) * qs.getD i 0) := sz2_mul s1 s2
    have s4 : Sz2 3000 (1 + d + d) ((ws.getD i 0 : Rat) * qs.getD i 0 * qs.getD i 0) := sz2_mul s3 s2
    have g1 : (drivesOf ws qs).getD i 0 = (ws.getD i 0 : Rat) * qs.getD i 0 := by unfold drivesOf; simp [hi]
    have g2 : (secondsOf ws qs).getD i 0 = (ws.getD i 0 : Rat) * qs.getD i 0 * qs.getD i 0 := by rw [← g1]; unfold secondsOf; simp [hi]
    have e0 : (ws.map D.int).getD i .non = .int (ws.getD i 0) := by simp [hi]
    have e1 : (qs.map ratD).getD i .non = ratD (qs.getD i 0) := by simp [hi']
    have sp : Ev (RsE E NoX 6) [some (Dv K (wD ws)), some (Dv K (sD qs)), some (Told K (sumR ((drivesOf ws qs).take i))), some (Told K (sumR ((secondsOf ws qs).take i))), some (Is (.int (i : Int))), none] (tOp (rIx K) (tVar 1) (tVar 4)) (Told K (qs.getD i 0)) :=
      Ev.sub (ev_op (P1 := Dv K (.tup (qs.map ratD))) (ev_var rfl) (ev_var rfl) (o_ixDT (i := i) (by omega))) fun v H h => by rw [e1] at h; exact h
    refine st_seq (st_set (P := Told K ((ws.getD i 0 : Rat) * qs.getD i 0)) (ev_call (ea_cons (P1 := Told K (ws.getD i 0 : Rat)) (ev_tup (K := K) (ea_cons (P1 := Is (.int (ws.getD i 0))) (Ev.sub (ev_op (P1 := Dv K (.tup (ws.map D.int))) (ev_var rfl) (ev_var rfl) (o_ixDT (i := i) (by omega))) fun v H h => by rw [e0] at h; exact h) (ea_cons ev_c ea_nil))) (ea_cons sp ea_nil)) (cl_t2 (n := 1000) (by decide) (by omega) s1 s2))) ?_
    refine st_seq (st_set (P := Told K (sumR ((drivesOf ws qs).take (i + 1)))) (Ev.sub (ev_call (ea_cons (P1 := Told K (sumR ((drivesOf ws qs).take i))) (ev_var rfl) (ea_cons (P1 := Told K ((ws.getD i 0 : Rat) * qs.getD i 0)) (ev_var rfl) ea_nil)) (cl_t2 (n := N + 3000) (by omega) (by omega) ((hs1 i hi).mono (by omega) (Nat.le_refl _)) (s3.mono (by omega) (Nat.le_refl _)))) fun v H h => by rw [sumR_take (by omega), g1]; exact h)) ?_
    refine st_post (N' := [some (Dv K (wD ws)), some (Dv K (sD qs)), some (Told K (sumR ((drivesOf ws qs).take (i + 1)))), some (Told K (sumR ((secondsOf ws qs).take (i + 1)))), some (Is (.int (i : Int))), some (Told K ((ws.getD i 0 : Rat) * qs.getD i 0))]) (R' := Tup K [Told K (firstOf ws qs), Told K (secondOf ws qs)]) ?_ (sub_keep (sub_keep (sub_keep (sub_keep (sub_drop (sub_drop sub_nil)))))) (fun _ _ h => h)
    exact st_set (Ev.sub (ev_call (ea_cons (P1 := Told K (sumR ((secondsOf ws qs).take i))) (ev_var rfl) (ea_cons (P1 := Told K ((ws.getD i 0 : Rat) * qs.getD i 0 * qs.getD i 0)) (ev_call (ea_cons (P1 := Told K ((ws.getD i 0 : Rat) * qs.getD i 0)) (ev_var rfl) (ea_cons (P1 := Told K (qs.getD i 0)) (Ev.sub (ev_op (P1 := Dv K (.tup (qs.map ratD))) (ev_var rfl) (ev_var rfl) (o_ixDT (i := i) (by omega))) fun v H h => by rw [e1] at h; exact h) ea_nil)) (cl_t2 (n := 2000) (by decide) (by omega) s3 (s2.mono (by decide) (Nat.le_refl _)))) ea_nil)) (cl_t2 (n := N + 3000) (by omega) (by omega) ((hs2 i hi).mono (by omega) (Nat.le_refl _)) (s4.mono (by omega) (Nat.le_refl _)))) fun v H h => by rw [sumR_take (by omega), g2]; exact h)
  · have e1 : (drivesOf ws qs).take ((ws.map D.int).length : Int).toNat = drivesOf ws qs := List.take_of_length_le (by omega)
    have e2 : (secondsOf ws qs).take ((ws.map D.int).length : Int).toNat = secondsOf ws qs := List.take_of_length_le (by omega)
    rw [e1, e2]
    exact st_ret (ev_tup (K := K) (ea_cons (P1 := Told K (firstOf ws qs)) (ev_var rfl) (ea_cons (P1 := Told K (secondOf ws qs)) (ev_var rfl) ea_nil)))
end
end U

namespace U
open PySem PySem.Spec PyProof.Rows L2
/-! ### the law: what is tried -/
abbrev s__law_tried : Stmt := top 29
theorem sc__law_tried : FnScope ["_law_row", "_law_name", "_law_x", "_law_made", "e"] ["_law_row", "_law_name", "_law_x"] (defScope s__law_tried) := ⟨rfl, rfl, rfl, by decide +kernel, rfl, by decide +kernel, by decide +kernel⟩
section
variable {P : Program} {w : World} {K : PySem.W.Frag} {mg : Str → Option Value} {base : Heap} {CX : Addrs}
inductive Op
  | mirrored
  | hurried
  | quicker
  | heavier
  | speeds
  | turned
def Op.name : Op → Str
  | .mirrored => "mirrored"
  | .hurried => "hurried"
  | .quicker => "quicker"
  | .heavier => "heavier"
  | .speeds => "speeds"
  | .turned => "turned"
inductive Res
  | row (r : RowT)
  | noMirror
  | noHurry
  | noRatio
  | badRow (e : Int × Str)
def Res.d : Res → D
  | .row r => .tup [wD r.ws, sD r.qs, .bl r.b]
  | .noMirror => .str "no mirror"
  | .noHurry => .str "no hurry"
  | .noRatio => .str "no ratio"
  | .badRow e => .lst [.int e.1, .str e.2]
/-- what comes of it -/
inductive Does (r : RowT) : Op → D → Res → Prop
  | mi {x : D} : okMi r → r.b = false → RG (mirR r) → Does r .mirrored x (.row (mirR r))
  | miX {x : D} : r.b = true → Does r .mirrored x .noMirror
  | hu {x : D} : okHu (.good r x) → Does r .hurried x (.row (ledR (fun q z => q + z) r x))
  | huS {x : D} : okHu (.shut r x) → Does r .hurried x .noHurry
  | huX {x : D} : okHu (.bad r x) → Does r .hurried x .noRatio
  | qk {x : D} : okQk (.good r x) → Does r .quicker x (.row (ledR (fun q z => q * z) r x))
  | qkX {x : D} : okQk (.bad r x) → Does r .quicker x .noRatio
  | hv {x : D} : okHv (.good r x) → Does r .heavier x (.row ⟨hvWs (valD x) r.ws, r.qs, r.b⟩)
  | hvX {x : D} : okHv (.bad r x) → Does r .heavier x .noRatio
  | hvA {x : D} {k : Nat} : okHv (.at_ r x k) → Does r .heavier x (.badRow ((k : Int), "weight"))
  | ws {ds : List D} : (∀ d ∈ ds, goodS d = true ∧ Big 8000 (botD d)) → RG ⟨r.ws, ds.map valD, r.b⟩ → Does r .speeds (.lst ds) (.row ⟨r.ws, ds.map valD, r.b⟩)
  | wsX {x : D} {e : Int × Str} : okWs (.bad r x e) → Does r .speeds x (.badRow e)
  | tn {x : D} : okQk (.good r (.int (-1))) → Does r .turned x (.row (ledR (fun q z => q * z) r (.int (-1))))
structure TrI where
  r : RowT
  op : Op
  x : D
  out : Res
def okTr (i : TrI) : Prop := Does i.r i.op i.x i.out
def sp_tried (K : PySem.W.Frag) (CX : Addrs) : Sp := SpW Evl.Ex okTr fun i => ⟨[i.r.pr K CX, Dv K (.str i.op.name), Dv K i.x], Dv K i.out.d, NoX⟩
def Op.asg (K : PySem.W.Frag) (CX : Addrs) (W : WX) : Op → TS
  | .mirrored => tAsg (tMeS CX.Row "mirrored" (sp_mi K CX) (WE W) (tVar 0) tNil) (gName 3)
  | .hurried => tAsg (tMeS CX.Row "hurried" (sp_hu K CX) (WE W) (tVar 0) (tCons (tVar 2) tNil)) (gName 3)
  | .quicker => tAsg (tMeS CX.Row "quicker" (sp_qk K CX) (WE W) (tVar 0) (tCons (tVar 2) tNil)) (gName 3)
  | .heavier => tAsg (tMeS CX.Row "heavier" (sp_hv K CX) (WE W) (tVar 0) (tCons (tVar 2) tNil)) (gName 3)
  | .speeds => tAsg (tMeS CX.Row "with_speeds" (sp_ws K CX) (WE W) (tVar 0) (tCons (tVar 2) tNil)) (gName 3)
  | .turned => tAsg (tMeS CX.Row "turned" (sp_tn K CX) (WE W) (tVar 0) tNil) (gName 3)
def isOp (K : PySem.W.Frag) (n : Str) : TT := tTest (tOp (rEqA K) (tVar 1) (tC (.str n)))
def trB (K : PySem.W.Frag) (CX : Addrs) (W : WX) : TS :=
  tIfS (isOp K "mirrored") (Op.asg K CX W .mirrored) (tIfS (isOp K "hurried") (Op.asg K CX W .hurried) (tIfS (isOp K "quicker") (Op.asg K CX W .quicker) (tIfS (isOp K "heavier") (Op.asg K CX W .heavier) (tIfS (isOp K "speeds") (Op.asg K CX W .speeds) (Op.asg K CX W .turned)))))
def trL (CX : Addrs) : List Clause := [⟨none, .ref CX.NoMirror, fun _ _ _ => tRet (tC (.str "no mirror"))⟩, ⟨none, .ref CX.NoHurry, fun _ _ _ => tRet (tC (.str "no hurry"))⟩, ⟨none, .ref CX.BadRatio, fun _ _ _ => tRet (tC (.str "no ratio"))⟩,
  ⟨some 4, .ref CX.BadRow, fun a cls d => tRet (tLst (tCons (tXf a cls d CX.BadRow "index" (tVar 4)) (tCons (tXf a cls d CX.BadRow "what" (tVar 4)) tNil)))⟩]
theorem op_ok (o : Op) : (D.str o.name).ok := by cases o <;> exact ⟨by decide +kernel, Nat.zero_le _⟩
theorem trB_op {W : WX} {G' : Ctx} {X' : XP} {G : Ctx} {N : Ctx} {R : Pr} {P0 : Pr} [mc : MnC Evl.Ex (some P0 :: G)] (o : Op) (k : St ⟨Evl.Ex, WE W, G', X'⟩ (some P0 :: some (Dv K (.str o.name)) :: G) (Op.asg K CX W o) N R) [mc2 : MnC Evl.Ex (some P0 :: some (Dv K (.str o.name)) :: G)] : St ⟨Evl.Ex, WE W, G', X'⟩ (some P0 :: some (Dv K (.str o.name)) :: G) (trB K CX W) N R := by
  have t : ∀ (p : Op) (b : Bool), D.eq (.str o.name) (.str p.name) = b → EvT ⟨Evl.Ex, WE W, G', X'⟩ (some P0 :: some (Dv K (.str o.name)) :: G) (isOp K p.name) b := fun p b e => EvT.to (et_test (ev_op (P1 := Dv K (.str o.name)) (P2 := Dv K (.str p.name)) (ev_var rfl) ev_c (o_eqD (op_ok o) (op_ok p)))) e
  unfold trB
  cases o with
  | mirrored => exact st_if (t .mirrored true (by decide +kernel)) (fun _ => k) (fun h => by cases h)
  | hurried => exact st_if (t .mirrored false (by decide +kernel)) (fun h => by cases h) fun _ => st_if (t .hurried true (by decide +kernel)) (fun _ => k) (fun h => by cases h)
  | quicker => exact st_if (t .mirrored false (by decide +kernel)) (fun h => by cases h) fun _ => st_if (t .hurried false (by decide +kernel)) (fun h => by cases h) fun _ => st_if (t .quicker true (by decide +kernel)) (fun _ => k) (fun h => by cases h)
  | heavier => exact st_if (t .mirrored false (by decide +kernel)) (fun h => by cases h) fun _ => st_if (t .hurried false (by decide +kernel)) (fun h => by cases h) fun _ => st_if (t .quicker false (by decide +kernel)) (fun h => by cases h) fun _ => st_if (t .heavier true (by decide +kernel)) (fun _ => k) (fun h => by cases h)
  | speeds => exact st_if (t .mirrored false (by decide +kernel)) (fun h => by cases h) fun _ => st_if (t .hurried false (by decide +kernel)) (fun h => by cases h) fun _ => st_if (t .quicker false (by decide +kernel)) (fun h => by cases h) fun _ => st_if (t .heavier false (by decide +kernel)) (fun h => by cases h) fun _ => st_if (t .speeds true (by decide +kernel)) (fun _ => k) (fun h => by cases h)
  | turned => exact st_if (t .mirrored false (by decide +kernel)) (fun h => by cases h) fun _ => st_if (t .hurried false (by decide +kernel)) (fun h => by cases h) fun _ => st_if (t .quicker false (by decide +kernel)) (fun h => by cases h) fun _ => st_if (t .heavier false (by decide +kernel)) (fun h => by cases h) fun _ => st_if (t .speeds false (by decide +kernel)) (fun h => by cases h) fun _ => k
theorem hd_mirror (T : Txt P w K mg CX) {E : XK} {N : Ctx} : ∀ cls d, (∃ H, XE0 CX.NoMirror cls d H) → Handled K (RsE E NoX 5) [none, none, none, none, none] (XE0 CX.NoMirror) cls d N (Dv K (.str "no mirror")) (trL CX) := fun cls d ⟨_, e1, e2⟩ => by
  subst e1 e2
  exact .inl ⟨T.m_NoMirror, fun a => st_ret (Y := RsE E NoX 5) ev_c⟩
theorem hd_hurry (T : Txt P w K mg CX) {E : XK} {N : Ctx} : ∀ cls d, (∃ H, XE0 CX.NoHurry cls d H) → Handled K (RsE E NoX 5) [none, none, none, none, none] (XE0 CX.NoHurry) cls d N (Dv K (.str "no hurry")) (trL CX) := fun cls d ⟨_, e1, e2⟩ => by
  subst e1 e2
  exact .inr ⟨T.e_NoHurry_NoMirror, .inl ⟨T.m_NoHurry, fun a => st_ret (Y := RsE E NoX 5) ev_c⟩⟩
theorem hd_ratio (T : Txt P w K mg CX) {E : XK} {N : Ctx} : ∀ cls d, (∃ H, RX CX cls d H) → Handled K (RsE E NoX 5) [none, none, none, none, none] (RX CX) cls d N (Dv K (.str "no ratio")) (trL CX) := fun cls d ⟨_, e1, e2⟩ => by
  subst e1 e2
  exact .inr ⟨T.e_BadRatio_NoMirror, .inr ⟨T.e_BadRatio_NoHurry, .inl ⟨T.m_BadRatio, fun a => st_ret (Y := RsE E NoX 5) ev_c⟩⟩⟩
theorem hd_row (T : Txt P w K mg CX) {E : XK} {N : Ctx} {e : Int × Str} : ∀ cls d, (∃ H, BX CX e cls d H) → Handled K (RsE E NoX 5) [none, none, none, none, none] (BX CX e) cls d N (Dv K (.lst [.int e.1, .str e.2])) (trL CX) := fun cls d ⟨_, e1, dd, e2, _⟩ => by
  subst e1 e2
  refine .inr ⟨T.e_BadRow_NoMirror, .inr ⟨T.e_BadRow_NoHurry, .inr ⟨T.e_BadRow_BadRatio, .inl ⟨T.m_BadRow, fun a => ⟨Dead, ?_, fun _ _ h => (dead h).elim⟩⟩⟩⟩⟩
  refine st_weak (G' := [none, none, none, none, some (ExP a dd [("what", .str e.2), ("index", .int e.1)])]) (sub_keep (sub_keep (sub_keep (sub_keep (sub_imp (fun v H ⟨h1, _, d2, h2, h3⟩ => ⟨h1, by cases h2; exact h3⟩) sub_nil))))) ?_
  obtain ⟨ei, ex⟩ := e
  exact st_ret (Y := RsE E NoX 5) (ev_dlst (Y := RsE E NoX 5) (ea_d (Y := RsE E NoX 5) (d := .int ei) (ev_xf (ev_var rfl) rfl) (ea_d (Y := RsE E NoX 5) (d := .str ex) (ev_xf (ev_var rfl) rfl) (ea_d0 (Y := RsE E NoX 5)))))
theorem cl_miG {W : HR} [Pre W] {r : RowT} (h : okMi r) (hb : r.b = false) : Cl W (sp_mi K CX) [r.pr K CX] (RowT.pr K CX (mirR r)) NoX := by
  have := cl_of (W := Evl.Ex) (W' := W) (C := okMi) (f := wMi K CX) r h
  unfold wMi at this
  simp only [hb, Bool.false_eq_true, if_false] at this
  exact this
theorem cl_miX {W : HR} [Pre W] {r : RowT} {Q : Pr} (hb : r.b = true) : Cl W (sp_mi K CX) [r.pr K CX] Q (XE0 CX.NoMirror) := by
  have := cl_of (W := Evl.Ex) (W' := W) (C := okMi) (f := wMi K CX) r (.inl hb)
  unfold wMi at this
  simp only [hb, if_true] at this
  exact cl_sub this fun _ _ z => z.elim
theorem ok_tried {f : Addr} {fd : FuncData} (F : Fun K "_law_tried" "_law_tried" s__law_tried f fd) (T : Txt P w K mg CX) (D_Row_3 : DkD P w K mg base 6 "Row" CX.Row ["self", "weights", "speeds", "wall"] [] (SpI CX.Row okRow (rowW K CX)))
    (D_Row_mirrored : Dm P w K mg base 8 CX.Row "mirrored" ["self"] (sp_mi K CX)) (D_Row_hurried : Dm P w K mg base 9 CX.Row "hurried" ["self", "more"] (sp_hu K CX)) (D_Row_quicker : Dm P w K mg base 9 CX.Row "quicker" ["self", "factor"] (sp_qk K CX))
    (D_Row_heavier : Dm P w K mg base 8 CX.Row "heavier" ["self", "factor"] (sp_hv K CX)) (D_Row_with_speeds : Dm P w K mg base 8 CX.Row "with_speeds" ["self", "speeds"] (sp_ws K CX)) (D_Row_turned : Dm P w K mg base 10 CX.Row "turned" ["self"] (sp_tn K CX))
    (D_Row_eq : DmE P w K mg base 1 CX.Row "__eq__" ["self", "other"] (sp_eq K CX)) : FnOk P w K mg base (L2N.CX P w) 11 f fd ["_law_row", "_law_name", "_law_x"] (sp_tried K CX) := by
  refine okW F sc__law_tried (fun i => rfl) (by decide) (fun cdv A outer s H E hr => ⟨_, (pss_cons (ps_try_mix rfl rfl sc__law_tried.nd takesF (fun W pn xe tk _ => (pss_one (ps_if (pt_cmpR (op_eqT hr.units) (pv 1) pe_str (nomark _)) (pss_one (ps_set (i := 3) sc__law_tried.nd rfl (by first | exact Or.inl rfl | exact Or.inr rfl) (pe_meS0 D_Row_mirrored (hr.mono (by decide)) tk (pv 0)))) (pss_one (ps_if (pt_cmpR (op_eqT hr.units) (pv 1) pe_str (nomark _)) (pss_one (ps_set (i := 3) sc__law_tried.nd rfl (by first | exact Or.inl rfl | exact Or.inr rfl) (pe_meS D_Row_hurried (hr.mono (by decide)) tk (pv 0) (pa_cons (pv 2) pa_nil)))) (pss_one (ps_if (pt_cmpR (op_eqT hr.units) (pv 1) pe_str (nomark _)) (pss_one (ps_set (i := 3) sc__law_tried.nd rfl (by first | exact Or.inl rfl | exact Or.inr rfl) (pe_meS D_Row_quicker (hr.mono (by decide)) tk (pv 0) (pa_cons (pv 2) pa_nil)))) (pss_one (ps_if (pt_cmpR (op_eqT hr.units) (pv 1) pe_str (nomark _)) (pss_one (ps_set (i := 3) sc__law_tried.nd rfl (by first | exact Or.inl rfl | exact Or.inr rfl) (pe_meS D_Row_heavier (hr.mono (by decide)) tk (pv 0) (pa_cons (pv 2) pa_nil)))) (pss_one (ps_if (pt_cmpR (op_eqT hr.units) (pv 1) pe_str (nomark _)) (pss_one (ps_set (i := 3) sc__law_tried.nd rfl (by first | exact Or.inl rfl | exact Or.inr rfl) (pe_meS D_Row_with_speeds (hr.mono (by decide)) tk (pv 0) (pa_cons (pv 2) pa_nil)))) (pss_one (ps_set (i := 3) sc__law_tried.nd rfl (by first | exact Or.inl rfl | exact Or.inr rfl) (pe_meS0 D_Row_turned (hr.mono (by decide)) tk (pv 0))))))))))))))) (Mix.bare ⟨rfl, by decide, Or.inl T.g_NoMirror⟩ (fun a oe cls d pn hz hf => (pss_one (ps_ret pe_str))) (Mix.bare ⟨rfl, by decide, Or.inl T.g_NoHurry⟩ (fun a oe cls d pn hz hf => (pss_one (ps_ret pe_str))) (Mix.bare ⟨rfl, by decide, Or.inl T.g_BadRatio⟩ (fun a oe cls d pn hz hf => (pss_one (ps_ret pe_str))) (Mix.named (i := 4) rfl rfl ⟨rfl, by decide, Or.inl T.g_BadRow⟩ (fun a oe cls d pn hz hf => (pss_one (ps_ret (pe_lst (pa_cons (pe_xf T.f_BadRow T.f_BadRow_index hz.zc hf (pv 4)) (pa_cons (pe_xf T.f_BadRow T.f_BadRow_what hz.zc hf (pv 4)) pa_nil)))))) Mix.nil))))) (pss_one (ps_ret (pe_ifExp (PW.pt (pw_and (pt_val (pe_callB call_isi (by rfl) T.n_isinstance (by decide +kernel) (pa_cons (pv 3) (pa_cons (pe_glob (v := .ref CX.Row) (by rfl) T.g_Row rfl) pa_nil)))) (pw_and1 (pt_cmpR (op_eqInX D_Row_eq (hr.mono (by decide))) (pv 3) (pe_mk D_Row_3 (hr.mono (by decide)) (L2N.takes_of rfl rfl rfl rfl) (pa_cons (pe_fld (pv 3) rfl) (pa_cons (pe_fld (pv 3) rfl) (pa_cons (pe_fld (pv 3) rfl) pa_nil)))) (nomark _))))) (pe_tup (pa_cons (pe_fld (pv 3) rfl) (pa_cons (pe_fld (pv 3) rfl) (pa_cons (pe_fld (pv 3) rfl) pa_nil)))) pe_non)))), fun i c => ⟨Dead, ?_, fun _ _ h => (dead h).elim⟩⟩)
  obtain ⟨r, op, x, out⟩ := i
  replace c : Does r op x out := c
  show St (RsE E NoX 5) [some (r.pr K CX), some (Dv K (.str op.name)), some (Dv K x), none, none] (tSeq (fun D σ H => trB K CX (wMix K (fun _ _ _ _ => False) D (trL CX)) D σ H) _) Dead (Dv K out.d)
  have done : ∀ {r' : RowT} {P1 P2 : Pr} [Mn Evl.Ex P1] [Mn Evl.Ex P2], RG r' → St (RsE E NoX 5) [some (r.pr K CX), some P1, some P2, some (r'.pr K CX), none] (tRet (tIf (tAnd (tB (tCB (rIsi K) (tCons (tVar 3) (tCons (tC (.ref CX.Row)) tNil)))) (tTest (tOp (rEqInX K CX.Row (sp_eq K CX)) (tVar 3) (tMakeS CX.Row (SpI CX.Row okRow (rowW K CX)) [] (WE fun cls d _ H => E cls d H) (tCons (tFld K (tVar 3) "weights") (tCons (tFld K (tVar 3) "speeds") (tCons (tFld K (tVar 3) "wall") tNil))))))) (tTup (tCons (tFld K (tVar 3) "weights") (tCons (tFld K (tVar 3) "speeds") (tCons (tFld K (tVar 3) "wall") tNil)))) (tC .non))) Dead (Dv K (Res.row r').d) := fun {r' P1 P2 _ _} hg => by
    obtain ⟨n, d, cg⟩ := RG.of hg .T .T
    have told_ratN : ∀ {qs : List Rat} {v : V} {H : Hp}, (∀ q ∈ qs, q.den < 2 ^ 8000) → TupN (toldPs K qs) v H → TupN (ratPs K 8000 qs) v H := fun {qs v H} hq ⟨p, xs, o, e, hp, d, ha⟩ => ⟨p, xs, o, e, hp, d, allp_imp' (fun q hm v h => told_ratD (hq q hm) h) ha⟩
    refine st_ret (ev_if (b := true) ?_ (fun _ => ?_) (fun h => by cases h))
    rotate_left
    · exact ev_dtup (ea_d (d := wD r'.ws) (ev_rw T (ev_var rfl)) (ea_d (d := sD r'.qs) (ev_rs T (ev_var rfl)) (ea_d (d := .bl r'.b) (ev_rb T (ev_var rfl)) ea_d0)))
    refine EvT.to (et_and (a := true) (b := true) (et_B ?_) (fun _ => et_test ?_)) rfl
    · exact ev_cb (ea_cons (P1 := r'.pr K CX) (ev_var rfl) (ea_cons ev_c ea_nil)) (opA_isiX (hasT_row T) (.own _) T.k_Row_Row)
    refine ev_eqInX (b := true) (Fs := rowFs K r'.ws r'.qs r'.b) (ev_var (P := r'.pr K CX) rfl) (P := r'.pr K CX) ?_ (hasT_row (r := r') T) T.nf_Row ?_
    · exact ev_mk (f := rowW K CX) (Ps := [TupN (intPs r'.ws), TupN (ratPs K 8000 r'.qs), Is (.bl r'.b)]) (RowI.good ⟨.T, .T, r'.ws, n, d, 8000, r'.qs, r'.b⟩) cg (fun vs H h => by rw [List.append_nil]; exact h) (ea_cons (ev_fld T.r_cls (T.r_no _ (by decide)) rfl (ev_var (P := r'.pr K CX) rfl)) (ea_cons (Ev.sub (ev_fld T.r_cls (T.r_no _ (by decide)) rfl (ev_var (P := r'.pr K CX) rfl)) fun v H h => told_ratN (rg_den hg) h) (ea_cons (ev_fld T.r_cls (T.r_no _ (by decide)) rfl (ev_var (P := r'.pr K CX) rfl)) ea_nil))) (fun _ _ _ h => h)
    · have := cl_of (W := Evl.Ex) (W' := Evl.Ex) (C := okEq) (f := eqW K CX) (.row r' r') True.intro
      refine cl_sub this fun v H h => ?_
      rw [show v = .bl (decide (r'.ws = r'.ws) && (decide (r'.qs = r'.qs) && decide (r'.b = r'.b))) from h]
      simp [Is]
  have sG : ∀ {P1 P2 : Pr}, Sub [some (r.pr K CX), some P1, some P2, none, none] [none, none, none, none, none] := sub_drop (sub_drop (sub_drop (sub_keep (sub_keep sub_nil))))
  cases c with
  | mi h1 hb hg =>
    refine st_seq (M := [some (r.pr K CX), some (Dv K (.str Op.mirrored.name)), some (Dv K x), some (RowT.pr K CX (mirR r)), none]) (st_mix (Y := RsE E NoX 5) (K := K) (G' := [none, none, none, none, none]) (X' := NoX) (l := trL CX) (tb := trB K CX) (fun W => trB_op .mirrored (st_set (P := RowT.pr K CX (mirR r)) (ev_meS (Fs := rowFs K r.ws r.qs r.b) (ev_var (P := r.pr K CX) rfl) (lk_no (by decide)) ea_nil (cl_miG h1 hb)))) (fun cls d ⟨_, z⟩ => z.elim)) (done hg)
  | miX hb =>
    refine st_seq (M := [some (r.pr K CX), some (Dv K (.str Op.mirrored.name)), some (Dv K x), some (fun _ _ => False), none]) (st_mix (Y := RsE E NoX 5) (K := K) (G' := [none, none, none, none, none]) (X' := XE0 CX.NoMirror) (l := trL CX) (tb := trB K CX) (fun W => trB_op .mirrored (st_set (P := fun _ _ => False) (ev_meX (Y := ⟨Evl.Ex, WE W, [none, none, none, none, none], XE0 CX.NoMirror⟩) (Fs := rowFs K r.ws r.qs r.b) (ev_var (P := r.pr K CX) rfl) (lk_no (by decide)) ea_nil (cl_miX hb) sG))) (hd_mirror T)) (st_false (i := 3) rfl fun _ _ z => z)
  | hu h =>
    refine st_seq (M := [some (r.pr K CX), some (Dv K (.str Op.hurried.name)), some (Dv K x), some (RowT.pr K CX (ledR (fun q z => q + z) r x)), none]) (st_mix (Y := RsE E NoX 5) (K := K) (G' := [none, none, none, none, none]) (X' := NoX) (l := trL CX) (tb := trB K CX) (fun W => trB_op .hurried (st_set (P := RowT.pr K CX (ledR (fun q z => q + z) r x)) (ev_meS (Fs := rowFs K r.ws r.qs r.b) (ev_var (P := r.pr K CX) rfl) (lk_no (by decide)) (ea_cons (P1 := Dv K x) (ev_var rfl) ea_nil) (cl_of (W := Evl.Ex) (C := okHu) (f := wHu K CX) (.good r x) h)))) (fun cls d ⟨_, z⟩ => z.elim)) (done h.2.2.2.2)
  | huS h =>
    refine st_seq (M := [some (r.pr K CX), some (Dv K (.str Op.hurried.name)), some (Dv K x), some (fun _ _ => False), none]) (st_mix (Y := RsE E NoX 5) (K := K) (G' := [none, none, none, none, none]) (X' := XE0 CX.NoHurry) (l := trL CX) (tb := trB K CX) (fun W => trB_op .hurried (st_set (P := fun _ _ => False) (ev_meX (Y := ⟨Evl.Ex, WE W, [none, none, none, none, none], XE0 CX.NoHurry⟩) (Fs := rowFs K r.ws r.qs r.b) (ev_var (P := r.pr K CX) rfl) (lk_no (by decide)) (ea_cons (P1 := Dv K x) (ev_var rfl) ea_nil) (cl_of (W := Evl.Ex) (C := okHu) (f := wHu K CX) (.shut r x) h) sG))) (hd_hurry T)) (st_false (i := 3) rfl fun _ _ z => z)
  | huX h =>
    refine st_seq (M := [some (r.pr K CX), some (Dv K (.str Op.hurried.name)), some (Dv K x), some (fun _ _ => False), none]) (st_mix (Y := RsE E NoX 5) (K := K) (G' := [none, none, none, none, none]) (X' := RX CX) (l := trL CX) (tb := trB K CX) (fun W => trB_op .hurried (st_set (P := fun _ _ => False) (ev_meX (Y := ⟨Evl.Ex, WE W, [none, none, none, none, none], RX CX⟩) (Fs := rowFs K r.ws r.qs r.b) (ev_var (P := r.pr K CX) rfl) (lk_no (by decide)) (ea_cons (P1 := Dv K x) (ev_var rfl) ea_nil) (cl_of (W := Evl.Ex) (C := okHu) (f := wHu K CX) (.bad r x) h) sG))) (hd_ratio T)) (st_false (i := 3) rfl fun _ _ z => z)
  | qk h =>
    refine st_seq (M := [some (r.pr K CX), some (Dv K (.str Op.quicker.name)), some (Dv K x), some (RowT.pr K CX (ledR (fun q z => q * z) r x)), none]) (st_mix (Y := RsE E NoX 5) (K := K) (G' := [none, none, none, none, none]) (X' := NoX) (l := trL CX) (tb := trB K CX) (fun W => trB_op .quicker (st_set (P := RowT.pr K CX (ledR (fun q z => q * z) r x)) (ev_meS (Fs := rowFs K r.ws r.qs r.b) (ev_var (P := r.pr K CX) rfl) (lk_no (by decide)) (ea_cons (P1 := Dv K x) (ev_var rfl) ea_nil) (cl_of (W := Evl.Ex) (C := okQk) (f := wQk K CX) (.good r x) h)))) (fun cls d ⟨_, z⟩ => z.elim)) (done h.2.2.2)
  | qkX h =>
    refine st_seq (M := [some (r.pr K CX), some (Dv K (.str Op.quicker.name)), some (Dv K x), some (fun _ _ => False), none]) (st_mix (Y := RsE E NoX 5) (K := K) (G' := [none, none, none, none, none]) (X' := RX CX) (l := trL CX) (tb := trB K CX) (fun W => trB_op .quicker (st_set (P := fun _ _ => False) (ev_meX (Y := ⟨Evl.Ex, WE W, [none, none, none, none, none], RX CX⟩) (Fs := rowFs K r.ws r.qs r.b) (ev_var (P := r.pr K CX) rfl) (lk_no (by decide)) (ea_cons (P1 := Dv K x) (ev_var rfl) ea_nil) (cl_of (W := Evl.Ex) (C := okQk) (f := wQk K CX) (.bad r x) h) sG))) (hd_ratio T)) (st_false (i := 3) rfl fun _ _ z => z)
  | hv h =>
    refine st_seq (M := [some (r.pr K CX), some (Dv K (.str Op.heavier.name)), some (Dv K x), some (RowT.pr K CX ⟨hvWs (valD x) r.ws, r.qs, r.b⟩), none]) (st_mix (Y := RsE E NoX 5) (K := K) (G' := [none, none, none, none, none]) (X' := NoX) (l := trL CX) (tb := trB K CX) (fun W => trB_op .heavier (st_set (P := RowT.pr K CX ⟨hvWs (valD x) r.ws, r.qs, r.b⟩) (ev_meS (Fs := rowFs K r.ws r.qs r.b) (ev_var (P := r.pr K CX) rfl) (lk_no (by decide)) (ea_cons (P1 := Dv K x) (ev_var rfl) ea_nil) (cl_of (W := Evl.Ex) (C := okHv) (f := wHv K CX) (.good r x) h)))) (fun cls d ⟨_, z⟩ => z.elim)) (done h.2.2.2.2)
  | hvX h =>
    refine st_seq (M := [some (r.pr K CX), some (Dv K (.str Op.heavier.name)), some (Dv K x), some (fun _ _ => False), none]) (st_mix (Y := RsE E NoX 5) (K := K) (G' := [none, none, none, none, none]) (X' := RX CX) (l := trL CX) (tb := trB K CX) (fun W => trB_op .heavier (st_set (P := fun _ _ => False) (ev_meX (Y := ⟨Evl.Ex, WE W, [none, none, none, none, none], RX CX⟩) (Fs := rowFs K r.ws r.qs r.b) (ev_var (P := r.pr K CX) rfl) (lk_no (by decide)) (ea_cons (P1 := Dv K x) (ev_var rfl) ea_nil) (cl_of (W := Evl.Ex) (C := okHv) (f := wHv K CX) (.bad r x) h) sG))) (hd_ratio T)) (st_false (i := 3) rfl fun _ _ z => z)
  | hvA h =>
    rename_i k
    refine st_seq (M := [some (r.pr K CX), some (Dv K (.str Op.heavier.name)), some (Dv K x), some (fun _ _ => False), none]) (st_mix (Y := RsE E NoX 5) (K := K) (G' := [none, none, none, none, none]) (X' := BX CX ((k : Int), "weight")) (l := trL CX) (tb := trB K CX) (fun W => trB_op .heavier (st_set (P := fun _ _ => False) (ev_meX (Y := ⟨Evl.Ex, WE W, [none, none, none, none, none], BX CX ((k : Int), "weight")⟩) (Fs := rowFs K r.ws r.qs r.b) (ev_var (P := r.pr K CX) rfl) (lk_no (by decide)) (ea_cons (P1 := Dv K x) (ev_var rfl) ea_nil) (cl_of (W := Evl.Ex) (C := okHv) (f := wHv K CX) (.at_ r x k) h) sG))) (hd_row T)) (st_false (i := 3) rfl fun _ _ z => z)
  | ws hd hg =>
    rename_i ds
    have sub : ∀ v H, Dv K (.lst ds) v H → SeqP K .L (ratPs K 8000 (ds.map valD)) v H := fun v H z => let ⟨p, xs, e, hp, sf, ha⟩ := own_lst (K := K) (show Own (DvL K ds) v H from z); ⟨p, xs, e, hp, sf, by
      unfold ratPs
      rw [List.map_map]
      rw [dvl_map] at ha
      exact allp_imp' (fun y hy v h => ratd_of (n := 8000) (hd y hy).1 (hd y hy).2 h) ha⟩
    refine st_seq (M := [some (r.pr K CX), some (Dv K (.str Op.speeds.name)), some (Dv K (.lst ds)), some (RowT.pr K CX ⟨r.ws, ds.map valD, r.b⟩), none]) (st_mix (Y := RsE E NoX 5) (K := K) (G' := [none, none, none, none, none]) (X' := NoX) (l := trL CX) (tb := trB K CX) (fun W => trB_op .speeds (st_set (P := RowT.pr K CX ⟨r.ws, ds.map valD, r.b⟩) (ev_meS (Fs := rowFs K r.ws r.qs r.b) (ev_var (P := r.pr K CX) rfl) (lk_no (by decide)) (ea_cons (P1 := SeqP K .L (ratPs K 8000 (ds.map valD))) (Ev.sub (ev_var rfl) sub) ea_nil) (cl_wsG (r := r) (k := .L) hg)))) (fun cls d ⟨_, z⟩ => z.elim)) (done hg)
  | wsX h =>
    rename_i e
    refine st_seq (M := [some (r.pr K CX), some (Dv K (.str Op.speeds.name)), some (Dv K x), some (fun _ _ => False), none]) (st_mix (Y := RsE E NoX 5) (K := K) (G' := [none, none, none, none, none]) (X' := BX CX e) (l := trL CX) (tb := trB K CX) (fun W => trB_op .speeds (st_set (P := fun _ _ => False) (ev_meX (Y := ⟨Evl.Ex, WE W, [none, none, none, none, none], BX CX e⟩) (Fs := rowFs K r.ws r.qs r.b) (ev_var (P := r.pr K CX) rfl) (lk_no (by decide)) (ea_cons (P1 := Dv K x) (ev_var rfl) ea_nil) (cl_of (W := Evl.Ex) (C := okWs) (f := wWs K CX) (.bad r x e) h) sG))) (hd_row T)) (st_false (i := 3) rfl fun _ _ z => z)
  | tn h =>
    refine st_seq (M := [some (r.pr K CX), some (Dv K (.str Op.turned.name)), some (Dv K x), some (RowT.pr K CX (ledR (fun q z => q * z) r (.int (-1)))), none]) (st_mix (Y := RsE E NoX 5) (K := K) (G' := [none, none, none, none, none]) (X' := NoX) (l := trL CX) (tb := trB K CX) (fun W => trB_op .turned (st_set (P := RowT.pr K CX (ledR (fun q z => q * z) r (.int (-1)))) (ev_meS (Fs := rowFs K r.ws r.qs r.b) (ev_var (P := r.pr K CX) rfl) (lk_no (by decide)) ea_nil (cl_of (W := Evl.Ex) (C := fun r : RowT => okQk (.good r (.int (-1)))) (f := fun r => ⟨[r.pr K CX], RowT.pr K CX (ledR (fun q z => q * z) r (.int (-1))), NoX⟩) r h)))) (fun cls d ⟨_, z⟩ => z.elim)) (done h.2.2.2)
end
end U

namespace U
open PySem PySem.Spec PyProof.Rows L2
/-! ### sums of led rows, in figures -/
theorem wget {ws : List Int} {i : Nat} (h : i < ws.length) : (ws.map fun (y : Int) => (y : Rat)).getD i 0 = (ws.getD i 0 : Rat) := by simp [h]
def wsR (ws : List Int) : List Rat := ws.map fun (y : Int) => (y : Rat)
theorem dr_get {ws : List Int} {qs : List Rat} {i : Nat} (h : i < ws.length) : (drivesOf ws qs).getD i 0 = (ws.getD i 0 : Rat) * qs.getD i 0 := by unfold drivesOf; simp [h]
theorem se_get {ws : List Int} {qs : List Rat} {i : Nat} (h : i < ws.length) : (secondsOf ws qs).getD i 0 = (ws.getD i 0 : Rat) * qs.getD i 0 * qs.getD i 0 := by rw [← dr_get h]; unfold secondsOf; simp [h]
theorem se_len {ws : List Int} {qs : List Rat} : (secondsOf ws qs).length = ws.length := by unfold secondsOf; simp
theorem map_get {qs : List Rat} {g : Rat → Rat} {i : Nat} (h : i < qs.length) : (qs.map g).getD i 0 = g (qs.getD i 0) := by simp [h]
theorem sum0 {xs : List Rat} : sumR (xs.take 0) = 0 := by rw [List.take_zero]; rfl
theorem s1_mul {ws : List Int} {qs : List Rat} {x : Rat} (len : qs.length = ws.length) : ∀ i, i ≤ ws.length → sumR ((drivesOf ws (qs.map fun q => q * x)).take i) = sumR ((drivesOf ws qs).take i) * x
  | 0, _ => by rw [sum0, sum0]; grind
  | i + 1, h => by
    rw [sumR_take (by rw [drives_len']; omega), sumR_take (by rw [drives_len']; omega), s1_mul len i (by omega), dr_get (by omega), dr_get (by omega), map_get (by omega)]
    grind
theorem s2_mul {ws : List Int} {qs : List Rat} {x : Rat} (len : qs.length = ws.length) : ∀ i, i ≤ ws.length → sumR ((secondsOf ws (qs.map fun q => q * x)).take i) = sumR ((secondsOf ws qs).take i) * (x * x)
  | 0, _ => by rw [sum0, sum0]; grind
  | i + 1, h => by
    rw [sumR_take (by rw [se_len]; omega), sumR_take (by rw [se_len]; omega), s2_mul len i (by omega), se_get (by omega), se_get (by omega), map_get (by omega)]
    grind
theorem s1_add {ws : List Int} {qs : List Rat} {x : Rat} (len : qs.length = ws.length) : ∀ i, i ≤ ws.length → sumR ((drivesOf ws (qs.map fun q => q + x)).take i) = sumR ((drivesOf ws qs).take i) + sumR ((wsR ws).take i) * x
  | 0, _ => by rw [sum0, sum0, sum0]; grind
  | i + 1, h => by
    rw [sumR_take (by rw [drives_len']; omega), sumR_take (by rw [drives_len']; omega), sumR_take (xs := wsR ws) (by unfold wsR; rw [List.length_map]; omega), s1_add len i (by omega), dr_get (by omega), dr_get (by omega), map_get (by omega), show (wsR ws).getD i 0 = _ from wget (by omega)]
    grind
theorem s2_add {ws : List Int} {qs : List Rat} {x : Rat} (len : qs.length = ws.length) : ∀ i, i ≤ ws.length → sumR ((secondsOf ws (qs.map fun q => q + x)).take i) = sumR ((secondsOf ws qs).take i) + sumR ((drivesOf ws qs).take i) * (x + x) + sumR ((wsR ws).take i) * (x * x)
  | 0, _ => by rw [sum0, sum0, sum0, sum0]; grind
  | i + 1, h => by
    rw [sumR_take (by rw [se_len]; omega), sumR_take (by rw [se_len]; omega), sumR_take (by rw [drives_len']; omega), sumR_take (xs := wsR ws) (by unfold wsR; rw [List.length_map]; omega), s2_add len i (by omega), se_get (by omega), se_get (by omega), dr_get (by omega), map_get (by omega), show (wsR ws).getD i 0 = _ from wget (by omega)]
    grind
end U

namespace U
open PySem PySem.Spec PyProof.Rows L2
/-! ### led rows can be made: their sizes -/
/-- a row as the law draws it -/
structure B67 (r : RowT) : Prop where
  len : r.qs.length = r.ws.length
  few : (if r.b then 1 else 2) ≤ r.ws.length
  many : r.ws.length ≤ 40
  ws : ∀ y ∈ r.ws, 1 ≤ y ∧ y ≤ 9
  qs : ∀ q ∈ r.qs, Sz2 67 67 q
theorem B67.rg {r : RowT} (h : B67 r) : RG r := ⟨67, 67, h.len, h.few, h.many, h.ws, (by decide : (67 : Nat) ≤ 1000), (by decide : (67 : Nat) ≤ 400), (by decide : (8000 : Nat) ≤ 8000), h.qs, sums_of (n := 67) (d := 67) h.len h.many h.ws (by decide) (by decide) h.qs⟩
theorem B67.s1 {r : RowT} (h : B67 r) : ∀ i, i ≤ r.ws.length → Sz2 10000 2722 (sumR ((drivesOf r.ws r.qs).take i)) := fun i hi => by
  have e : ∀ x ∈ drivesOf r.ws r.qs, Sz2 71 68 x := fun x hx => by
    obtain ⟨j, hj, e⟩ := List.getElem_of_mem hx
    have hj' : j < r.ws.length := by rw [drives_len'] at hj; exact hj
    have hq' : j < r.qs.length := by rw [h.len]; exact hj'
    have g := dr_get (qs := r.qs) hj'
    rw [List.getD_eq_getElem?_getD, List.getElem?_eq_getElem hj] at g
    have h1 := h.ws (r.ws.getD j 0) (by rw [List.getD_eq_getElem?_getD, List.getElem?_eq_getElem hj']; exact List.getElem_mem hj')
    rw [← e, show (drivesOf r.ws r.qs)[j] = _ from g]
    exact sz2_mul (sz2_int (n := 4) (d := 1) (show Big 4 (r.ws.getD j 0) by unfold Big; omega) (by decide)) (h.qs _ (by rw [List.getD_eq_getElem?_getD, List.getElem?_eq_getElem hq']; exact List.getElem_mem hq')) |>.mono (by decide) (by decide)
  have m := h.many
  exact Sz2.mono (sz2_sum e i (by rw [drives_len']; omega)) (by omega) (by omega)
theorem B67.s2 {r : RowT} (h : B67 r) : ∀ i, i ≤ r.ws.length → Sz2 10000 5402 (sumR ((secondsOf r.ws r.qs).take i)) := fun i hi => by
  have e : ∀ x ∈ secondsOf r.ws r.qs, Sz2 138 135 x := fun x hx => by
    obtain ⟨j, hj, e⟩ := List.getElem_of_mem hx
    have hj' : j < r.ws.length := by rw [se_len] at hj; exact hj
    have hq' : j < r.qs.length := by rw [h.len]; exact hj'
    have g := se_get (qs := r.qs) hj'
    rw [List.getD_eq_getElem?_getD, List.getElem?_eq_getElem hj] at g
    have h1 := h.ws (r.ws.getD j 0) (by rw [List.getD_eq_getElem?_getD, List.getElem?_eq_getElem hj']; exact List.getElem_mem hj')
    have h2 := h.qs (r.qs.getD j 0) (by rw [List.getD_eq_getElem?_getD, List.getElem?_eq_getElem hq']; exact List.getElem_mem hq')
    rw [← e, show (secondsOf r.ws r.qs)[j] = _ from g]
    exact sz2_mul (sz2_mul (sz2_int (n := 4) (d := 1) (show Big 4 (r.ws.getD j 0) by unfold Big; omega) (by decide)) h2) h2 |>.mono (by decide) (by decide)
  have m := h.many
  exact Sz2.mono (sz2_sum e i (by rw [se_len]; omega)) (by omega) (by omega)
theorem B67.sw {r : RowT} (h : B67 r) : ∀ i, i ≤ r.ws.length → Sz2 100 41 (sumR ((wsR r.ws).take i)) := fun i hi => by
  have e : ∀ x ∈ wsR r.ws, Sz2 4 1 x := fun x hx => by
    obtain ⟨y, hy, rfl⟩ := List.mem_map.mp hx
    have := h.ws y hy
    exact sz2_int (show Big 4 y by unfold Big; omega) (by decide)
  have m := h.many
  exact Sz2.mono (sz2_sum e i (by unfold wsR; rw [List.length_map]; omega)) (by omega) (by omega)
theorem B67.mul {r : RowT} (h : B67 r) {x : Rat} (hx : Sz2 67 67 x) : RG ⟨r.ws, r.qs.map fun q => q * x, r.b⟩ := by
  refine ⟨134, 134, by show (r.qs.map _).length = _; rw [List.length_map]; exact h.len, h.few, h.many, h.ws, (by decide : (134 : Nat) ≤ 1000), (by decide : (134 : Nat) ≤ 400), (by decide : (8000 : Nat) ≤ 8000), fun q hq => ?_, 20000, 5600, by decide, by show 5600 + (1 + 134 + 134) ≤ 9000; decide, fun i hi => ?_, fun i hi => ?_⟩
  · obtain ⟨y, hy, rfl⟩ := List.mem_map.mp hq
    exact sz2_mul (h.qs y hy) hx
  · have hi : i < r.ws.length := hi
    show Sz2 20000 5600 (sumR ((drivesOf r.ws (r.qs.map fun q => q * x)).take i))
    rw [s1_mul h.len i (by omega)]
    exact Sz2.mono (sz2_mul (h.s1 i (by omega)) hx) (by decide) (by decide)
  · have hi : i < r.ws.length := hi
    show Sz2 20000 5600 (sumR ((secondsOf r.ws (r.qs.map fun q => q * x)).take i))
    rw [s2_mul h.len i (by omega)]
    exact Sz2.mono (sz2_mul (h.s2 i (by omega)) (sz2_mul hx hx)) (by decide) (by decide)
theorem B67.add {r : RowT} (h : B67 r) {x : Rat} (hx : Sz2 67 67 x) : RG ⟨r.ws, r.qs.map fun q => q + x, r.b⟩ := by
  have hxx : Sz2 135 134 (x + x) := sz2_add hx hx (by decide) (by decide)
  refine ⟨135, 134, by show (r.qs.map _).length = _; rw [List.length_map]; exact h.len, h.few, h.many, h.ws, (by decide : (135 : Nat) ≤ 1000), (by decide : (134 : Nat) ≤ 400), (by decide : (8000 : Nat) ≤ 8000), fun q hq => ?_, 60000, 8700, by decide, by show 8700 + (1 + 134 + 134) ≤ 9000; decide, fun i hi => ?_, fun i hi => ?_⟩
  · obtain ⟨y, hy, rfl⟩ := List.mem_map.mp hq
    exact sz2_add (h.qs y hy) hx (by decide) (by decide)
  · have hi : i < r.ws.length := hi
    show Sz2 60000 8700 (sumR ((drivesOf r.ws (r.qs.map fun q => q + x)).take i))
    rw [s1_add h.len i (by omega)]
    exact Sz2.mono (sz2_add (N := 20000) (h.s1 i (by omega)) (sz2_mul (h.sw i (by omega)) hx) (by decide) (by decide)) (by decide) (by decide)
  · have hi : i < r.ws.length := hi
    show Sz2 60000 8700 (sumR ((secondsOf r.ws (r.qs.map fun q => q + x)).take i))
    rw [s2_add h.len i (by omega)]
    exact Sz2.mono (sz2_add (N := 50000) (sz2_add (N := 40000) (h.s2 i (by omega)) (sz2_mul (h.s1 i (by omega)) hxx) (by decide) (by decide)) (sz2_mul (h.sw i (by omega)) (sz2_mul hx hx)) (by decide) (by decide)) (by decide) (by decide)
theorem B67.szs {r : RowT} (h : B67 r) {x : Rat} (hx : Sz2 67 67 x) : Szs 67 67 r x := ⟨by decide, by decide, hx, h.qs⟩
theorem sz_neg1 : Sz2 67 67 ((-1 : Int) : Rat) := sz2_int (show Big 67 (-1) by unfold Big; decide) (by decide)
theorem sz_mulneg {q : Rat} (h : Sz2 67 67 q) : Sz2 67 67 (q * ((-1 : Int) : Rat)) := by
  have e : q * ((-1 : Int) : Rat) = -q := by grind
  rw [e]
  exact ⟨by unfold Big at *; have := h.1; rw [Rat.neg_num]; unfold Big at this; omega, by rw [Rat.neg_den]; exact h.2⟩
theorem B67.mir {r : RowT} (h : B67 r) (hb : r.b = false) : B67 (mirR r) := by
  have few := h.few
  rw [hb] at few
  refine ⟨by show (r.qs.reverse.map _).length = r.ws.reverse.length; rw [List.length_map, List.length_reverse, List.length_reverse]; exact h.len, by show (if false = true then 1 else 2) ≤ r.ws.reverse.length; rw [List.length_reverse]; simpa using few, by show r.ws.reverse.length ≤ 40; rw [List.length_reverse]; exact h.many, fun y hy => h.ws y (List.mem_reverse.mp hy), fun q hq => ?_⟩
  obtain ⟨y, hy, rfl⟩ := List.mem_map.mp hq
  exact sz_mulneg (h.qs y (List.mem_reverse.mp hy))
theorem B67.turn {r : RowT} (h : B67 r) : B67 (ledR (fun q z => q * z) r (.int (-1))) := by
  refine ⟨by show (r.qs.map _).length = r.ws.length; rw [List.length_map]; exact h.len, h.few, h.many, h.ws, fun q hq => ?_⟩
  obtain ⟨y, hy, rfl⟩ := List.mem_map.mp hq
  exact sz_mulneg (h.qs y hy)
theorem B67.qk {r : RowT} (h : B67 r) {x : D} (g : goodS x = true) (b : Big 8000 (botD x)) (hx : Sz2 67 67 (valD x)) : okQk (.good r x) := ⟨g, b, ⟨67, 67, h.szs hx⟩, h.mul hx⟩
theorem B67.hu {r : RowT} (h : B67 r) (hb : r.b = false) {x : D} (g : goodS x = true) (b : Big 8000 (botD x)) (hx : Sz2 67 67 (valD x)) : okHu (.good r x) := ⟨hb, g, b, ⟨67, 67, h.szs hx⟩, h.add hx⟩
theorem B67.mi {r : RowT} (h : B67 r) (hb : r.b = false) : okMi r := .inr ⟨hb, ⟨67, 67, by decide, by decide, sz_neg1, fun q hq => h.qs q (List.mem_reverse.mp hq)⟩, (h.mir hb).rg⟩
theorem B67.tn {r : RowT} (h : B67 r) : okQk (.good r (.int (-1))) := h.qk rfl (by show Big 8000 1; exact big_mono (n := 1) (i := 1) (by unfold Big; decide) (by decide)) sz_neg1
theorem B67.hv {r : RowT} (h : B67 r) {q : Rat} (g : ∀ y ∈ r.ws, hvBad q y = false) : B67 ⟨hvWs q r.ws, r.qs, r.b⟩ := by
  refine ⟨by show r.qs.length = (hvWs q r.ws).length; unfold hvWs; rw [List.length_map]; exact h.len, by show (if r.b then 1 else 2) ≤ (hvWs q r.ws).length; unfold hvWs; rw [List.length_map]; exact h.few, by show (hvWs q r.ws).length ≤ 40; unfold hvWs; rw [List.length_map]; exact h.many, fun y hy => ?_, h.qs⟩
  obtain ⟨z, hz, rfl⟩ := List.mem_map.mp hy
  have := g z hz
  unfold hvBad at this
  simp at this
  exact this.2
end U

namespace U
open PySem PySem.Spec PyProof.Rows L2
/-! ### sums of led rows, whole -/
theorem take_all {xs : List Rat} {n : Nat} (h : xs.length = n) : xs.take n = xs := by rw [← h]; exact List.take_length
theorem first_mul {r : RowT} (h : B67 r) (x : Rat) : firstOf r.ws (r.qs.map fun q => q * x) = firstOf r.ws r.qs * x := by
  have := s1_mul (x := x) h.len r.ws.length (Nat.le_refl _)
  rw [take_all drives_len', take_all drives_len'] at this
  exact this
theorem second_mul {r : RowT} (h : B67 r) (x : Rat) : secondOf r.ws (r.qs.map fun q => q * x) = secondOf r.ws r.qs * (x * x) := by
  have := s2_mul (x := x) h.len r.ws.length (Nat.le_refl _)
  rw [take_all se_len, take_all se_len] at this
  exact this
theorem wsum {ws : List Int} : sumR (wsR ws) = ((ws.sum : Int) : Rat) := by
  have : ∀ (ws : List Int) (a : Rat), (wsR ws).foldl (· + ·) a = a + ((ws.sum : Int) : Rat) := by
    intro ws
    induction ws with
    | nil => intro a; show a = a + ((0 : Int) : Rat); grind
    | cons y ys ih =>
      intro a
      show (wsR ys).foldl (· + ·) (a + (y : Rat)) = _
      rw [ih, List.sum_cons, Rat.intCast_add]
      grind
  show (wsR ws).foldl (· + ·) 0 = _
  rw [this]
  grind
theorem first_add {r : RowT} (h : B67 r) (x : Rat) : firstOf r.ws (r.qs.map fun q => q + x) = firstOf r.ws r.qs + ((r.ws.sum : Int) : Rat) * x := by
  have := s1_add (x := x) h.len r.ws.length (Nat.le_refl _)
  rw [take_all drives_len', take_all drives_len', take_all (by unfold wsR; rw [List.length_map]), wsum] at this
  exact this
theorem second_add {r : RowT} (h : B67 r) (x : Rat) : secondOf r.ws (r.qs.map fun q => q + x) = secondOf r.ws r.qs + firstOf r.ws r.qs * (x + x) + ((r.ws.sum : Int) : Rat) * (x * x) := by
  have := s2_add (x := x) h.len r.ws.length (Nat.le_refl _)
  rw [take_all se_len, take_all se_len, take_all drives_len', take_all (by unfold wsR; rw [List.length_map]), wsum] at this
  exact this
theorem sumR_cons (a : Rat) (xs : List Rat) : sumR (a :: xs) = a + sumR xs := by
  have : ∀ (xs : List Rat) (b : Rat), xs.foldl (· + ·) b = b + xs.foldl (· + ·) 0 := by
    intro xs
    induction xs with
    | nil => intro b; show b = b + 0; grind
    | cons y ys ih =>
      intro b
      show ys.foldl (· + ·) (b + y) = b + ys.foldl (· + ·) (0 + y)
      rw [ih (b + y), ih (0 + y)]
      grind
  show xs.foldl (· + ·) (0 + a) = a + xs.foldl (· + ·) 0
  rw [this]
  grind
theorem sumR_rev (xs : List Rat) : sumR xs.reverse = sumR xs := by
  induction xs with
  | nil => rfl
  | cons a xs ih => rw [List.reverse_cons, sumR_snoc, ih, sumR_cons]; grind
theorem getD_rev {A : Type} {xs : List A} {d : A} {i : Nat} (h : i < xs.length) : xs.reverse.getD i d = xs.getD (xs.length - 1 - i) d := by
  rw [List.getD_eq_getElem?_getD, List.getD_eq_getElem?_getD, List.getElem?_reverse h]
theorem drives_rev {ws : List Int} {qs : List Rat} (h : qs.length = ws.length) : drivesOf ws.reverse qs.reverse = (drivesOf ws qs).reverse := by
  apply List.ext_getElem
  · rw [drives_len', List.length_reverse, List.length_reverse, drives_len']
  · intro i h1 h2
    have hi : i < ws.length := by rw [drives_len', List.length_reverse] at h1; exact h1
    have e1 := dr_get (ws := ws.reverse) (qs := qs.reverse) (i := i) (by rw [List.length_reverse]; exact hi)
    rw [List.getD_eq_getElem?_getD, List.getElem?_eq_getElem h1, getD_rev hi, getD_rev (by omega), h] at e1
    have e2 := getD_rev (xs := drivesOf ws qs) (d := 0) (i := i) (by rw [drives_len']; exact hi)
    rw [List.getD_eq_getElem?_getD, List.getElem?_eq_getElem h2, drives_len', dr_get (by omega)] at e2
    exact (show (drivesOf ws.reverse qs.reverse)[i] = _ from e1).trans (show (drivesOf ws qs).reverse[i] = _ from e2).symm
theorem seconds_rev {ws : List Int} {qs : List Rat} (h : qs.length = ws.length) : secondsOf ws.reverse qs.reverse = (secondsOf ws qs).reverse := by
  apply List.ext_getElem
  · rw [se_len, List.length_reverse, List.length_reverse, se_len]
  · intro i h1 h2
    have hi : i < ws.length := by rw [se_len, List.length_reverse] at h1; exact h1
    have e1 := se_get (ws := ws.reverse) (qs := qs.reverse) (i := i) (by rw [List.length_reverse]; exact hi)
    rw [List.getD_eq_getElem?_getD, List.getElem?_eq_getElem h1, getD_rev hi, getD_rev (by omega), h] at e1
    have e2 := getD_rev (xs := secondsOf ws qs) (d := 0) (i := i) (by rw [se_len]; exact hi)
    rw [List.getD_eq_getElem?_getD, List.getElem?_eq_getElem h2, se_len, se_get (by omega)] at e2
    exact (show (secondsOf ws.reverse qs.reverse)[i] = _ from e1).trans (show (secondsOf ws qs).reverse[i] = _ from e2).symm
theorem B67.rev {r : RowT} (h : B67 r) (hb : r.b = false) : B67 ⟨r.ws.reverse, r.qs.reverse, false⟩ := by
  have few := h.few
  rw [hb] at few
  refine ⟨by show r.qs.reverse.length = r.ws.reverse.length; rw [List.length_reverse, List.length_reverse]; exact h.len, by show (if false = true then 1 else 2) ≤ r.ws.reverse.length; rw [List.length_reverse]; simpa using few, by show r.ws.reverse.length ≤ 40; rw [List.length_reverse]; exact h.many, fun y hy => h.ws y (List.mem_reverse.mp hy), fun q hq => h.qs q (List.mem_reverse.mp hq)⟩
theorem first_mir {r : RowT} (h : B67 r) (hb : r.b = false) : firstOf (mirR r).ws (mirR r).qs = -firstOf r.ws r.qs := by
  have := first_mul (h.rev hb) ((-1 : Int) : Rat)
  show firstOf r.ws.reverse (r.qs.reverse.map fun q => q * ((-1 : Int) : Rat)) = _
  rw [this]
  show sumR (drivesOf r.ws.reverse r.qs.reverse) * _ = -sumR (drivesOf r.ws r.qs)
  rw [drives_rev h.len, sumR_rev]
  grind
theorem second_mir {r : RowT} (h : B67 r) (hb : r.b = false) : secondOf (mirR r).ws (mirR r).qs = secondOf r.ws r.qs := by
  have := second_mul (h.rev hb) ((-1 : Int) : Rat)
  show secondOf r.ws.reverse (r.qs.reverse.map fun q => q * ((-1 : Int) : Rat)) = _
  rw [this]
  show sumR (secondsOf r.ws.reverse r.qs.reverse) * _ = sumR (secondsOf r.ws r.qs)
  rw [seconds_rev h.len, sumR_rev]
  grind
theorem mir_mir {r : RowT} (hb : r.b = false) : mirR (mirR r) = r := by
  obtain ⟨ws, qs, b⟩ := r
  replace hb : b = false := hb
  subst hb
  unfold mirR
  simp only [List.map_reverse, List.reverse_reverse, List.map_map]
  congr 1
  have : ∀ qs : List Rat, qs.map ((fun q => q * ((-1 : Int) : Rat)) ∘ fun q => q * ((-1 : Int) : Rat)) = qs := fun qs => by
    induction qs with
    | nil => rfl
    | cons q qs ih => rw [List.map_cons, ih]; congr 1; show q * ((-1 : Int) : Rat) * ((-1 : Int) : Rat) = q; grind
  exact this qs
end U

namespace U
open PySem PySem.Spec PyProof.Rows L2
/-! ### the law: rows led along -/
abbrev s__law_led : Stmt := top 32
theorem sc__law_led : FnScope ["_law_row", "_law_weights", "_law_speeds", "_law_shut", "_law_x", "_law_once", "_law_twice", "_law_whole", "_law_back", "_law_fast", "_law_seen", "_law_late", "_law_more"] ["_law_row", "_law_weights", "_law_speeds", "_law_shut", "_law_x"] (defScope s__law_led) := ⟨rfl, rfl, rfl, by decide +kernel, rfl, by decide +kernel, by decide +kernel⟩
section
variable {P : Program} {w : World} {K : PySem.W.Frag} {mg : Str → Option Value} {base : Heap} {CX : Addrs}
theorem val_ratD (x : Rat) : valD (ratD x) = x := by
  show Rat.divInt x.num x.den = x
  simp
theorem good_ratD (x : Rat) : goodS (ratD x) = true := by
  show decide (0 < (x.den : Int)) = true
  exact decide_eq_true (by have := x.den_pos; omega)
theorem bot_ratD {n d : Nat} {x : Rat} (h : Sz2 n d x) (k : d ≤ 8000) : Big 8000 (botD (ratD x)) := big_mono (show Big d (x.den : Int) by have := h.2; unfold Big; omega) k
theorem row_ext {r s : RowT} (h1 : r.ws = s.ws) (h2 : r.qs = s.qs) (h3 : r.b = s.b) : r = s := by cases r; cases s; cases h1; cases h2; cases h3; rfl
theorem map_id2 {f g : Rat → Rat} (h : ∀ q, g (f q) = q) (qs : List Rat) : (qs.map f).map g = qs := by
  induction qs with
  | nil => rfl
  | cons q qs ih => rw [List.map_cons, List.map_cons, ih, h]
theorem map_eq2 {f g f' g' : Rat → Rat} (h : ∀ q, g (f q) = g' (f' q)) (qs : List Rat) : (qs.map f).map g = (qs.map f').map g' := by
  induction qs with
  | nil => rfl
  | cons q qs ih => rw [List.map_cons, List.map_cons, ih, h, List.map_cons, List.map_cons]
theorem turn_turn (r : RowT) : ledR (fun q z => q * z) (ledR (fun q z => q * z) r (.int (-1))) (.int (-1)) = r :=
  row_ext rfl (map_id2 (fun q => by show q * ((-1 : Int) : Rat) * ((-1 : Int) : Rat) = q; grind) r.qs) rfl
theorem add_neg (r : RowT) (x : Rat) : ledR (fun q z => q + z) (ledR (fun q z => q + z) r (ratD x)) (ratD (-x)) = r :=
  row_ext rfl (map_id2 (fun q => by show q + valD (ratD x) + valD (ratD (-x)) = q; rw [val_ratD, val_ratD]; grind) r.qs) rfl
theorem mir_add {r : RowT} (x : Rat) : ledR (fun q z => q + z) (mirR r) (ratD (-x)) = mirR (ledR (fun q z => q + z) r (ratD x)) := by
  refine row_ext rfl ?_ rfl
  show ((r.qs.reverse.map fun q => q * ((-1 : Int) : Rat)).map fun q => q + valD (ratD (-x))) = ((r.qs.map fun q => q + valD (ratD x)).reverse.map fun q => q * ((-1 : Int) : Rat))
  rw [← List.map_reverse]
  exact map_eq2 (fun q => by show q * ((-1 : Int) : Rat) + valD (ratD (-x)) = (q + valD (ratD x)) * ((-1 : Int) : Rat); rw [val_ratD, val_ratD]; grind) _
theorem sz_neg {n d : Nat} {q : Rat} (h : Sz2 n d q) : Sz2 n d (-q) := ⟨by unfold Big at *; have := h.1; rw [Rat.neg_num]; unfold Big at this; omega, by rw [Rat.neg_den]; exact h.2⟩
theorem ev_eqRow {Y : Rs} [w0 : PreT Y.W] [wi : PreI Y.W] [wz : PreZ Y.W] [Pre Y.W] {G : Ctx} [mc : MnC Y.W G] {te tu : TE} {r1 r2 : RowT} {w' : World} (T : Txt P w' K mg CX) (h1 : Ev Y G te (r1.pr K CX)) (h2 : Ev Y G tu (r2.pr K CX)) (e : r1 = r2) : Ev Y G (tOp (rEqInX K CX.Row (sp_eq K CX)) te tu) (Is (.bl true)) := by
  subst e
  refine ev_eqInX (b := true) (Fs := rowFs K r1.ws r1.qs r1.b) h1 (P := r1.pr K CX) h2 (hasT_row (r := r1) T) T.nf_Row ?_
  have := cl_of (W := Evl.Ex) (W' := Y.W) (C := okEq) (f := eqW K CX) (.row r1 r1) True.intro
  refine cl_sub this fun v H h => ?_
  rw [show v = .bl (decide (r1.ws = r1.ws) && (decide (r1.qs = r1.qs) && decide (r1.b = r1.b))) from h]
  simp [Is]
theorem ev_negT {Y : Rs} [w0 : PreT Y.W] {G : Ctx} [mc : MnC Y.W G] {te : TE} {q : Rat} (h : Ev Y G te (Told K q)) : Ev Y G (tTup (tCons (tUn (rU fun i => .int (-i)) (tOp (rIx K) te (tC (.int 0)))) (tCons (tOp (rIx K) te (tC (.int 1))) tNil))) (Told K (-q)) :=
  ev_tup (K := K) (ea_cons (P1 := Is (.int (-q).num)) (ev_un (ev_op h ev_c o_t0) op1_neg) (ea_cons (P1 := Is (.int ((-q).den : Int))) (ev_op h ev_c o_t1) ea_nil))
/-- one != other of two told ratios that are the same -/
theorem et_neT {Y : Rs} [w0 : PreT Y.W] {G : Ctx} [mc : MnC Y.W G] {te tu : TE} {q s : Rat} (h1 : Ev Y G te (Told K q)) (h2 : Ev Y G tu (Told K s)) (e : q = s) : EvT Y G (tTest (tOp (rNeA K) te tu)) false :=
  EvT.to (et_test (ev_op h1 h2 o_neTold)) (by rw [decide_eq_true e]; rfl)
structure LedI where
  r : RowT
  x : Rat
def sp_led (K : PySem.W.Frag) (CX : Addrs) : Sp := SpW Evl.Ex (fun i : LedI => B67 i.r ∧ Sz2 67 67 i.x) fun i => ⟨[i.r.pr K CX, Dv K (wD i.r.ws), Dv K (sD i.r.qs), Is (.bl i.r.b), Told K i.x], Is (.bl true), NoX⟩
theorem ok_led {f : Addr} {fd : FuncData} (F : Fun K "_law_led" "_law_led" s__law_led f fd) (T : Txt P w K mg CX) (D__law_sums : Df P w K mg base 3 "_law_sums" ["_law_weights", "_law_speeds"] (sp_sums K)) (D__law_mul : Df P w K mg base 2 "_law_mul" ["_law_a", "_law_b"] (sp_t2 K fun q r => q * r)) (D__law_add : Df P w K mg base 2 "_law_add" ["_law_a", "_law_b"] (sp_t2 K fun q r => q + r))
    (D_Row_mirrored : Dm P w K mg base 8 CX.Row "mirrored" ["self"] (sp_mi K CX)) (D_Row_hurried : Dm P w K mg base 9 CX.Row "hurried" ["self", "more"] (sp_hu K CX)) (D_Row_quicker : Dm P w K mg base 9 CX.Row "quicker" ["self", "factor"] (sp_qk K CX)) (D_Row_turned : Dm P w K mg base 10 CX.Row "turned" ["self"] (sp_tn K CX))
    (D_Row_eq : DmE P w K mg base 1 CX.Row "__eq__" ["self", "other"] (sp_eq K CX)) : FnOk P w K mg base (L2N.CX P w) 11 f fd ["_law_row", "_law_weights", "_law_speeds", "_law_shut", "_law_x"] (sp_led K CX) := by
  refine okW F sc__law_led (fun i => rfl) (by decide) (fun cdv A outer s H E hr => ⟨_, (pss_cons (ps_asg (pe_df D__law_sums (hr.mono (by decide)) (L2N.takes_of rfl rfl rfl rfl) (pa_cons (pv 1) (pa_cons (pv 2) pa_nil))) (pg_tup rfl (pgs_cons (pg_name (i := 5) sc__law_led.nd rfl (by first | exact Or.inl rfl | exact Or.inr rfl)) (pgs_cons (pg_name (i := 6) sc__law_led.nd rfl (by first | exact Or.inl rfl | exact Or.inr rfl)) pgs_nil)))) (pss_cons (ps_set (i := 7) sc__law_led.nd rfl (by first | exact Or.inl rfl | exact Or.inr rfl) (pe_tup (pa_cons (pe_callB (call_sumT rfl) (by rfl) T.n_sum (by decide +kernel) (pa_cons (pv 1) pa_nil)) (pa_cons pe_int pa_nil)))) (pss_cons (ps_set (i := 8) sc__law_led.nd rfl (by first | exact Or.inl rfl | exact Or.inr rfl) (pe_meS0 D_Row_turned (hr.mono (by decide)) (L2N.takes_of rfl rfl rfl rfl) (pv 0))) (pss_cons (ps_if (PW.pt (pw_or (pt_cmpR (op_neA hr.units) (pe_fld (pv 8) rfl) (pe_tup (pa_cons (pe_un un_neg (pe_ix ix_seq (pv 5) pe_int (fun _ _ => rfl))) (pa_cons (pe_ix ix_seq (pv 5) pe_int (fun _ _ => rfl)) pa_nil))) (nomark _)) (pw_or (pt_cmpR (op_neA hr.units) (pe_fld (pv 8) rfl) (pv 6) (nomark _)) (pw_or1 (pt_not (pt_cmpR (op_eqInX D_Row_eq (hr.mono (by decide))) (pe_meS0 D_Row_turned (hr.mono (by decide)) (L2N.takes_of rfl rfl rfl rfl) (pv 8)) (pv 0) (nomark _))))))) (pss_one (ps_ret pe_bl)) pss_nil) (pss_cons (ps_set (i := 9) sc__law_led.nd rfl (by first | exact Or.inl rfl | exact Or.inr rfl) (pe_meS D_Row_quicker (hr.mono (by decide)) (L2N.takes_of rfl rfl rfl rfl) (pv 0) (pa_cons (pv 4) pa_nil))) (pss_cons (ps_if (PW.pt (pw_or (pt_cmpR (op_neA hr.units) (pe_fld (pv 9) rfl) (pe_df D__law_mul (hr.mono (by decide)) (L2N.takes_of rfl rfl rfl rfl) (pa_cons (pv 5) (pa_cons (pv 4) pa_nil))) (nomark _)) (pw_or1 (pt_cmpR (op_neA hr.units) (pe_fld (pv 9) rfl) (pe_df D__law_mul (hr.mono (by decide)) (L2N.takes_of rfl rfl rfl rfl) (pa_cons (pv 6) (pa_cons (pe_df D__law_mul (hr.mono (by decide)) (L2N.takes_of rfl rfl rfl rfl) (pa_cons (pv 4) (pa_cons (pv 4) pa_nil))) pa_nil))) (nomark _))))) (pss_one (ps_ret pe_bl)) pss_nil) (pss_cons (ps_if (pt_truth (pv 3) (fun _ => rfl)) (pss_one (ps_ret pe_bl)) pss_nil) (pss_cons (ps_set (i := 10) sc__law_led.nd rfl (by first | exact Or.inl rfl | exact Or.inr rfl) (pe_meS0 D_Row_mirrored (hr.mono (by decide)) (L2N.takes_of rfl rfl rfl rfl) (pv 0))) (pss_cons (ps_if (PW.pt (pw_or (pt_cmpR (op_neA hr.units) (pe_fld (pv 10) rfl) (pe_tup (pa_cons (pe_un un_neg (pe_ix ix_seq (pv 5) pe_int (fun _ _ => rfl))) (pa_cons (pe_ix ix_seq (pv 5) pe_int (fun _ _ => rfl)) pa_nil))) (nomark _)) (pw_or (pt_cmpR (op_neA hr.units) (pe_fld (pv 10) rfl) (pv 6) (nomark _)) (pw_or1 (pt_not (pt_cmpR (op_eqInX D_Row_eq (hr.mono (by decide))) (pe_meS0 D_Row_mirrored (hr.mono (by decide)) (L2N.takes_of rfl rfl rfl rfl) (pv 10)) (pv 0) (nomark _))))))) (pss_one (ps_ret pe_bl)) pss_nil) (pss_cons (ps_set (i := 11) sc__law_led.nd rfl (by first | exact Or.inl rfl | exact Or.inr rfl) (pe_meS D_Row_hurried (hr.mono (by decide)) (L2N.takes_of rfl rfl rfl rfl) (pv 0) (pa_cons (pv 4) pa_nil))) (pss_cons (ps_if (PW.pt (pw_or (pt_cmpR (op_neA hr.units) (pe_fld (pv 11) rfl) (pe_df D__law_add (hr.mono (by decide)) (L2N.takes_of rfl rfl rfl rfl) (pa_cons (pv 5) (pa_cons (pe_df D__law_mul (hr.mono (by decide)) (L2N.takes_of rfl rfl rfl rfl) (pa_cons (pv 7) (pa_cons (pv 4) pa_nil))) pa_nil))) (nomark _)) (pw_or1 (pt_not (pt_cmpR (op_eqInX D_Row_eq (hr.mono (by decide))) (pe_meS D_Row_hurried (hr.mono (by decide)) (L2N.takes_of rfl rfl rfl rfl) (pv 11) (pa_cons (pe_tup (pa_cons (pe_un un_neg (pe_ix ix_seq (pv 4) pe_int (fun _ _ => rfl))) (pa_cons (pe_ix ix_seq (pv 4) pe_int (fun _ _ => rfl)) pa_nil))) pa_nil)) (pv 0) (nomark _)))))) (pss_one (ps_ret pe_bl)) pss_nil) (pss_cons (ps_set (i := 12) sc__law_led.nd rfl (by first | exact Or.inl rfl | exact Or.inr rfl) (pe_df D__law_add (hr.mono (by decide)) (L2N.takes_of rfl rfl rfl rfl) (pa_cons (pe_df D__law_mul (hr.mono (by decide)) (L2N.takes_of rfl rfl rfl rfl) (pa_cons (pe_tup (pa_cons pe_int (pa_cons pe_int pa_nil))) (pa_cons (pe_df D__law_mul (hr.mono (by decide)) (L2N.takes_of rfl rfl rfl rfl) (pa_cons (pv 5) (pa_cons (pv 4) pa_nil))) pa_nil))) (pa_cons (pe_df D__law_mul (hr.mono (by decide)) (L2N.takes_of rfl rfl rfl rfl) (pa_cons (pv 7) (pa_cons (pe_df D__law_mul (hr.mono (by decide)) (L2N.takes_of rfl rfl rfl rfl) (pa_cons (pv 4) (pa_cons (pv 4) pa_nil))) pa_nil))) pa_nil)))) (pss_one (ps_ret (pe_and (pe_cmpR (op_eqA hr.units) (pe_fld (pv 11) rfl) (pe_df D__law_add (hr.mono (by decide)) (L2N.takes_of rfl rfl rfl rfl) (pa_cons (pv 6) (pa_cons (pv 12) pa_nil))) (nomark _)) (pe_one (pe_cmpR (op_eqInX D_Row_eq (hr.mono (by decide))) (pe_meS D_Row_hurried (hr.mono (by decide)) (L2N.takes_of rfl rfl rfl rfl) (pv 10) (pa_cons (pe_tup (pa_cons (pe_un un_neg (pe_ix ix_seq (pv 4) pe_int (fun _ _ => rfl))) (pa_cons (pe_ix ix_seq (pv 4) pe_int (fun _ _ => rfl)) pa_nil))) pa_nil)) (pe_meS0 D_Row_mirrored (hr.mono (by decide)) (L2N.takes_of rfl rfl rfl rfl) (pv 11)) (nomark _)))))))))))))))))), fun i c => ⟨Dead, ?_, fun _ _ h => (dead h).elim⟩⟩)
  obtain ⟨r, x⟩ := i
  obtain ⟨h, hx⟩ := c
  replace h : B67 r := h
  replace hx : Sz2 67 67 x := hx
  show St (RsE E NoX 13) [some (r.pr K CX), some (Dv K (wD r.ws)), some (Dv K (sD r.qs)), some (Is (.bl r.b)), some (Told K x), none, none, none, none, none, none, none, none] _ Dead (Is (.bl true))
  obtain ⟨F1, hF1⟩ : ∃ F1, F1 = firstOf r.ws r.qs := ⟨_, rfl⟩
  obtain ⟨S2, hS2⟩ : ∃ S2, S2 = secondOf r.ws r.qs := ⟨_, rfl⟩
  obtain ⟨Wn, hWn⟩ : ∃ Wn : Rat, Wn = ((r.ws.sum : Int) : Rat) := ⟨_, rfl⟩
  have zF : Sz2 10000 2722 F1 := by
    have := h.s1 r.ws.length (Nat.le_refl _)
    rw [take_all drives_len'] at this
    rw [hF1]; exact this
  have zS : Sz2 10000 5402 S2 := by
    have := h.s2 r.ws.length (Nat.le_refl _)
    rw [take_all se_len] at this
    rw [hS2]; exact this
  have zW : Sz2 100 41 Wn := by
    have := h.sw r.ws.length (Nat.le_refl _)
    rw [take_all (by unfold wsR; rw [List.length_map]), wsum] at this
    rw [hWn]; exact this
  have zxx := sz2_mul hx hx
  refine st_seq (st_un2 (K := K) (P1 := Told K F1) (P2 := Told K S2) (Ev.sub (ev_call (ea_cons (ev_var rfl) (ea_cons (ev_var rfl) ea_nil)) (cl_of (W := Evl.Ex) (C := fun r : RowT => RG r) (f := fun r => ⟨[Dv K (wD r.ws), Dv K (sD r.qs)], Tup K [Told K (firstOf r.ws r.qs), Told K (secondOf r.ws r.qs)], NoX⟩) r h.rg)) fun v H z => by rw [hF1, hS2]; exact z)) ?_
  refine st_seq (st_set (P := Told K Wn) (by
    rw [hWn]
    exact ev_tup (K := K) (ea_cons (P1 := Is (.int r.ws.sum)) (ev_cb (ea_cons (P1 := Tup K (r.ws.map fun i => Is (.int i))) (Ev.sub (ev_var rfl) fun v H z => by
      have z2 : Tup K (DvL K (r.ws.map D.int)) v H := z
      rw [← ints_dvl] at z2; exact z2) ea_nil) opA_sumT) (ea_cons ev_c ea_nil)))) ?_
  have gr : ∀ y : Rat, goodS (ratD y) = true := good_ratD
  have nx := sz_neg hx
  have cT : ∀ {rr : RowT}, B67 rr → Cl Evl.Ex (sp_tn K CX) [rr.pr K CX] (RowT.pr K CX (ledR (fun q z => q * z) rr (.int (-1)))) NoX := fun {rr} hh => cl_of (W := Evl.Ex) (C := fun r : RowT => okQk (.good r (.int (-1)))) (f := fun r => ⟨[r.pr K CX], RowT.pr K CX (ledR (fun q z => q * z) r (.int (-1))), NoX⟩) rr hh.tn
  have cQ : ∀ {rr : RowT} {y : Rat}, B67 rr → Sz2 67 67 y → Cl Evl.Ex (sp_qk K CX) [rr.pr K CX, Dv K (ratD y)] (RowT.pr K CX (ledR (fun q z => q * z) rr (ratD y))) NoX := fun {rr y} hh hy => cl_qkG (hh.qk (gr y) (bot_ratD hy (by decide)) (by rw [val_ratD]; exact hy))
  have meth0 : ∀ {m : String} {sp : Sp} {G : Ctx} {te : TE} {E1 : L2.St → XK} {rr : RowT} {P : Pr} [MnC Evl.Ex G], (m : Str) ∉ (["weights", "speeds", "wall", "pairs", "gap_count", "is_like", "first_sum", "second_sum"] : List Str) → Ev (RsE E NoX 13) G te (rr.pr K CX) → Cl Evl.Ex sp [rr.pr K CX] P NoX → Ev (RsE E NoX 13) G (tMeS CX.Row m sp E1 te tNil) P := fun {m sp G te E1 rr P} _ hm ht hc => ev_meS (Fs := rowFs K rr.ws rr.qs rr.b) ht (lk_no hm) ea_nil hc
  have meth1 : ∀ {m : String} {sp : Sp} {G : Ctx} {te tx : TE} {E1 : L2.St → XK} {rr : RowT} {P Px : Pr} [MnC Evl.Ex G] [Mn Evl.Ex Px], (m : Str) ∉ (["weights", "speeds", "wall", "pairs", "gap_count", "is_like", "first_sum", "second_sum"] : List Str) → Ev (RsE E NoX 13) G te (rr.pr K CX) → Ev (RsE E NoX 13) G tx Px → Cl Evl.Ex sp [rr.pr K CX, Px] P NoX → Ev (RsE E NoX 13) G (tMeS CX.Row m sp E1 te (tCons tx tNil)) P := fun {m sp G te tx E1 rr P Px} _ _ hm ht hx hc => ev_meS (Fs := rowFs K rr.ws rr.qs rr.b) ht (lk_no hm) (ea_cons hx ea_nil) hc
  -- turned
  refine st_seq (st_set (P := RowT.pr K CX (ledR (fun q z => q * z) r (.int (-1)))) (meth0 (m := "turned") (by decide) (ev_var rfl) (cT h))) ?_
  have e1 : firstOf (ledR (fun q z => q * z) r (.int (-1))).ws (ledR (fun q z => q * z) r (.int (-1))).qs = -F1 := by
    rw [hF1]
    exact (first_mul h ((-1 : Int) : Rat)).trans (by grind)
  have e2 : secondOf (ledR (fun q z => q * z) r (.int (-1))).ws (ledR (fun q z => q * z) r (.int (-1))).qs = S2 := by
    rw [hS2]
    exact (second_mul h ((-1 : Int) : Rat)).trans (by grind)
  refine st_ifB (b := false) (EvT.to (et_or (a := false) (b := false) (et_neT (ev_r1 T (ev_var rfl)) (ev_negT (ev_var rfl)) e1) (fun _ => EvT.to (et_or (a := false) (b := false) (et_neT (ev_r2 T (ev_var rfl)) (ev_var rfl) e2) (fun _ => EvT.to (et_not (et_test (ev_eqRow T (meth0 (m := "turned") (by decide) (ev_var rfl) (cT h.turn)) (ev_var rfl) (turn_turn r)))) rfl)) rfl)) rfl) (fun h => by cases h) (fun _ => st_nextB ?_)
  -- quicker
  refine st_seq (st_set (P := RowT.pr K CX (ledR (fun q z => q * z) r (ratD x))) (meth1 (m := "quicker") (by decide) (ev_var rfl) (ev_var (P := Dv K (ratD x)) rfl) (cQ h hx))) ?_
  have e3 : firstOf (ledR (fun q z => q * z) r (ratD x)).ws (ledR (fun q z => q * z) r (ratD x)).qs = F1 * x := by
    rw [hF1]
    show firstOf r.ws (r.qs.map fun q => q * valD (ratD x)) = _
    rw [val_ratD]; exact first_mul h x
  have e4 : secondOf (ledR (fun q z => q * z) r (ratD x)).ws (ledR (fun q z => q * z) r (ratD x)).qs = S2 * (x * x) := by
    rw [hS2]
    show secondOf r.ws (r.qs.map fun q => q * valD (ratD x)) = _
    rw [val_ratD]; exact second_mul h x
  have mF : ∀ {G : Ctx} {E1 : L2.St → XK} [MnC Evl.Ex G], G[5]? = some (some (Told K F1)) → G[4]? = some (some (Told K x)) → Ev (RsE E NoX 13) G (tCallS (sp_t2 K fun q r => q * r) E1 (tCons (tVar 5) (tCons (tVar 4) tNil))) (Told K (F1 * x)) := fun {G E1} _ g5 g4 => ev_call (ea_cons (P1 := Told K F1) (ev_var g5) (ea_cons (P1 := Told K x) (ev_var g4) ea_nil)) (cl_t2 (n := 10000) (by decide) (by decide) zF (hx.mono (by decide) (Nat.le_refl _)))
  have mX : ∀ {G : Ctx} {E1 : L2.St → XK} [MnC Evl.Ex G], G[4]? = some (some (Told K x)) → Ev (RsE E NoX 13) G (tCallS (sp_t2 K fun q r => q * r) E1 (tCons (tVar 4) (tCons (tVar 4) tNil))) (Told K (x * x)) := fun {G E1} _ g4 => ev_call (ea_cons (P1 := Told K x) (ev_var g4) (ea_cons (P1 := Told K x) (ev_var g4) ea_nil)) (cl_t2 (n := 67) (by decide) (by decide) hx hx)
  refine st_ifB (b := false) (EvT.to (et_or (a := false) (b := false) (et_neT (ev_r1 T (ev_var rfl)) (mF rfl rfl) e3) (fun _ => et_neT (ev_r2 T (ev_var rfl)) (ev_call (ea_cons (P1 := Told K S2) (ev_var rfl) (ea_cons (P1 := Told K (x * x)) (mX rfl) ea_nil)) (cl_t2 (n := 10000) (by decide) (by decide) zS (zxx.mono (by decide) (Nat.le_refl _)))) e4)) rfl) (fun h => by cases h) (fun _ => st_nextB ?_)
  cases hb : r.b with
  | true => exact st_ifB (b := true) (EvT.to (et_truB (ev_var rfl)) rfl) (fun _ => st_retB ev_c) (fun h => by cases h)
  | false =>
  refine st_ifB (b := false) (EvT.to (et_truB (ev_var rfl)) rfl) (fun h => by cases h) (fun _ => st_nextB ?_)
  -- mirrored
  have hmb : (mirR r).b = false := rfl
  refine st_seq (st_set (P := RowT.pr K CX (mirR r)) (meth0 (m := "mirrored") (by decide) (ev_var rfl) (cl_miG (h.mi hb) hb))) ?_
  have hm := h.mir hb
  refine st_ifB (b := false) (EvT.to (et_or (a := false) (b := false) (et_neT (ev_r1 T (ev_var rfl)) (ev_negT (ev_var rfl)) (by rw [first_mir h hb, hF1])) (fun _ => EvT.to (et_or (a := false) (b := false) (et_neT (ev_r2 T (ev_var rfl)) (ev_var rfl) (by rw [second_mir h hb, hS2])) (fun _ => EvT.to (et_not (et_test (ev_eqRow T (meth0 (m := "mirrored") (by decide) (ev_var rfl) (cl_miG (hm.mi rfl) rfl)) (ev_var rfl) (mir_mir hb)))) rfl)) rfl)) rfl) (fun h => by cases h) (fun _ => st_nextB ?_)
  -- hurried
  obtain ⟨late, hlate⟩ : ∃ late, late = ledR (fun q z => q + z) r (ratD x) := ⟨_, rfl⟩
  have cH : ∀ {rr : RowT} {y : Rat}, okHu (.good rr (ratD y)) → Cl Evl.Ex (sp_hu K CX) [rr.pr K CX, Dv K (ratD y)] (RowT.pr K CX (ledR (fun q z => q + z) rr (ratD y))) NoX := fun {rr y} hh => cl_of (W := Evl.Ex) (C := okHu) (f := wHu K CX) (.good rr (ratD y)) hh
  have bxx : ∀ {y : Rat}, Sz2 67 67 y → Big 8000 (botD (ratD y)) := fun hy => bot_ratD hy (by decide)
  refine st_seq (st_set (P := RowT.pr K CX late) (by rw [hlate]; exact meth1 (m := "hurried") (by decide) (ev_var rfl) (ev_var (P := Dv K (ratD x)) rfl) (cH (h.hu hb (gr x) (bxx hx) (by rw [val_ratD]; exact hx))))) ?_
  have lF : firstOf late.ws late.qs = F1 + Wn * x := by
    rw [hlate, hF1, hWn]
    show firstOf r.ws (r.qs.map fun q => q + valD (ratD x)) = _
    rw [val_ratD]; exact first_add h x
  have lS : secondOf late.ws late.qs = S2 + (2 * (F1 * x) + Wn * (x * x)) := by
    rw [hlate, hF1, hWn, hS2]
    show secondOf r.ws (r.qs.map fun q => q + valD (ratD x)) = _
    rw [val_ratD, second_add h x]; grind
  have lb : late.b = false := by rw [hlate]; exact hb
  have lq : ∀ q ∈ late.qs, Sz2 135 134 q := fun q hq => by
    rw [hlate] at hq
    obtain ⟨y, hy, rfl⟩ := List.mem_map.mp hq
    rw [val_ratD]
    exact sz2_add (h.qs y hy) hx (by decide) (by decide)
  have hu2 : okHu (.good late (ratD (-x))) := ⟨lb, gr _, bxx nx, ⟨135, 134, by decide, by decide, by rw [val_ratD]; exact nx.mono (by decide) (by decide), lq⟩, by rw [hlate, add_neg]; exact h.rg⟩
  have mi2 : okMi late := .inr ⟨lb, ⟨135, 134, by decide, by decide, sz_neg1.mono (by decide) (by decide), fun q hq => lq q (List.mem_reverse.mp hq)⟩, by rw [hlate, ← mir_add]; exact (hm.hu rfl (gr _) (bxx nx) (by rw [val_ratD]; exact nx)).2.2.2.2⟩
  have mWx : ∀ {G : Ctx} {E1 : L2.St → XK} [MnC Evl.Ex G], G[7]? = some (some (Told K Wn)) → G[4]? = some (some (Told K x)) → Ev (RsE E NoX 13) G (tCallS (sp_t2 K fun q r => q * r) E1 (tCons (tVar 7) (tCons (tVar 4) tNil))) (Told K (Wn * x)) := fun {G E1} _ g7 g4 => ev_call (ea_cons (P1 := Told K Wn) (ev_var g7) (ea_cons (P1 := Told K x) (ev_var g4) ea_nil)) (cl_t2 (n := 100) (by decide) (by decide) zW (hx.mono (by decide) (Nat.le_refl _)))
  refine st_ifB (b := false) (EvT.to (et_or (a := false) (b := false) (et_neT (ev_r1 T (ev_var rfl)) (ev_call (ea_cons (P1 := Told K F1) (ev_var rfl) (ea_cons (P1 := Told K (Wn * x)) (mWx rfl rfl) ea_nil)) (cl_t2 (n := 10000) (by decide) (by decide) zF ((sz2_mul zW hx).mono (by decide) (Nat.le_refl _)))) lF) (fun _ => EvT.to (et_not (et_test (ev_eqRow T (meth1 (m := "hurried") (by decide) (ev_var (P := RowT.pr K CX late) rfl) (Px := Dv K (ratD (-x))) (ev_negT (ev_var rfl)) (cH hu2)) (ev_var rfl) (by rw [hlate]; exact add_neg r x)))) rfl)) rfl) (fun h => by cases h) (fun _ => st_nextB ?_)
  -- more
  have z2 : Sz2 3 1 (2 : Rat) := by
    have := sz2_int (n := 3) (d := 1) (i := 2) (show Big 3 2 by unfold Big; decide) (by decide)
    exact this
  have zM1 : Sz2 10070 2790 (2 * (F1 * x)) := (sz2_mul z2 (sz2_mul zF hx)).mono (by decide) (by decide)
  have zM2 : Sz2 10070 175 (Wn * (x * x)) := (sz2_mul zW zxx).mono (by decide) (by decide)
  refine st_seq (st_set (P := Told K (2 * (F1 * x) + Wn * (x * x))) (ev_call (ea_cons (P1 := Told K (2 * (F1 * x))) (ev_call (ea_cons (P1 := Told K (2 : Rat)) (ev_tup (K := K) (ea_cons (P1 := Is (.int 2)) ev_c (ea_cons (P1 := Is (.int 1)) ev_c ea_nil))) (ea_cons (P1 := Told K (F1 * x)) (mF rfl rfl) ea_nil)) (cl_t2 (n := 10067) (by decide) (by decide) (z2.mono (by decide) (Nat.le_refl _)) (sz2_mul zF hx))) (ea_cons (P1 := Told K (Wn * (x * x))) (ev_call (ea_cons (P1 := Told K Wn) (ev_var rfl) (ea_cons (P1 := Told K (x * x)) (mX rfl) ea_nil)) (cl_t2 (n := 134) (by decide) (by decide) (zW.mono (by decide) (Nat.le_refl _)) zxx)) ea_nil)) (cl_t2 (n := 10070) (by decide) (by decide) zM1 zM2))) ?_
  have zM := sz2_add (N := 20000) zM1 zM2 (by decide) (by decide)
  refine st_ret (Ev.to (ev_andV (b := true) (Ev.to (ev_op (ev_r2 T (ev_var (P := RowT.pr K CX late) rfl)) (ev_call (ea_cons (P1 := Told K S2) (ev_var rfl) (ea_cons (P1 := Told K (2 * (F1 * x) + Wn * (x * x))) (ev_var rfl) ea_nil)) (cl_t2 (n := 30000) (by decide) (by decide) (zS.mono (by decide) (Nat.le_refl _)) (zM.mono (by decide) (Nat.le_refl _)))) o_eqTold) (by rw [decide_eq_true lS])) (fun _ => ev_eqRow T (meth1 (m := "hurried") (by decide) (ev_var (P := RowT.pr K CX (mirR r)) rfl) (Px := Dv K (ratD (-x))) (ev_negT (ev_var rfl)) (cH (hm.hu rfl (gr _) (bxx nx) (by rw [val_ratD]; exact nx)))) (meth0 (m := "mirrored") (by decide) (ev_var (P := RowT.pr K CX late) rfl) (cl_miG mi2 lb)) (by rw [hlate]; exact mir_add x))) rfl)
end
end U

namespace U
open PySem PySem.Spec PyProof.Rows L2
/-! ### the law: what is due -/
section
variable {P : Program} {w : World} {K : PySem.W.Frag} {mg : Str → Option Value} {base : Heap} {CX : Addrs}
structure ItI where
  op : Op
  x : D
  out : Res
def ItI.d (i : ItI) : D := .tup [.str i.op.name, i.x, i.out.d]
/-- a list whose first item is a triple that begins with a text -/
def hd3 : List D → Bool
  | .tup [.str _, _, _] :: _ => true
  | _ => false
def Res.fine : Res → Prop
  | .badRow e => (D.str e.2).nod = true
  | _ => True
structure ItI.ok (r : RowT) (i : ItI) : Prop where
  does : Does r i.op i.x i.out
  nod : i.x.nod = true
  dep : i.x.dep ≤ 10
  subs : ∀ ds ∈ i.x.subs, hd3 ds = false
  fine : i.out.fine
theorem subsL_flat {A : Type} {f : A → D} (h : ∀ a, (f a).subs = []) : ∀ as : List A, D.subsL (as.map f) = []
  | [] => rfl
  | a :: as => by show (f a).subs ++ D.subsL (as.map f) = []; rw [h a, subsL_flat h as]; rfl
theorem res_ok (o : Res) (h : o.fine) : o.d.nod = true ∧ o.d.dep ≤ 10 ∧ ∀ ds ∈ o.d.subs, hd3 ds = false := by
  cases o with
  | row r =>
    refine ⟨?_, ?_, ?_⟩
    · show ((wD r.ws).nod && ((sD r.qs).nod && (true && true))) = true
      rw [(wD_ok r.ws).1, (sD_ok r.qs).1]; rfl
    · have h1 := depL_map (f := D.int) (k := 0) (as := r.ws) fun _ _ => Nat.le_refl _
      have h2 := depL_map (f := ratD) (k := 1) (as := r.qs) fun _ _ => Nat.le_refl _
      show max (D.depL (r.ws.map D.int) + 1) (max (D.depL (r.qs.map ratD) + 1) (max 0 0)) + 1 ≤ 10
      omega
    · intro ds hd
      have e : (Res.row r).d.subs = [] := by
        show D.subsL (r.ws.map D.int) ++ (D.subsL (r.qs.map ratD) ++ ([] ++ [])) = []
        rw [subsL_flat (fun _ => rfl), subsL_flat (fun _ => rfl)]; rfl
      rw [e] at hd; cases hd
  | noMirror => exact ⟨by decide +kernel, Nat.zero_le _, fun ds h => by cases h⟩
  | noHurry => exact ⟨by decide +kernel, Nat.zero_le _, fun ds h => by cases h⟩
  | noRatio => exact ⟨by decide +kernel, Nat.zero_le _, fun ds h => by cases h⟩
  | badRow e =>
    refine ⟨?_, by show max 0 (max 0 0) + 1 ≤ 10; decide, fun ds hd => ?_⟩
    · show (true && ((D.str e.2).nod && true)) = true
      rw [show (D.str e.2).nod = true from h]; rfl
    · have e2 : (Res.badRow e).d.subs = [[.int e.1, .str e.2]] := rfl
      rw [e2] at hd
      rw [List.mem_singleton.mp hd]; rfl
theorem it_ok {r : RowT} {i : ItI} (h : i.ok r) : i.d.nod = true ∧ ∀ ds ∈ i.d.subs, hd3 ds = false := by
  obtain ⟨a, _, c⟩ := res_ok i.out h.fine
  refine ⟨?_, fun ds hd => ?_⟩
  · show ((D.str i.op.name).nod && (i.x.nod && (i.out.d.nod && true))) = true
    rw [(op_ok i.op).1, h.nod, a]; rfl
  · have e : i.d.subs = [] ++ (i.x.subs ++ (i.out.d.subs ++ [])) := rfl
    rw [e, List.nil_append, List.append_nil] at hd
    rcases List.mem_append.mp hd with m | m
    · exact h.subs ds m
    · exact c ds m
def DueP (K : PySem.W.Frag) (r : RowT) (l : Addr) (n : Nat) : Pr := Some (fun its : List ItI => its ≠ [] ∧ its.length ≤ n ∧ ∀ i ∈ its, i.ok r) fun its => Loc l (DvOL K l (its.map ItI.d))
end
theorem Ev.ctx {Y : Rs} {G : Ctx} {te : TE} {P P' : Pr} [mc : MnC Y.W G] (h : Ev Y G te P) (k : ∀ s v H, Ty G s H → P v H → P' v H) : Ev Y G te P' := fun s H ty hx Q q => h s H ty hx _ fun v H2 w2 p => q v H2 w2 (k s v H2 (mc.mn s H H2 w2 ty) p)
theorem sub_set {P Q : Pr} (k : ∀ v H, Q v H → P v H) : ∀ {i : Nat} {G : Ctx}, G[i]? = some (some P) → Sub (G.set i (some Q)) G
  | _, [], h => by cases h
  | 0, o :: G, h => by
    have e : o = some P := Option.some.inj h
    subst e
    exact sub_imp k sub_refl
  | i + 1, o :: G, h => sub_keep (sub_set k (i := i) (G := G) h)
section
variable {K : PySem.W.Frag}
instance mn_dueP {r : RowT} {l : Addr} {n : Nat} : Mn WL (DueP K r l n) := ⟨fun v H H' k ⟨its, c, e, xs, hp, sf, ha⟩ => ⟨its, c, e, xs, k.1 _ _ hp (by rfl), True.intro, (dvol_mnW (W := WL) (its.map ItI.d)).mn xs H H' k ha⟩⟩
theorem due_nod {r : RowT} : ∀ its : List ItI, (∀ i ∈ its, i.ok r) → D.nodL (its.map ItI.d) = true
  | [], _ => rfl
  | i :: its, h => by
    show (i.d.nod && D.nodL (its.map ItI.d)) = true
    rw [(it_ok (h i List.mem_cons_self)).1, due_nod its fun j m => h j (List.mem_cons_of_mem _ m)]; rfl
/-- due.append(item) -/
theorem st_due {Y : Rs} {H0 : Hp} {l : Addr} {G : Ctx} {R : Pr} {te : TE} {r : RowT} {n : Nat} (hW : Y.W = WO WL H0 l) (h0 : H0 l = none) (g : G[15]? = some (some (DueP K r l n))) (hn : n < 100) (it : ItI) (hit : it.ok r) (mW : ∀ its : List ItI, MnC WL (G.set 15 (some (Loc l (DvOL K l (its.map ItI.d)))))) (mO : MnC (WO WL H0 l) (G.set 15 none))
    (ev : ∀ its : List ItI, Ev (Y.under WL) (G.set 15 (some (Loc l (DvOL K l (its.map ItI.d))))) te (Dv K it.d)) : St Y G (tDrop (tBM K "list" rAppend (tVar 15) (tCons te tNil))) (G.set 15 (some (DueP K r l (n + 1)))) R := by
  refine st_open 15 g fun its c => ?_
  obtain ⟨ne, hl, hi⟩ := c
  have h15 : 15 < G.length := by
    rcases Nat.lt_or_ge 15 G.length with h | h
    · exact h
    · rw [List.getElem?_eq_none h] at g; cases g
  haveI := mW its
  haveI := mO
  haveI mp : Mn (WO WL H0 l) (DvO K l it.d) := dvo_mnO (W := WL) (H0 := H0) it.d
  haveI ml : MnL (WO WL H0 l) (DvOL K l (its.map ItI.d)) := dvol_mnO (W := WL) (H0 := H0) (its.map ItI.d)
  have g2 : (G.set 15 (some (Loc l (DvOL K l (its.map ItI.d)))))[15]? = some (some (Loc l (DvOL K l (its.map ItI.d)))) := by rw [List.getElem?_set_self h15]
  have ll : (DvOL K l (its.map ItI.d)).length = its.length := by rw [dvol_map, List.length_map, List.length_map]
  refine st_post (N' := (G.set 15 none).set 15 (some (Loc l (DvOL K l (its.map ItI.d) ++ [DvO K l it.d])))) (R' := R) (st_append (W := WL) (H0 := H0) (l := l) hW h0 (i := 15) (G' := G.set 15 none) (by rw [List.set_set]) g2 (fun _ _ _ => True.intro) (by rw [ll]; omega) (Ev.ctx (ev its) fun s v H ty p => ?_)) ?_ (fun _ _ h => h)
  · obtain ⟨u, _, e, xs, hp, sf, ha⟩ := ty.get g2
    have dl : Dv K (.lst (its.map ItI.d)) (.ref l) H := ⟨l, xs, rfl, hp, True.intro, dvol_dvl _ xs H ha⟩
    obtain ⟨a, b⟩ := it_ok hit
    refine dvo_of (due_nod its hi) dl it.d v a (fun ds m z => ?_) p
    have := b ds m
    rw [z] at this
    cases its with
    | nil => exact ne rfl
    | cons j js => cases this
  · rw [List.set_set]
    intro s H ty
    have e : G.set 15 (some (Loc l (DvOL K l (its.map ItI.d) ++ [DvO K l it.d]))) = (G.set 15 (some (DueP K r l (n + 1)))).set 15 (some (Loc l (DvOL K l (its.map ItI.d) ++ [DvO K l it.d]))) := by rw [List.set_set]
    rw [e] at ty
    refine sub_set (P := DueP K r l (n + 1)) (Q := Loc l (DvOL K l (its.map ItI.d) ++ [DvO K l it.d])) (fun v H z => ⟨its ++ [it], ⟨by simp, by rw [List.length_append]; show its.length + 1 ≤ n + 1; omega, fun i m => ?_⟩, ?_⟩) (by rw [List.getElem?_set_self h15]) s H ty
    · rcases List.mem_append.mp m with m | m
      · exact hi i m
      · rw [List.mem_singleton.mp m]; exact hit
    · have e2 : DvOL K l ((its ++ [it]).map ItI.d) = DvOL K l (its.map ItI.d) ++ [DvO K l it.d] := by rw [dvol_map, dvol_map, List.map_append, List.map_append]; rfl
      show Loc l (DvOL K l ((its ++ [it]).map ItI.d)) v H
      rw [e2]; exact z
end
end U

namespace U
open PySem PySem.Spec PyProof.Rows L2
/-! ### the law: its items -/
section
structure LawS where
  ns : List Int
  r : RowT
  m : Int
  z : Int
  x : Rat
  sm : Rat
  os : List Rat
  o : D
def menu4 : List D := [.non, .bl true, .str "1", .tup [.int 1, .int 0], .lst [.int 1, .int 2]]
structure LawS.ok (i : LawS) : Prop where
  hb : B67 i.r
  hm : i.m = i.r.ws.length
  hz : 1 ≤ i.z ∧ i.z < 5
  hx : Sz2 67 67 i.x
  hs : Sz2 67 67 i.sm
  hl : i.os.length = i.r.ws.length
  ho : ∀ q ∈ i.os, Sz2 67 67 q
  odd : ∃ j, j < 5 ∧ i.o = menu4.getD j .non
theorem four {i : Int} (h : 1 ≤ i ∧ i < 5) : i = 1 ∨ i = 2 ∨ i = 3 ∨ i = 4 := by omega
def trn (r : RowT) : List Rat := r.qs.map fun q => q * valD (.int (-1))
theorem flatS {d : D} (h : goodS d = true) : d.nod = true ∧ d.dep ≤ 10 ∧ d.subs = [] := by
  unfold goodS at h
  split at h
  · exact ⟨rfl, Nat.zero_le _, rfl⟩
  · exact ⟨rfl, by show max 0 (max 0 0) + 1 ≤ 10; decide, rfl⟩
  · cases h
theorem menu_ok {o : D} (h : ∃ j, j < 5 ∧ o = menu4.getD j .non) : goodS o = false ∧ o.nod = true ∧ o.dep ≤ 10 ∧ ∀ ds ∈ o.subs, hd3 ds = false := by
  obtain ⟨j, hj, rfl⟩ := h
  match j, hj with
  | 0, _ => exact ⟨rfl, rfl, Nat.zero_le _, fun _ z => by cases z⟩
  | 1, _ => exact ⟨rfl, rfl, Nat.zero_le _, fun _ z => by cases z⟩
  | 2, _ => exact ⟨rfl, by decide +kernel, Nat.zero_le _, fun _ z => by cases z⟩
  | 3, _ => exact ⟨rfl, rfl, by show max 0 (max 0 0) + 1 ≤ 10; decide, fun _ z => by cases z⟩
  | 4, _ => exact ⟨rfl, rfl, by show max 0 (max 0 0) + 1 ≤ 10; decide, fun ds z => by
      have e : (menu4.getD 4 .non).subs = [[.int 1, .int 2]] := rfl
      rw [e] at z
      rw [List.mem_singleton.mp z]; rfl⟩
theorem it_flat {r : RowT} {op : Op} {x : D} {out : Res} (g : goodS x = true) (d : Does r op x out) (f : out.fine) : (ItI.mk op x out).ok r := ⟨d, (flatS g).1, (flatS g).2.1, fun ds h => (by
  have e : x.subs = [] := (flatS g).2.2
  rw [show (ItI.mk op x out).x.subs = [] from e] at h
  exact absurd h List.not_mem_nil), f⟩
theorem it_non {r : RowT} {op : Op} {out : Res} (d : Does r op .non out) (f : out.fine) : (ItI.mk op .non out).ok r := ⟨d, rfl, Nat.zero_le _, fun ds h => absurd h List.not_mem_nil, f⟩
theorem it_odd {r : RowT} {op : Op} {x : D} {out : Res} (h : ∃ j, j < 5 ∧ x = menu4.getD j .non) (d : Does r op x out) (f : out.fine) : (ItI.mk op x out).ok r := ⟨d, (menu_ok h).2.1, (menu_ok h).2.2.1, (menu_ok h).2.2.2, f⟩
theorem hd3_rat {q : Rat} {l : List D} : hd3 (ratD q :: l) = false := rfl
theorem subsL_rat : ∀ qs : List Rat, D.subsL (qs.map ratD) = [] := subsL_flat fun _ => rfl
theorem subsL_app : ∀ a b : List D, D.subsL (a ++ b) = D.subsL a ++ D.subsL b
  | [], b => rfl
  | d :: a, b => by show d.subs ++ D.subsL (a ++ b) = (d.subs ++ D.subsL a) ++ D.subsL b; rw [subsL_app a b, List.append_assoc]
theorem nodL_app : ∀ a b : List D, D.nodL (a ++ b) = (D.nodL a && D.nodL b)
  | [], b => rfl
  | d :: a, b => by show (d.nod && D.nodL (a ++ b)) = ((d.nod && D.nodL a) && D.nodL b); rw [nodL_app a b, Bool.and_assoc]
theorem depL_app : ∀ a b : List D, D.depL (a ++ b) = max (D.depL a) (D.depL b)
  | [], b => by show D.depL b = max 0 (D.depL b); omega
  | d :: a, b => by show max d.dep (D.depL (a ++ b)) = max (max d.dep (D.depL a)) (D.depL b); rw [depL_app a b]; omega
theorem it_lst {r : RowT} {op : Op} {qs : List Rat} {l : List D} {out : Res} (hn : D.nodL l = true) (hd : D.depL l ≤ 9) (hs : ∀ ds ∈ D.subsL l, hd3 ds = false) (h0 : hd3 (qs.map ratD ++ l) = false) (d : Does r op (.lst (qs.map ratD ++ l)) out) (f : out.fine) : (ItI.mk op (.lst (qs.map ratD ++ l)) out).ok r := by
  refine ⟨d, ?_, ?_, fun ds h => ?_, f⟩
  · show D.nodL (qs.map ratD ++ l) = true
    rw [nodL_app, nodL_map fun _ _ => rfl, hn]; rfl
  · have h2 := depL_map (f := ratD) (k := 1) (as := qs) fun _ _ => Nat.le_refl _
    show D.depL (qs.map ratD ++ l) + 1 ≤ 10
    rw [depL_app]; omega
  · have e : (ItI.mk op (.lst (qs.map ratD ++ l)) out).x.subs = (qs.map ratD ++ l) :: D.subsL (qs.map ratD ++ l) := rfl
    rw [e, subsL_app, subsL_rat, List.nil_append] at h
    rcases List.mem_cons.mp h with e | m
    · rw [e]; exact h0
    · exact hs ds m
theorem vals_map (qs : List Rat) : (qs.map ratD).map valD = qs := by
  induction qs with
  | nil => rfl
  | cons q qs ih => rw [List.map_cons, List.map_cons, ih, val_ratD]
section
variable {i : LawS} (h : i.ok)
include h
theorem LawS.ok.pos : 1 ≤ i.r.ws.length := by
  have := h.hb.few
  cases hb : i.r.b <;> simp [hb] at this <;> omega
theorem it_turned : (ItI.mk .turned .non (.row ⟨i.r.ws, trn i.r, i.r.b⟩)).ok i.r := it_non (.tn h.hb.tn) True.intro
theorem b67_os : B67 ⟨i.r.ws, i.os, i.r.b⟩ := ⟨h.hl, h.hb.few, h.hb.many, h.hb.ws, h.ho⟩
theorem it_speeds : (ItI.mk .speeds (.lst (i.os.map ratD)) (.row ⟨i.r.ws, i.os, i.r.b⟩)).ok i.r := by
  have d : Does i.r .speeds (.lst (i.os.map ratD)) (.row ⟨i.r.ws, (i.os.map ratD).map valD, i.r.b⟩) := .ws (fun d hd => by
    obtain ⟨q, hq, rfl⟩ := List.mem_map.mp hd
    exact ⟨good_ratD q, bot_ratD (h.ho q hq) (by decide)⟩) (by rw [vals_map]; exact (b67_os h).rg)
  rw [vals_map] at d
  have := it_lst (l := []) (qs := i.os) (r := i.r) (op := .speeds) (out := .row ⟨i.r.ws, i.os, i.r.b⟩) rfl (Nat.zero_le _) (fun _ z => by cases z) (by rw [List.append_nil]; cases i.os <;> rfl) (by rw [List.append_nil]; exact d) True.intro
  rw [List.append_nil] at this
  exact this
theorem it_quick {d : D} {y : Rat} (g : goodS d = true) (b : Big 8000 (botD d)) (v : valD d = y) (s : Sz2 67 67 y) : (ItI.mk .quicker d (.row ⟨i.r.ws, i.r.qs.map fun q => q * y, i.r.b⟩)).ok i.r := by
  subst v
  exact it_flat g (.qk (h.hb.qk g b s)) True.intro
theorem it_hurr {d : D} {y : Rat} (hb : i.r.b = false) (g : goodS d = true) (b : Big 8000 (botD d)) (v : valD d = y) (s : Sz2 67 67 y) : (ItI.mk .hurried d (.row ⟨i.r.ws, i.r.qs.map fun q => q + y, i.r.b⟩)).ok i.r := by
  subst v
  exact it_flat g (.hu (h.hb.hu hb g b s)) True.intro
theorem hv_sz {d : D} (s : Sz2 67 67 (valD d)) : HvSz i.r d := ⟨by have := h.hb.many; omega, h.hb.ws, 67, 67, by decide, by decide, s⟩
theorem it_heavy {d : D} {y : Rat} (g : goodS d = true) (b : Big 8000 (botD d)) (v : valD d = y) (s : Sz2 67 67 y) (ok : ∀ u ∈ i.r.ws, hvBad y u = false) : (ItI.mk .heavier d (.row ⟨hvWs y i.r.ws, i.r.qs, i.r.b⟩)).ok i.r := by
  subst v
  exact it_flat g (.hv ⟨g, b, hv_sz h s, ok, (h.hb.hv ok).rg⟩) True.intro
theorem it_heavyX {d : D} {y : Rat} {k : Nat} (g : goodS d = true) (b : Big 8000 (botD d)) (v : valD d = y) (s : Sz2 67 67 y) (hk : k < i.r.ws.length) (ok : ∀ j, j < k → hvBad y (i.r.ws.getD j 0) = false) (bad : hvBad y (i.r.ws.getD k 0) = true) : (ItI.mk .heavier d (.badRow ((k : Int), "weight"))).ok i.r := by
  subst v
  exact it_flat g (.hvA ⟨g, b, hv_sz h s, hk, ok, bad⟩) (by show (D.str "weight").nod = true; decide +kernel)
theorem hv_one : (∀ u ∈ i.r.ws, hvBad 1 u = false) ∧ hvWs 1 i.r.ws = i.r.ws := by
  have e : ∀ u : Int, (((u : Rat) * 1).num = u) ∧ ((u : Rat) * 1).den = 1 := fun u => by rw [Rat.mul_one]; exact ⟨Rat.num_intCast u, Rat.den_intCast u⟩
  refine ⟨fun u hu => ?_, ?_⟩
  · have := h.hb.ws u hu
    unfold hvBad
    rw [(e u).1, (e u).2]
    simp [this]
  · unfold hvWs
    have : (fun y : Int => ((y : Rat) * 1).num) = id := funext fun u => (e u).1
    rw [this, List.map_id]
theorem it_heavy1 {d : D} (g : goodS d = true) (b : Big 8000 (botD d)) (v : valD d = 1) : (ItI.mk .heavier d (.row ⟨i.r.ws, i.r.qs, i.r.b⟩)).ok i.r := by
  have := it_heavy h g b v (sz2_int (i := 1) (show Big 67 1 by unfold Big; decide) (by decide)) (hv_one h).1
  rw [(hv_one h).2] at this
  exact this
theorem it_qX : (ItI.mk .quicker i.o .noRatio).ok i.r := it_odd h.odd (.qkX (menu_ok h.odd).1) True.intro
theorem it_hX : (ItI.mk .heavier i.o .noRatio).ok i.r := it_odd h.odd (.hvX (menu_ok h.odd).1) True.intro
theorem it_huX (hb : i.r.b = false) : (ItI.mk .hurried i.o .noRatio).ok i.r := it_odd h.odd (.huX ⟨hb, (menu_ok h.odd).1⟩) True.intro
theorem it_huS (hb : i.r.b = true) : (ItI.mk .hurried i.o .noHurry).ok i.r := it_odd h.odd (.huS hb) True.intro
theorem it_hxS {d : D} (hb : i.r.b = true) (g : goodS d = true) : (ItI.mk .hurried d .noHurry).ok i.r := it_flat g (.huS hb) True.intro
theorem it_miS (hb : i.r.b = true) : (ItI.mk .mirrored .non .noMirror).ok i.r := it_non (.miX hb) True.intro
theorem it_mi (hb : i.r.b = false) : (ItI.mk .mirrored .non (.row (mirR i.r))).ok i.r := it_non (.mi (h.hb.mi hb) hb (h.hb.mir hb).rg) True.intro
theorem scan_last {o : D} (ho : goodS o = false) : ∀ (ws : List Int) (qs : List Rat) (k : Nat), (∀ y ∈ ws, 1 ≤ y ∧ y ≤ 9) → ws.length = qs.length + 1 → scan k (ws.map D.int) (qs.map ratD ++ [o]) = some (((k + qs.length : Nat) : Int), ("speed" : Str))
  | [], _, _, _, e => by simp at e
  | y :: ws, [], k, hw, e => by
    have := hw y List.mem_cons_self
    have gw : goodW (.int y) = true := by show (decide (1 ≤ y) && decide (y ≤ 9)) = true; simp [this]
    show (if goodW (.int y) = false then (some ((k : Int), ("weight" : Str)) : Fault) else if goodS o = false then some ((k : Int), ("speed" : Str)) else scan (k + 1) (ws.map D.int) []) = _
    rw [gw, ho]; simp
  | y :: ws, q :: qs, k, hw, e => by
    have := hw y List.mem_cons_self
    have gw : goodW (.int y) = true := by show (decide (1 ≤ y) && decide (y ≤ 9)) = true; simp [this]
    have gs := good_ratD q
    show (if goodW (.int y) = false then (some ((k : Int), ("weight" : Str)) : Fault) else if goodS (ratD q) = false then some ((k : Int), ("speed" : Str)) else scan (k + 1) (ws.map D.int) (qs.map ratD ++ [o])) = _
    rw [gw, gs, scan_last ho ws qs (k + 1) (fun z hz => hw z (List.mem_cons_of_mem _ hz)) (by simpa using e)]
    simp
    omega
theorem due_ws {x : D} {ss : List D} (e : x.items = some ss) : dueC (wD i.r.ws) x (.bl i.r.b) = if ss.length = i.r.ws.length then scan 0 (i.r.ws.map D.int) ss else some ((0 : Int), ("length" : Str)) := by
  rw [dueC_bl (ws := i.r.ws.map D.int) rfl, List.length_map, if_pos ⟨by have := h.hb.few; unfold least; exact this, h.hb.many⟩, e]
theorem it_longer : (ItI.mk .speeds (.lst (i.os.map ratD ++ [.int 1])) (.badRow (0, "length"))).ok i.r := by
  refine it_lst rfl (by decide) (fun _ z => by cases z) ?_ (.wsX ?_) (by show (D.str "length").nod = true; decide +kernel)
  · have := h.pos
    have hl := h.hl
    cases e : i.os with
    | nil => rw [e] at hl; simp at hl; omega
    | cons q l => rfl
  · show dueC (wD i.r.ws) _ (.bl i.r.b) = _
    rw [due_ws h rfl, if_neg]
    rw [List.length_append, List.length_map, h.hl]
    simp
theorem it_last : (ItI.mk .speeds (.lst (i.os.dropLast.map ratD ++ [i.o])) (.badRow (i.m - 1, "speed"))).ok i.r := by
  have l0 := h.pos
  have hl := h.hl
  have ld : i.os.dropLast.length + 1 = i.r.ws.length := by rw [List.length_dropLast]; omega
  obtain ⟨a, b, c, d⟩ := menu_ok h.odd
  refine it_lst (by show (i.o.nod && true) = true; rw [b]; rfl) ?_ (fun ds z => ?_) ?_ (.wsX ?_) (by show (D.str "speed").nod = true; decide +kernel)
  · obtain ⟨j, hj, e⟩ := h.odd
    rw [e]
    match j, hj with
    | 0, _ => decide
    | 1, _ => decide
    | 2, _ => exact Nat.zero_le _
    | 3, _ => show max (max 0 (max 0 0) + 1) 0 ≤ 9; decide
    | 4, _ => show max (max 0 (max 0 0) + 1) 0 ≤ 9; decide
  · have e : D.subsL [i.o] = i.o.subs ++ [] := rfl
    rw [e, List.append_nil] at z
    exact d ds z
  · cases e : i.os.dropLast with
    | nil =>
      obtain ⟨j, hj, e⟩ := h.odd
      rw [e]
      match j, hj with
      | 0, _ => rfl
      | 1, _ => rfl
      | 2, _ => rfl
      | 3, _ => rfl
      | 4, _ => rfl
    | cons q l => rfl
  · show dueC (wD i.r.ws) _ (.bl i.r.b) = _
    rw [due_ws h rfl, if_pos (by rw [List.length_append, List.length_map, List.length_singleton]; exact ld), scan_last h a i.r.ws i.os.dropLast 0 h.hb.ws (by omega), h.hm]
    have : ((0 + i.os.dropLast.length : Nat) : Int) = (i.r.ws.length : Int) - 1 := by omega
    rw [this]
end
end
end U

namespace U
open PySem PySem.Spec PyProof.Rows L2
/-! ### the law: behind its draws -/
section
variable {P : Program} {w : World} {K : PySem.W.Frag} {mg : Str → Option Value} {base : Heap} {CX : Addrs}
def restL (K : PySem.W.Frag) (CX : Addrs) (E : XK) : TS := (tSeq (tAsg (tThen (tLc (iTup K (tVar 7)) (gName 14) tYes (tTup (tCons (tUn (rU fun i => V.int (-i)) (tOp (rIx K) (tVar 14) (tC (V.int 0)))) (tCons (tOp (rIx K) (tVar 14) (tC (V.int 1))) tNil))) [14]) (kTupF K)) (gName 13)) (tSeq (tAsg (tLst (tCons (tTup (tCons (tC (V.str "turned")) (tCons (tC V.non) (tCons (tTup (tCons (tVar 5) (tCons (tVar 13) (tCons (tVar 2) tNil)))) tNil)))) (tCons (tTup (tCons (tC (V.str "speeds")) (tCons (tCB (rLstOf K) (tCons (tVar 11) tNil)) (tCons (tTup (tCons (tVar 5) (tCons (tThen (tVar 11) (kTupF K)) (tCons (tVar 2) tNil)))) tNil)))) tNil))) (gName 15)) (tSeq (tDrop (tBM K "list" rAppend (tVar 15) (tCons (tTup (tCons (tC (V.str "quicker")) (tCons (tVar 9) (tCons (tTup (tCons (tVar 5) (tCons (tThen (tLc (iTup K (tVar 7)) (gName 14) tYes (tCallS (sp_t2 K fun q r => q * r) (WE fun _ _ _ _ => False) (tCons (tVar 14) (tCons (tVar 9) tNil))) [14]) (kTupF K)) (tCons (tVar 2) tNil)))) tNil)))) tNil))) (tSeq (tDrop (tBM K "list" rAppend (tVar 15) (tCons (tTup (tCons (tC (V.str "quicker")) (tCons (tTup (tCons (tOp rMulA (tOp (rIx K) (tVar 9) (tC (V.int 0))) (tC (V.int 6))) (tCons (tOp rMulA (tOp (rIx K) (tVar 9) (tC (V.int 1))) (tC (V.int 6))) tNil))) (tCons (tTup (tCons (tVar 5) (tCons (tThen (tLc (iTup K (tVar 7)) (gName 14) tYes (tCallS (sp_t2 K fun q r => q * r) (WE fun _ _ _ _ => False) (tCons (tVar 14) (tCons (tVar 9) tNil))) [14]) (kTupF K)) (tCons (tVar 2) tNil)))) tNil)))) tNil))) (tSeq (tDrop (tBM K "list" rAppend (tVar 15) (tCons (tTup (tCons (tC (V.str "quicker")) (tCons (tOp (rIx K) (tVar 9) (tC (V.int 0))) (tCons (tTup (tCons (tVar 5) (tCons (tThen (tLc (iTup K (tVar 7)) (gName 14) tYes (tCallS (sp_t2 K fun q r => q * r) (WE fun _ _ _ _ => False) (tCons (tVar 14) (tCons (tTup (tCons (tOp (rIx K) (tVar 9) (tC (V.int 0))) (tCons (tC (V.int 1)) tNil))) tNil))) [14]) (kTupF K)) (tCons (tVar 2) tNil)))) tNil)))) tNil))) (tSeq (tDrop (tBM K "list" rAppend (tVar 15) (tCons (tTup (tCons (tC (V.str "heavier")) (tCons (tC (V.int 1)) (tCons (tTup (tCons (tVar 5) (tCons (tVar 7) (tCons (tVar 2) tNil)))) tNil)))) tNil))) (tSeq (tDrop (tBM K "list" rAppend (tVar 15) (tCons (tTup (tCons (tC (V.str "heavier")) (tCons (tTup (tCons (tC (V.int 7)) (tCons (tC (V.int 7)) tNil))) (tCons (tTup (tCons (tVar 5) (tCons (tVar 7) (tCons (tVar 2) tNil)))) tNil)))) tNil))) (tSeq (tDrop (tBM K "list" rAppend (tVar 15) (tCons (tTup (tCons (tC (V.str "quicker")) (tCons (tVar 12) (tCons (tC (V.str "no ratio")) tNil)))) tNil))) (tSeq (tDrop (tBM K "list" rAppend (tVar 15) (tCons (tTup (tCons (tC (V.str "heavier")) (tCons (tVar 12) (tCons (tC (V.str "no ratio")) tNil)))) tNil))) (tSeq (tFor (iList K (tLst (tCons (tVar 9) (tCons (tVar 10) (tCons (tTup (tCons (tVar 4) (tCons (tC (V.int 1)) tNil))) (tCons (tTup (tCons (tC (V.int 1)) (tCons (tVar 4) tNil))) (tCons (tTup (tCons (tC (V.int 0)) (tCons (tC (V.int 1)) tNil))) tNil))))))) (gName 16) (tSeq (tAsg (tCallS (sp_hl K) (WE fun cls d _ H => E cls d H) (tCons (tVar 5) (tCons (tVar 16) tNil))) (gName 17)) (tDrop (tBM K "list" rAppend (tVar 15) (tCons (tTup (tCons (tC (V.str "heavier")) (tCons (tVar 16) (tCons (tIf (tB (tCB (rIsi K) (tCons (tVar 17) (tCons (tC (V.ty "tuple")) tNil)))) (tTup (tCons (tVar 17) (tCons (tVar 7) (tCons (tVar 2) tNil)))) (tVar 17)) tNil)))) tNil))))) (tSeq (tDrop (tBM K "list" rAppend (tVar 15) (tCons (tTup (tCons (tC (V.str "speeds")) (tCons (tOp (rAddA K) (tVar 11) (tLst (tCons (tC (V.int 1)) tNil))) (tCons (tLst (tCons (tC (V.int 0)) (tCons (tC (V.str "length")) tNil))) tNil)))) tNil))) (tSeq (tDrop (tBM K "list" rAppend (tVar 15) (tCons (tTup (tCons (tC (V.str "speeds")) (tCons (tOp (rAddA K) (tSl (rSlL K) (tVar 11) tNoPart (tPart (tUn (rU fun i => V.int (-i)) (tC (V.int 1))))) (tLst (tCons (tVar 12) tNil))) (tCons (tLst (tCons (tOp (rI0 fun i j => V.int (i - j)) (tVar 3) (tC (V.int 1))) (tCons (tC (V.str "speed")) tNil))) tNil)))) tNil))) (tSeq (tIfS (fun σ H_1 Q => tVar 2 σ H_1 fun x H' => ∃ k, TruV K x H' k ∧ Q k H') (tAsg (tOp (rAddA K) (tVar 15) (tLst (tCons (tTup (tCons (tC (V.str "mirrored")) (tCons (tC V.non) (tCons (tC (V.str "no mirror")) tNil)))) (tCons (tTup (tCons (tC (V.str "hurried")) (tCons (tVar 9) (tCons (tC (V.str "no hurry")) tNil)))) (tCons (tTup (tCons (tC (V.str "hurried")) (tCons (tVar 12) (tCons (tC (V.str "no hurry")) tNil)))) tNil))))) (gName 15)) (tSeq (tDrop (tBM K "list" rAppend (tVar 15) (tCons (tTup (tCons (tC (V.str "mirrored")) (tCons (tC V.non) (tCons (tTup (tCons (tThen (tVar 5) (kRevT K)) (tCons (tThen (tVar 13) (kRevT K)) (tCons (tC (V.bl false)) tNil)))) tNil)))) tNil))) (tSeq (tDrop (tBM K "list" rAppend (tVar 15) (tCons (tTup (tCons (tC (V.str "hurried")) (tCons (tVar 9) (tCons (tTup (tCons (tVar 5) (tCons (tThen (tLc (iTup K (tVar 7)) (gName 14) tYes (tCallS (sp_t2 K fun q r => q + r) (WE fun _ _ _ _ => False) (tCons (tVar 14) (tCons (tVar 9) tNil))) [14]) (kTupF K)) (tCons (tC (V.bl false)) tNil)))) tNil)))) tNil))) (tSeq (tDrop (tBM K "list" rAppend (tVar 15) (tCons (tTup (tCons (tC (V.str "hurried")) (tCons (tOp (rIx K) (tVar 9) (tC (V.int 0))) (tCons (tTup (tCons (tVar 5) (tCons (tThen (tLc (iTup K (tVar 7)) (gName 14) tYes (tCallS (sp_t2 K fun q r => q + r) (WE fun _ _ _ _ => False) (tCons (tVar 14) (tCons (tTup (tCons (tOp (rIx K) (tVar 9) (tC (V.int 0))) (tCons (tC (V.int 1)) tNil))) tNil))) [14]) (kTupF K)) (tCons (tC (V.bl false)) tNil)))) tNil)))) tNil))) (tDrop (tBM K "list" rAppend (tVar 15) (tCons (tTup (tCons (tC (V.str "hurried")) (tCons (tVar 12) (tCons (tC (V.str "no ratio")) tNil)))) tNil))))))) (tSeq (tFor (iList K (tOp (rAddA K) (tVar 15) (tVar 15))) (gTup K 3 (gCons (gName 18) (gCons (gName 19) (gCons (gName 20) gNil)))) (tIfS (tTest (tOp (rNeA K) (tCallS (sp_tried K CX) (WE fun cls d _ H => E cls d H) (tCons (tVar 8) (tCons (tVar 18) (tCons (tVar 19) tNil)))) (tVar 20))) (tRet (tC (V.bl false))) tNext)) (tRet (tAndV (tOp (rEqInX K CX.Row (sp_eq K CX)) (tVar 8) (tMakeS CX.Row (SpI CX.Row okRow (rowW K CX)) [] (WE fun cls d _ H => E cls d H) (tCons (tVar 5) (tCons (tVar 7) (tCons (tVar 2) tNil))))) (tCallS (sp_led K CX) (WE fun cls d _ H => E cls d H) (tCons (tVar 8) (tCons (tVar 5) (tCons (tVar 7) (tCons (tVar 2) (tCons (tVar 9) tNil))))))))))))))))))))))
theorem ty_drop : ∀ {G : Ctx} {s : L2.St} {H : Hp} (i : Nat), Ty G s H → Ty (G.set i none) s H
  | [], _, _, _, h => h
  | none :: G, [], _, _, h => h.elim
  | some _ :: G, [], _, _, h => h.elim
  | none :: G, x :: s, H, 0, h => h
  | some _ :: G, x :: s, H, 0, h => h.2
  | none :: G, x :: s, H, i + 1, h => ty_drop (G := G) (s := s) i h
  | some _ :: G, x :: s, H, i + 1, h => ⟨h.1, ty_drop (G := G) (s := s) i h.2⟩
theorem Ev.weak {Y : Rs} {G G' : Ctx} {te : TE} {P : Pr} (sb : Sub G G') (h : Ev Y G' te P) : Ev Y G te P := fun s H ty => h s H (sb s H ty)
abbrev cxP (K : PySem.W.Frag) (CX : Addrs) (i : LawS) (p15 p16 p17 : Option Pr) : Ctx := [some (Lst K (i.ns.map fun n => Is (.int n))), some Hand, some (Is (.bl i.r.b)), some (Is (.int i.m)), some (Is (.int i.z)), some (TupN (intPs i.r.ws)), none, some (TupN (toldPs K i.r.qs)), some (i.r.pr K CX), some (Told K i.x), some (Told K i.sm), some (Dv K (.lst (i.os.map ratD))), some (Dv K i.o), some (Dv K (sD (trn i.r))), none, p15, p16, p17, none, none, none]
abbrev cxA (K : PySem.W.Frag) (CX : Addrs) (i : LawS) (H0 : Hp) (p15 p16 p17 : Option Pr) : Ctx := [some (At WL H0 (Lst K (i.ns.map fun n => Is (.int n)))), some (At WL H0 Hand), some (At WL H0 (Is (.bl i.r.b))), some (At WL H0 (Is (.int i.m))), some (At WL H0 (Is (.int i.z))), some (At WL H0 (TupN (intPs i.r.ws))), none, some (At WL H0 (TupN (toldPs K i.r.qs))), some (At WL H0 (i.r.pr K CX)), some (At WL H0 (Told K i.x)), some (At WL H0 (Told K i.sm)), some (At WL H0 (Dv K (.lst (i.os.map ratD)))), some (At WL H0 (Dv K i.o)), some (At WL H0 (Dv K (sD (trn i.r)))), none, p15, p16, p17, none, none, none]
instance mnl_intPs {W : HR} {ws : List Int} : MnL W (intPs ws) := mnl_ints
theorem sub_AP {i : LawS} {H0 : Hp} {p15 p16 p17 : Option Pr} : Sub (cxA K CX i H0 p15 p16 p17) (cxP K CX i p15 p16 p17) :=
  sub_imp (fun _ _ => at_now) (sub_imp (fun _ _ => at_now) (sub_imp (fun _ _ => at_now) (sub_imp (fun _ _ => at_now) (sub_imp (fun _ _ => at_now) (sub_imp (fun _ _ => at_now) (sub_keep (sub_imp (fun _ _ => at_now) (sub_imp (fun _ _ => at_now) (sub_imp (fun _ _ => at_now) (sub_imp (fun _ _ => at_now) (sub_imp (fun _ _ => at_now) (sub_imp (fun _ _ => at_now) (sub_imp (fun _ _ => at_now) (sub_refl))))))))))))))
/-- due.append(item), seen from the slots as they stood -/
theorem st_due2 {Y : Rs} {H0 : Hp} {l : Addr} {B G1 G : Ctx} {R : Pr} {te : TE} {r : RowT} {n : Nat} (hW : Y.W = WO WL H0 l) (h0 : H0 l = none) (g : G[15]? = some (some (DueP K r l n))) (hn : n < 100) (mG : MnC WL G) (hB : Sub (G.set 15 none) B) (mB : MnC (WO WL H0 l) B) (it : ItI) (hit : it.ok r) (h1 : Sub (G.set 15 none) G1) (ev : Ev (Y.under WL) G1 te (Dv K it.d)) :
    St Y G (tDrop (tBM K "list" rAppend (tVar 15) (tCons te tNil))) (B.set 15 (some (DueP K r l (n + 1)))) R := by
  obtain ⟨YW, E, GX, X⟩ := Y
  have hW' : YW = WO WL H0 l := hW
  subst hW'
  intro s H D ty hx nx _
  obtain ⟨v, ev', its, ⟨ne, hl, hi⟩, e, xs, hq, hn', ha⟩ := ty.get g
  subst e
  refine ⟨.ref l, ev', .inl ⟨rfl, xs, SqL.of hq⟩, ?_⟩
  refine ev s H (h1 s H (ty_drop 15 ty)) (hx_under rfl hx) _ fun y H2 k py => ?_
  have ty2 := mG.mn s H H2 k ty
  obtain ⟨v2, ev2, its2, ⟨ne2, hl2, hi2⟩, e2, xs2, hq2, hn2, ha2⟩ := ty2.get g
  have ll : (DvOL K l (its2.map ItI.d)).length = its2.length := by rw [dvol_map, List.length_map, List.length_map]
  have len := allp_len ha2
  refine ⟨l, xs2, y, rfl, rfl, hq2, Evl.sz_lt (by omega), ?_⟩
  have mu : WO WL H0 l H2 (upd H2 l (.lst (xs2 ++ [y]))) := ⟨fun z => pre_wl.wrt z h0, by
    have e : del l (upd H2 l (.lst (xs2 ++ [y]))) = del l H2 := by
      funext b
      unfold del
      split
      · rfl
      · rename_i nb; exact upd_ne nb
    rw [e]; exact pre_wl.refl _, fun o eo no => by rw [hq2] at eo; cases eo; cases no.1⟩
  have p : PreT (WO WL H0 l) := pret_wo
  have dl : Dv K (.lst (its2.map ItI.d)) (.ref l) H2 := ⟨l, xs2, rfl, hq2, True.intro, dvol_dvl _ xs2 H2 ha2⟩
  obtain ⟨a, b⟩ := it_ok hit
  have po : DvO K l it.d y H2 := dvo_of (due_nod its2 hi2) dl it.d y a (fun ds m z => by
    have := b ds m
    rw [z] at this
    cases its2 with
    | nil => exact ne2 rfl
    | cons j js => cases this) py
  have hp2 := allp_app ha2 (show AllP [DvO K l it.d] [y] H2 from ⟨po, True.intro⟩)
  have e3 : DvOL K l (its2.map ItI.d) ++ [DvO K l it.d] = DvOL K l ((its2 ++ [it]).map ItI.d) := by rw [dvol_map, dvol_map, List.map_append, List.map_append]; rfl
  rw [e3] at hp2
  have hp3 := (dvol_mnO (K := K) (W := WL) (H0 := H0) (l := l) ((its2 ++ [it]).map ItI.d)).mn _ _ _ mu hp2
  have d2 : DueP K r l (n + 1) (.ref l) (upd H2 l (.lst (xs2 ++ [y]))) := ⟨its2 ++ [it], ⟨by simp, by rw [List.length_append]; show its2.length + 1 ≤ n + 1; omega, fun i m => by
    rcases List.mem_append.mp m with m | m
    · exact hi2 i m
    · rw [List.mem_singleton.mp m]; exact hit⟩, rfl, _, upd_same, True.intro, hp3⟩
  have t3 := (mB.mn s H2 _ mu (hB s H2 (ty_drop 15 ty2))).put (i := 15) d2
  have es : s.set 15 (some (.ref l)) = s := by
    obtain ⟨hi2, hv⟩ := List.getElem?_eq_some_iff.mp ev'
    rw [← hv, List.set_getElem_self]
  rw [es] at t3
  exact nx s _ (p.trans (wo_of k) mu) t3
/-- evaluated: an item, a row told -/
theorem ev_it {Y : Rs} [PreL Y.W] {G : Ctx} [MnC Y.W G] {n : Str} {a c : TE} {x o : D} (ha : Ev Y G a (Dv K x)) (hc : Ev Y G c (Dv K o)) : Ev Y G (tTup (tCons (tC (.str n)) (tCons a (tCons c tNil)))) (Dv K (.tup [.str n, x, o])) := ev_dtup (ea_d (d := .str n) ev_c (ea_d ha (ea_d hc ea_d0)))
theorem ev_tr {Y : Rs} [PreL Y.W] {G : Ctx} [MnC Y.W G] {a b c : TE} {x y z : D} (ha : Ev Y G a (Dv K x)) (hb : Ev Y G b (Dv K y)) (hc : Ev Y G c (Dv K z)) : Ev Y G (tTup (tCons a (tCons b (tCons c tNil)))) (Dv K (.tup [x, y, z])) := ev_dtup (ea_d ha (ea_d hb (ea_d hc ea_d0)))
theorem each_mapP {f : Rat → Pr} {qs : List Rat} : each qs.length (fun i => f (qs.getD i 0)) = qs.map f := by
  unfold each
  refine List.ext_getElem (by simp) fun i h1 h2 => ?_
  have h3 : i < qs.length := by simpa using h2
  simp [h3]
theorem told_dv {qs : List Rat} {v : V} {H : Hp} (h : TupN (toldPs K qs) v H) : Dv K (sD qs) v H := by
  have := tupN_tup (K := K) h
  rw [told_dvl] at this
  exact this
theorem ints_dv {ws : List Int} {v : V} {H : Hp} (h : TupN (intPs ws) v H) : Dv K (wD ws) v H := by
  have := tupN_tup (K := K) h
  rw [ints_dvl (K := K)] at this
  exact this
theorem ev_mp {Y : Rs} [PreL Y.W] [PreZ Y.W] {G : Ctx} [MnC Y.W G] {te : TE} {g : Rat → Rat} {qs : List Rat} (h7 : G[7]? = some (some (TupN (toldPs K qs)))) (hl : qs.length ≤ 1000) (he : ∀ i, i < qs.length → Ev Y ((G.set 14 none).set 14 (some (Told K (qs.getD i 0)))) te (Told K (g (qs.getD i 0)))) :
    Ev Y G (tThen (tLc (iTup K (tVar 7)) (gName 14) tYes te [14]) (kTupF K)) (Dv K (sD (qs.map g))) := by
  refine Ev.sub (ev_tupF (Ps := each qs.length fun i => Told K (g (qs.getD i 0))) (Ev.sub (P := New (each qs.length fun i => Told K (g (qs.getD i 0)))) ?_ fun _ _ h => own_lst (new_own (fun _ _ _ => True.intro) h))) fun v H h => ?_
  · have lt : (toldPs K qs).length = qs.length := List.length_map _
    have := ev_lc (Y := Y) (G := G) (te := te) (wi := iTup K (tVar 7)) (n := (toldPs K qs).length) (It := nth (toldPs K qs)) (P := fun i => Told K (g (qs.getD i 0))) (j := 14) (ei_tup (Ev.sub (ev_var h7) fun _ _ z => tupN_tup z)) (by omega) (fun i => inferInstance) (fun i => inferInstance) (fun i hi => ?_) (fun _ _ _ _ _ => True.intro)
    · rw [lt] at this
      exact this
    · have hi' : i < qs.length := by omega
      have e : nth (toldPs K qs) i = Told K (qs.getD i 0) := by unfold nth toldPs; simp [hi']
      rw [e]
      exact he i hi'
  · rw [each_mapP (f := fun q => Told K (g q))] at h
    have e : (qs.map fun q => Told K (g q)) = toldPs K (qs.map g) := by unfold toldPs; rw [List.map_map]; rfl
    rw [e] at h
    exact told_dv h
theorem EvA.weak {Y : Rs} {G G' : Ctx} {ta : TA} {Ps : List Pr} (sb : Sub G G') (h : EvA Y G' ta Ps) : EvA Y G ta Ps := fun s H ty => h s H (sb s H ty)
theorem EvT.weak {Y : Rs} {G G' : Ctx} {t : TT} {b : Bool} (sb : Sub G G') (h : EvT Y G' t b) : EvT Y G t b := fun s H ty => h s H (sb s H ty)
theorem EvI.imp {Y : Rs} {G : Ctx} {wi : TI} {n : Nat} {It It' : Nat → Pr} (k : ∀ i, i < n → ∀ v H, It i v H → It' i v H) (h : EvI Y G wi n It) : EvI Y G wi n It' := fun s H ty hx R q => h s H ty hx R fun J H2 Gd w2 g2 gm wk => q J H2 Gd w2 g2 gm ⟨wk.goes, wk.stops, fun i Ha x Hb hi z y => let ⟨a, b⟩ := wk.yields i Ha x Hb hi z y; ⟨a, k i hi _ _ b⟩⟩
theorem sub15 {i : LawS} {H0 : Hp} {p q : Pr} {a b : Option Pr} (k : ∀ v H, p v H → q v H) : Sub (cxA K CX i H0 (some p) a b) (cxA K CX i H0 (some q) a b) :=
  sub_keep (sub_keep (sub_keep (sub_keep (sub_keep (sub_keep (sub_keep (sub_keep (sub_keep (sub_keep (sub_keep (sub_keep (sub_keep (sub_keep (sub_keep (sub_imp k sub_refl)))))))))))))))
def DueD (K : PySem.W.Frag) (r : RowT) : Pr := Some (fun its : List ItI => its.length ≤ 40 ∧ ∀ i ∈ its, i.ok r) fun its => Dv K (.lst (its.map ItI.d))
theorem dueP_D {r : RowT} {l : Addr} {n : Nat} (hn : n ≤ 40) {v : V} {H : Hp} (h : DueP K r l n v H) : DueD K r v H := by
  obtain ⟨its, ⟨_, hl, hi⟩, e, xs, hq, _, ha⟩ := h
  exact ⟨its, ⟨by omega, hi⟩, l, xs, e, hq, True.intro, dvol_dvl _ xs H ha⟩
theorem loc_due {r : RowT} {l : Addr} {a b : ItI} (ha : a.ok r) (hb : b.ok r) {v : V} {H : Hp} (h : Loc l [Dv K a.d, Dv K b.d] v H) : DueP K r l 2 v H := by
  obtain ⟨e, xs, hq, sf, al⟩ := h
  have hi : ∀ i ∈ [a, b], i.ok r := fun i m => by
    rcases List.mem_cons.mp m with e | m
    · rw [e]; exact ha
    · rw [List.mem_singleton.mp m]; exact hb
  have nL := due_nod [a, b] hi
  have dl : Dv K (.lst ([a, b].map ItI.d)) (.ref l) H := ⟨l, xs, rfl, hq, True.intro, al⟩
  refine ⟨[a, b], ⟨by simp, Nat.le_refl _, hi⟩, e, xs, hq, True.intro, dvol_of nL dl ([a, b].map ItI.d) xs nL (fun es m z => ?_) al⟩
  have e2 : D.subsL ([a, b].map ItI.d) = a.d.subs ++ (b.d.subs ++ []) := rfl
  rw [e2, List.append_nil] at m
  have k : hd3 es = false := by
    rcases List.mem_append.mp m with m | m
    · exact (it_ok ha).2 es m
    · exact (it_ok hb).2 es m
  rw [z] at k
  cases k
theorem sz_num {q : Rat} (h : Sz2 67 67 q) : Sz2 67 67 ((q.num : Int) : Rat) := sz2_int h.1 (by decide)
theorem one_den {z : Int} (h : 1 ≤ z ∧ z < 5) : ratD (Rat.divInt 1 z) = .tup [.int 1, .int z] := by
  rcases four h with e | e | e | e <;> subst e <;> rfl
theorem rat_int (z : Int) : ratD (z : Rat) = .tup [.int z, .int 1] := by
  show D.tup [.int (z : Rat).num, .int ((z : Rat).den : Int)] = _
  rw [Rat.num_intCast, Rat.den_intCast]; rfl
theorem cut_last {xs : List D} : cutL xs none (some (-1)) = xs.dropLast := by
  unfold cutL HT.sIx
  rw [List.dropLast_eq_take]
  simp
  omega
theorem law_rest {E : XK} (T : Txt P w K mg CX) (i : LawS) (h : i.ok) : St (RsW WL E NoX 21) ((cxP K CX i none none none).set 13 none) (restL K CX E) Dead (Is (.bl true)) := by
  unfold restL
  have q40 : i.r.qs.length ≤ 1000 := by have := h.hb.many; have := h.hb.len; omega
  have qm : ∀ {k : Nat}, k < i.r.qs.length → Sz2 67 67 (i.r.qs.getD k 0) := fun {k} hk => h.hb.qs _ (by rw [List.getD_eq_getElem?_getD, List.getElem?_eq_getElem hk]; exact List.getElem_mem hk)
  refine st_seq (st_set (P := Dv K (sD (trn i.r))) (ev_mp (g := fun q => q * valD (.int (-1))) rfl q40 (fun k hk => ?_))) ?_
  · have e : -(i.r.qs.getD k 0) = i.r.qs.getD k 0 * valD (.int (-1)) := by show _ = i.r.qs.getD k 0 * ((-1 : Int) : Rat); grind
    rw [← e]
    exact ev_negT (ev_var rfl)
  show St (RsW WL E NoX 21) (cxP K CX i none none none) _ Dead (Is (.bl true))
  have w5 : Ev (RsW WL E NoX 21) (cxP K CX i none none none) (tVar 5) (Dv K (wD i.r.ws)) := Ev.sub (ev_var rfl) fun v H z => ints_dv z
  have w7 : Ev (RsW WL E NoX 21) (cxP K CX i none none none) (tVar 7) (Dv K (sD i.r.qs)) := Ev.sub (ev_var rfl) fun v H z => told_dv z
  have b2 : Ev (RsW WL E NoX 21) (cxP K CX i none none none) (tVar 2) (Dv K (.bl i.r.b)) := ev_var rfl
  have b9 : Ev (RsW WL E NoX 21) (cxP K CX i none none none) (tVar 9) (Dv K (ratD i.x)) := ev_var rfl
  have b11 : Ev (RsW WL E NoX 21) (cxP K CX i none none none) (tVar 11) (Dv K (.lst (i.os.map ratD))) := ev_var rfl
  have b12 : Ev (RsW WL E NoX 21) (cxP K CX i none none none) (tVar 12) (Dv K i.o) := ev_var rfl
  have b13 : Ev (RsW WL E NoX 21) (cxP K CX i none none none) (tVar 13) (Dv K (sD (trn i.r))) := ev_var rfl
  have cs : ∀ {x : Str}, Ev (RsW WL E NoX 21) (cxP K CX i none none none) (tC (.str x)) (Dv K (.str x)) := fun {x} => ev_c
  refine st_localD (Y := RsW WL E NoX 21) (G := cxP K CX i none none none) (Ps := [Dv K (ItI.mk .turned .non (.row ⟨i.r.ws, trn i.r, i.r.b⟩)).d, Dv K (ItI.mk .speeds (.lst (i.os.map ratD)) (.row ⟨i.r.ws, i.os, i.r.b⟩)).d]) (i := 15) (N' := fun _ _ => Dead) (R' := fun _ _ => Is (.bl true))
    (ea_cons (ev_it ev_c (ev_tr w5 b13 b2)) (ea_cons (ev_it (Ev.sub (ev_cb (ea_cons (P1 := Lst K (DvL K (i.os.map ratD))) (Ev.sub b11 fun v H z => own_lst z) ea_nil) opA_lstL) fun v H z => z) (ev_tr w5 (Ev.sub (ev_tupF (Ps := DvL K (i.os.map ratD)) (Ev.sub b11 fun v H z => own_lst z)) fun v H z => tupN_tup (K := K) z) b2)) ea_nil)) (by show (2 : Nat) ≤ 100000; decide) (fun H0 l hl => ?_) (fun _ _ _ _ _ z => (dead z).elim) (fun _ _ _ _ _ z => z)
  refine st_weak (G' := cxA K CX i H0 (some (DueP K i.r l 2)) none none) (sub15 fun v H z => loc_due (it_turned h) (it_speeds h) z) ?_
  obtain ⟨Y1, hY1⟩ : ∃ Y1, Y1 = (⟨WO WL H0 l, fun _ => E, List.replicate 21 none, NoX⟩ : Rs) := ⟨_, rfl⟩
  show St ⟨WO WL H0 l, fun _ => E, List.replicate 21 none, NoX⟩ (cxA K CX i H0 (some (DueP K i.r l 2)) none none) _ Dead (Is (.bl true))
  rw [← hY1]
  have hW : Y1.W = WO WL H0 l := by rw [hY1]
  have hU : Y1.under WL = RsW WL E NoX 21 := by rw [hY1]
  haveI pY : PreT Y1.W := by rw [hW]; exact pret_wo
  have ap : ∀ {te : TE} {n : Nat} {R : Pr} (it : ItI) (hit : it.ok i.r), n < 100 → Ev (RsW WL E NoX 21) (cxP K CX i none none none) te (Dv K it.d) → St Y1 (cxA K CX i H0 (some (DueP K i.r l n)) none none) (tDrop (tBM K "list" rAppend (tVar 15) (tCons te tNil))) (cxA K CX i H0 (some (DueP K i.r l (n + 1))) none none) R := fun {te n R} it hit hn ev =>
    st_due2 (B := cxA K CX i H0 none none none) (G1 := cxP K CX i none none none) hW hl rfl hn inferInstance sub_refl inferInstance it hit sub_AP (by rw [hU]; exact ev)
  have mp : ∀ {g : Rat → Rat} {te : TE}, (∀ k, k < i.r.qs.length → Ev (RsW WL E NoX 21) (((cxP K CX i none none none).set 14 none).set 14 (some (Told K (i.r.qs.getD k 0)))) te (Told K (g (i.r.qs.getD k 0)))) → Ev (RsW WL E NoX 21) (cxP K CX i none none none) (tThen (tLc (iTup K (tVar 7)) (gName 14) tYes te [14]) (kTupF K)) (Dv K (sD (i.r.qs.map g))) := fun {g te} he => ev_mp rfl q40 he
  have numx : Sz2 67 67 ((i.x.num : Int) : Rat) := sz_num h.hx
  have mulx : ∀ {E1 : L2.St → XK}, Ev (RsW WL E NoX 21) (cxP K CX i none none none) (tThen (tLc (iTup K (tVar 7)) (gName 14) tYes (tCallS (sp_t2 K fun q r => q * r) E1 (tCons (tVar 14) (tCons (tVar 9) tNil))) [14]) (kTupF K)) (Dv K (sD (i.r.qs.map fun q => q * i.x))) := fun {E1} => mp fun k hk => ev_call (ea_cons (ev_var rfl) (ea_cons (ev_var rfl) ea_nil)) (cl_t2 (n := 67) (by decide) (by decide) (qm hk) h.hx)
  have mul0 : ∀ {E1 : L2.St → XK}, Ev (RsW WL E NoX 21) (cxP K CX i none none none) (tThen (tLc (iTup K (tVar 7)) (gName 14) tYes (tCallS (sp_t2 K fun q r => q * r) E1 (tCons (tVar 14) (tCons (tTup (tCons (tOp (rIx K) (tVar 9) (tC (.int 0))) (tCons (tC (.int 1)) tNil))) tNil))) [14]) (kTupF K)) (Dv K (sD (i.r.qs.map fun q => q * ((i.x.num : Int) : Rat)))) := fun {E1} => mp fun k hk => ev_call (ea_cons (ev_var rfl) (ea_cons (P1 := Told K ((i.x.num : Int) : Rat)) (Ev.sub (ev_tup (K := K) (ea_cons (ev_op (P1 := Told K i.x) (ev_var rfl) ev_c o_t0) (ea_cons ev_c ea_nil))) fun v H z => by
      have e := rat_int i.x.num
      show Dv K (ratD ((i.x.num : Int) : Rat)) v H
      rw [e]; exact z) ea_nil)) (cl_t2 (n := 67) (by decide) (by decide) (qm hk) numx)
  have addx : ∀ {E1 : L2.St → XK}, Ev (RsW WL E NoX 21) (cxP K CX i none none none) (tThen (tLc (iTup K (tVar 7)) (gName 14) tYes (tCallS (sp_t2 K fun q r => q + r) E1 (tCons (tVar 14) (tCons (tVar 9) tNil))) [14]) (kTupF K)) (Dv K (sD (i.r.qs.map fun q => q + i.x))) := fun {E1} => mp fun k hk => ev_call (ea_cons (ev_var rfl) (ea_cons (ev_var rfl) ea_nil)) (cl_t2 (n := 67) (by decide) (by decide) (qm hk) h.hx)
  have add0 : ∀ {E1 : L2.St → XK}, Ev (RsW WL E NoX 21) (cxP K CX i none none none) (tThen (tLc (iTup K (tVar 7)) (gName 14) tYes (tCallS (sp_t2 K fun q r => q + r) E1 (tCons (tVar 14) (tCons (tTup (tCons (tOp (rIx K) (tVar 9) (tC (.int 0))) (tCons (tC (.int 1)) tNil))) tNil))) [14]) (kTupF K)) (Dv K (sD (i.r.qs.map fun q => q + ((i.x.num : Int) : Rat)))) := fun {E1} => mp fun k hk => ev_call (ea_cons (ev_var rfl) (ea_cons (P1 := Told K ((i.x.num : Int) : Rat)) (Ev.sub (ev_tup (K := K) (ea_cons (ev_op (P1 := Told K i.x) (ev_var rfl) ev_c o_t0) (ea_cons ev_c ea_nil))) fun v H z => by
      have e := rat_int i.x.num
      show Dv K (ratD ((i.x.num : Int) : Rat)) v H
      rw [e]; exact z) ea_nil)) (cl_t2 (n := 67) (by decide) (by decide) (qm hk) numx)
  have bx : Big 8000 (botD (ratD i.x)) := bot_ratD h.hx (by decide)
  have b1 : ∀ {d : D}, botD d = 1 → Big 8000 (botD d) := fun {d} e => by rw [e]; exact big_mono (n := 1) (by unfold Big; decide) (by decide)
  have xden : (0 : Int) < i.x.den * 6 := by have := i.x.den_pos; omega
  have x6 : Rat.divInt (i.x.num * 6) (i.x.den * 6) = i.x := by
    rw [Int.mul_comm _ 6, Int.mul_comm _ 6, Rat.divInt_mul_left (by decide)]
    simp
  refine st_seq (ap (ItI.mk .quicker (ratD i.x) (.row ⟨i.r.ws, i.r.qs.map fun q => q * i.x, i.r.b⟩)) (it_quick h (good_ratD _) bx (val_ratD _) h.hx) (by decide) (ev_it b9 (ev_tr w5 mulx b2))) ?_
  refine st_seq (ap (ItI.mk .quicker (.tup [.int (i.x.num * 6), .int (i.x.den * 6)]) (.row ⟨i.r.ws, i.r.qs.map fun q => q * i.x, i.r.b⟩)) (it_quick h (decide_eq_true xden) (big_mono (big_mul (n := 67) (m := 3) (i := (i.x.den : Int)) (j := 6) (show Big 67 (i.x.den : Int) by have := h.hx.2; unfold Big; omega) (by unfold Big; decide)) (by decide)) x6 h.hx) (by decide)
    (ev_it (ev_dtup (ea_d (d := .int _) (ev_op (ev_op (P1 := Told K i.x) (ev_var rfl) ev_c o_t0) ev_c (o_mul (n := 67) (m := 3) h.hx.1 (by unfold Big; decide) (by decide))) (ea_d (d := .int _) (ev_op (ev_op (P1 := Told K i.x) (ev_var rfl) ev_c o_t1) ev_c (o_mul (n := 67) (m := 3) (show Big 67 (i.x.den : Int) by have := h.hx.2; unfold Big; omega) (by unfold Big; decide) (by decide))) ea_d0))) (ev_tr w5 mulx b2))) ?_
  refine st_seq (ap (ItI.mk .quicker (.int i.x.num) (.row ⟨i.r.ws, i.r.qs.map fun q => q * ((i.x.num : Int) : Rat), i.r.b⟩)) (it_quick h rfl (b1 rfl) rfl numx) (by decide) (ev_it (ev_op (P1 := Told K i.x) (ev_var rfl) ev_c o_t0) (ev_tr w5 mul0 b2))) ?_
  refine st_seq (ap (ItI.mk .heavier (.int 1) (.row ⟨i.r.ws, i.r.qs, i.r.b⟩)) (it_heavy1 h rfl (b1 rfl) rfl) (by decide) (ev_it ev_c (ev_tr w5 w7 b2))) ?_
  refine st_seq (ap (ItI.mk .heavier (.tup [.int 7, .int 7]) (.row ⟨i.r.ws, i.r.qs, i.r.b⟩)) (it_heavy1 h rfl (big_mono (n := 3) (i := 7) (by unfold Big; decide) (by decide)) (by decide +kernel)) (by decide) (ev_it (ev_dtup (ea_d (d := .int 7) ev_c (ea_d (d := .int 7) ev_c ea_d0))) (ev_tr w5 w7 b2))) ?_
  refine st_seq (ap (ItI.mk .quicker i.o .noRatio) (it_qX h) (by decide) (ev_it b12 cs)) ?_
  refine st_seq (ap (ItI.mk .heavier i.o .noRatio) (it_hX h) (by decide) (ev_it b12 cs)) ?_
  have step : ∀ {q : Rat} {n : Nat} {R : Pr}, Sz2 67 67 q → n < 100 → St Y1 (cxA K CX i H0 (some (DueP K i.r l n)) (some (Told K q)) none) (tSeq (tAsg (tCallS (sp_hl K) (WE fun cls d _ H => E cls d H) (tCons (tVar 5) (tCons (tVar 16) tNil))) (gName 17)) (tDrop (tBM K "list" rAppend (tVar 15) (tCons (tTup (tCons (tC (.str "heavier")) (tCons (tVar 16) (tCons (tIf (tB (tCB (rIsi K) (tCons (tVar 17) (tCons (tC (.ty "tuple")) tNil)))) (tTup (tCons (tVar 17) (tCons (tVar 7) (tCons (tVar 2) tNil)))) (tVar 17)) tNil)))) tNil)))) (cxA K CX i H0 (some (DueP K i.r l (n + 1))) none none) R := fun {q n R} hq hn => by
    have sz : HlSz i.r.ws q := ⟨by have := h.hb.many; omega, h.hb.ws, hq.mono (by decide) (by decide)⟩
    have sD1 : ∀ {p : Pr}, Sub ((cxA K CX i H0 (some (DueP K i.r l n)) (some (Told K q)) (some p)).set 15 none) (cxA K CX i H0 none none none) := fun {p} s H ty => ty_drop 17 (ty_drop 16 ty)
    have args : EvA (RsW WL E NoX 21) (cxP K CX i (some (DueP K i.r l n)) (some (Told K q)) none) (tCons (tVar 5) (tCons (tVar 16) tNil)) [Dv K (wD i.r.ws), Told K q] := ea_cons (Ev.sub (ev_var rfl) fun v H z => ints_dv z) (ea_cons (ev_var rfl) ea_nil)
    rcases hv_cases q i.r.ws with hg | ⟨k, hk, hg, hbad⟩
    · refine st_seq (st_setW hW (P := Dv K (wD (hvWs q i.r.ws))) (by rw [hU]; exact Ev.weak sub_AP (ev_call args (cl_of (W := Evl.Ex) (W' := WL) (C := okHl) (f := wHl K) (.good i.r.ws q) ⟨sz, hg⟩)))) ?_
      refine st_due2 (B := cxA K CX i H0 none none none) (G := cxA K CX i H0 (some (DueP K i.r l n)) (some (Told K q)) (some (Dv K (wD (hvWs q i.r.ws))))) (G1 := cxP K CX i none (some (Told K q)) (some (Dv K (wD (hvWs q i.r.ws))))) hW hl rfl hn inferInstance sD1 inferInstance (ItI.mk .heavier (ratD q) (.row ⟨hvWs q i.r.ws, i.r.qs, i.r.b⟩)) (it_heavy h (good_ratD _) (bot_ratD hq (by decide)) (val_ratD _) hq hg) sub_AP ?_
      rw [hU]
      exact ev_it (ev_var (P := Dv K (ratD q)) rfl) (ev_if (b := true) (et_B (ev_cb (ea_cons (P1 := Dv K (wD (hvWs q i.r.ws))) (ev_var rfl) (ea_cons ev_c ea_nil)) isi_tup)) (fun _ => ev_tr (ev_var rfl) (Ev.sub (ev_var rfl) fun v H z => told_dv z) (ev_var (P := Dv K (.bl i.r.b)) rfl)) (fun z => by cases z))
    · refine st_seq (st_setW hW (P := Dv K (.lst [.int (k : Int), .str "weight"])) (by rw [hU]; exact Ev.weak sub_AP (ev_call args (cl_of (W := Evl.Ex) (W' := WL) (C := okHl) (f := wHl K) (.at_ i.r.ws q k) ⟨sz, hk, hg, hbad⟩)))) ?_
      refine st_due2 (B := cxA K CX i H0 none none none) (G := cxA K CX i H0 (some (DueP K i.r l n)) (some (Told K q)) (some (Dv K (.lst [.int (k : Int), .str "weight"])))) (G1 := cxP K CX i none (some (Told K q)) (some (Dv K (.lst [.int (k : Int), .str "weight"])))) hW hl rfl hn inferInstance sD1 inferInstance (ItI.mk .heavier (ratD q) (.badRow ((k : Int), "weight"))) (it_heavyX h (good_ratD _) (bot_ratD hq (by decide)) (val_ratD _) hq hk hg hbad) sub_AP ?_
      rw [hU]
      exact ev_it (ev_var (P := Dv K (ratD q)) rfl) (ev_if (b := false) (et_B (ev_cb (ea_cons (P1 := Dv K (.lst [.int (k : Int), .str "weight"])) (ev_var rfl) (ea_cons ev_c ea_nil)) isi_tup)) (fun z => by cases z) (fun _ => ev_var rfl))
  have hzz := h.hz
  have szz : Sz2 67 67 ((i.z : Int) : Rat) := sz2_int (big_of (by omega) (by omega)) (by decide)
  have s1z : Sz2 67 67 (Rat.divInt 1 i.z) := sz2_divInt (by omega) (by unfold Big; decide) (big_of (by omega) (by omega))
  have s00 : Sz2 67 67 0 := sz0 (by decide) (by decide)
  refine st_seq (M := cxA K CX i H0 (some (DueP K i.r l 14)) none none) ?_ ?_
  · refine st_open 15 rfl fun its c => ?_
    haveI m1 : MnL WL (DvOL K l (its.map ItI.d)) := dvol_mnW _
    have ts : EvA (RsW WL E NoX 21) (cxP K CX i none none none) (tCons (tVar 9) (tCons (tVar 10) (tCons (tTup (tCons (tVar 4) (tCons (tC (.int 1)) tNil))) (tCons (tTup (tCons (tC (.int 1)) (tCons (tVar 4) tNil))) (tCons (tTup (tCons (tC (.int 0)) (tCons (tC (.int 1)) tNil))) tNil))))) [Told K i.x, Told K i.sm, Told K ((i.z : Int) : Rat), Told K (Rat.divInt 1 i.z), Told K 0] :=
      ea_cons (ev_var rfl) (ea_cons (ev_var rfl) (ea_cons (Ev.sub (ev_tup (K := K) (ea_cons (P1 := Is (.int i.z)) (ev_var rfl) (ea_cons ev_c ea_nil))) fun v H z => by
        show Dv K (ratD ((i.z : Int) : Rat)) v H
        rw [rat_int]; exact z) (ea_cons (Ev.sub (ev_tup (K := K) (ea_cons ev_c (ea_cons (P1 := Is (.int i.z)) (ev_var rfl) ea_nil))) fun v H z => by
        show Dv K (ratD (Rat.divInt 1 i.z)) v H
        rw [one_den h.hz]; exact z) (ea_cons (ev_tup (K := K) (ea_cons ev_c (ea_cons ev_c ea_nil))) ea_nil))))
    show St Y1 (cxA K CX i H0 (some (Loc l (DvOL K l (its.map ItI.d)))) none none) _ _ _
    have s0 : Sub (cxA K CX i H0 (some (Loc l (DvOL K l (its.map ItI.d)))) none none) (cxP K CX i none none none) := fun s H ty => sub_AP s H (ty_drop (G := cxA K CX i H0 (some (Loc l (DvOL K l (its.map ItI.d)))) none none) 15 ty)
    have hd : EvJ Y1 WL (cxA K CX i H0 (some (Loc l (DvOL K l (its.map ItI.d)))) none none) (iList K (tLst (tCons (tVar 9) (tCons (tVar 10) (tCons (tTup (tCons (tVar 4) (tCons (tC (.int 1)) tNil))) (tCons (tTup (tCons (tC (.int 1)) (tCons (tVar 4) tNil))) (tCons (tTup (tCons (tC (.int 0)) (tCons (tC (.int 1)) tNil))) tNil))))))) 5 (nth [Told K i.x, Told K i.sm, Told K ((i.z : Int) : Rat), Told K (Rat.divInt 1 i.z), Told K 0]) :=
      ej_disp (W := WL) (H0 := H0) (l := l) (Ps := [Told K i.x, Told K i.sm, Told K ((i.z : Int) : Rat), Told K (Rat.divInt 1 i.z), Told K 0]) (Qs := DvOL K l (its.map ItI.d)) (j := 15) hW rfl (by show (5 : Nat) ≤ 100000; decide) (by rw [hU]; exact EvA.weak s0 ts)
    refine st_post (N' := cxA K CX i H0 (some (DueP K i.r l 14)) none none) (R' := Is (.bl true)) (st_forW (W := WL) (H0 := H0) (l := l) hW (j := 16) hd (fun k => cxA K CX i H0 (some (DueP K i.r l (9 + k))) none none) (sub15 fun v H z => ⟨its, c, z⟩) (fun k hk => ?_)) sub_refl (fun _ _ z => z)
    match k, hk with
    | 0, _ => exact step h.hx (by decide)
    | 1, _ => exact step h.hs (by decide)
    | 2, _ => exact step szz (by decide)
    | 3, _ => exact step s1z (by decide)
    | 4, _ => exact step s00 (by decide)
  have ol : i.os.length = i.r.ws.length := h.hl
  have m40 := h.hb.many
  refine st_seq (ap (ItI.mk .speeds (.lst (i.os.map ratD ++ [.int 1])) (.badRow (0, "length"))) (it_longer h) (by decide) (ev_it (ev_op b11 (ev_dlst (ea_d (d := .int 1) ev_c ea_d0)) (o_catD (by rw [List.length_map]; simp; omega))) (ev_dlst (ea_d (d := .int 0) ev_c (ea_d (d := .str "length") ev_c ea_d0))))) ?_
  refine st_seq (ap (ItI.mk .speeds (.lst (i.os.dropLast.map ratD ++ [i.o])) (.badRow (i.m - 1, "speed"))) (it_last h) (by decide) (ev_it (ev_op (P1 := Dv K (.lst (i.os.dropLast.map ratD))) (Ev.sub (ev_slD b11 eo_none (eo_some (ev_un ev_c op1_neg))) fun v H z => ?_) (ev_dlst (ea_d b12 ea_d0)) (o_catD (by rw [List.length_map, List.length_dropLast]; simp; omega))) (ev_dlst (ea_d (d := .int (i.m - 1)) (ev_op (ev_var rfl) ev_c o_sub) (ea_d (d := .str "speed") ev_c ea_d0))))) ?_
  · rw [cut_last, ← List.map_dropLast] at z
    exact z
  refine st_seq (M := cxA K CX i H0 (some (DueD K i.r)) none none) ?_ ?_
  · refine st_ifW hW (b := i.r.b) (by rw [hU]; exact EvT.weak (G' := cxP K CX i none none none) (fun s H ty => sub_AP s H (ty_drop (G := cxA K CX i H0 (some (DueP K i.r l 16)) none none) 15 ty)) (et_truB (ev_var rfl))) (fun hb => ?_) (fun hb => ?_)
    · refine st_open 15 rfl fun its c => ?_
      haveI m1 : MnL WL (DvOL K l (its.map ItI.d)) := dvol_mnW _
      show St Y1 (cxA K CX i H0 (some (Loc l (DvOL K l (its.map ItI.d)))) none none) _ _ _
      refine st_setW hW (P := DueD K i.r) ?_
      rw [hU]
      have s0 : Sub (cxA K CX i H0 (some (Loc l (DvOL K l (its.map ItI.d)))) none none) (cxP K CX i none none none) := fun s H ty => sub_AP s H (ty_drop (G := cxA K CX i H0 (some (Loc l (DvOL K l (its.map ItI.d)))) none none) 15 ty)
      refine Ev.sub (ev_op (P1 := Dv K (.lst (its.map ItI.d))) (P2 := Dv K (.lst ([ItI.mk .mirrored .non .noMirror, ItI.mk .hurried (ratD i.x) .noHurry, ItI.mk .hurried i.o .noHurry].map ItI.d))) (Ev.sub (ev_var rfl) fun v H z => ?_) (Ev.weak s0 (ev_dlst (ea_d (ev_it ev_c cs) (ea_d (ev_it b9 cs) (ea_d (ev_it b12 cs) ea_d0))))) (o_catD (by rw [List.length_map]; have := c.2.1; simp; omega))) fun v H z => ?_
      · obtain ⟨e, xs, hq, _, ha⟩ := z
        exact ⟨l, xs, e, hq, True.intro, dvol_dvl _ xs H ha⟩
      · rw [← List.map_append] at z
        refine ⟨_, ⟨by rw [List.length_append]; have := c.2.1; simp; omega, fun it m => ?_⟩, z⟩
        rcases List.mem_append.mp m with m | m
        · exact c.2.2 it m
        · rcases List.mem_cons.mp m with e | m
          · rw [e]; exact it_miS h hb
          · rcases List.mem_cons.mp m with e | m
            · rw [e]; exact it_hxS h hb (good_ratD _)
            · rw [List.mem_singleton.mp m]; exact it_huS h hb
    · have ebb : ∀ {d : D}, d = .bl false → Ev (RsW WL E NoX 21) (cxP K CX i none none none) (tC (.bl false)) (Dv K d) := fun {d} e => by rw [e]; exact ev_c
      have eb : D.bl i.r.b = .bl false := by rw [hb]
      refine st_seq (ap (ItI.mk .mirrored .non (.row (mirR i.r))) (it_mi h hb) (by decide) (ev_it ev_c (ev_tr (x := wD (mirR i.r).ws) (y := sD (mirR i.r).qs) (z := .bl (mirR i.r).b) (Ev.sub (ev_revT (Ps := intPs i.r.ws) (Ev.sub (ev_var rfl) fun v H z => tupN_tup z)) fun v H z => ?_) (Ev.sub (ev_revT (Ps := toldPs K (trn i.r)) (Ev.sub b13 fun v H z => by rw [told_dvl]; exact z)) fun v H z => ?_) ev_c))) ?_
      · refine ints_dv (ws := i.r.ws.reverse) ?_
        have e : intPs i.r.ws.reverse = (intPs i.r.ws).reverse := by unfold intPs; rw [List.map_reverse]
        rw [e]; exact z
      · have e : toldPs K (mirR i.r).qs = (toldPs K (trn i.r)).reverse := by
          show toldPs K (i.r.qs.reverse.map fun q => q * ((-1 : Int) : Rat)) = _
          unfold toldPs trn
          rw [← List.map_reverse, ← List.map_reverse]; rfl
        refine told_dv ?_
        rw [e]; exact z
      refine st_seq (ap (ItI.mk .hurried (ratD i.x) (.row ⟨i.r.ws, i.r.qs.map fun q => q + i.x, i.r.b⟩)) (it_hurr h hb (good_ratD _) bx (val_ratD _) h.hx) (by decide) (ev_it b9 (ev_tr w5 addx (ebb eb)))) ?_
      refine st_seq (ap (ItI.mk .hurried (.int i.x.num) (.row ⟨i.r.ws, i.r.qs.map fun q => q + ((i.x.num : Int) : Rat), i.r.b⟩)) (it_hurr h hb rfl (b1 rfl) rfl numx) (by decide) (ev_it (ev_op (P1 := Told K i.x) (ev_var rfl) ev_c o_t0) (ev_tr w5 add0 (ebb eb)))) ?_
      exact st_post (ap (ItI.mk .hurried i.o .noRatio) (it_huX h hb) (by decide) (ev_it b12 cs)) (sub15 fun v H z => dueP_D (by decide) z) (fun _ _ z => z)
  refine St.upW hW ?_
  rw [hU]
  refine st_weak sub_AP (st_open 15 rfl fun its c => ?_)
  show St (RsW WL E NoX 21) (cxP K CX i (some (Dv K (.lst (its.map ItI.d)))) none none) _ Dead (Is (.bl true))
  obtain ⟨it2, hi2⟩ : ∃ it2, it2 = its ++ its := ⟨_, rfl⟩
  have l2 : it2.length ≤ 80 := by rw [hi2, List.length_append]; have := c.1; omega
  have ok2 : ∀ it ∈ it2, it.ok i.r := fun it m => by
    rw [hi2] at m
    rcases List.mem_append.mp m with m | m <;> exact c.2 it m
  have i0 : ItI := ⟨.turned, .non, .noRatio⟩
  refine st_seq (M := cxP K CX i (some (Dv K (.lst (its.map ItI.d)))) none none) (st_for3 (Y := RsW WL E NoX 21) (n := (DvL K (it2.map ItI.d)).length) (I1 := fun k => Dv K (.str (it2.getD k i0).op.name)) (I2 := fun k => Dv K (it2.getD k i0).x) (I3 := fun k => Dv K (it2.getD k i0).out.d) (EvI.imp (fun k hk v H z => ?_) (ei_list (Y := RsW WL E NoX 21) (Ps := DvL K (it2.map ItI.d)) (Ev.sub (P := Dv K (.lst (it2.map ItI.d))) ?_ fun v H z => own_lst z))) (fun _ => cxP K CX i (some (Dv K (.lst (its.map ItI.d)))) none none) sub_refl (fun k hk => ?_)) ?_
  · have hk' : k < it2.length := by rw [dvl_len, List.length_map] at hk; exact hk
    rw [nth_dvl (by rw [List.length_map]; exact hk')] at z
    have e : (it2.map ItI.d).getD k .non = (it2.getD k i0).d := by simp [hk']
    rw [e] at z
    exact z
  · refine Ev.sub (ev_op (P1 := Dv K (.lst (its.map ItI.d))) (P2 := Dv K (.lst (its.map ItI.d))) (ev_var rfl) (ev_var rfl) (o_catD (by rw [List.length_map]; have := c.1; omega))) fun v H z => ?_
    rw [hi2, List.map_append]; exact z
  · have hk' : k < it2.length := by rw [dvl_len, List.length_map] at hk; exact hk
    have oki : (it2.getD k i0).ok i.r := ok2 _ (by rw [List.getD_eq_getElem?_getD, List.getElem?_eq_getElem hk']; exact List.getElem_mem hk')
    obtain ⟨ij, hij⟩ : ∃ ij, ij = it2.getD k i0 := ⟨_, rfl⟩
    rw [← hij] at oki
    have ok : ij.out.d.ok := ⟨(res_ok ij.out oki.fine).1, by have := (res_ok ij.out oki.fine).2.1; omega⟩
    refine st_post (N' := (((cxP K CX i (some (Dv K (.lst (its.map ItI.d)))) none none).set 18 (some (Dv K (.str (it2.getD k i0).op.name)))).set 19 (some (Dv K (it2.getD k i0).x))).set 20 (some (Dv K (it2.getD k i0).out.d))) (R' := Is (.bl true)) ?_ (fun s H ty => ty_drop 18 (ty_drop 19 (ty_drop 20 ty))) (fun _ _ z => z)
    refine st_if (b := false) (EvT.to (et_test (ev_op (P1 := Dv K ij.out.d) (P2 := Dv K ij.out.d) (ev_call (ea_cons (P1 := i.r.pr K CX) (ev_var rfl) (ea_cons (P1 := Dv K (.str ij.op.name)) (ev_var (by rw [hij]; rfl)) (ea_cons (P1 := Dv K ij.x) (ev_var (by rw [hij]; rfl)) ea_nil))) (cl_of (W := Evl.Ex) (W' := WL) (C := okTr) (f := fun i => ⟨[i.r.pr K CX, Dv K (.str i.op.name), Dv K i.x], Dv K i.out.d, NoX⟩) ⟨i.r, ij.op, ij.x, ij.out⟩ oki.does)) (ev_var (by rw [hij]; rfl)) (o_neD ok ok))) (by rw [deq_refl _ ok.1]; rfl)) (fun z => by cases z) (fun _ => st_next)
  · obtain ⟨n', d', cg⟩ := RG.of h.hb.rg .T .T
    have told_ratN : ∀ {qs : List Rat} {v : V} {H : Hp}, (∀ q ∈ qs, q.den < 2 ^ 8000) → TupN (toldPs K qs) v H → TupN (ratPs K 8000 qs) v H := fun {qs v H} hq ⟨p, xs, o, e, hp, d, ha⟩ => ⟨p, xs, o, e, hp, d, allp_imp' (fun q hm v h => told_ratD (hq q hm) h) ha⟩
    refine st_ret (ev_andV (a := true) (b := true) (ev_eqRow T (r1 := i.r) (r2 := i.r) (ev_var rfl) ?_ rfl) (fun _ => ?_))
    · exact ev_mk (f := rowW K CX) (Ps := [TupN (intPs i.r.ws), TupN (ratPs K 8000 i.r.qs), Is (.bl i.r.b)]) (RowI.good ⟨.T, .T, i.r.ws, n', d', 8000, i.r.qs, i.r.b⟩) cg (fun vs H h => by rw [List.append_nil]; exact h) (ea_cons (ev_var rfl) (ea_cons (Ev.sub (ev_var rfl) fun v H z => told_ratN (rg_den h.hb.rg) z) (ea_cons (ev_var rfl) ea_nil))) (fun _ _ _ h => h)
    · exact ev_call (ea_cons (P1 := i.r.pr K CX) (ev_var rfl) (ea_cons (P1 := Dv K (wD i.r.ws)) (Ev.sub (ev_var rfl) fun v H z => ints_dv z) (ea_cons (P1 := Dv K (sD i.r.qs)) (Ev.sub (ev_var rfl) fun v H z => told_dv z) (ea_cons (P1 := Is (.bl i.r.b)) (ev_var rfl) (ea_cons (P1 := Told K i.x) (ev_var rfl) ea_nil))))) (cl_of (W := Evl.Ex) (W' := WL) (C := fun i : LedI => B67 i.r ∧ Sz2 67 67 i.x) (f := fun i => ⟨[i.r.pr K CX, Dv K (wD i.r.ws), Dv K (sD i.r.qs), Is (.bl i.r.b), Told K i.x], Is (.bl true), NoX⟩) ⟨i.r, i.x⟩ ⟨h.hb, h.hx⟩)
end
end U

namespace U
open PySem PySem.Spec PyProof.Rows L2
/-! ### the law: draws -/
abbrev s_law : Stmt := top 33
theorem sc_law : FnScope ["_law_script", "_law_hand_here", "_law_shut", "_law_many", "_law_size", "_law_weights", "_law_k", "_law_speeds", "_law_row", "_law_x", "_law_small", "_law_others", "_law_odd", "_law_turned", "_law_v", "_law_due", "_law_y", "_law_new", "_law_name", "_law_given", "_law_answer"] ["_law_script"] (defScope s_law) := ⟨rfl, rfl, rfl, by decide +kernel, rfl, by decide +kernel, by decide +kernel⟩
section
variable {P : Program} {w : World} {K : PySem.W.Frag} {mg : Str → Option Value} {base : Heap} {CX : Addrs}
def sp_law (K : PySem.W.Frag) : Sp := SpW WL (fun ns : List Int => ns.length ≤ 63) fun ns => ⟨[Lst K (ns.map fun n => Is (.int n))], Is (.bl true), NoX⟩
theorem eu_and {Y : Rs} [w0 : PreT Y.W] {G : Ctx} [mc : MnC Y.W G] {t u : TT} (h1 : EvT Y G t true) (h2 : EvU Y G u) : EvU Y G (tAnd t u) := fun s H ty hx Q q => h1 s H ty hx _ fun H1 w1 => by
  rw [if_pos rfl]
  exact h2 s H1 (mc.mn s H H1 w1 ty) (hx.mono w1) Q fun b H2 w2 => q b H2 (w0.trans w1 w2)
def RatsP (K : PySem.W.Frag) (n : Nat) : Pr := Some (fun qs : List Rat => qs.length = n ∧ ∀ q ∈ qs, Sz2 67 67 q) fun qs => Dv K (.lst (qs.map ratD))
instance mn_ratsP {W : HR} [PreL W] {n : Nat} : Mn W (RatsP K n) := mn_some
theorem rats_of {n : Nat} {v : V} {H : Hp} (h : New (each n fun _ => RatioP K) v H) : RatsP K n v H := by
  obtain ⟨p, xs, e, hp, ha⟩ := h
  obtain ⟨qs, l, c, a⟩ := allp_some ha
  refine ⟨qs, ⟨l, c⟩, p, xs, e, hp, True.intro, ?_⟩
  show AllP (DvL K (qs.map ratD)) xs H
  rw [dvl_list]; exact a
def WsP (n : Nat) : Pr := Some (fun ws : List Int => ws.length = n ∧ ∀ y ∈ ws, 1 ≤ y ∧ y ≤ 9) fun ws => TupN (intPs ws)
instance mn_wsP {W : HR} [PreZ W] {n : Nat} : Mn W (WsP n) := mn_some
theorem ws_of {n : Nat} {v : V} {H : Hp} (h : TupN (each n fun _ => Rng 1 10) v H) : WsP n v H := by
  obtain ⟨p, xs, o, e, hp, hd, ha⟩ := h
  obtain ⟨ws, l, c, a⟩ := allp_some ha
  exact ⟨ws, ⟨l, fun y hy => by have := c y hy; omega⟩, p, xs, o, e, hp, hd, a⟩
def SqP (K : PySem.W.Frag) (n : Nat) : Pr := Some (fun qs : List Rat => qs.length = n ∧ ∀ q ∈ qs, Sz2 67 67 q) fun qs => TupN (toldPs K qs)
instance mn_sqP {W : HR} [PreT W] [PreZ W] {n : Nat} : Mn W (SqP K n) := mn_some
theorem sq_of {n : Nat} {v : V} {H : Hp} (h : TupN (each n fun _ => RatioP K) v H) : SqP K n v H := by
  obtain ⟨p, xs, o, e, hp, hd, ha⟩ := h
  obtain ⟨qs, l, c, a⟩ := allp_some ha
  exact ⟨qs, ⟨l, c⟩, p, xs, o, e, hp, hd, a⟩
theorem o_mulZ {W : HR} [w0 : PreT W] {z lo hi : Int} (hz : 1 ≤ z ∧ z < 5) (h : -1000 < lo ∧ hi < 1000) {a b : Int} (ha : a ≤ z * lo) (hb : z * (hi - 1) < b) : Op2 W rMulA (Is (.int z)) (Rng lo hi) (Rng a b) := op2_some2 fun i hi' => op2_sub (o_mul (n := 3) (m := 10) (big_of (by omega) (by omega)) (big_of (by omega) (by omega)) (by decide)) fun v H e => ⟨_, by
  rcases four hz with e | e | e | e <;> subst e <;> omega, e⟩
theorem ok_law {f : Addr} {fd : FuncData} (F : Fun K "law" "law" s_law f fd) (T : Txt P w K mg CX)
    (D__law_hand : Df P w K mg base 1 "_law_hand" ["_law_script"] (sp_hand K)) (D__law_draw : Df P w K mg base 2 "_law_draw" ["_law_hand_here", "_law_many"] sp_draw)
    (D__law_ratio : Df P w K mg base 3 "_law_ratio" ["_law_hand_here"] (SpW WL (fun _ : Unit => True) fun _ => ⟨[Hand], RatioP K, NoX⟩)) (D__law_low : Df P w K mg base 1 "_law_low" ["_law_top", "_law_bottom"] (sp_lowest_terms K))
    (D__law_mul : Df P w K mg base 2 "_law_mul" ["_law_a", "_law_b"] (sp_t2 K fun q r => q * r)) (D__law_add : Df P w K mg base 2 "_law_add" ["_law_a", "_law_b"] (sp_t2 K fun q r => q + r))
    (D__law_heavier : Df P w K mg base 3 "_law_heavier" ["_law_weights", "_law_x"] (sp_hl K)) (D__law_tried : Df P w K mg base 11 "_law_tried" ["_law_row", "_law_name", "_law_x"] (sp_tried K CX)) (D__law_led : Df P w K mg base 11 "_law_led" ["_law_row", "_law_weights", "_law_speeds", "_law_shut", "_law_x"] (sp_led K CX))
    (D_Row_3 : DkD P w K mg base 6 "Row" CX.Row ["self", "weights", "speeds", "wall"] [] (SpI CX.Row okRow (rowW K CX))) (D_Row_eq : DmE P w K mg base 1 CX.Row "__eq__" ["self", "other"] (sp_eq K CX)) :
    FnOk P w K mg base (L2N.CX P w) 12 f fd ["_law_script"] (sp_law K) := by
  refine okW F sc_law (fun i => rfl) (by decide) (fun cdv A outer s H E hr => ⟨_, (pss_cons (ps_set (i := 1) sc_law.nd rfl (by first | exact Or.inl rfl | exact Or.inr rfl) (pe_df D__law_hand (hr.mono (by decide)) (L2N.takes_of rfl rfl rfl rfl) (pa_cons (pv 0) pa_nil))) (pss_cons (ps_set (i := 2) sc_law.nd rfl (by first | exact Or.inl rfl | exact Or.inr rfl) (pe_cmpR (op_eqA hr.units) (pe_df D__law_draw (hr.mono (by decide)) (L2N.takes_of rfl rfl rfl rfl) (pa_cons (pv 1) (pa_cons pe_int pa_nil))) pe_int (nomark _))) (pss_cons (ps_set (i := 3) sc_law.nd rfl (by first | exact Or.inl rfl | exact Or.inr rfl) (pe_op op_addA pe_int (pe_df D__law_draw (hr.mono (by decide)) (L2N.takes_of rfl rfl rfl rfl) (pa_cons (pv 1) (pa_cons pe_int pa_nil))))) (pss_cons (ps_if (pt_cmpR (op_eqA hr.units) (pe_df D__law_draw (hr.mono (by decide)) (L2N.takes_of rfl rfl rfl rfl) (pa_cons (pv 1) (pa_cons pe_int pa_nil))) pe_int (nomark _)) (pss_one (ps_set (i := 3) sc_law.nd rfl (by first | exact Or.inl rfl | exact Or.inr rfl) pe_int)) pss_nil) (pss_cons (ps_if (PW.pt (pw_and (pt_truth (pv 2) (fun _ => rfl)) (pw_and1 (pt_cmpR (op_eqA hr.units) (pe_df D__law_draw (hr.mono (by decide)) (L2N.takes_of rfl rfl rfl rfl) (pa_cons (pv 1) (pa_cons pe_int pa_nil))) pe_int (nomark _))))) (pss_one (ps_set (i := 3) sc_law.nd rfl (by first | exact Or.inl rfl | exact Or.inr rfl) pe_int)) pss_nil) (pss_cons (ps_set (i := 4) sc_law.nd rfl (by first | exact Or.inl rfl | exact Or.inr rfl) (pe_op op_addA pe_int (pe_df D__law_draw (hr.mono (by decide)) (L2N.takes_of rfl rfl rfl rfl) (pa_cons (pv 1) (pa_cons pe_int pa_nil))))) (pss_cons (ps_set (i := 5) sc_law.nd rfl (by first | exact Or.inl rfl | exact Or.inr rfl) (pe_tupleF (by rfl) T.n_tuple (pe_lc (own := [("_law_k", 6)]) (g := gName 6) (by rfl) sc_law.nd (pi_range1 (by rfl) T.n_range (pa_cons (pv 3) pa_nil)) (blkOk_by (own := [("_law_k", 6)]) (N := ["_law_script", "_law_hand_here", "_law_shut", "_law_many", "_law_size", "_law_weights", "_law_k", "_law_speeds", "_law_row", "_law_x", "_law_small", "_law_others", "_law_odd", "_law_turned", "_law_v", "_law_due", "_law_y", "_law_new", "_law_name", "_law_given", "_law_answer"]) (sc := defScope s_law) (by decide +kernel)) (fun _ _ _ _ _ => pg_name (i := 6) sc_law.nd rfl (by first | exact Or.inl rfl | exact Or.inr rfl)) (fun _ _ _ _ _ => pts_nil) (fun _ _ _ _ _ => (pe_op op_mulA (pv 4) (pe_op op_addAB pe_int (pe_df D__law_draw (hr.mono (by decide)) takesF (pa_cons (pv 1) (pa_cons (pe_op op_fd pe_int (pv 4)) pa_nil))))))))) (pss_cons (ps_set (i := 7) sc_law.nd rfl (by first | exact Or.inl rfl | exact Or.inr rfl) (pe_tupleF (by rfl) T.n_tuple (pe_lc (own := [("_law_k", 6)]) (g := gName 6) (by rfl) sc_law.nd (pi_range1 (by rfl) T.n_range (pa_cons (pv 3) pa_nil)) (blkOk_by (own := [("_law_k", 6)]) (N := ["_law_script", "_law_hand_here", "_law_shut", "_law_many", "_law_size", "_law_weights", "_law_k", "_law_speeds", "_law_row", "_law_x", "_law_small", "_law_others", "_law_odd", "_law_turned", "_law_v", "_law_due", "_law_y", "_law_new", "_law_name", "_law_given", "_law_answer"]) (sc := defScope s_law) (by decide +kernel)) (fun _ _ _ _ _ => pg_name (i := 6) sc_law.nd rfl (by first | exact Or.inl rfl | exact Or.inr rfl)) (fun _ _ _ _ _ => pts_nil) (fun _ _ _ _ _ => (pe_df D__law_ratio (hr.mono (by decide)) takesF (pa_cons (pv 1) pa_nil)))))) (pss_cons (ps_set (i := 8) sc_law.nd rfl (by first | exact Or.inl rfl | exact Or.inr rfl) (pe_mk D_Row_3 (hr.mono (by decide)) (L2N.takes_of rfl rfl rfl rfl) (pa_cons (pe_callTy call_lstA (by rfl) T.n_list (by decide +kernel) (pa_cons (pv 5) pa_nil)) (pa_cons (pe_callTy call_lstA (by rfl) T.n_list (by decide +kernel) (pa_cons (pv 7) pa_nil)) (pa_cons (pv 2) pa_nil))))) (pss_cons (ps_set (i := 9) sc_law.nd rfl (by first | exact Or.inl rfl | exact Or.inr rfl) (pe_df D__law_ratio (hr.mono (by decide)) (L2N.takes_of rfl rfl rfl rfl) (pa_cons (pv 1) pa_nil))) (pss_cons (ps_set (i := 10) sc_law.nd rfl (by first | exact Or.inl rfl | exact Or.inr rfl) (pe_df D__law_low (hr.mono (by decide)) (L2N.takes_of rfl rfl rfl rfl) (pa_cons (pe_op op_addA pe_int (pe_df D__law_draw (hr.mono (by decide)) (L2N.takes_of rfl rfl rfl rfl) (pa_cons (pv 1) (pa_cons pe_int pa_nil)))) (pa_cons (pe_op op_addA pe_int (pe_df D__law_draw (hr.mono (by decide)) (L2N.takes_of rfl rfl rfl rfl) (pa_cons (pv 1) (pa_cons pe_int pa_nil)))) pa_nil)))) (pss_cons (ps_setLc (i := 11) (own := [("_law_k", 6)]) (g := gName 6) (by rfl) sc_law.nd rfl rfl (sw_true rfl rfl rfl (by decide +kernel)) (pi_range1 (by rfl) T.n_range (pa_cons (pv 3) pa_nil)) (blkOk_by (own := [("_law_k", 6)]) (N := ["_law_script", "_law_hand_here", "_law_shut", "_law_many", "_law_size", "_law_weights", "_law_k", "_law_speeds", "_law_row", "_law_x", "_law_small", "_law_others", "_law_odd", "_law_turned", "_law_v", "_law_due", "_law_y", "_law_new", "_law_name", "_law_given", "_law_answer"]) (sc := defScope s_law) (by decide +kernel)) (fun _ _ _ _ _ => pg_name (i := 6) sc_law.nd rfl (by first | exact Or.inl rfl | exact Or.inr rfl)) (fun _ _ _ _ _ => pts_nil) (fun _ _ _ _ _ => (pe_df D__law_ratio (hr.mono (by decide)) takesF (pa_cons (pv 1) pa_nil)))) (pss_cons (ps_set (i := 12) sc_law.nd rfl (by first | exact Or.inl rfl | exact Or.inr rfl) (pe_ix ix_seq (pe_lst (pa_cons pe_non (pa_cons pe_bl (pa_cons pe_str (pa_cons (pe_tup (pa_cons pe_int (pa_cons pe_int pa_nil))) (pa_cons (pe_lst (pa_cons pe_int (pa_cons pe_int pa_nil))) pa_nil)))))) (pe_df D__law_draw (hr.mono (by decide)) (L2N.takes_of rfl rfl rfl rfl) (pa_cons (pv 1) (pa_cons pe_int pa_nil))) (fun _ _ => rfl))) (pss_cons (ps_set (i := 13) sc_law.nd rfl (by first | exact Or.inl rfl | exact Or.inr rfl) (pe_tupleF (by rfl) T.n_tuple (pe_lc (own := [("_law_v", 14)]) (g := gName 14) (by rfl) sc_law.nd (pi_tup (pv 7)) (blkOk_by (own := [("_law_v", 14)]) (N := ["_law_script", "_law_hand_here", "_law_shut", "_law_many", "_law_size", "_law_weights", "_law_k", "_law_speeds", "_law_row", "_law_x", "_law_small", "_law_others", "_law_odd", "_law_turned", "_law_v", "_law_due", "_law_y", "_law_new", "_law_name", "_law_given", "_law_answer"]) (sc := defScope s_law) (by decide +kernel)) (fun _ _ _ _ _ => pg_name (i := 14) sc_law.nd rfl (by first | exact Or.inl rfl | exact Or.inr rfl)) (fun _ _ _ _ _ => pts_nil) (fun _ _ _ _ _ => (pe_tup (pa_cons (pe_un un_neg (pe_ix ix_seqB (pv 14) pe_int (fun _ _ => rfl))) (pa_cons (pe_ix ix_seqB (pv 14) pe_int (fun _ _ => rfl)) pa_nil))))))) (pss_cons (ps_set (i := 15) sc_law.nd rfl (by first | exact Or.inl rfl | exact Or.inr rfl) (pe_lst (pa_cons (pe_tup (pa_cons pe_str (pa_cons pe_non (pa_cons (pe_tup (pa_cons (pv 5) (pa_cons (pv 13) (pa_cons (pv 2) pa_nil)))) pa_nil)))) (pa_cons (pe_tup (pa_cons pe_str (pa_cons (pe_callTy call_lstA (by rfl) T.n_list (by decide +kernel) (pa_cons (pv 11) pa_nil)) (pa_cons (pe_tup (pa_cons (pv 5) (pa_cons (pe_tupleF (by rfl) T.n_tuple (pv 11)) (pa_cons (pv 2) pa_nil)))) pa_nil)))) pa_nil)))) (pss_cons (ps_expr (pe_bm PySem.F.plainAttrs_list PySem.F.slot_list_append PySem.F.type_list_append mt_append (pv 15) (pa_cons (pe_tup (pa_cons pe_str (pa_cons (pv 9) (pa_cons (pe_tup (pa_cons (pv 5) (pa_cons (pe_tupleF (by rfl) T.n_tuple (pe_lc (own := [("_law_v", 14)]) (g := gName 14) (by rfl) sc_law.nd (pi_tup (pv 7)) (blkOk_by (own := [("_law_v", 14)]) (N := ["_law_script", "_law_hand_here", "_law_shut", "_law_many", "_law_size", "_law_weights", "_law_k", "_law_speeds", "_law_row", "_law_x", "_law_small", "_law_others", "_law_odd", "_law_turned", "_law_v", "_law_due", "_law_y", "_law_new", "_law_name", "_law_given", "_law_answer"]) (sc := defScope s_law) (by decide +kernel)) (fun _ _ _ _ _ => pg_name (i := 14) sc_law.nd rfl (by first | exact Or.inl rfl | exact Or.inr rfl)) (fun _ _ _ _ _ => pts_nil) (fun _ _ _ _ _ => (pe_df D__law_mul (hr.mono (by decide)) takesF (pa_cons (pv 14) (pa_cons (pv 9) pa_nil)))))) (pa_cons (pv 2) pa_nil)))) pa_nil)))) pa_nil))) (pss_cons (ps_expr (pe_bm PySem.F.plainAttrs_list PySem.F.slot_list_append PySem.F.type_list_append mt_append (pv 15) (pa_cons (pe_tup (pa_cons pe_str (pa_cons (pe_tup (pa_cons (pe_op op_mulA (pe_ix ix_seq (pv 9) pe_int (fun _ _ => rfl)) pe_int) (pa_cons (pe_op op_mulA (pe_ix ix_seq (pv 9) pe_int (fun _ _ => rfl)) pe_int) pa_nil))) (pa_cons (pe_tup (pa_cons (pv 5) (pa_cons (pe_tupleF (by rfl) T.n_tuple (pe_lc (own := [("_law_v", 14)]) (g := gName 14) (by rfl) sc_law.nd (pi_tup (pv 7)) (blkOk_by (own := [("_law_v", 14)]) (N := ["_law_script", "_law_hand_here", "_law_shut", "_law_many", "_law_size", "_law_weights", "_law_k", "_law_speeds", "_law_row", "_law_x", "_law_small", "_law_others", "_law_odd", "_law_turned", "_law_v", "_law_due", "_law_y", "_law_new", "_law_name", "_law_given", "_law_answer"]) (sc := defScope s_law) (by decide +kernel)) (fun _ _ _ _ _ => pg_name (i := 14) sc_law.nd rfl (by first | exact Or.inl rfl | exact Or.inr rfl)) (fun _ _ _ _ _ => pts_nil) (fun _ _ _ _ _ => (pe_df D__law_mul (hr.mono (by decide)) takesF (pa_cons (pv 14) (pa_cons (pv 9) pa_nil)))))) (pa_cons (pv 2) pa_nil)))) pa_nil)))) pa_nil))) (pss_cons (ps_expr (pe_bm PySem.F.plainAttrs_list PySem.F.slot_list_append PySem.F.type_list_append mt_append (pv 15) (pa_cons (pe_tup (pa_cons pe_str (pa_cons (pe_ix ix_seq (pv 9) pe_int (fun _ _ => rfl)) (pa_cons (pe_tup (pa_cons (pv 5) (pa_cons (pe_tupleF (by rfl) T.n_tuple (pe_lc (own := [("_law_v", 14)]) (g := gName 14) (by rfl) sc_law.nd (pi_tup (pv 7)) (blkOk_by (own := [("_law_v", 14)]) (N := ["_law_script", "_law_hand_here", "_law_shut", "_law_many", "_law_size", "_law_weights", "_law_k", "_law_speeds", "_law_row", "_law_x", "_law_small", "_law_others", "_law_odd", "_law_turned", "_law_v", "_law_due", "_law_y", "_law_new", "_law_name", "_law_given", "_law_answer"]) (sc := defScope s_law) (by decide +kernel)) (fun _ _ _ _ _ => pg_name (i := 14) sc_law.nd rfl (by first | exact Or.inl rfl | exact Or.inr rfl)) (fun _ _ _ _ _ => pts_nil) (fun _ _ _ _ _ => (pe_df D__law_mul (hr.mono (by decide)) takesF (pa_cons (pv 14) (pa_cons (pe_tup (pa_cons (pe_ix ix_seqB (pv 9) pe_int (fun _ _ => rfl)) (pa_cons pe_int pa_nil))) pa_nil)))))) (pa_cons (pv 2) pa_nil)))) pa_nil)))) pa_nil))) (pss_cons (ps_expr (pe_bm PySem.F.plainAttrs_list PySem.F.slot_list_append PySem.F.type_list_append mt_append (pv 15) (pa_cons (pe_tup (pa_cons pe_str (pa_cons pe_int (pa_cons (pe_tup (pa_cons (pv 5) (pa_cons (pv 7) (pa_cons (pv 2) pa_nil)))) pa_nil)))) pa_nil))) (pss_cons (ps_expr (pe_bm PySem.F.plainAttrs_list PySem.F.slot_list_append PySem.F.type_list_append mt_append (pv 15) (pa_cons (pe_tup (pa_cons pe_str (pa_cons (pe_tup (pa_cons pe_int (pa_cons pe_int pa_nil))) (pa_cons (pe_tup (pa_cons (pv 5) (pa_cons (pv 7) (pa_cons (pv 2) pa_nil)))) pa_nil)))) pa_nil))) (pss_cons (ps_expr (pe_bm PySem.F.plainAttrs_list PySem.F.slot_list_append PySem.F.type_list_append mt_append (pv 15) (pa_cons (pe_tup (pa_cons pe_str (pa_cons (pv 12) (pa_cons pe_str pa_nil)))) pa_nil))) (pss_cons (ps_expr (pe_bm PySem.F.plainAttrs_list PySem.F.slot_list_append PySem.F.type_list_append mt_append (pv 15) (pa_cons (pe_tup (pa_cons pe_str (pa_cons (pv 12) (pa_cons pe_str pa_nil)))) pa_nil))) (pss_cons (ps_for (passes_of rfl) rfl (pi_list (pe_lst (pa_cons (pv 9) (pa_cons (pv 10) (pa_cons (pe_tup (pa_cons (pv 4) (pa_cons pe_int pa_nil))) (pa_cons (pe_tup (pa_cons pe_int (pa_cons (pv 4) pa_nil))) (pa_cons (pe_tup (pa_cons pe_int (pa_cons pe_int pa_nil))) pa_nil))))))) (pg_name (i := 16) sc_law.nd rfl (by first | exact Or.inl rfl | exact Or.inr rfl)) (pss_cons (ps_set (i := 17) sc_law.nd rfl (by first | exact Or.inl rfl | exact Or.inr rfl) (pe_df D__law_heavier (hr.mono (by decide)) (L2N.takes_of rfl rfl rfl rfl) (pa_cons (pv 5) (pa_cons (pv 16) pa_nil)))) (pss_one (ps_expr (pe_bm PySem.F.plainAttrs_list PySem.F.slot_list_append PySem.F.type_list_append mt_append (pv 15) (pa_cons (pe_tup (pa_cons pe_str (pa_cons (pv 16) (pa_cons (pe_ifExp (pt_val (pe_callB call_isi (by rfl) T.n_isinstance (by decide +kernel) (pa_cons (pv 17) (pa_cons (pe_bltn (v := .ty "tuple") (by rfl) T.n_tuple (by decide +kernel) rfl) pa_nil)))) (pe_tup (pa_cons (pv 17) (pa_cons (pv 7) (pa_cons (pv 2) pa_nil)))) (pv 17)) pa_nil)))) pa_nil)))))) (pss_cons (ps_expr (pe_bm PySem.F.plainAttrs_list PySem.F.slot_list_append PySem.F.type_list_append mt_append (pv 15) (pa_cons (pe_tup (pa_cons pe_str (pa_cons (pe_op op_addA (pv 11) (pe_lst (pa_cons pe_int pa_nil))) (pa_cons (pe_lst (pa_cons pe_int (pa_cons pe_str pa_nil))) pa_nil)))) pa_nil))) (pss_cons (ps_expr (pe_bm PySem.F.plainAttrs_list PySem.F.slot_list_append PySem.F.type_list_append mt_append (pv 15) (pa_cons (pe_tup (pa_cons pe_str (pa_cons (pe_op op_addA (pe_slice sl_list (pv 11) po_none (po_some (pe_un un_neg pe_int))) (pe_lst (pa_cons (pv 12) pa_nil))) (pa_cons (pe_lst (pa_cons (pe_op op_sub (pv 3) pe_int) (pa_cons pe_str pa_nil))) pa_nil)))) pa_nil))) (pss_cons (ps_if (pt_truth (pv 2) (fun _ => rfl)) (pss_one (ps_set (i := 15) sc_law.nd rfl (by first | exact Or.inl rfl | exact Or.inr rfl) (pe_op op_addA (pv 15) (pe_lst (pa_cons (pe_tup (pa_cons pe_str (pa_cons pe_non (pa_cons pe_str pa_nil)))) (pa_cons (pe_tup (pa_cons pe_str (pa_cons (pv 9) (pa_cons pe_str pa_nil)))) (pa_cons (pe_tup (pa_cons pe_str (pa_cons (pv 12) (pa_cons pe_str pa_nil)))) pa_nil))))))) (pss_cons (ps_expr (pe_bm PySem.F.plainAttrs_list PySem.F.slot_list_append PySem.F.type_list_append mt_append (pv 15) (pa_cons (pe_tup (pa_cons pe_str (pa_cons pe_non (pa_cons (pe_tup (pa_cons (pe_revT (pv 5)) (pa_cons (pe_revT (pv 13)) (pa_cons pe_bl pa_nil)))) pa_nil)))) pa_nil))) (pss_cons (ps_expr (pe_bm PySem.F.plainAttrs_list PySem.F.slot_list_append PySem.F.type_list_append mt_append (pv 15) (pa_cons (pe_tup (pa_cons pe_str (pa_cons (pv 9) (pa_cons (pe_tup (pa_cons (pv 5) (pa_cons (pe_tupleF (by rfl) T.n_tuple (pe_lc (own := [("_law_v", 14)]) (g := gName 14) (by rfl) sc_law.nd (pi_tup (pv 7)) (blkOk_by (own := [("_law_v", 14)]) (N := ["_law_script", "_law_hand_here", "_law_shut", "_law_many", "_law_size", "_law_weights", "_law_k", "_law_speeds", "_law_row", "_law_x", "_law_small", "_law_others", "_law_odd", "_law_turned", "_law_v", "_law_due", "_law_y", "_law_new", "_law_name", "_law_given", "_law_answer"]) (sc := defScope s_law) (by decide +kernel)) (fun _ _ _ _ _ => pg_name (i := 14) sc_law.nd rfl (by first | exact Or.inl rfl | exact Or.inr rfl)) (fun _ _ _ _ _ => pts_nil) (fun _ _ _ _ _ => (pe_df D__law_add (hr.mono (by decide)) takesF (pa_cons (pv 14) (pa_cons (pv 9) pa_nil)))))) (pa_cons pe_bl pa_nil)))) pa_nil)))) pa_nil))) (pss_cons (ps_expr (pe_bm PySem.F.plainAttrs_list PySem.F.slot_list_append PySem.F.type_list_append mt_append (pv 15) (pa_cons (pe_tup (pa_cons pe_str (pa_cons (pe_ix ix_seq (pv 9) pe_int (fun _ _ => rfl)) (pa_cons (pe_tup (pa_cons (pv 5) (pa_cons (pe_tupleF (by rfl) T.n_tuple (pe_lc (own := [("_law_v", 14)]) (g := gName 14) (by rfl) sc_law.nd (pi_tup (pv 7)) (blkOk_by (own := [("_law_v", 14)]) (N := ["_law_script", "_law_hand_here", "_law_shut", "_law_many", "_law_size", "_law_weights", "_law_k", "_law_speeds", "_law_row", "_law_x", "_law_small", "_law_others", "_law_odd", "_law_turned", "_law_v", "_law_due", "_law_y", "_law_new", "_law_name", "_law_given", "_law_answer"]) (sc := defScope s_law) (by decide +kernel)) (fun _ _ _ _ _ => pg_name (i := 14) sc_law.nd rfl (by first | exact Or.inl rfl | exact Or.inr rfl)) (fun _ _ _ _ _ => pts_nil) (fun _ _ _ _ _ => (pe_df D__law_add (hr.mono (by decide)) takesF (pa_cons (pv 14) (pa_cons (pe_tup (pa_cons (pe_ix ix_seqB (pv 9) pe_int (fun _ _ => rfl)) (pa_cons pe_int pa_nil))) pa_nil)))))) (pa_cons pe_bl pa_nil)))) pa_nil)))) pa_nil))) (pss_one (ps_expr (pe_bm PySem.F.plainAttrs_list PySem.F.slot_list_append PySem.F.type_list_append mt_append (pv 15) (pa_cons (pe_tup (pa_cons pe_str (pa_cons (pv 12) (pa_cons pe_str pa_nil)))) pa_nil)))))))) (pss_cons (ps_for (passes_of rfl) rfl (pi_list (pe_op op_addA (pv 15) (pv 15))) (pg_tup rfl (pgs_cons (pg_name (i := 18) sc_law.nd rfl (by first | exact Or.inl rfl | exact Or.inr rfl)) (pgs_cons (pg_name (i := 19) sc_law.nd rfl (by first | exact Or.inl rfl | exact Or.inr rfl)) (pgs_cons (pg_name (i := 20) sc_law.nd rfl (by first | exact Or.inl rfl | exact Or.inr rfl)) pgs_nil)))) (pss_one (ps_if (pt_cmpR (op_neA hr.units) (pe_df D__law_tried (hr.mono (by decide)) (L2N.takes_of rfl rfl rfl rfl) (pa_cons (pv 8) (pa_cons (pv 18) (pa_cons (pv 19) pa_nil)))) (pv 20) (nomark _)) (pss_one (ps_ret pe_bl)) pss_nil))) (pss_one (ps_ret (pe_and (pe_cmpR (op_eqInX D_Row_eq (hr.mono (by decide))) (pv 8) (pe_mk D_Row_3 (hr.mono (by decide)) (L2N.takes_of rfl rfl rfl rfl) (pa_cons (pv 5) (pa_cons (pv 7) (pa_cons (pv 2) pa_nil)))) (nomark _)) (pe_one (pe_df D__law_led (hr.mono (by decide)) (L2N.takes_of rfl rfl rfl rfl) (pa_cons (pv 8) (pa_cons (pv 5) (pa_cons (pv 7) (pa_cons (pv 2) (pa_cons (pv 9) pa_nil))))))))))))))))))))))))))))))))))))), fun ns c => ⟨Dead, ?_, fun _ _ h => (dead h).elim⟩⟩)
  have hl : ns.length ≤ 63 := c
  show St (RsW WL E NoX 21) [some (Lst K (ns.map fun n => Is (.int n))), none, none, none, none, none, none, none, none, none, none, none, none, none, none, none, none, none, none, none, none] _ Dead (Is (.bl true))
  have eqz : ∀ {G : Ctx} {te : TE} {lo hi : Int}, MnC WL G → Ev (RsW WL E NoX 21) G te (Rng lo hi) → EvU (RsW WL E NoX 21) G (tTest (tOp (rEqA K) te (tC (.int 0)))) := fun g h => eu_test (ev_op h ev_c o_eqR)
  refine st_seq (st_set (ev_call (ea_cons (ev_var rfl) ea_nil) (cl_hand hl))) ?_
  refine st_seq (st_set (P := Boo) (ev_op (ev_call (ea_cons (ev_var rfl) (ea_cons ev_c ea_nil)) (cl_draw (m := 3) (by decide) (big300 (by decide)))) ev_c o_eqR)) ?_
  refine st_open 2 rfl fun b _ => ?_
  refine st_seq (st_set (P := Rng 2 7) (ev_op ev_c (ev_call (ea_cons (ev_var rfl) (ea_cons ev_c ea_nil)) (cl_draw (m := 5) (by decide) (big300 (by decide)))) o_addLR)) ?_
  refine st_seq (M := [some (Lst K (ns.map fun n => Is (.int n))), some Hand, some (Is (.bl b)), some (Rng 2 41), none, none, none, none, none, none, none, none, none, none, none, none, none, none, none, none, none]) (st_ifU (eu_test (ev_op (ev_call (ea_cons (ev_var rfl) (ea_cons ev_c ea_nil)) (cl_draw (m := 8) (by decide) (big300 (by decide)))) ev_c o_eqR)) (st_set (Ev.sub ev_c fun v H e => ⟨40, by decide, e⟩)) (st_post st_next (sub_keep (sub_keep (sub_keep (sub_imp (fun v H ⟨i, h, e⟩ => ⟨i, by omega, e⟩) sub_refl)))) (fun _ _ h => h))) ?_
  refine st_seq (M := [some (Lst K (ns.map fun n => Is (.int n))), some Hand, some (Is (.bl b)), some (Rng (if b then 1 else 2) 41), none, none, none, none, none, none, none, none, none, none, none, none, none, none, none, none, none]) ?_ ?_
  · cases b with
    | false => exact st_if (b := false) (EvT.to (et_and (b := false) (et_truB (ev_var rfl)) (fun h => by cases h)) rfl) (fun h => by cases h) (fun _ => st_next)
    | true => exact st_ifU (eu_and (et_truB (ev_var rfl)) (eu_test (ev_op (ev_call (ea_cons (ev_var rfl) (ea_cons ev_c ea_nil)) (cl_draw (m := 3) (by decide) (big300 (by decide)))) ev_c o_eqR))) (st_set (Ev.sub ev_c fun v H e => ⟨1, by decide, e⟩)) (st_post st_next (sub_keep (sub_keep (sub_keep (sub_imp (fun v H ⟨i, h, e⟩ => ⟨i, by simp; omega, e⟩) sub_refl)))) (fun _ _ h => h))
  refine st_open 3 rfl fun m hm => ?_
  have hm0 : 0 ≤ m ∧ m ≤ 40 := by cases b <;> simp at hm <;> omega
  refine st_seq (st_set (P := Rng 1 5) (ev_op ev_c (ev_call (ea_cons (ev_var rfl) (ea_cons ev_c ea_nil)) (cl_draw (m := 4) (by decide) (big300 (by decide)))) o_addLR)) ?_
  refine st_open 4 rfl fun z hz => ?_
  refine st_seq (st_set (P := WsP m.toNat) (Ev.sub (ev_tupF (Ps := each m.toNat fun _ => Rng 1 10) (Ev.sub (P := New (each m.toNat fun _ => Rng 1 10)) ?_ fun _ _ h => own_lst (new_own (fun _ _ _ => True.intro) h))) fun _ _ h => ws_of h)) ?_
  · refine ev_lc (Y := RsW WL E NoX 21) (ei_range1 (Y := RsW WL E NoX 21) (ea_cons (Y := RsW WL E NoX 21) (ev_var rfl) ea_nil) (by omega)) (by omega) (fun i => inferInstance) (fun i => inferInstance) (fun i hi => ?_) (fun _ _ _ _ _ => True.intro)
    have hz' := hz
    rcases four hz with e | e | e | e <;> subst e
    · exact ev_op (ev_var rfl) (ev_op ev_c (ev_call (ea_cons (ev_var rfl) (ea_cons (P1 := Is (.int 9)) (Ev.to (ev_op ev_c (ev_var rfl) (o_fd (n := 3) (by decide) (big_of (by decide) (by decide)) (by decide))) (by decide)) ea_nil)) (cl_draw (m := 9) (by decide) (big300 (by decide)))) o_addLR) (o_mulZ hz' (by decide) (by decide) (by decide))
    · exact ev_op (ev_var rfl) (ev_op ev_c (ev_call (ea_cons (ev_var rfl) (ea_cons (P1 := Is (.int 4)) (Ev.to (ev_op ev_c (ev_var rfl) (o_fd (n := 3) (by decide) (big_of (by decide) (by decide)) (by decide))) (by decide)) ea_nil)) (cl_draw (m := 4) (by decide) (big300 (by decide)))) o_addLR) (o_mulZ hz' (by decide) (by decide) (by decide))
    · exact ev_op (ev_var rfl) (ev_op ev_c (ev_call (ea_cons (ev_var rfl) (ea_cons (P1 := Is (.int 3)) (Ev.to (ev_op ev_c (ev_var rfl) (o_fd (n := 3) (by decide) (big_of (by decide) (by decide)) (by decide))) (by decide)) ea_nil)) (cl_draw (m := 3) (by decide) (big300 (by decide)))) o_addLR) (o_mulZ hz' (by decide) (by decide) (by decide))
    · exact ev_op (ev_var rfl) (ev_op ev_c (ev_call (ea_cons (ev_var rfl) (ea_cons (P1 := Is (.int 2)) (Ev.to (ev_op ev_c (ev_var rfl) (o_fd (n := 3) (by decide) (big_of (by decide) (by decide)) (by decide))) (by decide)) ea_nil)) (cl_draw (m := 2) (by decide) (big300 (by decide)))) o_addLR) (o_mulZ hz' (by decide) (by decide) (by decide))
  refine st_open 5 rfl fun ws cw => ?_
  have rat : ∀ {G : Ctx} {E1 : L2.St → XK} [MnC WL G], G[1]? = some (some Hand) → Ev (RsW WL E NoX 21) G (tCallS (SpW WL (fun _ : Unit => True) fun _ => ⟨[Hand], RatioP K, NoX⟩) E1 (tCons (tVar 1) tNil)) (RatioP K) := fun {G E1} _ g => ev_call (ea_cons (ev_var g) ea_nil) (cl_of (W := WL) (C := fun _ : Unit => True) (f := fun _ => ⟨[Hand], RatioP K, NoX⟩) () True.intro)
  refine st_seq (st_set (P := SqP K m.toNat) (Ev.sub (ev_tupF (Ps := each m.toNat fun _ => RatioP K) (Ev.sub (P := New (each m.toNat fun _ => RatioP K)) ?_ fun _ _ h => own_lst (new_own (fun _ _ _ => True.intro) h))) fun _ _ h => sq_of h)) ?_
  · refine ev_lc (Y := RsW WL E NoX 21) (ei_range1 (Y := RsW WL E NoX 21) (ea_cons (Y := RsW WL E NoX 21) (ev_var rfl) ea_nil) (by omega)) (by omega) (fun i => inferInstance) (fun i => inferInstance) (fun i hi => ?_) (fun _ _ _ _ _ => True.intro)
    exact rat rfl
  refine st_open 7 rfl fun qs cq => ?_
  have hbb : B67 ⟨ws, qs, b⟩ := ⟨by show qs.length = ws.length; rw [cq.1, cw.1], by show (if b then 1 else 2) ≤ ws.length; rw [cw.1]; cases b <;> simp at hm ⊢ <;> omega, by show ws.length ≤ 40; rw [cw.1]; omega, cw.2, cq.2⟩
  obtain ⟨r, hr0⟩ : ∃ r : RowT, r = ⟨ws, qs, b⟩ := ⟨_, rfl⟩
  rw [← hr0] at hbb
  obtain ⟨n', d', cg⟩ := RG.of hbb.rg .L .L
  have mkrow : ∀ {G : Ctx} {E1 : L2.St → XK} {tw tq tb : TE} [MnC WL G], Ev (RsW WL E NoX 21) G tw (Own (intPs r.ws)) → Ev (RsW WL E NoX 21) G tq (Own (toldPs K r.qs)) → Ev (RsW WL E NoX 21) G tb (Is (.bl r.b)) → Ev (RsW WL E NoX 21) G (tMakeS CX.Row (SpI CX.Row okRow (rowW K CX)) [] E1 (tCons tw (tCons tq (tCons tb tNil)))) (r.pr K CX) := fun {G E1 tw tq tb} _ h1 h2 h3 =>
    ev_mk (f := rowW K CX) (Ps := [Lst K (intPs r.ws), Lst K (ratPs K 8000 r.qs), Is (.bl r.b)]) (RowI.good ⟨.L, .L, r.ws, n', d', 8000, r.qs, r.b⟩) cg (fun vs H h => by rw [List.append_nil]; exact h) (ea_cons (Ev.sub h1 fun v H h => own_lst h) (ea_cons (Ev.sub h2 fun v H h => told_rat (rg_den hbb.rg) (own_lst h)) (ea_cons h3 ea_nil))) (fun _ _ _ h => h)
  have ew : r.ws = ws := by rw [hr0]
  have eq0 : r.qs = qs := by rw [hr0]
  have eb : r.b = b := by rw [hr0]
  rw [← ew, ← eq0, ← eb]
  refine st_seq (st_set (P := r.pr K CX) (mkrow (ev_cb (ea_cons (P1 := Tup K (intPs r.ws)) (Ev.sub (ev_var rfl) fun v H z => tupN_tup z) ea_nil) (opA_lstT fun _ _ _ => True.intro)) (ev_cb (ea_cons (P1 := Tup K (toldPs K r.qs)) (Ev.sub (ev_var rfl) fun v H z => tupN_tup z) ea_nil) (opA_lstT fun _ _ _ => True.intro)) (ev_var rfl))) ?_
  refine st_seq (st_set (P := RatioP K) (rat rfl)) ?_
  refine st_open 9 rfl fun x hx => ?_
  have d14 : ∀ {G : Ctx} {E1 : L2.St → XK} [MnC WL G], G[1]? = some (some Hand) → Ev (RsW WL E NoX 21) G (tOp (rAddA K) (tC (.int 1)) (tCallS sp_draw E1 (tCons (tVar 1) (tCons (tC (.int 4)) tNil)))) (Rng 1 5) := fun {G E1} _ g => ev_op ev_c (ev_call (ea_cons (ev_var g) (ea_cons ev_c ea_nil)) (cl_draw (m := 4) (by decide) (big300 (by decide)))) o_addLR
  refine st_seq (st_set (P := RatioP K) (ev_call (Ps := [Rng 1 5, Rng 1 5]) (ea_cons (d14 rfl) (ea_cons (d14 rfl) ea_nil)) ?_)) ?_
  · intro vs H1 al Q1 E1 q1 e1
    obtain ⟨u, y, rfl, ⟨i, hi, a1⟩, j, hj, a2⟩ := allp2 al
    exact cl_low (K := K) (t := i) (b := j) (W := WL) (by omega) (big_mono (n := 67) (big_of (by omega) (by omega)) (by decide)) [u, y] H1 ⟨a1, a2, True.intro⟩ Q1 E1 (fun v H2 w2 h => q1 v H2 w2 ⟨_, sz2_divInt (by omega) (big_of (by omega) (by omega)) (big_of (by omega) (by omega)), h⟩) e1
  refine st_open 10 rfl fun sm hsm => ?_
  refine st_seq (st_set (P := RatsP K m.toNat) (Ev.sub (P := New (each m.toNat fun _ => RatioP K)) ?_ fun _ _ h => rats_of h)) ?_
  · refine ev_lc (Y := RsW WL E NoX 21) (ei_range1 (Y := RsW WL E NoX 21) (ea_cons (Y := RsW WL E NoX 21) (ev_var rfl) ea_nil) (by omega)) (by omega) (fun i => inferInstance) (fun i => inferInstance) (fun i hi => ?_) (fun _ _ _ _ _ => True.intro)
    exact rat rfl
  refine st_open 11 rfl fun os co => ?_
  refine st_seq (st_set (P := Some (fun i : Nat => i < 5) fun i => Dv K (menu4.getD i .non)) (ev_op (P1 := Dv K (.lst menu4)) (P2 := Rng 0 5) (ev_dlst (Y := RsW WL E NoX 21) (ds := menu4) (hl := by show (5 : Nat) ≤ 100000; decide) (ea_d (Y := RsW WL E NoX 21) (d := .non) ev_c (ea_d (Y := RsW WL E NoX 21) (d := .bl true) ev_c (ea_d (Y := RsW WL E NoX 21) (d := .str "1") ev_c (ea_d (Y := RsW WL E NoX 21) (d := .tup [.int 1, .int 0]) (ev_dtup (Y := RsW WL E NoX 21) (ea_d (d := .int 1) ev_c (ea_d (d := .int 0) ev_c ea_d0))) (ea_d (Y := RsW WL E NoX 21) (d := .lst [.int 1, .int 2]) (ev_dlst (Y := RsW WL E NoX 21) (ea_d (d := .int 1) ev_c (ea_d (d := .int 2) ev_c ea_d0))) (ea_d0 (Y := RsW WL E NoX 21))))))))
    (ev_call (ea_cons (ev_var rfl) (ea_cons ev_c ea_nil)) (cl_draw (m := 5) (by decide) (big300 (by decide)))) (op2_some2 fun i hi => op2_sub (o_ixO ⟨hi.1, hi.2⟩) fun v H h => ⟨i.toNat, by omega, h⟩))) ?_
  refine st_open 12 rfl fun j hj => ?_
  obtain ⟨o, ho⟩ : ∃ o, o = menu4.getD j .non := ⟨_, rfl⟩
  rw [← ho]
  have lw : ws.length = m.toNat := cw.1
  have lr : r.ws.length = m.toNat := by rw [ew]; exact cw.1
  exact law_rest (E := E) T ⟨ns, r, m, z, x, sm, os, o⟩ ⟨hbb, by show m = (r.ws.length : Int); rw [lr]; omega, hz, hx, hsm, by show os.length = r.ws.length; rw [lr]; exact co.1, co.2, ⟨j, hj, ho⟩⟩
end
end U

namespace U
open PySem PySem.Spec PyProof.Rows L2
/-! ### all defs -/
theorem all_mk0 {P : Program} {w : World} {K : PySem.W.Frag} {h : Heap} {mg : Str → Option Value} {fa : Addr} {CX : Addrs} (X : K.In h) (G : h.Ns mainGlobals mg) (hfa : mg "law" = some (.ref fa))
    (H_is_whole : HasFn K "is_whole" s_is_whole)
    (H_is_ratio : HasFn K "is_ratio" s_is_ratio)
    (H_lowest_terms : HasFn K "lowest_terms" s_lowest_terms)
    (H_ratio_of : HasFn K "ratio_of" s_ratio_of)
    (H_plus : HasFn K "plus" s_plus)
    (H_times : HasFn K "times" s_times)
    (H__check_balls : HasFn K "_check_balls" s__check_balls)
    (H__sum_of : HasFn K "_sum_of" s__sum_of)
    (H__law_mix : HasFn K "_law_mix" s__law_mix)
    (H__law_hand : HasFn K "_law_hand" s__law_hand)
    (H__law_draw : HasFn K "_law_draw" s__law_draw)
    (H__law_low : HasFn K "_law_low" s__law_low)
    (H__law_add : HasFn K "_law_add" s__law_add)
    (H__law_mul : HasFn K "_law_mul" s__law_mul)
    (H__law_ratio : HasFn K "_law_ratio" s__law_ratio)
    (H__law_heavier : HasFn K "_law_heavier" s__law_heavier)
    (H__law_sums : HasFn K "_law_sums" s__law_sums)
    (H__law_tried : HasFn K "_law_tried" s__law_tried)
    (H__law_led : HasFn K "_law_led" s__law_led)
    (H_law : HasFn K "law" s_law)
    (CK : ClK K "Row" CX.Row) (I0 : ∃ f fd, InK K CX.Row "Row.__init__" s_Row___init__ [.bl false] f fd) (M_eq : ∃ f fd, MeK K CX.Row "__eq__" "Row.__eq__" s_Row___eq__ f fd) (M_with_speeds : ∃ f fd, MeK K CX.Row "with_speeds" "Row.with_speeds" s_Row_with_speeds f fd) (M_quicker : ∃ f fd, MeK K CX.Row "quicker" "Row.quicker" s_Row_quicker f fd) (M_turned : ∃ f fd, MeK K CX.Row "turned" "Row.turned" s_Row_turned f fd) (M_mirrored : ∃ f fd, MeK K CX.Row "mirrored" "Row.mirrored" s_Row_mirrored f fd) (M_hurried : ∃ f fd, MeK K CX.Row "hurried" "Row.hurried" s_Row_hurried f fd) (M_heavier : ∃ f fd, MeK K CX.Row "heavier" "Row.heavier" s_Row_heavier f fd)
    (T : Txt P w K mg CX) : ∃ fd : FuncData, (∀ (s : Shared) (v : Value), BindsTo s fd ⟨[v], []⟩ [("_law_script", v)]) ∧ ∀ base : Heap, K.In base → base.Ns mainGlobals mg → FnOk P w K mg base (L2N.CX P w) 12 fa fd ["_law_script"] (sp_law K) := by
  obtain ⟨f, fd, a, F⟩ := H_law
  have e := hfa.symm.trans (PySem.W.mg_of X G a)
  cases e
  refine ⟨fd, ?_, fun base _ _ => ?_⟩
  · obtain ⟨oc, od, kV, doc, pm, an, cdv, ct, osl, rfl, lk, hcd⟩ := F.ex
    exact fun s v => .of_eq rfl
  have D_is_whole := has_df (P := P) (w := w) (base := base) H_is_whole X G (fun f fd F => ok_is_whole F T) (fun _ _ _ _ _ _ us hl => match us, hl with | [_], _ => rfl)
  have D_is_ratio := has_df (P := P) (w := w) (base := base) H_is_ratio X G (fun f fd F => ok_is_ratio F T D_is_whole) (fun _ _ _ _ _ _ us hl => match us, hl with | [_], _ => rfl)
  have D_lowest_terms := has_df (P := P) (w := w) (base := base) H_lowest_terms X G (fun f fd F => ok_lowest_terms F T) (fun _ _ _ _ _ _ us hl => match us, hl with | [_, _], _ => rfl)
  have D_ratio_of := has_df (P := P) (w := w) (base := base) H_ratio_of X G (fun f fd F => ok_ratio_of F T D_is_ratio D_lowest_terms) (fun _ _ _ _ _ _ us hl => match us, hl with | [_], _ => rfl)
  have D_plus := has_df (P := P) (w := w) (base := base) H_plus X G (fun f fd F => ok_plus F D_ratio_of D_lowest_terms) (fun _ _ _ _ _ _ us hl => match us, hl with | [_, _], _ => rfl)
  have D_times := has_df (P := P) (w := w) (base := base) H_times X G (fun f fd F => ok_times F D_ratio_of D_lowest_terms) (fun _ _ _ _ _ _ us hl => match us, hl with | [_, _], _ => rfl)
  have D__check_balls := has_df (P := P) (w := w) (base := base) H__check_balls X G (fun f fd F => ok_check F T D_is_whole D_is_ratio) (fun _ _ _ _ _ _ us hl => match us, hl with | [_, _, _], _ => rfl)
  have D__sum_of := has_df (P := P) (w := w) (base := base) H__sum_of X G (fun f fd F => ok_sum_of F D_plus) (fun _ _ _ _ _ _ us hl => match us, hl with | [_], _ => rfl)
  obtain ⟨f0, fd0, i0⟩ := I0
  have F0 := ok_Row (P := P) (w := w) (base := base) i0.F T D__check_balls D_ratio_of D_times D__sum_of
  have MK : Mk K CX.Row f0 := ⟨CK.mks, i0.at_, i0.fn, CK.kc⟩
  have D_Row_3 : DkD P w K mg base 6 "Row" CX.Row ["self", "weights", "speeds", "wall"] [] (SpI CX.Row okRow (rowW K CX)) := by
    obtain ⟨ds, r, b⟩ := i0.F.binds1 (ps := ["self", "weights", "speeds", "wall"]) 4 1 (by simp) (by rfl) (fun T kV doc pm an cdv ct us its hu hi => by
      match us, its, hu, hi with
      | [_, _, _, _], [_], _, _ => exact ⟨_, rfl, rfl⟩)
    cases r
    exact ⟨⟨f0, fd0, [], F0, MK, b, .nil⟩, PySem.W.mg_of X G CK.gC⟩
  have D_Row_2 : DkD P w K mg base 6 "Row" CX.Row ["self", "weights", "speeds", "wall"] [.bl false] (SpI CX.Row okRow (rowW K CX)) := by
    obtain ⟨ds, r, b⟩ := i0.F.binds1 (ps := ["self", "weights", "speeds", "wall"]) 3 0 (by simp) (by rfl) (fun T kV doc pm an cdv ct us its hu hi => by
      match us, its, hu, hi with
      | [_, _, _], [_], _, _ => exact ⟨_, rfl, rfl⟩)
    exact ⟨⟨f0, fd0, ds, F0, MK, b, r⟩, PySem.W.mg_of X G CK.gC⟩
  obtain ⟨f_eq, fd_eq, m_eq⟩ := M_eq
  have D_Row_eq : DmE P w K mg base 1 CX.Row "__eq__" ["self", "other"] (sp_eq K CX) := ⟨⟨f_eq, fd_eq, ok_eq m_eq.F T, m_eq.at_, m_eq.fn, m_eq.F.binds fun _ _ _ _ _ _ us hl => match us, hl with | [_, _], _ => rfl⟩⟩
  obtain ⟨f_with_speeds, fd_with_speeds, m_with_speeds⟩ := M_with_speeds
  have D_Row_with_speeds : Dm P w K mg base 8 CX.Row "with_speeds" ["self", "speeds"] (sp_ws K CX) := ⟨⟨f_with_speeds, fd_with_speeds, ok_ws m_with_speeds.F T D_Row_3, ⟨m_with_speeds.at_, m_with_speeds.fn, m_with_speeds.F.kp⟩, m_with_speeds.F.binds fun _ _ _ _ _ _ us hl => match us, hl with | [_, _], _ => rfl⟩, CK.cls⟩
  obtain ⟨f_quicker, fd_quicker, m_quicker⟩ := M_quicker
  have D_Row_quicker : Dm P w K mg base 9 CX.Row "quicker" ["self", "factor"] (sp_qk K CX) := ⟨⟨f_quicker, fd_quicker, ok_qk m_quicker.F T D_ratio_of D_times D_Row_with_speeds, ⟨m_quicker.at_, m_quicker.fn, m_quicker.F.kp⟩, m_quicker.F.binds fun _ _ _ _ _ _ us hl => match us, hl with | [_, _], _ => rfl⟩, CK.cls⟩
  obtain ⟨f_turned, fd_turned, m_turned⟩ := M_turned
  have D_Row_turned : Dm P w K mg base 10 CX.Row "turned" ["self"] (sp_tn K CX) := ⟨⟨f_turned, fd_turned, ok_tn m_turned.F T D_Row_quicker, ⟨m_turned.at_, m_turned.fn, m_turned.F.kp⟩, m_turned.F.binds fun _ _ _ _ _ _ us hl => match us, hl with | [_], _ => rfl⟩, CK.cls⟩
  obtain ⟨f_mirrored, fd_mirrored, m_mirrored⟩ := M_mirrored
  have D_Row_mirrored : Dm P w K mg base 8 CX.Row "mirrored" ["self"] (sp_mi K CX) := ⟨⟨f_mirrored, fd_mirrored, ok_mi m_mirrored.F T D_times D_Row_2, ⟨m_mirrored.at_, m_mirrored.fn, m_mirrored.F.kp⟩, m_mirrored.F.binds fun _ _ _ _ _ _ us hl => match us, hl with | [_], _ => rfl⟩, CK.cls⟩
  obtain ⟨f_hurried, fd_hurried, m_hurried⟩ := M_hurried
  have D_Row_hurried : Dm P w K mg base 9 CX.Row "hurried" ["self", "more"] (sp_hu K CX) := ⟨⟨f_hurried, fd_hurried, ok_hu m_hurried.F T D_ratio_of D_plus D_Row_with_speeds, ⟨m_hurried.at_, m_hurried.fn, m_hurried.F.kp⟩, m_hurried.F.binds fun _ _ _ _ _ _ us hl => match us, hl with | [_, _], _ => rfl⟩, CK.cls⟩
  obtain ⟨f_heavier, fd_heavier, m_heavier⟩ := M_heavier
  have D_Row_heavier : Dm P w K mg base 8 CX.Row "heavier" ["self", "factor"] (sp_hv K CX) := ⟨⟨f_heavier, fd_heavier, ok_hv m_heavier.F T D_ratio_of D_times D_Row_3, ⟨m_heavier.at_, m_heavier.fn, m_heavier.F.kp⟩, m_heavier.F.binds fun _ _ _ _ _ _ us hl => match us, hl with | [_, _], _ => rfl⟩, CK.cls⟩
  have D__law_mix := has_df (P := P) (w := w) (base := base) H__law_mix X G (fun f fd F => ok_mix F T) (fun _ _ _ _ _ _ us hl => match us, hl with | [_, _], _ => rfl)
  have D__law_hand := has_df (P := P) (w := w) (base := base) H__law_hand X G (fun f fd F => ok_hand F T) (fun _ _ _ _ _ _ us hl => match us, hl with | [_], _ => rfl)
  have D__law_draw := has_df (P := P) (w := w) (base := base) H__law_draw X G (fun f fd F => ok_draw F T D__law_mix) (fun _ _ _ _ _ _ us hl => match us, hl with | [_, _], _ => rfl)
  have D__law_low := has_df (P := P) (w := w) (base := base) H__law_low X G (fun f fd F => ok_low F T) (fun _ _ _ _ _ _ us hl => match us, hl with | [_, _], _ => rfl)
  have D__law_add := has_df (P := P) (w := w) (base := base) H__law_add X G (fun f fd F => ok_add F D__law_low) (fun _ _ _ _ _ _ us hl => match us, hl with | [_, _], _ => rfl)
  have D__law_mul := has_df (P := P) (w := w) (base := base) H__law_mul X G (fun f fd F => ok_mul F D__law_low) (fun _ _ _ _ _ _ us hl => match us, hl with | [_, _], _ => rfl)
  have D__law_ratio := has_df (P := P) (w := w) (base := base) H__law_ratio X G (fun f fd F => ok_ratio F D__law_draw D__law_low) (fun _ _ _ _ _ _ us hl => match us, hl with | [_], _ => rfl)
  have D__law_heavier := has_df (P := P) (w := w) (base := base) H__law_heavier X G (fun f fd F => ok_hl F T D__law_mul) (fun _ _ _ _ _ _ us hl => match us, hl with | [_, _], _ => rfl)
  have D__law_sums := has_df (P := P) (w := w) (base := base) H__law_sums X G (fun f fd F => ok_sums F T D__law_mul D__law_add) (fun _ _ _ _ _ _ us hl => match us, hl with | [_, _], _ => rfl)
  have D__law_tried := has_df (P := P) (w := w) (base := base) H__law_tried X G (fun f fd F => ok_tried F T D_Row_3 D_Row_mirrored D_Row_hurried D_Row_quicker D_Row_heavier D_Row_with_speeds D_Row_turned D_Row_eq) (fun _ _ _ _ _ _ us hl => match us, hl with | [_, _, _], _ => rfl)
  have D__law_led := has_df (P := P) (w := w) (base := base) H__law_led X G (fun f fd F => ok_led F T D__law_sums D__law_mul D__law_add D_Row_mirrored D_Row_hurried D_Row_quicker D_Row_turned D_Row_eq) (fun _ _ _ _ _ _ us hl => match us, hl with | [_, _, _, _, _], _ => rfl)
  exact ok_law F T D__law_hand D__law_draw D__law_ratio D__law_low D__law_mul D__law_add D__law_heavier D__law_tried D__law_led D_Row_3 D_Row_eq
theorem all_mk {P : Program} {w : World} {K : PySem.W.Frag} {h : Heap} {mg : Str → Option Value} {fa : Addr} {C_BadRatio C_GapError C_BadRow C_Row C_NoMirror C_NoHurry : Addr} (X : K.In h) (G : h.Ns mainGlobals mg) (hfa : mg "law" = some (.ref fa))
    (H_is_whole : HasFn K "is_whole" s_is_whole) (H_is_ratio : HasFn K "is_ratio" s_is_ratio) (H_lowest_terms : HasFn K "lowest_terms" s_lowest_terms) (H_ratio_of : HasFn K "ratio_of" s_ratio_of) (H_plus : HasFn K "plus" s_plus) (H_times : HasFn K "times" s_times) (H__check_balls : HasFn K "_check_balls" s__check_balls) (H__sum_of : HasFn K "_sum_of" s__sum_of) (H__law_mix : HasFn K "_law_mix" s__law_mix) (H__law_hand : HasFn K "_law_hand" s__law_hand) (H__law_draw : HasFn K "_law_draw" s__law_draw) (H__law_low : HasFn K "_law_low" s__law_low) (H__law_add : HasFn K "_law_add" s__law_add) (H__law_mul : HasFn K "_law_mul" s__law_mul) (H__law_ratio : HasFn K "_law_ratio" s__law_ratio) (H__law_heavier : HasFn K "_law_heavier" s__law_heavier) (H__law_sums : HasFn K "_law_sums" s__law_sums) (H__law_tried : HasFn K "_law_tried" s__law_tried) (H__law_led : HasFn K "_law_led" s__law_led) (H_law : HasFn K "law" s_law)
    (CK : ClK K "Row" C_Row) (I0 : ∃ f fd, InK K C_Row "Row.__init__" s_Row___init__ [.bl false] f fd) (M_eq : ∃ f fd, MeK K C_Row "__eq__" "Row.__eq__" s_Row___eq__ f fd) (M_with_speeds : ∃ f fd, MeK K C_Row "with_speeds" "Row.with_speeds" s_Row_with_speeds f fd) (M_quicker : ∃ f fd, MeK K C_Row "quicker" "Row.quicker" s_Row_quicker f fd) (M_turned : ∃ f fd, MeK K C_Row "turned" "Row.turned" s_Row_turned f fd) (M_mirrored : ∃ f fd, MeK K C_Row "mirrored" "Row.mirrored" s_Row_mirrored f fd) (M_hurried : ∃ f fd, MeK K C_Row "hurried" "Row.hurried" s_Row_hurried f fd) (M_heavier : ∃ f fd, MeK K C_Row "heavier" "Row.heavier" s_Row_heavier f fd)
    (T : Txt P w K mg ⟨C_BadRatio, C_GapError, C_BadRow, C_Row, C_NoMirror, C_NoHurry⟩) : ∃ fd : FuncData, (∀ (s : Shared) (v : Value), BindsTo s fd ⟨[v], []⟩ [("_law_script", v)]) ∧ ∀ base : Heap, K.In base → base.Ns mainGlobals mg → FnOk P w K mg base (L2N.CX P w) 12 fa fd ["_law_script"] (sp_law K) :=
  all_mk0 (CX := ⟨C_BadRatio, C_GapError, C_BadRow, C_Row, C_NoMirror, C_NoHurry⟩) X G hfa H_is_whole H_is_ratio H_lowest_terms H_ratio_of H_plus H_times H__check_balls H__sum_of H__law_mix H__law_hand H__law_draw H__law_low H__law_add H__law_mul H__law_ratio H__law_heavier H__law_sums H__law_tried H__law_led H_law CK I0 M_eq M_with_speeds M_quicker M_turned M_mirrored M_hurried M_heavier T
/-! ### the error -/
abbrev s_BadRatio : Stmt := inClass (top 3) 0
theorem it_BadRatio {cc cda fI : Addr} {kV doc pm ct : Value} {an : Option Addr} : ∃ msg, PySem.USup.InitText (supFn "BadRatio.__init__" s_BadRatio cc kV doc pm an cda ct) fI [] msg [] ∧ ∃ x j p, msg = .Constant (.str x) j p :=
  ⟨_, { body := ⟨_, _, _, _, _, _, rfl, fun L => ⟨.nil, rfl, ⟨_, rfl⟩, rfl, rfl, rfl⟩⟩, kind := rfl, co := rfl, gen := rfl, cell := (show ∀ x ∈ (defScope s_BadRatio).names, x.2 ≠ NameKind.cell by decide +kernel), ks := rfl, kc := rfl, kf := rfl, kp := (fun x h => by cases h), pp := ⟨_, rfl, rfl⟩, bind := (fun us hl => match us, hl with | [_], _ => rfl), nself := (fun h => by cases h) }, _, _, _, rfl⟩
theorem er_BadRatio {P : Program} {w : World} {K : PySem.W.Frag} {mg : Str → Option Value} {h : Heap} {C : Addr} {cc cda fI : Addr} {kV doc pm ct : Value} {an : Option Addr} (X : K.In h) (G : h.Ns mainGlobals mg) (E : ErK K "BadRatio" C) (F : ErF P K C "BadRatio.__init__" s_BadRatio cc cda fI (supFn "BadRatio.__init__" s_BadRatio cc kV doc pm an cda ct))
    (gS : PySem.W.nsIn K mainGlobals "super" = some none) : Er P w K mg "BadRatio" C [] [] fun _ => True := by
  obtain ⟨msg, IT, x, j, p, rfl⟩ := it_BadRatio (cc := cc) (cda := cda) (fI := fI) (kV := kV) (doc := doc) (pm := pm) (ct := ct) (an := an)
  exact er_of X G E F gS IT (fun _ _ _ _ _ _ _ => PySem.USup.msg_const) (fun _ h => by cases h) (by decide) (by decide)
abbrev s_BadRow : Stmt := inClass (top 4) 0
theorem it_BadRow {cc cda fI : Addr} {kV doc pm ct : Value} {an : Option Addr} : ∃ e1 e2 es p, PySem.USup.InitText (supFn "BadRow.__init__" s_BadRow cc kV doc pm an cda ct) fI ["index", "what"] (.JoinedStr (e1 :: e2 :: es) p) [("index", "index"), ("what", "what")] ∧ es.length ≤ 50 ∧
    ∀ {P : Program} {w : World} {L : Addr} {a : Addr} {x1 : Int} {x2 : Str} {t0 : Tok} {t1 : Tok}, x1.natAbs < 1000 → x2.length ≤ 20 → PySem.USup.PartsOk P w (callEnv (supFn "BadRow.__init__" s_BadRow cc kV doc pm an cda ct) L fI) (fun y => (((("self" : Str) :: ["index", "what"]).zip [Value.ref a, Value.int x1 t0, Value.str x2 t1]).reverse).lookup y) (e1 :: e2 :: es) :=
  ⟨_, _, _, _, { body := ⟨_, _, _, _, _, _, rfl, fun L => ⟨.cons rfl (by decide) rfl (.cons rfl (by decide) rfl .nil), rfl, ⟨_, rfl⟩, rfl, rfl, rfl⟩⟩, kind := rfl, co := rfl, gen := rfl, cell := (show ∀ x ∈ (defScope s_BadRow).names, x.2 ≠ NameKind.cell by decide +kernel), ks := rfl, kc := rfl, kf := rfl, kp := (show ∀ x ∈ (["index", "what"] : List Str), (defScope s_BadRow).names.lookup x = some NameKind.local by decide +kernel), pp := ⟨_, rfl, rfl⟩, bind := (fun us hl => match us, hl with | [_, _, _], _ => rfl), nself := by decide }, by decide,
    fun h0 h1 => .cons (PySem.USup.part_const (n := 100) (by decide +kernel)) (by decide) (.cons (PySem.USup.part_int rfl rfl (by decide) rfl (Nat.lt_of_lt_of_le h0 (by decide))) (by decide) (.cons (PySem.USup.part_const (n := 100) (by decide +kernel)) (by decide) (.cons (PySem.USup.part_str (n := 100) rfl rfl (by decide) rfl (Nat.le_trans h1 (by decide)) (by decide)) (by decide) .nil)))⟩
theorem er_BadRow {P : Program} {w : World} {K : PySem.W.Frag} {mg : Str → Option Value} {h : Heap} {C : Addr} {cc cda fI : Addr} {kV doc pm ct : Value} {an : Option Addr} (X : K.In h) (G : h.Ns mainGlobals mg) (E : ErK K "BadRow" C) (F : ErF P K C "BadRow.__init__" s_BadRow cc cda fI (supFn "BadRow.__init__" s_BadRow cc kV doc pm an cda ct))
    (gS : PySem.W.nsIn K mainGlobals "super" = some none) (n_index : PySem.W.findIn K (.ref C) "index" = some none) (n_what : PySem.W.findIn K (.ref C) "what" = some none) : Er P w K mg "BadRow" C ["index", "what"] [("index", "index"), ("what", "what")] fun vs => ∃ (x1 : Int) (x2 : Str), vs = [.int x1, .str x2] ∧ x1.natAbs < 1000 ∧ x2.length ≤ 20 := by
  obtain ⟨e1, e2, es, q, IT, hl, hp⟩ := it_BadRow (cc := cc) (cda := cda) (fI := fI) (kV := kV) (doc := doc) (pm := pm) (ct := ct) (an := an)
  refine er_of X G E F gS IT (fun vs us a L r hv hm => ?_) (fun fp h => by
    simp only [List.mem_cons, List.mem_nil_iff, or_false] at h
    rcases h with z | z <;> subst z
    · exact ⟨n_index, by decide⟩
    · exact ⟨n_what, by decide⟩) (by decide) (by decide)
  · obtain ⟨x1, x2, rfl, h0, h1⟩ := hm
    cases r with
    | cons r0 r =>
      cases r with
      | cons r1 r =>
        cases r
        obtain ⟨t0, rfl⟩ := r0
        obtain ⟨t1, rfl⟩ := r1
        exact PySem.USup.msg_join (hp h0 h1) hl
abbrev s_NoMirror : Stmt := inClass (top 5) 0
theorem it_NoMirror {cc cda fI : Addr} {kV doc pm ct : Value} {an : Option Addr} : ∃ msg, PySem.USup.InitText (supFn "NoMirror.__init__" s_NoMirror cc kV doc pm an cda ct) fI [] msg [] ∧ ∃ x j p, msg = .Constant (.str x) j p :=
  ⟨_, { body := ⟨_, _, _, _, _, _, rfl, fun L => ⟨.nil, rfl, ⟨_, rfl⟩, rfl, rfl, rfl⟩⟩, kind := rfl, co := rfl, gen := rfl, cell := (show ∀ x ∈ (defScope s_NoMirror).names, x.2 ≠ NameKind.cell by decide +kernel), ks := rfl, kc := rfl, kf := rfl, kp := (fun x h => by cases h), pp := ⟨_, rfl, rfl⟩, bind := (fun us hl => match us, hl with | [_], _ => rfl), nself := (fun h => by cases h) }, _, _, _, rfl⟩
theorem er_NoMirror {P : Program} {w : World} {K : PySem.W.Frag} {mg : Str → Option Value} {h : Heap} {C : Addr} {cc cda fI : Addr} {kV doc pm ct : Value} {an : Option Addr} (X : K.In h) (G : h.Ns mainGlobals mg) (E : ErK K "NoMirror" C) (F : ErF P K C "NoMirror.__init__" s_NoMirror cc cda fI (supFn "NoMirror.__init__" s_NoMirror cc kV doc pm an cda ct))
    (gS : PySem.W.nsIn K mainGlobals "super" = some none)  : Er P w K mg "NoMirror" C [] [] fun _ => True := by
  obtain ⟨msg, IT, x, j, p, rfl⟩ := it_NoMirror (cc := cc) (cda := cda) (fI := fI) (kV := kV) (doc := doc) (pm := pm) (ct := ct) (an := an)
  exact er_of X G E F gS IT (fun _ _ _ _ _ _ _ => PySem.USup.msg_const) (fun _ h => by cases h) (by decide) (by decide)
abbrev s_NoHurry : Stmt := inClass (top 6) 0
theorem it_NoHurry {cc cda fI : Addr} {kV doc pm ct : Value} {an : Option Addr} : ∃ msg, PySem.USup.InitText (supFn "NoHurry.__init__" s_NoHurry cc kV doc pm an cda ct) fI [] msg [] ∧ ∃ x j p, msg = .Constant (.str x) j p :=
  ⟨_, { body := ⟨_, _, _, _, _, _, rfl, fun L => ⟨.nil, rfl, ⟨_, rfl⟩, rfl, rfl, rfl⟩⟩, kind := rfl, co := rfl, gen := rfl, cell := (show ∀ x ∈ (defScope s_NoHurry).names, x.2 ≠ NameKind.cell by decide +kernel), ks := rfl, kc := rfl, kf := rfl, kp := (fun x h => by cases h), pp := ⟨_, rfl, rfl⟩, bind := (fun us hl => match us, hl with | [_], _ => rfl), nself := (fun h => by cases h) }, _, _, _, rfl⟩
theorem er_NoHurry {P : Program} {w : World} {K : PySem.W.Frag} {mg : Str → Option Value} {h : Heap} {C : Addr} {cc cda fI : Addr} {kV doc pm ct : Value} {an : Option Addr} (X : K.In h) (G : h.Ns mainGlobals mg) (E : ErK K "NoHurry" C) (F : ErF P K C "NoHurry.__init__" s_NoHurry cc cda fI (supFn "NoHurry.__init__" s_NoHurry cc kV doc pm an cda ct))
    (gS : PySem.W.nsIn K mainGlobals "super" = some none)  : Er P w K mg "NoHurry" C [] [] fun _ => True := by
  obtain ⟨msg, IT, x, j, p, rfl⟩ := it_NoHurry (cc := cc) (cda := cda) (fI := fI) (kV := kV) (doc := doc) (pm := pm) (ct := ct) (an := an)
  exact er_of X G E F gS IT (fun _ _ _ _ _ _ _ => PySem.USup.msg_const) (fun _ h => by cases h) (by decide) (by decide)
theorem txt_mk {P : Program} {w : World} {K : PySem.W.Frag} {mg : Str → Option Value} {h : Heap} {C_BadRatio C_GapError C_BadRow C_Row C_NoMirror C_NoHurry : Addr}
    {cc_BadRatio cda_BadRatio fI_BadRatio : Addr} {kV_BadRatio doc_BadRatio pm_BadRatio ct_BadRatio : Value} {an_BadRatio : Option Addr}
    {cc_BadRow cda_BadRow fI_BadRow : Addr} {kV_BadRow doc_BadRow pm_BadRow ct_BadRow : Value} {an_BadRow : Option Addr}
    {cc_NoMirror cda_NoMirror fI_NoMirror : Addr} {kV_NoMirror doc_NoMirror pm_NoMirror ct_NoMirror : Value} {an_NoMirror : Option Addr}
    {cc_NoHurry cda_NoHurry fI_NoHurry : Addr} {kV_NoHurry doc_NoHurry pm_NoHurry ct_NoHurry : Value} {an_NoHurry : Option Addr}
    (X : K.In h) (G : h.Ns mainGlobals mg)
    (E_BadRatio : ErK K "BadRatio" C_BadRatio) (F_BadRatio : ErF P K C_BadRatio "BadRatio.__init__" s_BadRatio cc_BadRatio cda_BadRatio fI_BadRatio (supFn "BadRatio.__init__" s_BadRatio cc_BadRatio kV_BadRatio doc_BadRatio pm_BadRatio an_BadRatio cda_BadRatio ct_BadRatio)) (s_BadRatio : PySem.W.subIn K (.ref C_BadRatio) (.ref C_GapError) = some true)
    (E_BadRow : ErK K "BadRow" C_BadRow) (F_BadRow : ErF P K C_BadRow "BadRow.__init__" s_BadRow cc_BadRow cda_BadRow fI_BadRow (supFn "BadRow.__init__" s_BadRow cc_BadRow kV_BadRow doc_BadRow pm_BadRow an_BadRow cda_BadRow ct_BadRow)) (s_BadRow : PySem.W.subIn K (.ref C_BadRow) (.ref C_GapError) = some true)
    (n_BadRow_index : PySem.W.findIn K (.ref C_BadRow) "index" = some none)
    (n_BadRow_what : PySem.W.findIn K (.ref C_BadRow) "what" = some none)
    (E_NoMirror : ErK K "NoMirror" C_NoMirror) (F_NoMirror : ErF P K C_NoMirror "NoMirror.__init__" s_NoMirror cc_NoMirror cda_NoMirror fI_NoMirror (supFn "NoMirror.__init__" s_NoMirror cc_NoMirror kV_NoMirror doc_NoMirror pm_NoMirror an_NoMirror cda_NoMirror ct_NoMirror)) (s_NoMirror : PySem.W.subIn K (.ref C_NoMirror) (.ref C_GapError) = some true)
    (E_NoHurry : ErK K "NoHurry" C_NoHurry) (F_NoHurry : ErF P K C_NoHurry "NoHurry.__init__" s_NoHurry cc_NoHurry cda_NoHurry fI_NoHurry (supFn "NoHurry.__init__" s_NoHurry cc_NoHurry kV_NoHurry doc_NoHurry pm_NoHurry an_NoHurry cda_NoHurry ct_NoHurry)) (s_NoHurry : PySem.W.subIn K (.ref C_NoHurry) (.ref C_GapError) = some true)
    (CK : ClK K "Row" C_Row) (g0 : PySem.W.nsIn K mainGlobals "GapError" = some (some (.ref C_GapError))) (i0 : PySem.W.isClsIn K C_GapError = true) (t0 : PySem.W.typeIn K (.ref C_GapError) = some (.type "type"))
    (zs : PySem.W.nsIn K mainGlobals "super" = some none)
    (y1 : PySem.W.findIn K (.ref C_Row) "weights" = some none)
    (y2 : PySem.W.findIn K (.ref C_Row) "speeds" = some none)
    (y3 : PySem.W.findIn K (.ref C_Row) "wall" = some none)
    (y4 : PySem.W.findIn K (.ref C_Row) "pairs" = some none)
    (y5 : PySem.W.findIn K (.ref C_Row) "gap_count" = some none)
    (y6 : PySem.W.findIn K (.ref C_Row) "is_like" = some none)
    (y7 : PySem.W.findIn K (.ref C_Row) "first_sum" = some none)
    (y8 : PySem.W.findIn K (.ref C_Row) "second_sum" = some none)
    (z1 : PySem.W.nsIn K mainGlobals "isinstance" = some none)
    (z2 : PySem.W.nsIn K mainGlobals "len" = some none)
    (z3 : PySem.W.nsIn K mainGlobals "int" = some none)
    (z4 : PySem.W.nsIn K mainGlobals "bool" = some none)
    (z5 : PySem.W.nsIn K mainGlobals "tuple" = some none)
    (z6 : PySem.W.nsIn K mainGlobals "abs" = some none)
    (z7 : PySem.W.nsIn K mainGlobals "enumerate" = some none)
    (z8 : PySem.W.nsIn K mainGlobals "list" = some none)
    (z9 : PySem.W.nsIn K mainGlobals "range" = some none)
    (z10 : PySem.W.nsIn K mainGlobals "ValueError" = some none)
    (z11 : PySem.W.nsIn K mainGlobals "zip" = some none)
    (z12 : PySem.W.nsIn K mainGlobals "sum" = some none)
    (g1 : PySem.W.nsIn K mainGlobals "gcd" = some (some (.builtin "math.gcd")))
    {tk1 : Tok} (v1 : PySem.W.nsIn K mainGlobals "MOST_BALLS" = some (some (.int 40 tk1)))
    {tk2 : Tok} (v2 : PySem.W.nsIn K mainGlobals "MOST_WEIGHT" = some (some (.int 9 tk2)))
    (xx_NoHurry_NoMirror : PySem.W.subIn K (.ref C_NoHurry) (.ref C_NoMirror) = some false)
    (xx_BadRatio_NoMirror : PySem.W.subIn K (.ref C_BadRatio) (.ref C_NoMirror) = some false)
    (xx_BadRatio_NoHurry : PySem.W.subIn K (.ref C_BadRatio) (.ref C_NoHurry) = some false)
    (xx_BadRow_NoMirror : PySem.W.subIn K (.ref C_BadRow) (.ref C_NoMirror) = some false)
    (xx_BadRow_NoHurry : PySem.W.subIn K (.ref C_BadRow) (.ref C_NoHurry) = some false)
    (xx_BadRow_BadRatio : PySem.W.subIn K (.ref C_BadRow) (.ref C_BadRatio) = some false) : Txt P w K mg ⟨C_BadRatio, C_GapError, C_BadRow, C_Row, C_NoMirror, C_NoHurry⟩ :=
  { n_isinstance := PySem.W.mg_none_of X G z1, n_len := PySem.W.mg_none_of X G z2, n_int := PySem.W.mg_none_of X G z3, n_bool := PySem.W.mg_none_of X G z4, n_tuple := PySem.W.mg_none_of X G z5, n_abs := PySem.W.mg_none_of X G z6, n_enumerate := PySem.W.mg_none_of X G z7, n_list := PySem.W.mg_none_of X G z8, n_range := PySem.W.mg_none_of X G z9, n_ValueError := PySem.W.mg_none_of X G z10, n_zip := PySem.W.mg_none_of X G z11, n_sum := PySem.W.mg_none_of X G z12,
    i_gcd := PySem.W.mg_of X G g1,
    v_MOST_BALLS := ⟨_, PySem.W.mg_of X G v1⟩, v_MOST_WEIGHT := ⟨_, PySem.W.mg_of X G v2⟩,
    g_GapError := PySem.W.mg_of X G g0,
    g_BadRatio := PySem.W.mg_of X G E_BadRatio.gC, c_BadRatio := er_BadRatio X G E_BadRatio F_BadRatio zs , x_BadRatio := E_BadRatio.exC', m_BadRatio := E_BadRatio.exm, k_BadRatio_GapError := kit_own i0 t0 s_BadRatio, k_BadRatio_ValueError := kit_bt (by decide +kernel) F_BadRatio.hB,
    g_BadRow := PySem.W.mg_of X G E_BadRow.gC, c_BadRow := er_BadRow X G E_BadRow F_BadRow zs n_BadRow_index n_BadRow_what, x_BadRow := E_BadRow.exC', m_BadRow := E_BadRow.exm, k_BadRow_GapError := kit_own i0 t0 s_BadRow, k_BadRow_ValueError := kit_bt (by decide +kernel) F_BadRow.hB, f_BadRow := ⟨E_BadRow.hg, E_BadRow.hk, E_BadRow.exC, E_BadRow.hdC⟩, f_BadRow_index := n_BadRow_index, f_BadRow_what := n_BadRow_what,
    g_NoMirror := PySem.W.mg_of X G E_NoMirror.gC, c_NoMirror := er_NoMirror X G E_NoMirror F_NoMirror zs , x_NoMirror := E_NoMirror.exC', m_NoMirror := E_NoMirror.exm, k_NoMirror_GapError := kit_own i0 t0 s_NoMirror, k_NoMirror_ValueError := kit_bt (by decide +kernel) F_NoMirror.hB,
    g_NoHurry := PySem.W.mg_of X G E_NoHurry.gC, c_NoHurry := er_NoHurry X G E_NoHurry F_NoHurry zs , x_NoHurry := E_NoHurry.exC', m_NoHurry := E_NoHurry.exm, k_NoHurry_GapError := kit_own i0 t0 s_NoHurry, k_NoHurry_ValueError := kit_bt (by decide +kernel) F_NoHurry.hB,
    r_cls := CK.cls, r_no := (fun f hf => by
      simp only [List.mem_cons, List.mem_nil_iff, or_false] at hf
      rcases hf with z | z | z | z | z | z | z | z <;> subst z
      · exact y1
      · exact y2
      · exact y3
      · exact y4
      · exact y5
      · exact y6
      · exact y7
      · exact y8),
    g_Row := PySem.W.mg_of X G CK.gC, r_in := CK.inC, k_Row_tuple := kit_bt (by decide +kernel) CK.nt, k_Row_Row := kit_own CK.ic CK.ty CK.me, k_tuple_Row := kit_ownV CK.ic CK.ty CK.tn, nf_Row := CK.nf_me, nf_tuple := CK.nf_tup,
    e_NoHurry_NoMirror := PySem.W.exm_ref E_NoMirror.exC E_NoMirror.hdC E_NoMirror.tyC xx_NoHurry_NoMirror,
    e_BadRatio_NoMirror := PySem.W.exm_ref E_NoMirror.exC E_NoMirror.hdC E_NoMirror.tyC xx_BadRatio_NoMirror,
    e_BadRatio_NoHurry := PySem.W.exm_ref E_NoHurry.exC E_NoHurry.hdC E_NoHurry.tyC xx_BadRatio_NoHurry,
    e_BadRow_NoMirror := PySem.W.exm_ref E_NoMirror.exC E_NoMirror.hdC E_NoMirror.tyC xx_BadRow_NoMirror,
    e_BadRow_NoHurry := PySem.W.exm_ref E_NoHurry.exC E_NoHurry.hdC E_NoHurry.tyC xx_BadRow_NoHurry,
    e_BadRow_BadRatio := PySem.W.exm_ref E_BadRatio.exC E_BadRatio.hdC E_BadRatio.tyC xx_BadRow_BadRatio }
theorem allp_intsE {H : Hp} : ∀ ns : List Int, AllP (ns.map fun n => Is (.int n)) (ns.map V.int) H
  | [] => True.intro
  | _ :: ns => ⟨rfl, allp_intsE ns⟩
theorem walk {l : PySem.W.OpenLaw} {q : Program} {loose : List Str} {XP : (Str → Option Value) → Heap → Prop} {YP : World → Heap → Prop} {d : DefRec} {K : Params → PySem.W.Frag} (hn : l.most = some 63) (hdf : d.params.defaults = [])
    (hY : ∀ (w : World) (h : Heap), YP w h → (K w.params).In h)
    (F : ∀ (w : World) (mg : Str → Option Value) (fa : Addr) (h : Heap), (K w.params).In h → h.Ns mainGlobals mg → mg d.name = some (.ref fa) →
      ∃ fd : FuncData, (∀ (s : Shared) (u : Value), BindsTo s fd ⟨[u], []⟩ [("_law_script", u)]) ∧ ∀ base : Heap, (K w.params).In base → base.Ns mainGlobals mg → FnOk l.prog w (K w.params) mg base (L2N.CX l.prog w) 12 fa fd ["_law_script"] (sp_law (K w.params))) :
    PySem.W.WalkO q loose XP YP l.row.toRowW d [] (fun f vs => PySem.call f vs) :=
  L2.walk_of (n := 63) (k := 12) (x := "_law_script") (CX := fun w => L2N.CX l.prog w) (sp := fun w => sp_law (K w.params)) hn (by decide) hdf ⟨rfl, by decide, by decide⟩ hY F
    (fun _ _ a ns hl _ hS => ⟨ns, hl, ⟨⟨a, ns.map V.int, rfl, hS, True.intro, allp_intsE ns⟩, True.intro⟩, fun _ _ _ e => e, fun _ _ _ _ z => z.elim⟩)
    fun _ _ _ _ _ z => by
      obtain ⟨_, _, _, _, _, _, _, _, _, _, _, z⟩ := z
      exact z.2
end U

open PySem PySem.W PyProof.Rows
set_option maxRecDepth 100000 in
set_option maxHeartbeats 0 in
theorem PySem.Challenge.cw_untoldgaps_k04_whole_rows_turned_mirrore_holds : PySem.Challenge.rw_untoldgaps_k04_whole_rows_turned_mirrore.Holds := by
  w_on; o_law; k_head; (case hw => w_witness2)
  k_fill
  refine U.walk (l := PySem.Challenge.rw_untoldgaps_k04_whole_rows_turned_mirrore) rfl rfl (fun w h Y => PySem.W.kIn_of Y) ?F
  case F =>
    intro w mg fa h KX G hmg
    refine' U.all_mk KX G hmg ?h_is_whole ?h_is_ratio ?h_lowest_terms ?h_ratio_of ?h_plus ?h_times ?h__check_balls ?h__sum_of ?h__law_mix ?h__law_hand ?h__law_draw ?h__law_low ?h__law_add ?h__law_mul ?h__law_ratio ?h__law_heavier ?h__law_sums ?h__law_tried ?h__law_led ?h_law ?CK ?I0 ?M_eq ?M_with_speeds ?M_quicker ?M_turned ?M_mirrored ?M_hurried ?M_heavier ?T
    (case h_is_whole => refine' U.has_fn ?a ?l ?c ?k; (case a => k_is); (case l => k_is); (case c => k_is); (case k => k_is))
    (case h_is_ratio => refine' U.has_fn ?a ?l ?c ?k; (case a => k_is); (case l => k_is); (case c => k_is); (case k => k_is))
    (case h_lowest_terms => refine' U.has_fn ?a ?l ?c ?k; (case a => k_is); (case l => k_is); (case c => k_is); (case k => k_is))
    (case h_ratio_of => refine' U.has_fn ?a ?l ?c ?k; (case a => k_is); (case l => k_is); (case c => k_is); (case k => k_is))
    (case h_plus => refine' U.has_fn ?a ?l ?c ?k; (case a => k_is); (case l => k_is); (case c => k_is); (case k => k_is))
    (case h_times => refine' U.has_fn ?a ?l ?c ?k; (case a => k_is); (case l => k_is); (case c => k_is); (case k => k_is))
    (case h__check_balls => refine' U.has_fn ?a ?l ?c ?k; (case a => k_is); (case l => k_is); (case c => k_is); (case k => k_is))
    (case h__sum_of => refine' U.has_fn ?a ?l ?c ?k; (case a => k_is); (case l => k_is); (case c => k_is); (case k => k_is))
    (case h__law_mix => refine' U.has_fn ?a ?l ?c ?k; (case a => k_is); (case l => k_is); (case c => k_is); (case k => k_is))
    (case h__law_hand => refine' U.has_fn ?a ?l ?c ?k; (case a => k_is); (case l => k_is); (case c => k_is); (case k => k_is))
    (case h__law_draw => refine' U.has_fn ?a ?l ?c ?k; (case a => k_is); (case l => k_is); (case c => k_is); (case k => k_is))
    (case h__law_low => refine' U.has_fn ?a ?l ?c ?k; (case a => k_is); (case l => k_is); (case c => k_is); (case k => k_is))
    (case h__law_add => refine' U.has_fn ?a ?l ?c ?k; (case a => k_is); (case l => k_is); (case c => k_is); (case k => k_is))
    (case h__law_mul => refine' U.has_fn ?a ?l ?c ?k; (case a => k_is); (case l => k_is); (case c => k_is); (case k => k_is))
    (case h__law_ratio => refine' U.has_fn ?a ?l ?c ?k; (case a => k_is); (case l => k_is); (case c => k_is); (case k => k_is))
    (case h__law_heavier => refine' U.has_fn ?a ?l ?c ?k; (case a => k_is); (case l => k_is); (case c => k_is); (case k => k_is))
    (case h__law_sums => refine' U.has_fn ?a ?l ?c ?k; (case a => k_is); (case l => k_is); (case c => k_is); (case k => k_is))
    (case h__law_tried => refine' U.has_fn ?a ?l ?c ?k; (case a => k_is); (case l => k_is); (case c => k_is); (case k => k_is))
    (case h__law_led => refine' U.has_fn ?a ?l ?c ?k; (case a => k_is); (case l => k_is); (case c => k_is); (case k => k_is))
    (case h_law => refine' U.has_fn ?a ?l ?c ?k; (case a => k_is); (case l => k_is); (case c => k_is); (case k => k_is))
    (case CK => refine' ⟨?c_gC, ?c_pg, ?c_hd, ?c_po, ?c_sa, ?c_ha, ?c_hn, ?c_ht, ?c_hm, ?c_ic, ?c_ty, ?c_me, ?c_nt, ?c_tn, ?c_mks, ?c_kc⟩; (case c_gC => k_is); (case c_pg => k_is); (case c_hd => k_is); (case c_po => k_is); (case c_sa => k_is); (case c_ha => k_is); (case c_hn => k_is); (case c_ht => k_is); (case c_hm => k_is); (case c_ic => k_is); (case c_ty => k_is); (case c_me => k_is); (case c_nt => k_is); (case c_tn => k_is); (case c_mks => k_is); (case c_kc => k_is))
    (case I0 => refine' U.ink_mk ?a ?b ?l ?c ?k ?d ?ne ?r; (case a => k_is); (case b => k_is); (case l => k_is); (case c => k_is); (case k => k_is); (case d => k_is); (case ne => simp); (case r => exact .cons rfl .nil))
    (case M_eq => refine' U.mek_mk ?a ?b ?l ?c ?k; (case a => k_is); (case b => k_is); (case l => k_is); (case c => k_is); (case k => k_is))
    (case M_with_speeds => refine' U.mek_mk ?a ?b ?l ?c ?k; (case a => k_is); (case b => k_is); (case l => k_is); (case c => k_is); (case k => k_is))
    (case M_quicker => refine' U.mek_mk ?a ?b ?l ?c ?k; (case a => k_is); (case b => k_is); (case l => k_is); (case c => k_is); (case k => k_is))
    (case M_turned => refine' U.mek_mk ?a ?b ?l ?c ?k; (case a => k_is); (case b => k_is); (case l => k_is); (case c => k_is); (case k => k_is))
    (case M_mirrored => refine' U.mek_mk ?a ?b ?l ?c ?k; (case a => k_is); (case b => k_is); (case l => k_is); (case c => k_is); (case k => k_is))
    (case M_hurried => refine' U.mek_mk ?a ?b ?l ?c ?k; (case a => k_is); (case b => k_is); (case l => k_is); (case c => k_is); (case k => k_is))
    (case M_heavier => refine' U.mek_mk ?a ?b ?l ?c ?k; (case a => k_is); (case b => k_is); (case l => k_is); (case c => k_is); (case k => k_is))
    (case T =>
      refine' U.txt_mk KX G ?E_BadRatio ?F_BadRatio ?s_BadRatio ?E_BadRow ?F_BadRow ?s_BadRow ?n_BadRow_index ?n_BadRow_what ?E_NoMirror ?F_NoMirror ?s_NoMirror ?E_NoHurry ?F_NoHurry ?s_NoHurry ?CK2 ?u_g0 ?u_i0 ?u_t0 ?u_zs ?u_y1 ?u_y2 ?u_y3 ?u_y4 ?u_y5 ?u_y6 ?u_y7 ?u_y8 ?u_z1 ?u_z2 ?u_z3 ?u_z4 ?u_z5 ?u_z6 ?u_z7 ?u_z8 ?u_z9 ?u_z10 ?u_z11 ?u_z12 ?u_g1 ?u_v1 ?u_v2 ?u_xx_NoHurry_NoMirror ?u_xx_BadRatio_NoMirror ?u_xx_BadRatio_NoHurry ?u_xx_BadRow_NoMirror ?u_xx_BadRow_NoHurry ?u_xx_BadRow_BadRatio
      (case E_BadRatio => refine' ⟨?q1, ?q2, ?q3, ?q4, ?q5, ?q6, ?q7, ?q8, ?q9, ?q10, ?q11, ?q12⟩; (case q1 => k_is); (case q2 => k_is); (case q3 => k_is); (case q4 => k_is); (case q5 => k_is); (case q6 => k_is); (case q7 => k_is); (case q8 => k_is); (case q9 => k_is); (case q10 => k_is); (case q11 => k_is); (case q12 => k_is))
      (case F_BadRatio =>
        refine' ⟨?f1, ?f2, ?f3, ?f4, ?f5, ?f6, ?f7, ?f8, ?f9, ?f10, ?f11, ?f12, ?f13⟩
        (case f1 => refine' U.cls_ex ?x ?y; (case x => k_is); (case y => decide +kernel))
        (case f2 => k_is); (case f3 => k_is); (case f4 => k_is)
        (case f5 => refine' U.fn_ex ?x; (case x => k_is))
        (case f6 => k_is)
        (case f7 => refine' U.cell_ex ?x; (case x => k_is))
        (case f8 => refine' U.code_ex ?x ?y ?z; (case x => k_is); (case y => rfl); (case z => decide +kernel))
        (case f9 => k_is); (case f10 => ks_is); (case f11 => k_is); (case f12 => k_is); (case f13 => decide +kernel))
      (case E_BadRow => refine' ⟨?q1, ?q2, ?q3, ?q4, ?q5, ?q6, ?q7, ?q8, ?q9, ?q10, ?q11, ?q12⟩; (case q1 => k_is); (case q2 => k_is); (case q3 => k_is); (case q4 => k_is); (case q5 => k_is); (case q6 => k_is); (case q7 => k_is); (case q8 => k_is); (case q9 => k_is); (case q10 => k_is); (case q11 => k_is); (case q12 => k_is))
      (case F_BadRow =>
        refine' ⟨?f1, ?f2, ?f3, ?f4, ?f5, ?f6, ?f7, ?f8, ?f9, ?f10, ?f11, ?f12, ?f13⟩
        (case f1 => refine' U.cls_ex ?x ?y; (case x => k_is); (case y => decide +kernel))
        (case f2 => k_is); (case f3 => k_is); (case f4 => k_is)
        (case f5 => refine' U.fn_ex ?x; (case x => k_is))
        (case f6 => k_is)
        (case f7 => refine' U.cell_ex ?x; (case x => k_is))
        (case f8 => refine' U.code_ex ?x ?y ?z; (case x => k_is); (case y => rfl); (case z => decide +kernel))
        (case f9 => k_is); (case f10 => ks_is); (case f11 => k_is); (case f12 => k_is); (case f13 => decide +kernel))
      (case E_NoMirror => refine' ⟨?q1, ?q2, ?q3, ?q4, ?q5, ?q6, ?q7, ?q8, ?q9, ?q10, ?q11, ?q12⟩; (case q1 => k_is); (case q2 => k_is); (case q3 => k_is); (case q4 => k_is); (case q5 => k_is); (case q6 => k_is); (case q7 => k_is); (case q8 => k_is); (case q9 => k_is); (case q10 => k_is); (case q11 => k_is); (case q12 => k_is))
      (case F_NoMirror =>
        refine' ⟨?f1, ?f2, ?f3, ?f4, ?f5, ?f6, ?f7, ?f8, ?f9, ?f10, ?f11, ?f12, ?f13⟩
        (case f1 => refine' U.cls_ex ?x ?y; (case x => k_is); (case y => decide +kernel))
        (case f2 => k_is); (case f3 => k_is); (case f4 => k_is)
        (case f5 => refine' U.fn_ex ?x; (case x => k_is))
        (case f6 => k_is)
        (case f7 => refine' U.cell_ex ?x; (case x => k_is))
        (case f8 => refine' U.code_ex ?x ?y ?z; (case x => k_is); (case y => rfl); (case z => decide +kernel))
        (case f9 => k_is); (case f10 => ks_is); (case f11 => k_is); (case f12 => k_is); (case f13 => decide +kernel))
      (case E_NoHurry => refine' ⟨?q1, ?q2, ?q3, ?q4, ?q5, ?q6, ?q7, ?q8, ?q9, ?q10, ?q11, ?q12⟩; (case q1 => k_is); (case q2 => k_is); (case q3 => k_is); (case q4 => k_is); (case q5 => k_is); (case q6 => k_is); (case q7 => k_is); (case q8 => k_is); (case q9 => k_is); (case q10 => k_is); (case q11 => k_is); (case q12 => k_is))
      (case F_NoHurry =>
        refine' ⟨?f1, ?f2, ?f3, ?f4, ?f5, ?f6, ?f7, ?f8, ?f9, ?f10, ?f11, ?f12, ?f13⟩
        (case f1 => refine' U.cls_ex ?x ?y; (case x => k_is); (case y => decide +kernel))
        (case f2 => k_is); (case f3 => k_is); (case f4 => k_is)
        (case f5 => refine' U.fn_ex ?x; (case x => k_is))
        (case f6 => k_is)
        (case f7 => refine' U.cell_ex ?x; (case x => k_is))
        (case f8 => refine' U.code_ex ?x ?y ?z; (case x => k_is); (case y => rfl); (case z => decide +kernel))
        (case f9 => k_is); (case f10 => ks_is); (case f11 => k_is); (case f12 => k_is); (case f13 => decide +kernel))
      (case CK2 => refine' ⟨?c_gC, ?c_pg, ?c_hd, ?c_po, ?c_sa, ?c_ha, ?c_hn, ?c_ht, ?c_hm, ?c_ic, ?c_ty, ?c_me, ?c_nt, ?c_tn, ?c_mks, ?c_kc⟩; (case c_gC => k_is); (case c_pg => k_is); (case c_hd => k_is); (case c_po => k_is); (case c_sa => k_is); (case c_ha => k_is); (case c_hn => k_is); (case c_ht => k_is); (case c_hm => k_is); (case c_ic => k_is); (case c_ty => k_is); (case c_me => k_is); (case c_nt => k_is); (case c_tn => k_is); (case c_mks => k_is); (case c_kc => k_is))
      (case u_g0 => k_is); (case s_BadRatio => k_is); (case s_BadRow => k_is); (case n_BadRow_index => k_is); (case n_BadRow_what => k_is); (case s_NoMirror => k_is); (case s_NoHurry => k_is); (case u_i0 => k_is); (case u_t0 => k_is); (case u_zs => k_is); (case u_y1 => k_is); (case u_y2 => k_is); (case u_y3 => k_is); (case u_y4 => k_is); (case u_y5 => k_is); (case u_y6 => k_is); (case u_y7 => k_is); (case u_y8 => k_is); (case u_z1 => k_is); (case u_z2 => k_is); (case u_z3 => k_is); (case u_z4 => k_is); (case u_z5 => k_is); (case u_z6 => k_is); (case u_z7 => k_is); (case u_z8 => k_is); (case u_z9 => k_is); (case u_z10 => k_is); (case u_z11 => k_is); (case u_z12 => k_is); (case u_g1 => k_is); (case u_v1 => k_is); (case u_v2 => k_is); (case u_xx_NoHurry_NoMirror => k_is); (case u_xx_BadRatio_NoMirror => k_is); (case u_xx_BadRatio_NoHurry => k_is); (case u_xx_BadRow_NoMirror => k_is); (case u_xx_BadRow_NoHurry => k_is); (case u_xx_BadRow_BadRatio => k_is))

