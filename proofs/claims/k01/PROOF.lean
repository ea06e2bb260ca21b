import PyProof.Rows.All
import Wide.All
import OpenK.AllK
import Wide.FinOn
import KE.KExcSuper
import HandS.Base
import HandS.Call
import PyProof.FString
import PyProof.FitsInt
import HandS.Exc
import HandS.ExcInit
import HandS.ForExc
import HandS.Evl
import HandS.Wide
import HandS.Gcd
import HandS.IsInst
import HandS.Walk
import HandS.Iter
import HandS.ExcIs
import HandS.Ends
import PySem.Challenge.RW_untoldgaps_k01_ratios_added_and_divided
set_option Elab.async false
set_option linter.all false
set_option maxRecDepth 100000
set_option maxHeartbeats 4000000
/-! ## an own error over an own base over ValueError: super().__init__(text), then fields -/
namespace PySem
namespace USup
open PySem.W PySem.Calls PyProof.Rows PySem.HandSPX
abbrev cRec (C t : Addr) (d : Option Addr) : Obj := { cls := .ref C, dict := d, data := .fields #[.ref t, .none, .none, .none, .bool false, .none] }
/-- what the written part says of an error class at C and its __init__ at fI -/
structure SupCls (prog : Program) (K : Frag) (C fI cc cda : Addr) (fd : FuncData) : Prop where
  cls : ∃ nm q N bs bm sn sub ab col dd k0 k1 k2 k3 k5, K.lookup C = some (excClassObj nm q C N bs bm true sn sub ab col dd k0 k1 k2 k3 k5 "ValueError.__new__") ∧ refsVE bm = true
  sa : findIn K (.ref C) "__setattr__" = some (some (.builtin "object.__setattr__"))
  iC : findIn K (.ref C) "__init__" = some (some (.ref fI))
  tC : typeIn K (.ref fI) = some (.type "function")
  fn : ∃ oc od osl, K.lookup fI = some ⟨oc, od, .func fd, osl⟩
  clo : fd.closure = [(("__class__" : Str), cc)]
  gl : fd.globals = mainGlobals
  bl : fd.builtins = builtinsNs
  cdv : fd.code = .ref cda
  hcd : codeIn K (.ref cda) fd.qualname = true
  cell : ∃ cl cld csl, K.lookup cc = some ⟨cl, cld, .cell (some (.ref C)), csl⟩
  code : ∃ ccl cdd vs ccs file tf, K.lookup cda = some ⟨ccl, cdd, .fields vs, ccs⟩ ∧ vs[2]? = some (.str file tf) ∧ ((prog.main.file : Str) == file) = true
  third : nsIn K cStatics "thirdparty.any" = some none
  hm : ks_superIn K C C "__init__" = some (some (.builtin "ValueError.__init__"))
  hB : subIn K (.ref C) (.type "ValueError") = some true
  hsub : mroIn K C (.ref C) = some true
  top : (prog.main.scope.names.lookup ("super" : Str)).isSome = false
section
variable {prog : Program} {w : World} {A : Around} {E : Value → Shared → Prop} {R : Result → Shared → Prop} {s : Shared} {K : Frag} {C fI cc cda : Addr} {fd : FuncData}
/-- super().__init__(e): the statement -/
theorem sup_stmt (T : SupCls prog K C fI cc cda fd) {env : Env} {x t0 : Addr} {m mb mg : Str → Option Value} {e : Expr} {p0 p1 p2 pos pos' : Pos} {first : Str} {Q : Flow → Shared → Prop} {body : List Stmt}
    (X : K.In s.heap) (hx : s.heap.get? x = some (cRec C t0 none)) (hn : s.heap.Ns env.locals m) (hmx : m first = some (.ref x))
    (hG : s.heap.Ns mainGlobals mg) (hgs : mg "super" = none) (hBn : s.heap.Ns builtinsNs mb) (hbs : mb "super" = bootBuiltins "super")
    (hk : env.scope.kind = .function) (hks : env.kindOf "super" = some .globalImplicit) (hkc : env.kindOf "__class__" = some .free) (hkf : env.kindOf first = some .local)
    (hcl : env.cells.lookup ("__class__" : Str) = some cc) (hfu : env.func = some fI) (hco : env.code = .ref cda) (hgl : env.globals = mainGlobals) (hbl : env.builtins = builtinsNs)
    (hp : ∃ an, (fd.params.posonlyargs ++ fd.params.args).head? = some an ∧ an.arg = first)
    (hi : interactive env = false)
    (he : ∀ s' : Shared, s'.heap.Ns env.locals m → s'.os = s.os → (∀ Q' : Value → Shared → Prop, (∀ v tk, Q' v { s' with toks := tk }) → wpAny (model prog w) A (eval e env) Q' E s'))
    (hq : ∀ h' tk t1, (∀ b o, b ≠ x → s.heap.get? b = some o → h'.get? b = some o) → h'.get? x = some (cRec C t1 none) → s.heap.objs.size ≤ h'.objs.size → Q .next { s with heap := h', toks := tk })
    (hs1 : swapsWith (.Call (.Attribute (.Call (.Name "super" p0) [] [] p1) "__init__" p2) [e] [] pos) none pos'.line env = pure false)
    (hmc : ∃ pl, eval (.Call (.Attribute (.Call (.Name "super" p0) [] [] p1) "__init__" p2) [e] [] pos) env = (do
      let ov ← attributeBase (.Call (.Name "super" p0) [] [] p1) "__init__" env (eval (.Call (.Name "super" p0) [] [] p1) env)
      standAt p2.atName
      let (f, fst) ← holding [ov] (getMethod ov "__init__" pl)
      callWith pos f fst (backTo pos (starEach [e] env)) []))
    (hst : starEach [e] env = (false, eval e env) :: starEach [] env) (hpl : (backTo pos (starEach [] env)).any (·.1) = false) :
    _root_.PySem.wpAt (model prog w) A (.func body env) (exec (.Expr (.Call (.Attribute (.Call (.Name "super" p0) [] [] p1) "__init__" p2) [e] [] pos) pos') env) Q E s := by
  obtain ⟨nm, q, N, bs, bm, sn, sub, ab, col, dd, k0, k1, k2, k3, k5, hC, hbm⟩ := T.cls
  obtain ⟨oc, od, osl, ho⟩ := T.fn
  obtain ⟨cl, cld, csl, hcell⟩ := T.cell
  obtain ⟨ccl, cdd, vs, ccs, file, tf, hcode, hvs, hfile⟩ := T.code
  obtain ⟨an, han, hanx⟩ := hp
  obtain ⟨pl, hmc⟩ := hmc
  subst hanx
  have hCc : clsIn K C = some { name := nm, bases := bs, mro := .ref C :: bm, ns := N, qualname := q, hasDict := true, slotNames := sn, subclasses := sub, abstract := ab, collection := col, hasDel := false } := by unfold clsIn; rw [hC] <;> rfl
  have I : InstAt s.heap x (cRec C t0 none) C none := ⟨hx, rfl, rfl, trivial⟩
  refine ks_wpAt_Expr_any ?_ hi hs1
  refine ks_wpAt_MethodCall ?_ hmc
  refine ks_wpAt_super_base hks hkc (by decide) hfu (X _ _ ho) rfl han hco (X _ _ hcode) rfl hvs hfile T.top ?_
  refine ks_loadName_global hk hks (loadGlobal_builtin (env := env) (by rw [hgl]; exact hG) hgs (by rw [hbl]; exact hBn) (hbs.trans (by first | boot_by_name | rfl | kernel_rfl)) ⟨rfl, ?_⟩)
  refine wpAny_loadName_free hk hkc hcl ⟨_, X _ _ hcell, rfl⟩ ?_
  refine wpAny_loadName_local hk hkf hn hmx ?_
  refine ks_wpAny_isType_cls (X _ _ hC) rfl ⟨rfl, ?_⟩
  obtain ⟨hh, g, d, t, os⟩ := s
  refine ks_wpAny_call_super (X _ _ hC) rfl hx rfl (fun c z => by cases z) (looks_mroIn X T.hsub) (fun h1 e1 k1' => ?_)
  have X1 : K.In h1 := X.keeps k1'
  have hx1 := k1' _ _ hx
  have I1 : InstAt h1 x (cRec C t0 none) C none := ⟨hx1, rfl, rfl, trivial⟩
  have hm := T.hm
  unfold ks_superIn at hm
  rw [hCc] at hm
  refine kxs_getMethod kxs_ValueError e1 (looks_opaque X1 T.third) (l₀ := .ref C :: bm) ?_ rfl X1 hm (I1.type.andThen (looks_subIn X1 T.hB)) (ks_ne X1 I1 hCc) (by decide) ?_
  · exact fun A Q E s k q => wpAny_bind ((looks_clsIn X1 hCc) A _ E s k (wpAny_pure q))
  show wpAny _ _ (callWith pos (.ref h1.objs.size) [] (backTo pos (starEach [e] env)) []) _ _ _
  have k2' : ∀ b o, hh.get? b = some o → (h1.push (kxs_mw "ValueError.__init__" x)).get? b = some o := fun b o z => Heap.get?_push_of_some _ (k1' b o z)
  have hu : (h1.push (kxs_mw "ValueError.__init__" x)).get? h1.objs.size = some (kxs_mw "ValueError.__init__" x) := Heap.get?_push_at rfl rfl
  have hx2 := k2' _ _ hx
  have key : wpAny (model prog w) A (spliced (backTo pos (starEach [e] env))) (fun vs s₁ => KxsAt "ValueError.__init__" h1.objs.size x s₁.heap ∧ wpAny (model prog w) A (call (.ref h1.objs.size) vs) (fun _ => Q Flow.next) E s₁) E
      ⟨h1.push (kxs_mw "ValueError.__init__" x), g, d, t + 1, os⟩ := by
    refine spliced_more ?_ hst
    refine he ⟨h1.push (kxs_mw "ValueError.__init__" x), g, d, t + 1, os⟩ (hn.keeps k2') rfl _ fun v tk => ?_
    refine spliced_none ?_
    refine ⟨hu, ?_⟩
    show wpAny _ _ (call (.ref h1.objs.size) [v]) _ _ _
    refine wpAny_call (codeAny_of_tree ?_)
    show wpAny _ A.in1 (callAny (.ref h1.objs.size) ⟨[v], []⟩) _ _ _
    simp only [callAny]
    refine wpAny_bind (wpAny_load hu ?_)
    simp only [kxs_mw, show (Value.type "method-wrapper" == Value.type "method" || Value.type "method-wrapper" == Value.type "builtin_function_or_method" || Value.type "method-wrapper" == Value.type "method-wrapper") = true by decide, if_true]
    refine KFB.if_so (by decide) ?_
    refine wpAny_bind (check_bound_init F.excBase_ValueError.toExcCallFacts (k2' _ _ (X _ _ hC)) hx2 rfl ?_)
    refine wpAny_bind (wpAny_pure (wpAny_pure ?_))
    refine ⟨plainId_quiet F.excBase_ValueError.init.plain _, codeAny_builtin F.excBase_ValueError.initEntry ?_⟩
    refine exc_init_tree (cls := .ref C) (t0 := t0) (dv := none) (c2 := .none) (c3 := .none) (b4 := .bool false) hx2 (by show 1 ≤ sizeLine; rw [sizeLine_eq]; decide) (fun h' k3 e3 e4 => ?_)
    exact hq h' tk _ (fun b o hb z => k3 b o hb (k2' b o z)) e3 (Nat.le_of_lt (Nat.lt_trans (Nat.lt_trans (Heap.lt_size e1) (Heap.lt_size hu)) (Heap.lt_size e4)))
  rw [hst] at key ⊢
  refine kxs_callWith (i := "ValueError.__init__") (x := x) (by show (false || (backTo pos (starEach [] env)).any (·.1)) = false; rw [hpl]; rfl) ?_
  exact evalArgs_plain key

/-! ### self.f = p, one after another -/
inductive FS (env : Env) (first : Str) : List Stmt → List (Str × Str) → Prop
  | nil : FS env first [] []
  | cons {q1 q2 q3 q4 : Pos} {f p : Str} {rest : List Stmt} {fs : List (Str × Str)} (hk : env.kindOf p = some .local) (hd : (p == ("__debug__" : Str)) = false)
      (hs : swapsWith (.Name p q3) (some (.Attribute (.Name first q1) f q2)) q4.line env = pure false) (r : FS env first rest fs) :
      FS env first (.Assign [.Attribute (.Name first q1) f q2] (.Name p q3) q4 :: rest) ((f, p) :: fs)
/-- the exception at x with the fields acc so far, its dict d -/
def ExcSt (h0 h : Heap) (x C t : Addr) (acc : List (Str × Value)) : Option Addr → Prop
  | none => acc = [] ∧ h.get? x = some (cRec C t none) ∧ h0.objs.size ≤ h.objs.size
  | some dx => h0.objs.size ≤ dx ∧ dx ≠ x ∧ h.get? x = some (cRec C t (some dx)) ∧ h.Ns1 dx (fun y => acc.lookup y)
def Kp (h0 h : Heap) (x : Addr) : Prop := ∀ b o, b ≠ x → h0.get? b = some o → h.get? b = some o
theorem look_cons (f : Str) (v : Value) (acc : List (Str × Value)) : (fun y => if y = f then some v else acc.lookup y) = fun y => ((f, v) :: acc).lookup y := by
  funext y
  by_cases e : y = f
  · subst e; simp [List.lookup]
  · have e' : (y == f) = false := by simpa using e
    rw [if_neg e]; simp [List.lookup, e']
theorem within_look : ∀ (acc : List (Str × Value)), Within (fun y => acc.lookup y) (acc.map (·.1)) := fun acc y hy => by
  induction acc with
  | nil => exact absurd rfl hy
  | cons a r ih =>
    obtain ⟨f, v⟩ := a
    by_cases e : y = f
    · subst e; exact List.mem_cons_self
    · have e' : (y == f) = false := by simpa using e
      have h2 : List.lookup y r ≠ none := by
        intro z; apply hy; show List.lookup y ((f, v) :: r) = none; simp [List.lookup, e', z]
      exact List.mem_cons_of_mem _ (ih h2)
theorem kIn_but {h0 h : Heap} {x : Addr} (X : K.In h0) (hx : K.lookup x = none) (k : Kp h0 h x) : K.In h := fun a o e => k a o (fun z => by rw [z, hx] at e; cases e) (X a o e)
theorem fields_run (T : SupCls prog K C fI cc cda fd) {env : Env} {x t : Addr} {m : Str → Option Value} {first : Str} {h0 : Heap}
    (X0 : K.In h0) (hxK : K.lookup x = none) (hn0 : h0.Ns env.locals m) (hLx : env.locals ≠ x) (hx0 : x < h0.objs.size) (hmx : m first = some (.ref x)) (hkf : env.kindOf first = some .local) (hdf : (first == ("__debug__" : Str)) = false) (hk : env.scope.kind = .function) :
    ∀ {rest : List Stmt} {fs : List (Str × Str)}, FS env first rest fs → ∀ (acc : List (Str × Value)) (d : Option Addr) (s : Shared) (Q : Flow → Shared → Prop), (∀ fp ∈ fs, findIn K (.ref C) fp.1 = some none ∧ ∃ v, m fp.2 = some v) → acc.length + fs.length ≤ 100 →
      Kp h0 s.heap x → ExcSt h0 s.heap x C t acc d →
      (∀ h' tk d', Kp h0 h' x → ExcSt h0 h' x C t ((fs.map fun fp => (fp.1, (m fp.2).getD .none)).reverse ++ acc) d' → ((fs ≠ [] ∨ d ≠ none) ↔ d' ≠ none) → Q .next { s with heap := h', toks := tk }) →
      wpAny (model prog w) A (execs rest env) Q E s := by
  obtain ⟨nm, q, N, bs, bm, sn, sub, ab, col, dd, k0, k1, k2, k3, k5, hC, hbm⟩ := T.cls
  have hCc : clsIn K C = some { name := nm, bases := bs, mro := .ref C :: bm, ns := N, qualname := q, hasDict := true, slotNames := sn, subclasses := sub, abstract := ab, collection := col, hasDel := false } := by unfold clsIn; rw [hC] <;> rfl
  have hmro : refsVE (.ref C :: bm) = true := hbm
  intro rest fs F
  induction F with
  | nil =>
    intro acc d s Q _ _ kp st hq
    refine wpAny_execs_nil ?_
    have := hq s.heap s.toks d kp (by simpa using st) ⟨fun z => z.elim (fun y => absurd rfl y) id, .inr⟩
    exact this
  | @cons q1 q2 q3 q4 f p rest fs hkp hdp hs r ih =>
    intro acc d s Q hf hl kp st hq
    obtain ⟨hno, v, hv⟩ := hf (f, p) List.mem_cons_self
    have X : K.In s.heap := kIn_but X0 hxK kp
    have hn : s.heap.Ns env.locals m := by
      obtain ⟨o, es, ep, e, r⟩ := hn0
      exact ⟨o, es, ep, kp _ _ hLx e, r⟩
    refine wpAny_execs_cons (plainObj_wpAny_Assign_Attribute ?_ hs)
    refine wpAny_Name (wpAny_loadName_local hk hkp hn hv ?_) hdp
    refine wpAny_Name (wpAny_loadName_local hk hkf hn hmx ?_) hdf
    have hl' : ((f, v) :: acc).length + fs.length ≤ 100 := by simp only [List.length_cons] at hl ⊢; omega
    have fin : ∀ (h3 : Heap) (tk3 : Nat) (d3 : Addr), Kp h0 h3 x → ExcSt h0 h3 x C t ((f, v) :: acc) (some d3) → wpAny (model prog w) A (execs rest env) Q E { s with heap := h3, toks := tk3 } := fun h3 tk3 d3 kp3 st3 => by
      refine ih ((f, v) :: acc) (some d3) _ Q (fun fp h => hf fp (List.mem_cons_of_mem _ h)) hl' kp3 st3 fun h' tk d' kp' st' hd' => ?_
      refine hq h' tk d' kp' ?_ ⟨fun _ => hd'.mp (.inr (fun z => by cases z)), fun _ => .inl (fun z => by cases z)⟩
      have e : (List.map (fun fp : Str × Str => (fp.1, (m fp.2).getD .none)) ((f, p) :: fs)).reverse ++ acc = (List.map (fun fp : Str × Str => (fp.1, (m fp.2).getD .none)) fs).reverse ++ (f, v) :: acc := by
        rw [List.map_cons, List.reverse_cons, List.append_assoc]
        show _ ++ ((f, (m p).getD .none) :: acc) = _
        rw [hv]
        rfl
      rw [e]
      exact st'
    cases d with
    | none =>
      obtain ⟨ea, hx, hsz⟩ := st
      subst ea
      refine set_plain X (ox := cRec C t none) (od := none) ⟨hx, rfl, rfl, trivial⟩ T.sa ?_
      obtain ⟨hh, g, dr, tk, os⟩ := s
      refine exc_osa X hx hCc hmro rfl hno (fun h3 tk3 dx k3 dn dne hx3 hn3 => ?_)
      have sz : h0.objs.size ≤ dx := Nat.le_trans hsz dn
      refine fin h3 tk3 dx (fun b o hb z => k3 b o hb (kp b o hb z)) ⟨sz, dne, hx3, ?_⟩
      rw [← look_cons]
      exact hn3
    | some dx =>
      obtain ⟨sz, dne, hx, hns⟩ := st
      obtain ⟨oD, esD, epD, hoD, hdD, _⟩ := hns.count (within_look acc)
      refine set_plain X (ox := cRec C t (some dx)) (od := some oD) ⟨hx, rfl, rfl, hoD⟩ T.sa ?_
      obtain ⟨hh, g, dr, tk, os⟩ := s
      refine OEX.osa_old X hx hns (within_look acc) (by rw [List.length_map]; omega) hCc hmro rfl hno (fun h3 tk3 k3 hn3 => ?_)
      refine fin h3 tk3 dx (fun b o hb z => k3 b o (fun y => ?_) (kp b o hb z)) ⟨sz, dne, k3 x _ (Ne.symm dne) hx, ?_⟩
      · rw [y] at z
        exact absurd (Heap.lt_size z) (Nat.not_lt.mpr sz)
      · rw [← look_cons]
        exact hn3
end

/-! ### the text of the message -/
section
variable {prog : Program} {w : World}
def PartOk (prog : Program) (w : World) (env : Env) (m : Str → Option Value) (e : Expr) (n : Nat) : Prop :=
  ∀ (A : Around) (E : Value → Shared → Prop) (s : Shared) (Q : Value → Shared → Prop), s.heap.Ns env.locals m → (∀ (x : Str) (t : Tok) (tk : Nat), x.length ≤ n → Q (.str x t) { s with toks := tk }) → wpAny (model prog w) A (eval e env) Q E s
theorem part_const {env : Env} {m : Str → Option Value} {x : Str} {j : Nat} {p : Pos} {n : Nat} (hx : x.length ≤ n) : PartOk prog w env m (.Constant (.str x) j p) n := fun A E s Q _ h => Calls.Constant_str (h x _ _ hx)
theorem part_str {env : Env} {m : Str → Option Value} {y x : Str} {t : Tok} {p p2 : Pos} {n : Nat} (hk : env.scope.kind = .function) (hl : env.kindOf y = some .local) (hd : (y == ("__debug__" : Str)) = false) (hm : m y = some (.str x t)) (hx : x.length ≤ n) (hn : n ≤ 100000) :
    PartOk prog w env m (.FormattedValue (.Name y p) (-1) none p2) n := fun A E s Q ns h => by
  refine wpAny_FormattedValue_plain (wpAny_Name (wpAny_loadName_local hk hl ns hm ?_) hd)
  exact wpAny_formatField_str (h x t s.toks hx) (h x _ _ hx) (by rw [sizeLine_eq]; omega)
theorem part_int {env : Env} {m : Str → Option Value} {y : Str} {i : Int} {t : Tok} {p p2 : Pos} (hk : env.scope.kind = .function) (hl : env.kindOf y = some .local) (hd : (y == ("__debug__" : Str)) = false) (hm : m y = some (.int i t)) (hx : i.natAbs < 10 ^ 100) :
    PartOk prog w env m (.FormattedValue (.Name y p) (-1) none p2) 1000 := fun A E s Q ns h => by
  have h2 : i.natAbs.log2 < 1920 := by
    rcases Nat.eq_zero_or_pos i.natAbs with z | z
    · rw [z]; decide
    · exact (Nat.log2_lt (Nat.ne_of_gt z)).mpr (Nat.lt_trans hx (by decide))
  refine wpAny_FormattedValue_plain (wpAny_Name (wpAny_loadName_local hk hl ns hm ?_) hd)
  refine wpAny_formatField_int h2 (h _ _ _ ?_)
  rw [ofString_length]
  have := int_text_length_le10 (k := 100) (by decide) hx
  omega
inductive PartsOk (prog : Program) (w : World) (env : Env) (m : Str → Option Value) : List Expr → Prop
  | nil : PartsOk prog w env m []
  | cons {e : Expr} {es : List Expr} {n : Nat} (h : PartOk prog w env m e n) (hn : n ≤ 1000) (r : PartsOk prog w env m es) : PartsOk prog w env m (e :: es)
def MsgOk (prog : Program) (w : World) (env : Env) (m : Str → Option Value) (e : Expr) : Prop :=
  ∀ (A : Around) (E : Value → Shared → Prop) (s : Shared) (Q : Value → Shared → Prop), s.heap.Ns env.locals m → (∀ v tk, Q v { s with toks := tk }) → wpAny (model prog w) A (eval e env) Q E s
theorem msg_const {env : Env} {m : Str → Option Value} {x : Str} {j : Nat} {p : Pos} : MsgOk prog w env m (.Constant (.str x) j p) := fun A E s Q _ h => Calls.Constant_str (h _ _)
theorem joins_ok {env : Env} {m : Str → Option Value} {A : Around} {E : Value → Shared → Prop} : ∀ {es : List Expr}, PartsOk prog w env m es → ∀ (acc : Str) (s : Shared) (R : Str → Shared → Prop), s.heap.Ns env.locals m → acc.length + 1000 * es.length ≤ 100000 →
    (∀ out tk, out.length ≤ 100000 → R out { s with toks := tk }) → Joins (model prog w) A E (evalEach es env) acc R s := by
  intro es h
  induction h with
  | nil =>
    intro acc s R ns hl k
    have e0 : evalEach [] env = [] := by first | rfl | simp [evalEach]
    rw [e0]
    exact k acc s.toks (by simpa using hl)
  | @cons e es n he hn r ih =>
    intro acc s R ns hl k
    have e0 : evalEach (e :: es) env = eval e env :: evalEach es env := by first | rfl | simp [evalEach]
    rw [e0]
    rw [List.length_cons] at hl
    refine he A E s _ ns fun x t tk hx => ⟨x, t, rfl, ?_, ?_⟩
    · rw [strLen_append, sizeLine_eq]; omega
    · exact ih (acc ++ x) _ R ns (by rw [strLen_append]; omega) fun out tk' ho => k out tk' ho
theorem msg_join {env : Env} {m : Str → Option Value} {e1 e2 : Expr} {es : List Expr} {p : Pos} (h : PartsOk prog w env m (e1 :: e2 :: es)) (hl : es.length ≤ 50) : MsgOk prog w env m (.JoinedStr (e1 :: e2 :: es) p) := fun A E s Q ns q => by
  refine wpAny_JoinedStr (joins_ok h Str.empty s _ ns (by show 0 + 1000 * (es.length + 1 + 1) ≤ 100000; omega) fun out tk ho => ⟨by rw [sizeLine_eq]; omega, q _ _⟩)
end

/-! ### the whole __init__, the making -/
/-- the text of an __init__: super().__init__(e), then the fields -/
structure InitText (fd : FuncData) (fI : Addr) (ps : List Str) (e : Expr) (fs : List (Str × Str)) : Prop where
  body : ∃ p0 p1 p2 pos pos' rest, fd.body = .stmts (.Expr (.Call (.Attribute (.Call (.Name "super" p0) [] [] p1) "__init__" p2) [e] [] pos) pos' :: rest) ∧ ∀ L, FS (callEnv fd L fI) "self" rest fs ∧
    swapsWith (.Call (.Attribute (.Call (.Name "super" p0) [] [] p1) "__init__" p2) [e] [] pos) none pos'.line (callEnv fd L fI) = pure false ∧
    (∃ pl, eval (.Call (.Attribute (.Call (.Name "super" p0) [] [] p1) "__init__" p2) [e] [] pos) (callEnv fd L fI) = (do
      let ov ← attributeBase (.Call (.Name "super" p0) [] [] p1) "__init__" (callEnv fd L fI) (eval (.Call (.Name "super" p0) [] [] p1) (callEnv fd L fI))
      standAt p2.atName
      let (f, fst) ← holding [ov] (getMethod ov "__init__" pl)
      callWith pos f fst (backTo pos (starEach [e] (callEnv fd L fI))) [])) ∧
    starEach [e] (callEnv fd L fI) = (false, eval e (callEnv fd L fI)) :: starEach [] (callEnv fd L fI) ∧ (backTo pos (starEach [] (callEnv fd L fI))).any (·.1) = false ∧ interactive (callEnv fd L fI) = false
  kind : fd.scope.kind = .function
  co : fd.scope.isCoroutine = false
  gen : fd.scope.isGenerator = false
  cell : ∀ x ∈ fd.scope.names, x.2 ≠ .cell
  ks : fd.scope.names.lookup ("super" : Str) = some .globalImplicit
  kc : fd.scope.names.lookup ("__class__" : Str) = some .free
  kf : fd.scope.names.lookup ("self" : Str) = some .local
  kp : ∀ x ∈ ps, fd.scope.names.lookup x = some .local
  pp : ∃ an, (fd.params.posonlyargs ++ fd.params.args).head? = some an ∧ an.arg = "self"
  bind : ∀ us : List Value, us.length = ps.length + 1 → bindArgs fd ⟨us, []⟩ = pure ((("self" : Str) :: ps).zip us)
  nself : ("self" : Str) ∉ ps
theorem nskeep {h h' : Heap} {x a : Addr} {m : Str → Option Value} (n : h.Ns a m) (hx : a ≠ x) (k : Kp h h' x) : h'.Ns a m := by
  obtain ⟨o, es, ep, e, r⟩ := n
  exact ⟨o, es, ep, k _ _ hx e, r⟩
section
variable {prog : Program} {w : World} {A : Around} {R : Result → Shared → Prop} {s : Shared} {K : Frag} {C fI cc cda : Addr} {fd : FuncData}
theorem sup_init (T : SupCls prog K C fI cc cda fd) {ps : List Str} {e : Expr} {fs : List (Str × Str)} (I : InitText fd fI ps e fs) {x t0 : Addr} {us : List Value} {mg mb : Str → Option Value}
    (X : K.In s.heap) (hlim : s.heap.NoLimit) (hG : s.heap.Ns mainGlobals mg) (hgs : mg "super" = none) (hBn : s.heap.Ns builtinsNs mb) (hbs : mb "super" = bootBuiltins "super") (hGx : mainGlobals ≠ x) (hBx : builtinsNs ≠ x)
    (hx : s.heap.get? x = some (cRec C t0 none)) (hxK : K.lookup x = none) (hroom : A.depth < recursionLimit) (hlen : us.length = ps.length)
    (hmsg : ∀ L, MsgOk prog w (callEnv fd L fI) (fun y => (((("self" : Str) :: ps).zip (Value.ref x :: us)).reverse).lookup y) e)
    (hf : ∀ fp ∈ fs, findIn K (.ref C) fp.1 = some none ∧ ∃ v, (((("self" : Str) :: ps).zip (Value.ref x :: us)).reverse).lookup fp.2 = some v) (hfl : fs.length ≤ 100)
    (hq : ∀ h' tk t d', Kp s.heap h' x → ExcSt s.heap h' x C t (fs.map fun fp => (fp.1, ((((("self" : Str) :: ps).zip (Value.ref x :: us)).reverse).lookup fp.2).getD .none)).reverse d' → (fs ≠ [] ↔ d' ≠ none) → R (.ok (.ret .none)) { s with heap := h', toks := tk }) :
    codeAny (model prog w) A (.call (.ref fI) ⟨.ref x :: us, []⟩) R s := by
  obtain ⟨oc, od, osl, ho⟩ := T.fn
  obtain ⟨p0, p1, p2, pos, pos', rest, hbody, hL⟩ := I.body
  have hself : (((("self" : Str) :: ps).zip (Value.ref x :: us)).reverse).lookup ("self" : Str) = some (.ref x) := by
    rw [List.zip_cons_cons, List.reverse_cons]
    have : ∀ l : List (Str × Value), (∀ y ∈ l, y.1 ≠ ("self" : Str)) → (l ++ [(("self" : Str), Value.ref x)]).lookup ("self" : Str) = some (.ref x) := by
      intro l
      induction l with
      | nil => intro _; simp [List.lookup]
      | cons a r ih =>
        intro h
        obtain ⟨f, v⟩ := a
        have ne : (("self" : Str) == f) = false := by
          have := h (f, v) List.mem_cons_self
          simpa using fun z => this z.symm
        show List.lookup ("self" : Str) ((f, v) :: (r ++ _)) = _
        simp only [List.lookup, ne]
        exact ih fun y hy => h y (List.mem_cons_of_mem _ hy)
    refine this _ fun y hy => ?_
    rw [List.mem_reverse] at hy
    intro z
    have := (List.of_mem_zip hy).1
    rw [z] at this
    exact I.nself this
  refine ks_codeAny_call_defAt (fd := fd) (binds := (("self" : Str) :: ps).zip (Value.ref x :: us)) hroom (X _ _ ho) rfl hlim (codeRec_of X (by rw [T.cdv]; exact T.hcd)) hbody (.of_eq (I.bind _ (by rw [List.length_cons, hlen]))) I.cell ?_ (fun h1 hns k1 => ?_) I.co I.gen I.kind
  · intro y hy
    have := (List.of_mem_zip hy).1
    rcases List.mem_cons.mp this with z | z
    · rw [z]; exact I.kf
    · exact I.kp _ z
  obtain ⟨hFS, hsw, hmc, hst, hpl, hint⟩ := hL s.heap.objs.size
  have X1 : K.In h1 := X.keeps k1
  have hLx : s.heap.objs.size ≠ x := Nat.ne_of_gt (Heap.lt_size hx)
  refine ks_wpAt_execs_cons ?_
  refine sup_stmt (s := ⟨h1, s.gens, s.drawn, s.toks + _, s.os⟩) T (env := callEnv fd s.heap.objs.size fI) (x := x) (t0 := t0) (m := fun y => (((("self" : Str) :: ps).zip (Value.ref x :: us)).reverse).lookup y) (mg := mg) (mb := mb) (first := "self")
    X1 (k1 _ _ hx) hns hself (hG.keeps k1) hgs (hBn.keeps k1) hbs I.kind I.ks I.kc I.kf ?_ rfl T.cdv T.gl T.bl I.pp hint (fun s' hn' _ Q' hq' => hmsg _ _ _ _ _ hn' hq') (fun h2 tk2 t2 k2 hx2 hsz => ?_) hsw hmc hst hpl
  · show List.lookup ("__class__" : Str) fd.closure = some cc
    rw [T.clo]; simp [List.lookup]
  refine wpAt_of_wpAny ?_
  have sz1 : s.heap.objs.size < h1.objs.size := hns.lt
  refine fields_run T (env := callEnv fd s.heap.objs.size fI) (m := fun y => (((("self" : Str) :: ps).zip (Value.ref x :: us)).reverse).lookup y) (h0 := h1) (x := x) (t := t2) (first := "self") X1 hxK hns hLx (Heap.lt_size (k1 _ _ hx)) hself I.kf (by decide) I.kind hFS [] none _ _ hf (by simpa using hfl) k2 ⟨rfl, hx2, hsz⟩ (fun h' tk d' kp st hd => ?_)
  refine hq h' tk t2 d' (fun b o hb z => kp b o hb (k1 b o z)) ?_ ⟨fun z => hd.mp (.inl z), fun z => (hd.mpr z).elim id fun y => absurd rfl y⟩
  rw [List.append_nil] at st
  cases d' with
  | none => exact ⟨st.1, st.2.1, Nat.le_trans (Nat.le_of_lt sz1) st.2.2⟩
  | some dx => exact ⟨Nat.le_trans (Nat.le_of_lt sz1) st.1, st.2.1, st.2.2.1, st.2.2.2⟩
end
end USup
end PySem
namespace L2
open PySem PySem.Spec PyProof.Rows PySem.USup
abbrev KV1 : List (Str × V) → List (Str × Value) → Prop := Paired fun p q => p.1 = q.1 ∧ RelV p.2 q.2
theorem kv1_zip : ∀ {ps : List Str} {vs : List V} {us : List Value}, Vals vs us → KV1 (ps.zip vs) (ps.zip us)
  | [], _, _, _ => by rw [List.zip_nil_left, List.zip_nil_left]; exact .nil
  | _ :: _, [], _, .nil => .nil
  | p :: ps, v :: vs, _, .cons r t => .cons ⟨rfl, r⟩ (kv1_zip t)
theorem kv1_rev : ∀ {l : List (Str × V)} {l' : List (Str × Value)}, KV1 l l' → KV1 l.reverse l'.reverse
  | _, _, .nil => .nil
  | _, _, .cons r t => by rw [List.reverse_cons, List.reverse_cons]; exact (kv1_rev t).snoc r
theorem kv1_look {x : Str} : ∀ {l : List (Str × V)} {l' : List (Str × Value)}, KV1 l l' → RelO (l.lookup x) (l'.lookup x)
  | _, _, .nil => True.intro
  | (f, v) :: l, (g, u) :: l', .cons ⟨e, r⟩ t => by
    have e' : f = g := e
    subst e'
    by_cases h : x = f
    · subst h; simp only [List.lookup, beq_self_eq_true]; exact r
    · have h' : (x == f) = false := by simpa using h
      simp only [List.lookup, h']
      exact kv1_look t
theorem relO_getD {o : Option V} {o' : Option Value} (r : RelO o o') : RelV (o.getD .non) (o'.getD .none) := by
  cases o <;> cases o' <;> first | exact r | exact r.elim | rfl
theorem look_app_ne {x f : Str} {u : Value} (h : x ≠ f) : ∀ (l : List (Str × Value)), (l ++ [(f, u)]).lookup x = l.lookup x
  | [] => by
    have h' : (x == f) = false := by simpa using h
    show List.lookup x [(f, u)] = none
    simp only [List.lookup, h']
  | (g, w) :: l => by
    by_cases e : x = g
    · subst e; simp only [List.cons_append, List.lookup, beq_self_eq_true]
    · have e' : (x == g) = false := by simpa using e
      simp only [List.cons_append, List.lookup, e']
      exact look_app_ne h l
/-- the fields of a made exception, the last stored first -/
def fldV (ps : List Str) (vs : List V) (fs : List (Str × Str)) : List (Str × V) := (fs.map fun fp => (fp.1, (((ps.zip vs).reverse).lookup fp.2).getD .non)).reverse
/-- C(e, ..): what is asked, and the exception's class, dict, heap -/
def tMkSup (C : Addr) (ps : List Str) (fs : List (Str × Str)) (MV : List V → Prop) (ta : TA) : St → Hp → XK → Prop := fun σ H Q => ta σ H fun vs H1 => vs.length = ps.length ∧ MV vs ∧
  (fs = [] → Q (.ref C) none H1) ∧ (fs ≠ [] → ∀ d, H1 d = none → Q (.ref C) (some d) (upd H1 d (.xd (fldV ps vs fs))))
section
variable {X : Cx} {C fI cc cda : Addr} {fd : FuncData} {x : Str} {p pos : Pos} {e : Expr} {es : List Expr} {ta : TA} {msg : Expr} {ps : List Str} {fs : List (Str × Str)} {MV : List V → Prop} {k : Nat}
theorem made_sup (T : SupCls X.prog X.K C fI cc cda fd) (IT : InitText fd fI ps msg fs) (gS : X.mg "super" = none) (exC : PySem.W.subIn X.K (.ref C) (.type "BaseException") = some true) (tyC : PySem.W.typeIn X.K (.ref C) = some (.type "type")) (hr : Room (k + 1) X.A)
    (hps : ∀ fp ∈ fs, PySem.W.findIn X.K (.ref C) fp.1 = some none ∧ fp.2 ∈ ps) (hfl : fs.length ≤ 100) (hpl : ps.length ≤ 1000)
    (hmsg : ∀ (vs : List V) (us : List Value) (a : Addr) (L : Addr), Vals vs us → vs.length = ps.length → MV vs → MsgOk X.prog X.w (callEnv fd L fI) (fun y => (((("self" : Str) :: ps).zip (Value.ref a :: us)).reverse).lookup y) msg)
    {pins : List (Addr × Obj)} {σ : St} {H : Hp} {s : Shared} {vs : List V} {us : List Value} {Q : XK} (I : Inv X pins σ H s) (r : Vals vs us) (hl : vs.length = ps.length) (hMV : MV vs)
    (q0 : fs = [] → Q (.ref C) none H) (q1 : fs ≠ [] → ∀ d, H d = none → Q (.ref C) (some d) (upd H d (.xd (fldV ps vs fs)))) :
    wpAny (model X.prog X.w) X.A (call (.ref C) us) (MkP X pins σ Q) X.xe s := by
  obtain ⟨nm, q, N, bs, bm, sn, sub, ab, col, dd, k0, k1, k2, k3, k5, hC, hbm⟩ := T.cls
  have KI := I.kIn
  have hlim := I.nolimit
  have hus : us.length = ps.length := r.length.symm.trans hl
  obtain ⟨mb, hB, hbb⟩ := I.ok.mod.blt
  have hG := I.ok.mod.glob.keeps I.bk
  have hB' := hB.keeps I.bk
  have bk := I.bk
  obtain ⟨hp, g, dr, tk, os⟩ := s
  have kk : ∀ b o, hp.get? b = some o → ((hp.push (PySem.W.kdv_tup us)).push (PySem.HandSPX.excO C hp.objs.size)).get? b = some o := fun b o e => Heap.get?_push_of_some _ (Heap.get?_push_of_some _ e)
  have hget : ((hp.push (PySem.W.kdv_tup us)).push (PySem.HandSPX.excO C hp.objs.size)).get? (hp.objs.size + 1) = some (PySem.HandSPX.excO C hp.objs.size) := by heap_get
  have fresh : ∀ {b : Addr} {o : Obj}, hp.get? b = some o → b ≠ hp.objs.size + 1 := fun {b o} z => Nat.ne_of_lt (Nat.lt_succ_of_lt (Heap.lt_size z))
  have hnx : X.K.lookup (hp.objs.size + 1) = none := by
    cases e : X.K.lookup (hp.objs.size + 1) with
    | none => rfl
    | some o => exact absurd rfl (fresh (KI _ _ e))
  have sz2 : ((hp.push (PySem.W.kdv_tup us)).push (PySem.HandSPX.excO C hp.objs.size)).objs.size = hp.objs.size + 2 := by rw [Heap.size_push, Heap.size_push]
  have zself : ∀ (a : Addr), ((("self" : Str) :: ps).zip (Value.ref a :: us)).reverse = (ps.zip us).reverse ++ [(("self" : Str), Value.ref a)] := fun a => by rw [List.zip_cons_cons, List.reverse_cons]
  have lk : ∀ (a : Addr) (y : Str), y ∈ ps → (((("self" : Str) :: ps).zip (Value.ref a :: us)).reverse).lookup y = ((ps.zip us).reverse).lookup y := fun a y hy => by
    rw [zself]
    exact look_app_ne (fun z => IT.nself (by rw [← z]; exact hy)) _
  have some_of : ∀ y ∈ ps, ∃ v, ((ps.zip us).reverse).lookup y = some v := fun y hy => by
    cases z : ((ps.zip us).reverse).lookup y with
    | some v => exact ⟨v, rfl⟩
    | none =>
      exfalso
      rw [List.lookup_eq_none_iff] at z
      obtain ⟨i, hi, e⟩ := List.getElem_of_mem hy
      have hi2 : i < us.length := by rw [hus]; exact hi
      have := z (y, us[i]) (List.mem_reverse.mpr (by
        rw [List.mem_iff_getElem]
        exact ⟨i, by rw [List.length_zip]; omega, by rw [List.getElem_zip, e]⟩))
      simp at this
  refine wpAny_call (PySem.HandSPX.call_own F.excBase_ValueError (fun Y => PySem.HandSPX.refsVE_contains Y bm hbm) (KI _ _ hC) (PySem.W.looks_findIn KI T.iC) (fun self => PySem.W.bind_fn KI self T.tC) (by rw [sizeLine_eq]; omega) ?_)
  refine sup_init T IT (x := hp.objs.size + 1) (t0 := hp.objs.size) (us := us) (mg := X.mg) (mb := mb) (s := ⟨(hp.push (PySem.W.kdv_tup us)).push (PySem.HandSPX.excO C hp.objs.size), g, dr, tk, os⟩) (KI.keeps kk) (hlim.keeps kk) (hG.keeps kk) gS (hB'.keeps kk) (hbb _ (by decide))
    ?_ ?_ hget hnx (by have := hr.dp; show X.A.depth + 1 < recursionLimit; omega) hus (fun L => hmsg vs us _ L r hl hMV) (fun fp hfp => ⟨(hps fp hfp).1, by rw [lk _ _ (hps fp hfp).2]; exact some_of _ (hps fp hfp).2⟩) hfl (fun h' tk' t d' kp st hd => ?_)
  · obtain ⟨o, es', ep, e, _⟩ := hG
    exact fresh e
  · obtain ⟨o, es', ep, e, _⟩ := hB'
    exact fresh e
  show PySem.W.InitBack _ _ _ _
  have kh : ∀ b o, hp.get? b = some o → h'.get? b = some o := fun b o z => kp b o (fresh z) (kk b o z)
  obtain ⟨G', g1, g2⟩ := restrict h' fun b => decide (b ≠ hp.objs.size + 1)
  have gk : ∀ b, b ≠ hp.objs.size + 1 → G'.get? b = h'.get? b := fun b hb => g1 b (decide_eq_true hb)
  have ge : G'.get? (hp.objs.size + 1) = none := g2 _ (by simp)
  have old : ∀ b o, hp.get? b = some o → G'.get? b = some o := fun b o z => (gk b (fresh z)).trans (kh b o z)
  have back : ∀ b o, G'.get? b = some o → h'.get? b = some o := fun b o z => by
    by_cases hb : b = hp.objs.size + 1
    · rw [hb, ge] at z; cases z
    · exact (gk b hb).symm.trans z
  have hnone : H (hp.objs.size + 1) = none := I.hok.fresh (Nat.le_succ _)
  cases d' with
  | none =>
    have fe : fs = [] := Classical.byContradiction fun z => hd.mp z rfl
    have J : Inv X pins σ H ⟨G', g, dr, tk', os⟩ := I.kept (t' := tk') old
    exact ⟨rfl, hp.objs.size + 1, _, _, ⟨G', g, dr, tk', os⟩, H, .ref C, none, rfl, J, back, ge, st.2.1, ⟨rfl, rfl⟩, rfl, rfl, hnone, rfl, I.bare, raises_own exC tyC, q0 fe⟩
  | some dx =>
    obtain ⟨sz, dne, hx3, hns⟩ := st
    have dn : hp.objs.size ≤ dx := by rw [sz2] at sz; exact Nat.le_trans (Nat.le_add_right _ 2) sz
    have fne : fs ≠ [] := hd.mpr (fun z => by cases z)
    have rel : ∀ f, RelO (List.lookup f (fldV ps vs fs)) (List.lookup f (fs.map fun fp => (fp.1, ((((("self" : Str) :: ps).zip (Value.ref (hp.objs.size + 1) :: us)).reverse).lookup fp.2).getD .none)).reverse) := fun f => by
      refine kv1_look (kv1_rev ?_)
      have : ∀ l : List (Str × Str), (∀ fp ∈ l, fp.2 ∈ ps) → KV1 (l.map fun fp => (fp.1, (((ps.zip vs).reverse).lookup fp.2).getD .non)) (l.map fun fp => (fp.1, ((((("self" : Str) :: ps).zip (Value.ref (hp.objs.size + 1) :: us)).reverse).lookup fp.2).getD .none)) := by
        intro l
        induction l with
        | nil => intro _; exact .nil
        | cons a r' ih =>
          intro h
          refine .cons ⟨rfl, ?_⟩ (ih fun fp hfp => h fp (List.mem_cons_of_mem _ hfp))
          show RelV ((List.lookup a.2 (ps.zip vs).reverse).getD V.non) ((List.lookup a.2 ((("self" : Str) :: ps).zip (Value.ref (hp.objs.size + 1) :: us)).reverse).getD Value.none)
          rw [lk _ _ (h a List.mem_cons_self)]
          exact relO_getD (kv1_look (kv1_rev (kv1_zip r)))
      exact this fs fun fp hfp => (hps fp hfp).2
    have ob : ObjOk X.prog X.w (upd H dx (.xd (fldV ps vs fs))) G' dx (.xd (fldV ps vs fs)) := ⟨_, hns.at (fun o z => (gk dx dne).trans z), rel⟩
    have J : Inv X pins σ (upd H dx (.xd (fldV ps vs fs))) ⟨G', g, dr, tk', os⟩ := I.laid (t' := tk') old dn ob
    refine ⟨rfl, hp.objs.size + 1, _, _, ⟨G', g, dr, tk', os⟩, _, .ref C, some dx, rfl, J, back, ge, hx3, ⟨rfl, rfl⟩, rfl, rfl, ?_, rfl, I.bare, raises_own exC tyC, q1 fne dx (I.hok.fresh dn)⟩
    rw [upd_ne (Ne.symm dne)]
    exact hnone
end
end L2
namespace L2
open PySem PySem.Spec PyProof.Rows PySem.USup
theorem pmk_sup {X : Cx} {C fI cc cda : Addr} {fd : FuncData} {x : Str} {p pos : Pos} {e : Expr} {es : List Expr} {ta : TA} {msg : Expr} {ps : List Str} {fs : List (Str × Str)} {MV : List V → Prop} {k : Nat}
    (T : SupCls X.prog X.K C fI cc cda fd) (IT : InitText fd fI ps msg fs) (gS : X.mg "super" = none) (gC : X.mg x = some (.ref C)) (kC : PySem.W.keepIn X.K (.ref C) = true) (exC : PySem.W.subIn X.K (.ref C) (.type "BaseException") = some true) (tyC : PySem.W.typeIn X.K (.ref C) = some (.type "type")) (hr : Room (k + 1) X.A)
    (hps : ∀ fp ∈ fs, PySem.W.findIn X.K (.ref C) fp.1 = some none ∧ fp.2 ∈ ps) (hfl : fs.length ≤ 100) (hpl : ps.length ≤ 1000)
    (hmsg : ∀ (vs : List V) (us : List Value) (a : Addr) (L : Addr), Vals vs us → vs.length = ps.length → MV vs → MsgOk X.prog X.w (callEnv fd L fI) (fun y => (((("self" : Str) :: ps).zip (Value.ref a :: us)).reverse).lookup y) msg)
    (ha : PA X (e :: es) ta) (hg : Gl X x) (hdb : (x == ("__debug__" : Str)) = false) (he : starEach (e :: es) X.env = (false, eval e X.env) :: starEach es X.env) (hpl2 : (backTo pos (starEach es X.env)).any (·.1) = false) :
    PMk X (.Call (.Name x p) (e :: es) [] pos) (tMkSup C ps fs MV ta) := by
  intro pins s σ H Q I h
  refine wpAny_Call_Name_kw (ld_glob I hg gC ?_ hdb)
  refine PySem.W.callWith_K (h₀ := X.base) I.ok.mod.kin kC (thn (ha.run pos pins s σ H _ I h) fun us s1 hh => ?_) he hpl2
  obtain ⟨vs, H1, I1, r1, l1, m1, q0, q1⟩ := hh
  exact ⟨I1.kIn, made_sup T IT gS exC tyC hr hps hfl hpl hmsg I1 r1 l1 m1 q0 q1⟩
theorem pmk_sup0 {X : Cx} {C fI cc cda : Addr} {fd : FuncData} {x : Str} {p pos : Pos} {msg : Expr} {ps : List Str} {fs : List (Str × Str)} {MV : List V → Prop} {k : Nat}
    (T : SupCls X.prog X.K C fI cc cda fd) (IT : InitText fd fI ps msg fs) (gS : X.mg "super" = none) (gC : X.mg x = some (.ref C)) (kC : PySem.W.keepIn X.K (.ref C) = true) (exC : PySem.W.subIn X.K (.ref C) (.type "BaseException") = some true) (tyC : PySem.W.typeIn X.K (.ref C) = some (.type "type")) (hr : Room (k + 1) X.A)
    (hps : ∀ fp ∈ fs, PySem.W.findIn X.K (.ref C) fp.1 = some none ∧ fp.2 ∈ ps) (hfl : fs.length ≤ 100) (hpl : ps.length ≤ 1000)
    (hmsg : ∀ (vs : List V) (us : List Value) (a : Addr) (L : Addr), Vals vs us → vs.length = ps.length → MV vs → MsgOk X.prog X.w (callEnv fd L fI) (fun y => (((("self" : Str) :: ps).zip (Value.ref a :: us)).reverse).lookup y) msg)
    (hg : Gl X x) (hdb : (x == ("__debug__" : Str)) = false) : PMk X (.Call (.Name x p) [] [] pos) (tMkSup C ps fs MV tNil) := by
  intro pins s σ H Q I h
  refine wpAny_Call_Name_kw (ld_glob I hg gC ?_ hdb)
  obtain ⟨l1, m1, q0, q1⟩ := h
  exact PySem.W.callWith_K0 I.kIn kC (made_sup (us := []) T IT gS exC tyC hr hps hfl hpl hmsg I .nil l1 m1 q0 q1)
/-- an error class of the text as the top has made it -/
structure Er (P : Program) (w : World) (K : PySem.W.Frag) (mg : Str → Option Value) (x : Str) (C : Addr) (ps : List Str) (fs : List (Str × Str)) (MV : List V → Prop) : Prop where
  ex : ∃ fI cc cda fd msg, SupCls P K C fI cc cda fd ∧ InitText fd fI ps msg fs ∧
    ∀ (vs : List V) (us : List Value) (a : Addr) (L : Addr), Vals vs us → vs.length = ps.length → MV vs → MsgOk P w (callEnv fd L fI) (fun y => (((("self" : Str) :: ps).zip (Value.ref a :: us)).reverse).lookup y) msg
  gS : mg "super" = none
  gC : mg x = some (.ref C)
  kC : PySem.W.keepIn K (.ref C) = true
  exC : PySem.W.subIn K (.ref C) (.type "BaseException") = some true
  tyC : PySem.W.typeIn K (.ref C) = some (.type "type")
  hdC : PySem.W.hasDictIn K C = true
  hps : ∀ fp ∈ fs, PySem.W.findIn K (.ref C) fp.1 = some none ∧ fp.2 ∈ ps
  hfl : fs.length ≤ 100
  hpl : ps.length ≤ 1000
theorem pmk_er {X : Cx} {C : Addr} {x : Str} {p pos : Pos} {e : Expr} {es : List Expr} {ta : TA} {ps : List Str} {fs : List (Str × Str)} {MV : List V → Prop} (T : Er X.prog X.w X.K X.mg x C ps fs MV) (hr : Room 1 X.A) (ha : PA X (e :: es) ta) (hg : Gl X x := by rfl)
    (hdb : (x == ("__debug__" : Str)) = false := by decide) (he : starEach (e :: es) X.env = (false, eval e X.env) :: starEach es X.env := by rfl) (hpl2 : (backTo pos (starEach es X.env)).any (·.1) = false := by rfl) :
    PMk X (.Call (.Name x p) (e :: es) [] pos) (tMkSup C ps fs MV ta) := by
  obtain ⟨fI, cc, cda, fd, msg, S, IT, hm⟩ := T.ex
  exact pmk_sup S IT T.gS T.gC T.kC T.exC T.tyC hr T.hps T.hfl T.hpl hm ha hg hdb he hpl2
theorem pmk_er0 {X : Cx} {C : Addr} {x : Str} {p pos : Pos} {ps : List Str} {fs : List (Str × Str)} {MV : List V → Prop} (T : Er X.prog X.w X.K X.mg x C ps fs MV) (hr : Room 1 X.A) (hg : Gl X x := by rfl)
    (hdb : (x == ("__debug__" : Str)) = false := by decide) : PMk X (.Call (.Name x p) [] [] pos) (tMkSup C ps fs MV tNil) := by
  obtain ⟨fI, cc, cda, fd, msg, S, IT, hm⟩ := T.ex
  exact pmk_sup0 S IT T.gS T.gC T.kC T.exC T.tyC hr T.hps T.hfl T.hpl hm hg hdb
end L2

/-! ## typed readings: every slot bears a predicate that stands while the heap grows -/
namespace U
open PySem PySem.Spec PyProof.Rows L2
abbrev Pr := V → Hp → Prop
abbrev HR := Hp → Hp → Prop
/-- a list that is a draw's hand: it may be written -/
def hs : List V → Bool
  | [.ref _, .int _, .int _, .int _] => true
  | _ => false
/-- a relation of heaps along which what is known stands -/
class PreT (W : HR) : Prop where
  refl : ∀ H, W H H
  trans : ∀ {a b c : Hp}, W a b → W b c → W a c
  ext : ∀ {a b : Hp}, Evl.Ex a b → W a b
  tup : ∀ {K : PySem.W.Frag} {H H' : Hp} {a : Addr} {xs : List V}, W H H' → SqT K H a xs → SqT K H' a xs
class Pre (W : HR) : Prop extends PreT W where
  lst : ∀ {K : PySem.W.Frag} {H H' : Hp} {a : Addr} {xs : List V}, W H H' → hs xs = false → SqL K H a xs → SqL K H' a xs
  wrt : ∀ {a b : Hp} {p : Addr} {o : HO}, W a b → a p = none → W a (upd b p o)
  own : ∀ {H H' : Hp} {a : Addr} {xs : List V}, W H H' → hs xs = false → H a = some (.lst xs) → H' a = some (.lst xs)
/-- what may be written: all else stands -/
def wrO : HO → Bool
  | .lst _ => true
  | .dK _ => true
  | .dT _ => true
  | .set _ _ => true
  | _ => false
def WT (H H' : Hp) : Prop := ∀ b o, H b = some o → wrO o = false → H' b = some o
instance preT_wt : PreT WT := ⟨fun _ _ _ h _ => h, fun a b x o h n => b x o (a x o h n) n, fun e b o h _ => e b o h, fun w h => by
  rcases h with (h | ⟨o, h⟩) | h
  · exact .inl (.inl (w _ _ h rfl))
  · exact .inl (.inr ⟨o, w _ _ h rfl⟩)
  · exact .inr h⟩
theorem wt_put {H : Hp} {p : Addr} {o o' : HO} (h : H p = some o) (n : wrO o = true) : WT H (upd H p o') := fun b u e m => by
  by_cases z : b = p
  · subst z; rw [h] at e; cases e; rw [n] at m; cases m
  · rw [upd_ne z]; exact e
class Mn (W : HR) (P : Pr) : Prop where
  mn : ∀ v H H', W H H' → P v H → P v H'
abbrev Ctx := List (Option Pr)
def Ty : Ctx → L2.St → Hp → Prop
  | [], [], _ => True
  | none :: G, _ :: s, H => Ty G s H
  | some P :: G, x :: s, H => (∃ v, x = some v ∧ P v H) ∧ Ty G s H
  | _, _, _ => False
class MnC (W : HR) (G : Ctx) : Prop where
  all : ∀ P, some P ∈ G → Mn W P
instance mnc_nil {W : HR} : MnC W [] := ⟨fun _ h => by cases h⟩
instance mnc_none {W : HR} {G : Ctx} [g : MnC W G] : MnC W (none :: G) := ⟨fun P h => by
  rcases List.mem_cons.mp h with e | e
  · cases e
  · exact g.all P e⟩
instance mnc_some {W : HR} {P : Pr} {G : Ctx} [p : Mn W P] [g : MnC W G] : MnC W (some P :: G) := ⟨fun Q h => by
  rcases List.mem_cons.mp h with e | e
  · cases e; exact p
  · exact g.all Q e⟩
instance mnc_set {W : HR} {P : Pr} {G : Ctx} {i : Nat} [p : Mn W P] [g : MnC W G] : MnC W (G.set i (some P)) := ⟨fun Q h => by
  rcases List.mem_or_eq_of_mem_set h with e | e
  · exact g.all Q e
  · cases e; exact p⟩
theorem ty_mn {W : HR} : ∀ {G : Ctx} {s : L2.St} {H H' : Hp}, (∀ P, some P ∈ G → Mn W P) → W H H' → Ty G s H → Ty G s H'
  | [], [], _, _, _, _, h => h
  | [], _ :: _, _, _, _, _, h => h.elim
  | none :: _, [], _, _, _, _, h => h.elim
  | some _ :: _, [], _, _, _, _, h => h.elim
  | none :: G, _ :: s, _, _, g, w, h => ty_mn (G := G) (s := s) (fun P e => g P (List.mem_cons_of_mem _ e)) w h
  | some P :: G, _ :: s, _, _, g, w, h => ⟨let ⟨v, e, p⟩ := h.1; ⟨v, e, (g P List.mem_cons_self).mn v _ _ w p⟩, ty_mn (G := G) (s := s) (fun P e => g P (List.mem_cons_of_mem _ e)) w h.2⟩
theorem MnC.mn {W : HR} {G : Ctx} (g : MnC W G) (s : L2.St) (H H' : Hp) (w : W H H') (h : Ty G s H) : Ty G s H' := ty_mn g.all w h
theorem Ty.get : ∀ {G : Ctx} {s : L2.St} {H : Hp} {i : Nat} {P : Pr}, Ty G s H → G[i]? = some (some P) → ∃ v, s[i]? = some (some v) ∧ P v H
  | [], _, _, _, _, _, e => by simp at e
  | none :: G, [], _, _, _, h, _ => h.elim
  | some _ :: G, [], _, _, _, h, _ => h.elim
  | none :: G, x :: s, H, 0, P, _, e => by simp at e
  | none :: G, x :: s, H, i + 1, P, h, e => by
    obtain ⟨v, a, b⟩ := Ty.get (G := G) (s := s) (i := i) h (by simpa using e)
    exact ⟨v, by simpa using a, b⟩
  | some Q :: G, x :: s, H, 0, P, h, e => by
    obtain ⟨⟨v, a, b⟩, _⟩ := h
    have e' : Q = P := by simpa using e
    subst e'
    exact ⟨v, by simpa using a, b⟩
  | some Q :: G, x :: s, H, i + 1, P, h, e => by
    obtain ⟨v, a, b⟩ := Ty.get (G := G) (s := s) (i := i) h.2 (by simpa using e)
    exact ⟨v, by simpa using a, b⟩
theorem Ty.put : ∀ {G : Ctx} {s : L2.St} {H : Hp} {i : Nat} {P : Pr} {v : V}, Ty G s H → P v H → Ty (G.set i (some P)) (s.set i (some v)) H
  | [], [], _, _, _, _, h, _ => h
  | [], _ :: _, _, _, _, _, h, _ => h.elim
  | none :: G, [], _, _, _, _, h, _ => h.elim
  | some _ :: G, [], _, _, _, _, h, _ => h.elim
  | none :: G, x :: s, H, 0, P, v, h, p => ⟨⟨v, rfl, p⟩, h⟩
  | some _ :: G, x :: s, H, 0, P, v, h, p => ⟨⟨v, rfl, p⟩, h.2⟩
  | none :: G, x :: s, H, i + 1, P, v, h, p => Ty.put (G := G) (s := s) (i := i) h p
  | some _ :: G, x :: s, H, i + 1, P, v, h, p => ⟨h.1, Ty.put (G := G) (s := s) (i := i) h.2 p⟩
/-- what may be raised, and where it goes: W the heaps' relation, E the wish, GX the slots there, X the exception -/
abbrev XP := Value → Option Addr → Hp → Prop
structure Rs where
  W : HR
  E : L2.St → XK
  GX : Ctx
  X : XP
def NoX : XP := fun _ _ _ => False
def Hx (Y : Rs) (H : Hp) : Prop := ∀ s cls d H', Y.W H H' → Ty Y.GX s H' → Y.X cls d H' → Y.E s cls d H'
theorem Hx.mono {Y : Rs} [w : Pre Y.W] {H H' : Hp} (h : Hx Y H) (e : Y.W H H') : Hx Y H' := fun s cls d H2 e2 t x => h s cls d H2 (w.trans e e2) t x
/-- what e evaluates to, wherever the slots are so -/
def Ev (Y : Rs) (G : Ctx) (te : TE) (P : Pr) : Prop := ∀ s H, Ty G s H → Hx Y H → ∀ Q : VK, (∀ v H2, Y.W H H2 → P v H2 → Q v H2) → te s H Q
def EvT (Y : Rs) (G : Ctx) (tt : TT) (b : Bool) : Prop := ∀ s H, Ty G s H → Hx Y H → ∀ Q : Bool → Hp → Prop, (∀ H2, Y.W H H2 → Q b H2) → tt s H Q
def AllP : List Pr → List V → Hp → Prop
  | [], [], _ => True
  | P :: Ps, v :: vs, H => P v H ∧ AllP Ps vs H
  | _, _, _ => False
class MnL (W : HR) (Ps : List Pr) : Prop where
  mn : ∀ vs H H', W H H' → AllP Ps vs H → AllP Ps vs H'
instance mnl_nil {W : HR} : MnL W [] := ⟨fun vs H H' _ h => by cases vs <;> exact h⟩
instance mnl_cons {W : HR} {P : Pr} {Ps : List Pr} [p : Mn W P] [g : MnL W Ps] : MnL W (P :: Ps) := ⟨fun vs H H' w h => by
  cases vs with
  | nil => exact h
  | cons x vs => exact ⟨p.mn x H H' w h.1, g.mn vs H H' w h.2⟩⟩
def EvA (Y : Rs) (G : Ctx) (ta : TA) (Ps : List Pr) : Prop := ∀ s H, Ty G s H → Hx Y H → ∀ Q : List V → Hp → Prop, (∀ vs H2, Y.W H H2 → AllP Ps vs H2 → Q vs H2) → ta s H Q
/-- an operation on values -/
def Op2 (W : HR) (r : R2) (P1 P2 P : Pr) : Prop := ∀ x y H, P1 x H → P2 y H → ∀ Q : VK, (∀ v H2, W H H2 → P v H2 → Q v H2) → r x y H Q
def Op1 (W : HR) (r : V → Hp → VK → Prop) (P1 P : Pr) : Prop := ∀ x H, P1 x H → ∀ Q : VK, (∀ v H2, W H H2 → P v H2 → Q v H2) → r x H Q
def OpA (W : HR) (r : List V → Hp → VK → Prop) (Ps : List Pr) (P : Pr) : Prop := ∀ vs H, AllP Ps vs H → ∀ Q : VK, (∀ v H2, W H H2 → P v H2 → Q v H2) → r vs H Q
/-- a def called: it yields P, or raises X (where one cannot be, it is shown as False) -/
def Cl (W : HR) (sp : Sp) (Ps : List Pr) (P : Pr) (X : XP) : Prop := ∀ vs H, AllP Ps vs H → ∀ (Q : VK) (E : XK), (∀ v H2, W H H2 → P v H2 → Q v H2) → (∀ cls d H2, W H H2 → X cls d H2 → E cls d H2) → sp vs H Q E
/-- just this value -/
def Is (z : V) : Pr := fun v _ => v = z
instance mn_is {W : HR} {z : V} : Mn W (Is z) := ⟨fun _ _ _ _ h => h⟩
def Sub (G G' : Ctx) : Prop := ∀ s H, Ty G s H → Ty G' s H
section
variable {Y : Rs} [w : Pre Y.W] {G : Ctx} {ta tb te : TE} {t u : TT} {P P1 P2 P' : Pr} {r : R2} {K : PySem.W.Frag}
omit w in
theorem Ev.sub (h : Ev Y G te P) (k : ∀ v H, P v H → P' v H) : Ev Y G te P' := fun s H ty hx Q q => h s H ty hx Q fun v H2 w p => q v H2 w (k v H2 p)
theorem ev_var {i : Nat} (h : G[i]? = some (some P)) : Ev Y G (tVar i) P := fun s H ty hx Q q => by
  obtain ⟨v, e, p⟩ := ty.get h
  exact ⟨v, e, q v H (w.refl H) p⟩
theorem ev_c {z : V} : Ev Y G (tC z) (Is z) := fun s H _ _ Q q => q z H (w.refl H) rfl
theorem ev_op [mc : MnC Y.W G] [m1 : Mn Y.W P1] (ha : Ev Y G ta P1) (hb : Ev Y G tb P2) (ho : Op2 Y.W r P1 P2 P) : Ev Y G (tOp r ta tb) P := fun s H ty hx Q q =>
  ha s H ty hx _ fun x H1 w1 p1 => hb s H1 (mc.mn s H H1 w1 ty) (hx.mono w1) _ fun y H2 w2 p2 => ho x y H2 (m1.mn x H1 H2 w2 p1) p2 Q fun v H3 w3 p => q v H3 (w.trans (w.trans w1 w2) w3) p
theorem ev_un {r : V → Hp → VK → Prop} (ha : Ev Y G ta P1) (ho : Op1 Y.W r P1 P) : Ev Y G (tUn r ta) P := fun s H ty hx Q q =>
  ha s H ty hx _ fun x H1 w1 p1 => ho x H1 p1 Q fun v H3 w3 p => q v H3 (w.trans w1 w3) p
theorem ea_nil : EvA Y G tNil [] := fun s H _ _ Q q => q [] H (w.refl H) True.intro
theorem ea_cons [mc : MnC Y.W G] [m1 : Mn Y.W P1] {tr : TA} {Ps : List Pr} (ha : Ev Y G ta P1) (hr : EvA Y G tr Ps) : EvA Y G (tCons ta tr) (P1 :: Ps) := fun s H ty hx Q q =>
  ha s H ty hx _ fun x H1 w1 p1 => hr s H1 (mc.mn s H H1 w1 ty) (hx.mono w1) _ fun vs H2 w2 p2 => q (x :: vs) H2 (w.trans w1 w2) ⟨m1.mn x H1 H2 w2 p1, p2⟩
theorem ev_cb {r : List V → Hp → VK → Prop} {tr : TA} {Ps : List Pr} (ha : EvA Y G tr Ps) (ho : OpA Y.W r Ps P) : Ev Y G (tCB r tr) P := fun s H ty hx Q q =>
  ha s H ty hx _ fun vs H1 w1 p1 => ho vs H1 p1 Q fun v H2 w2 p => q v H2 (w.trans w1 w2) p
theorem ev_call {sp : Sp} {tr : TA} {E : L2.St → XK} {Ps : List Pr} (ha : EvA Y G tr Ps) (ho : Cl Y.W sp Ps P NoX) : Ev Y G (tCallS sp E tr) P := fun s H ty hx Q q =>
  ha s H ty hx _ fun vs H1 w1 p1 => ho vs H1 p1 Q _ (fun v H2 w2 p => q v H2 (w.trans w1 w2) p) fun _ _ _ _ z => z.elim
theorem ev_callX [mc : MnC Y.W G] {sp : Sp} {tr : TA} {Ps : List Pr} (ha : EvA Y G tr Ps) (ho : Cl Y.W sp Ps P Y.X) (sb : Sub G Y.GX) : Ev Y G (tCallS sp Y.E tr) P := fun s H ty hx Q q =>
  ha s H ty hx _ fun vs H1 w1 p1 => ho vs H1 p1 Q _ (fun v H2 w2 p => q v H2 (w.trans w1 w2) p) fun cls d H2 w2 x => hx s cls d H2 (w.trans w1 w2) (sb s H2 (mc.mn s H H2 (w.trans w1 w2) ty)) x
omit w in
theorem et_test {b : Bool} (h : Ev Y G te (Is (.bl b))) : EvT Y G (tTest te) b := fun s H ty hx Q q => h s H ty hx _ fun v H2 w e => ⟨b, e, q H2 w⟩
omit w in
theorem et_B {b : Bool} (h : Ev Y G te (Is (.bl b))) : EvT Y G (tB te) b := fun s H ty hx Q q => h s H ty hx _ fun v H2 w e => ⟨b, e, q H2 w⟩
theorem et_and [mc : MnC Y.W G] {a b : Bool} (h1 : EvT Y G t a) (h2 : a = true → EvT Y G u b) : EvT Y G (tAnd t u) (a && b) := fun s H ty hx Q q => h1 s H ty hx _ fun H1 w1 => by
  cases a with
  | true => exact h2 rfl s H1 (mc.mn s H H1 w1 ty) (hx.mono w1) Q fun H2 w2 => q H2 (w.trans w1 w2)
  | false => exact q H1 w1
theorem et_or [mc : MnC Y.W G] {a b : Bool} (h1 : EvT Y G t a) (h2 : a = false → EvT Y G u b) : EvT Y G (tOr t u) (a || b) := fun s H ty hx Q q => h1 s H ty hx _ fun H1 w1 => by
  cases a with
  | true => exact q H1 w1
  | false => exact h2 rfl s H1 (mc.mn s H H1 w1 ty) (hx.mono w1) Q fun H2 w2 => q H2 (w.trans w1 w2)
omit w in
theorem et_not {a : Bool} (h1 : EvT Y G t a) : EvT Y G (tNot t) (!a) := fun s H ty hx Q q => h1 s H ty hx _ fun H2 w2 => q H2 w2
omit w in
theorem EvT.to {a b : Bool} (h : EvT Y G t a) (e : a = b) : EvT Y G t b := e ▸ h
omit w in
theorem Ev.to {z z' : V} (h : Ev Y G te (Is z)) (e : z = z') : Ev Y G te (Is z') := e ▸ h
theorem ev_andV [mc : MnC Y.W G] {a b : Bool} (h1 : Ev Y G ta (Is (.bl a))) (h2 : a = true → Ev Y G tb (Is (.bl b))) : Ev Y G (tAndV ta tb) (Is (.bl (a && b))) := fun s H ty hx Q q => h1 s H ty hx _ fun v H1 w1 e => ⟨a, e, by
  cases a with
  | true => exact h2 rfl s H1 (mc.mn s H H1 w1 ty) (hx.mono w1) Q fun v2 H2 w2 e2 => q v2 H2 (w.trans w1 w2) e2
  | false => exact q _ H1 w1 rfl⟩
theorem ev_orV [mc : MnC Y.W G] {a b : Bool} (h1 : Ev Y G ta (Is (.bl a))) (h2 : a = false → Ev Y G tb (Is (.bl b))) : Ev Y G (tOrV ta tb) (Is (.bl (a || b))) := fun s H ty hx Q q => h1 s H ty hx _ fun v H1 w1 e => ⟨a, e, by
  cases a with
  | true => exact q _ H1 w1 rfl
  | false => exact h2 rfl s H1 (mc.mn s H H1 w1 ty) (hx.mono w1) Q fun v2 H2 w2 e2 => q v2 H2 (w.trans w1 w2) e2⟩
omit w in
theorem ev_notV {a : Bool} (h1 : Ev Y G ta (Is (.bl a))) : Ev Y G (tNotV ta) (Is (.bl (!a))) := fun s H ty hx Q q => h1 s H ty hx _ fun v H1 w1 e => ⟨a, e, q _ H1 w1 rfl⟩
theorem ev_if [mc : MnC Y.W G] {b : Bool} (h : EvT Y G t b) (h1 : b = true → Ev Y G ta P) (h2 : b = false → Ev Y G tb P) : Ev Y G (tIf t ta tb) P := fun s H ty hx Q q => h s H ty hx _ fun H1 w1 => by
  cases b with
  | true => exact h1 rfl s H1 (mc.mn s H H1 w1 ty) (hx.mono w1) Q fun v2 H2 w2 e2 => q v2 H2 (w.trans w1 w2) e2
  | false => exact h2 rfl s H1 (mc.mn s H H1 w1 ty) (hx.mono w1) Q fun v2 H2 w2 e2 => q v2 H2 (w.trans w1 w2) e2
/-- a tuple, its items -/
def Tup (K : PySem.W.Frag) (Ps : List Pr) : Pr := fun v H => ∃ p xs, v = .ref p ∧ SqT K H p xs ∧ AllP Ps xs H
instance mn_tup {W : HR} [w : PreT W] {K : PySem.W.Frag} {Ps : List Pr} [ml : MnL W Ps] : Mn W (Tup K Ps) := ⟨fun v H H' h ⟨p, xs, e, hs, hp⟩ => ⟨p, xs, e, w.tup h hs, ml.mn xs H H' h hp⟩⟩
theorem allp_len : ∀ {Ps : List Pr} {vs : List V} {H : Hp}, AllP Ps vs H → vs.length = Ps.length
  | [], [], _, _ => rfl
  | [], _ :: _, _, h => h.elim
  | _ :: _, [], _, h => h.elim
  | _ :: _, _ :: _, _, h => by rw [List.length_cons, List.length_cons, allp_len h.2]
theorem ev_tup {tr : TA} {Ps : List Pr} [ml : MnL Y.W Ps] (ha : EvA Y G tr Ps) (hl : Ps.length ≤ 100000 := by first | decide | (simp only [List.length_cons, List.length_nil]; decide)) : Ev Y G (tTup tr) (Tup K Ps) := fun s H ty hx Q q =>
  ha s H ty hx _ fun vs H1 w1 p1 => ⟨by rw [allp_len p1]; exact Evl.sz_of hl, fun p hp => by
    have w2 : Y.W H1 (upd H1 p (.tup vs)) := w.ext (Evl.Ex.new hp)
    exact q _ _ (w.trans w1 w2) ⟨p, vs, rfl, SqT.of upd_same, ml.mn vs _ _ w2 p1⟩⟩

/-! ### statements -/
/-- from the typed slots: where it goes on (N), what it returns (R) -/
def St (Y : Rs) (G : Ctx) (ts : TS) (N : Ctx) (R : Pr) : Prop := ∀ s H (D : Ends), Ty G s H → Hx Y H → (∀ s' H', Y.W H H' → Ty N s' H' → D.nx s' H') → (∀ v H', Y.W H H' → R v H' → D.rt v H') → ts D s H
variable {ts tu tr : TS} {N M : Ctx} {R : Pr}
theorem st_seq (h1 : St Y G ts M R) (h2 : St Y M tu N R) : St Y G (tSeq ts tu) N R := fun s H D ty hx n r =>
  h1 s H _ ty hx (fun s' H' w1 ty' => h2 s' H' D ty' (hx.mono w1) (fun s2 H2 w2 t2 => n s2 H2 (w.trans w1 w2) t2) fun v H2 w2 p => r v H2 (w.trans w1 w2) p) r
omit w in
theorem st_ret (h : Ev Y G te R) : St Y G (tRet te) N R := fun s H D ty hx _ r => h s H ty hx _ fun v H2 w p => r v H2 w p
theorem st_next : St Y G tNext G R := fun s H D ty hx n _ => n s H (w.refl H) ty
theorem st_set [mc : MnC Y.W G] {i : Nat} (h : Ev Y G te P) : St Y G (tAsg te (gName i)) (G.set i (some P)) R := fun s H D ty hx n _ =>
  h s H ty hx _ fun v H2 w2 p => n _ H2 w2 ((mc.mn s H H2 w2 ty).put p)
theorem st_drop [mc : MnC Y.W G] (h : Ev Y G te P) : St Y G (tDrop te) G R := fun s H D ty hx n _ =>
  h s H ty hx _ fun v H2 w2 p => n _ H2 w2 (mc.mn s H H2 w2 ty)
theorem st_if [mc : MnC Y.W G] {b : Bool} (h : EvT Y G t b) (h1 : b = true → St Y G ts N R) (h2 : b = false → St Y G tu N R) : St Y G (tIfS t ts tu) N R := fun s H D ty hx n r => h s H ty hx _ fun H1 w1 => by
  cases b with
  | true => exact h1 rfl s H1 D (mc.mn s H H1 w1 ty) (hx.mono w1) (fun s2 H2 w2 t2 => n s2 H2 (w.trans w1 w2) t2) fun v H2 w2 p => r v H2 (w.trans w1 w2) p
  | false => exact h2 rfl s H1 D (mc.mn s H H1 w1 ty) (hx.mono w1) (fun s2 H2 w2 t2 => n s2 H2 (w.trans w1 w2) t2) fun v H2 w2 p => r v H2 (w.trans w1 w2) p
/-- a, b = a tuple of two -/
theorem st_un2 [mc : MnC Y.W G] {i j : Nat} (h : Ev Y G te (Tup K [P1, P2])) :
    St Y G (tAsg te (gTup K 2 (gCons (gName i) (gCons (gName j) gNil)))) ((G.set i (some P1)).set j (some P2)) R := fun s H D ty hx n _ =>
  h s H ty hx _ fun v H2 w2 ⟨p, xs, e, hs, hp⟩ => by
    obtain ⟨a, b, rfl⟩ : ∃ a b, xs = [a, b] := by
      have l := allp_len hp
      match xs, l with
      | [a, b], _ => exact ⟨a, b, rfl⟩
    exact ⟨p, [a, b], e, hs, rfl, a, [b], rfl, b, [], rfl, rfl, n _ H2 w2 (((mc.mn s H H2 w2 ty).put hp.1).put hp.2.1)⟩
/-- a, b = x, y -/
theorem st_par [mc : MnC Y.W G] {i j : Nat} {tr : TA} (h : EvA Y G tr [P1, P2]) : St Y G (tPar i j tr) ((G.set i (some P1)).set j (some P2)) R := fun s H D ty hx n _ =>
  h s H ty hx _ fun vs H2 w2 hp => by
    obtain ⟨a, b, rfl⟩ : ∃ a b, vs = [a, b] := by
      have l := allp_len hp
      match vs, l with
      | [a, b], _ => exact ⟨a, b, rfl⟩
    exact ⟨a, b, rfl, n _ H2 w2 (((mc.mn s H H2 w2 ty).put hp.1).put hp.2.1)⟩
/-- raise -/
theorem st_raise {tm : L2.St → Hp → XK → Prop} (sb : Sub G Y.GX) (h : ∀ s H (Q : XK), Ty G s H → (∀ cls d H', Y.W H H' → Ty G s H' → Y.X cls d H' → Q cls d H') → tm s H Q) : St Y G (fun _ s H => tm s H fun cls d H' => Y.E s cls d H') N R := fun s H D ty hx _ _ =>
  h s H _ ty fun cls d H' w2 ty2 x => hx s cls d H' w2 (sb s H' ty2) x
end
/-! ### defs -/
/-- a promise: with arguments so (one of several), such a value, or such an exception -/
structure Way where
  Ps : List Pr
  P : Pr
  X : XP
class LeR (W W' : HR) : Prop where
  le : ∀ a b, W a b → W' a b
instance le_ex {W : HR} [w : PreT W] : LeR Evl.Ex W := ⟨fun _ _ h => w.ext h⟩
instance le_self {W : HR} : LeR W W := ⟨fun _ _ h => h⟩
def SpW (W : HR) {I : Type} (C : I → Prop) (f : I → Way) : Sp := fun vs H Q E => ∃ i, C i ∧ AllP (f i).Ps vs H ∧ (∀ v H', W H H' → (f i).P v H' → Q v H') ∧ ∀ cls d H', W H H' → (f i).X cls d H' → E cls d H'
theorem cl_of {W W' : HR} [l : LeR W W'] {I : Type} {C : I → Prop} {f : I → Way} (i : I) (c : C i) : Cl W' (SpW W C f) (f i).Ps (f i).P (f i).X := fun vs H h Q E q e => ⟨i, c, h, fun v H' x p => q v H' (l.le _ _ x) p, fun cls d H' x p => e cls d H' (l.le _ _ x) p⟩
/-- the def at the global name x -/
structure Df (P : Program) (w : World) (K : PySem.W.Frag) (mg : Str → Option Value) (base : Heap) (k : Nat) (x : Str) (ps : List Str) (sp : Sp) : Prop where
  ex : ∃ f fd, FnOk P w K mg base (L2.CX P w) k f fd ps sp ∧ mg x = some (.ref f) ∧ PySem.W.keepIn K (.ref f) = true ∧ Binds K fd ps []
theorem pe_df {X : Cx} {k : Nat} {ps : List Str} {sp : Sp} {W : WX} {x : Str} {p pos : Pos} {e : Expr} {es : List Expr} {t : TA} (F : Df X.prog X.w X.K X.mg X.base k x ps sp) (hr : Room k X.A) (tk : Takes X W) (ha : PA X (e :: es) t) (hg : Gl X x := by rfl)
    (hdb : (x == ("__debug__" : Str)) = false := by decide) (he : starEach (e :: es) X.env = (false, eval e X.env) :: starEach es X.env := by rfl) (hpl : (backTo pos (starEach es X.env)).any (·.1) = false := by rfl) :
    PE X (.Call (.Name x p) (e :: es) [] pos) (tCallS sp (WE W) t) := by
  obtain ⟨f, fd, F1, F2, F3, F4⟩ := F.ex
  exact pe_callS F1 hr hg F2 F3 F4 (fun σ => passAt tk σ) ha hdb he hpl
/-- the slots at a def's entry -/
def entry (Ps : List Pr) (n : Nat) : Ctx := Ps.map some ++ List.replicate (n - Ps.length) none
theorem ty_none : ∀ (n : Nat) (H : Hp), Ty (List.replicate n none) (List.replicate n none) H
  | 0, _ => True.intro
  | n + 1, H => ty_none n H
theorem ty_entry : ∀ {Ps : List Pr} {vs : List V} {H : Hp} {n : Nat}, AllP Ps vs H → Ty (Ps.map some ++ List.replicate n none) (vs.map some ++ List.replicate n none) H
  | [], [], H, n, _ => ty_none n H
  | [], _ :: _, _, _, h => h.elim
  | _ :: _, [], _, _, h => h.elim
  | P :: Ps, v :: vs, H, n, h => ⟨⟨v, rfl, h.1⟩, ty_entry h.2⟩
/-- never reached -/
def Dead : Ctx := [some fun _ _ => False]
theorem dead {s : L2.St} {H : Hp} (h : Ty Dead s H) : False := by
  cases s with
  | nil => exact h
  | cons x s => obtain ⟨⟨_, _, z⟩, _⟩ := h; exact z
abbrev RsW (W : HR) (E : XK) (X : XP) (n : Nat) : Rs := ⟨W, fun _ => E, List.replicate n none, X⟩
abbrev RsE (E : XK) (X : XP) (n : Nat) : Rs := RsW Evl.Ex E X n
theorem sub_none : ∀ {G : Ctx} {n : Nat}, G.length = n → Sub G (List.replicate n none)
  | [], 0, _, s, H, h => by cases s <;> exact h
  | none :: G, n + 1, l, [], H, h => h
  | some _ :: G, n + 1, l, [], H, h => h
  | none :: G, n + 1, l, _ :: s, H, h => sub_none (G := G) (n := n) (by simpa using l) s H h
  | some _ :: G, n + 1, l, _ :: s, H, h => sub_none (G := G) (n := n) (by simpa using l) s H h.2
instance pre_ex : Pre Evl.Ex where
  refl := Evl.Ex.refl
  trans := fun a b => a.trans b
  ext := fun h => h
  tup := fun w h => Evl.ex_t w h
  lst := fun w _ h => Evl.ex_l w h
  wrt := fun w h => w.mut h
  own := fun w _ h => w _ _ h
section
variable {P : Program} {w : World} {K : PySem.W.Frag} {mg : Str → Option Value} {base : Heap}
theorem okW {W : HR} {x qual : Str} {st : Stmt} {f : Addr} {fd : FuncData} {N ps : List Str} {k : Nat} {I : Type} {C : I → Prop} {fw : I → Way} (F : Fun K x qual st f fd) (S : FnScope N ps (defScope st)) (hlen : ∀ i, (fw i).Ps.length = ps.length) (hN : ps.length ≤ N.length)
    (body : ∀ (cdv : Value) (A : Around) (outer : List Env) (s : Shared) (H : Hp) (E : XK), Room k (A.deeper (envOfC qual (defScope st) s.heap.objs.size f cdv)) →
      ∃ t, PSs (cxOf (L2.CX P w) P w K mg base N qual (defScope st) f cdv A outer s H E) (defBody st) t ∧ ∀ i, C i → ∃ M, St (RsW W E (fw i).X N.length) (entry (fw i).Ps N.length) t M (fw i).P ∧ ∀ s H', Ty M s H' → (fw i).P .non H') :
    FnOk P w K mg base (L2.CX P w) (k + 1) f fd ps (SpW W C fw) := by
  refine F.okX S (fun vs H Q E h => ?_) (fun cdv A outer s H vs Q E hr h => ?_)
  · obtain ⟨i, _, a, _⟩ := h
    rw [allp_len a, hlen]
  · obtain ⟨i, c, a, q, e⟩ := h
    obtain ⟨t, ht, hb⟩ := body cdv A outer s H E hr
    obtain ⟨M, hs, hm⟩ := hb i c
    refine ⟨t, ht, hs _ H _ ?_ (fun s cls d H' x _ y => e cls d H' x y) (fun s' H' x ty => q _ H' x (hm s' H' ty)) q⟩
    have l1 := allp_len a
    have := ty_entry (n := N.length - (fw i).Ps.length) a
    unfold L2.start entry
    rw [l1]
    exact this
theorem df_of {x qual : Str} {st : Stmt} {f : Addr} {fd : FuncData} {ps : List Str} {k : Nat} {sp : Sp} (h : FnOk P w K mg base (L2.CX P w) k f fd ps sp) (F : Fun K x qual st f fd) (g : mg x = some (.ref f)) (b : Binds K fd ps []) : Df P w K mg base k x ps sp := ⟨f, fd, h, g, F.kp, b⟩
end
end U

namespace U
open PySem PySem.Spec PyProof.Rows L2
/-! ### operators, whatever their operands are -/
def ror (r r' : R2) : R2 := fun x y H Q => r x y H Q ∨ r' x y H Q
theorem opr_or {X : Cx} {f : Value → Value → Sem Value} {r r' : R2} (h : OpR X f r) (h' : OpR X f r') : OpR X f (ror r r') := fun pins s σ H x y u v Q I rx ry q =>
  q.elim (h pins s σ H x y u v Q I rx ry) (h' pins s σ H x y u v Q I rx ry)
section
variable {W : HR} [w : Pre W] {K : PySem.W.Frag}
theorem op2_l {r r' : R2} {P1 P2 P : Pr} (h : Op2 W r P1 P2 P) : Op2 W (ror r r') P1 P2 P := fun x y H a b Q q => .inl (h x y H a b Q q)
theorem op2_r {r r' : R2} {P1 P2 P : Pr} (h : Op2 W r' P1 P2 P) : Op2 W (ror r r') P1 P2 P := fun x y H a b Q q => .inr (h x y H a b Q q)
theorem op2_I0 {g : Int → Int → V} {i j : Int} : Op2 W (rI0 g) (Is (.int i)) (Is (.int j)) (Is (g i j)) := fun x y H a b Q q => ⟨i, j, a, b, q _ H (w.refl H) rfl⟩
theorem op2_I {C : Int → Int → Prop} {g : Int → Int → V} {i j : Int} (c : C i j) : Op2 W (rI C g) (Is (.int i)) (Is (.int j)) (Is (g i j)) := fun x y H a b Q q => ⟨i, j, a, b, c, q _ H (w.refl H) rfl⟩
theorem op2_eq {x y : V} (h : scal x y = true) : Op2 W rEq (Is x) (Is y) (Is (.bl (decide (x = y)))) := fun x' y' H a b Q q => by
  cases a; cases b
  exact ⟨h, q _ H (w.refl H) rfl⟩
theorem op2_ne {x y : V} (h : scal x y = true) : Op2 W rNe (Is x) (Is y) (Is (.bl (!decide (x = y)))) := fun x' y' H a b Q q => by
  cases a; cases b
  exact ⟨h, q _ H (w.refl H) rfl⟩
theorem op1_neg {i : Int} : Op1 W (rU fun i => .int (-i)) (Is (.int i)) (Is (.int (-i))) := fun x H a Q q => ⟨i, a, q _ H (w.refl H) rfl⟩
/-- an item of a tuple -/
theorem allp_get : ∀ {Ps : List Pr} {xs : List V} {H : Hp} {i : Nat} {P : Pr}, AllP Ps xs H → Ps[i]? = some P → ∃ v, xs[i]? = some v ∧ P v H
  | [], _, _, _, _, _, e => by simp at e
  | Q :: Ps, [], _, _, _, h, _ => h.elim
  | Q :: Ps, x :: xs, H, 0, P, h, e => by
    have e' : Q = P := by simpa using e
    subst e'
    exact ⟨x, by simp, h.1⟩
  | Q :: Ps, x :: xs, H, i + 1, P, h, e => by
    obtain ⟨v, a, b⟩ := allp_get (Ps := Ps) (xs := xs) (i := i) h.2 (by simpa using e)
    exact ⟨v, by simpa using a, b⟩
theorem op2_ixT {Ps : List Pr} {i : Nat} {P : Pr} (h : Ps[i]? = some P) : Op2 W (rIxT K) (Tup K Ps) (Is (.int (i : Int))) P := fun x y H ⟨p, xs, e, hs, hp⟩ b Q q => by
  obtain ⟨v, a, c⟩ := allp_get hp h
  exact ⟨p, xs, _, v, e, b, hs, atI_nat a, q v H (w.refl H) c⟩
end
/-! ### the operators of the text -/
def rFd : R2 := rI (fun _ j => j ≠ 0 ∧ j.natAbs.log2 < 9000) fun i j => .int (i.fdiv j)
theorem op_fd {X : Cx} : OpR X (binaryOp .FloorDiv) rFd := opI fun i j _ _ _ _ _ hc q => floordiv_int hc.1 q (.inl (PyProof.noPylong_of_log2 hc.2))
/-! ### ratios -/
def Big (n : Nat) (i : Int) : Prop := i.natAbs < 2 ^ n
def Sz (n : Nat) (q : Rat) : Prop := Big n q.num ∧ q.den < 2 ^ n
/-- a told ratio -/
def Told (K : PySem.W.Frag) (q : Rat) : Pr := Tup K [Is (.int q.num), Is (.int q.den)]
instance mn_told {W : HR} [w : PreT W] {K : PySem.W.Frag} {q : Rat} : Mn W (Told K q) := mn_tup
/-- what may be passed as the ratio q -/
def IsR (K : PySem.W.Frag) (n : Nat) (q : Rat) : Pr := fun v H => (∃ i : Int, v = .int i ∧ Big n i ∧ (i : Rat) = q) ∨ ∃ a b : Int, Tup K [Is (.int a), Is (.int b)] v H ∧ 0 < b ∧ Big n a ∧ Big n b ∧ Rat.divInt a b = q
instance mn_isR {W : HR} [w : PreT W] {K : PySem.W.Frag} {n : Nat} {q : Rat} : Mn W (IsR K n q) := ⟨fun v H H' h p => p.elim .inl fun ⟨a, b, t, r⟩ => .inr ⟨a, b, mn_tup.mn v H H' h t, r⟩⟩
theorem isR_told {K : PySem.W.Frag} {q : Rat} {v : V} {H : Hp} (h : Told K q v H) : ∃ p, v = .ref p ∧ SqT K H p [.int q.num, .int q.den] := by
  obtain ⟨p, xs, e, hs, hp⟩ := h
  match xs, hp with
  | [a, b], hp =>
    obtain ⟨rfl, rfl, _⟩ := hp
    exact ⟨p, e, hs⟩
theorem told_isR {K : PySem.W.Frag} {n : Nat} {q : Rat} (s : Sz n q) {v : V} {H : Hp} (h : Told K q v H) : IsR K n q v H := .inr ⟨q.num, q.den, h, by have := q.den_pos; omega, s.1, by have := s.2; unfold Big; omega, by simp⟩
theorem big_mono {n m : Nat} {i : Int} (h : Big n i) (l : n ≤ m) : Big m i := Nat.lt_of_lt_of_le h (Nat.pow_le_pow_right (by decide) l)
theorem big_mul {n m : Nat} {i j : Int} (h : Big n i) (k : Big m j) : Big (n + m) (i * j) := by
  unfold Big at *
  rw [Int.natAbs_mul, Nat.pow_add]
  exact Nat.mul_lt_mul'' h k
theorem big_add {n m : Nat} {i j : Int} (h : Big n i) (k : Big n j) : Big (n + 1) (i + j) := by
  unfold Big at *
  have := Int.natAbs_add_le i j
  rw [Nat.pow_succ]; omega
theorem big_neg {n : Nat} {i : Int} (h : Big n i) : Big n (-i) := by unfold Big at *; rw [Int.natAbs_neg]; exact h
theorem big_sub {n m : Nat} {i j : Int} (h : Big n i) (k : Big n j) : Big (n + 1) (i - j) := by rw [Int.sub_eq_add_neg]; exact big_add (m := n) h (big_neg k)
theorem sz_divInt {n : Nat} {a b : Int} (hb : b ≠ 0) (h : Big n a) (k : Big n b) : Sz n (Rat.divInt a b) := by
  constructor
  · unfold Big at *
    rw [Rat.num_divInt]
    refine Nat.lt_of_le_of_lt ?_ h
    rw [Int.natAbs_ediv_of_dvd]
    · rw [Int.natAbs_mul, Int.natAbs_natCast]
      have : b.sign.natAbs = 1 := by rcases Int.lt_trichotomy b 0 with z | z | z <;> simp_all [Int.sign_eq_neg_one_of_neg, Int.sign_eq_one_of_pos]
      rw [this, Nat.one_mul]
      exact Nat.div_le_self _ _
    · exact Int.dvd_trans (Int.gcd_dvd_right ..) (Int.dvd_mul_left ..)
  · unfold Big at k
    rw [Rat.den_divInt, if_neg hb]
    exact Nat.lt_of_le_of_lt (Nat.div_le_self _ _) k
end U

namespace U
open PySem PySem.Spec PyProof.Rows L2
/-! ### operators of several kinds -/
def rAddS : R2 := fun x y H Q => ∃ i j, x = .str i ∧ y = .str j ∧ i.length + j.length ≤ sizeLine ∧ Q (.str (i ++ j)) H
def rAddA (K : PySem.W.Frag) : R2 := ror (rI0 fun i j => .int (i + j)) (ror rAddS (ror rCat (rCatT K)))
theorem op_addA {X : Cx} : OpR X (binaryOp .Add) (rAddA X.K) := opr_or op_add (opr_or op_add_str (opr_or op_cat op_catT))
def rMulI : R2 := rI IntMulOk fun i j => .int (i * j)
theorem op_mulI {X : Cx} : OpR X (binaryOp .Mult) rMulI := opI fun _ _ _ _ _ _ _ hc q => mul_int q hc
def rMulA : R2 := ror rMulI rRep
theorem op_mulA {X : Cx} : OpR X (binaryOp .Mult) rMulA := opr_or op_mulI op_rep
def rEqA (K : PySem.W.Frag) : R2 := ror rEq (rEqD K)
def rNeA (K : PySem.W.Frag) : R2 := ror rNe (rNeD K)
theorem op_eqA {X : Cx} (hu : X.A.units + 64 < cLine) : OpR X (compareOp .Eq) (rEqA X.K) := opr_or op_eq (op_eqD hu)
theorem op_neA {X : Cx} (hu : X.A.units + 64 < cLine) : OpR X (compareOp .NotEq) (rNeA X.K) := opr_or op_ne (op_neD hu)
section
variable {W : HR} [w : Pre W] {K : PySem.W.Frag}
theorem o_add {i j : Int} : Op2 W (rAddA K) (Is (.int i)) (Is (.int j)) (Is (.int (i + j))) := op2_l op2_I0
theorem o_sub {i j : Int} : Op2 W (rI0 fun i j => .int (i - j)) (Is (.int i)) (Is (.int j)) (Is (.int (i - j))) := op2_I0
theorem o_mul {n m : Nat} {i j : Int} (h : Big n i) (k : Big m j) (l : n + m ≤ 900000) : Op2 W rMulA (Is (.int i)) (Is (.int j)) (Is (.int (i * j))) :=
  op2_l (op2_I (wide_mul (a := n + 1) (b := m + 1) (big_mono h (Nat.le_succ n)) (big_mono k (Nat.le_succ m)) (Nat.succ_pos _) (Nat.succ_pos _) (by omega)).ok)
/-- one factor is small -/
theorem o_mulS {i j : Int} (h : -(2 ^ 64) < j ∧ j < 2 ^ 64) : Op2 W rMulA (Is (.int i)) (Is (.int j)) (Is (.int (i * j))) := op2_l (op2_I (IntMulOk.of_right (intBits_le_64 h.1 h.2)))
theorem o_fd {n : Nat} {i j : Int} (h : j ≠ 0) (k : Big n j) (l : n ≤ 8000) : Op2 W rFd (Is (.int i)) (Is (.int j)) (Is (.int (i.fdiv j))) :=
  op2_I ⟨h, Nat.lt_of_lt_of_le (PySem.Flt.log2_lt_of (Nat.succ_pos n) (big_mono k (Nat.le_succ n))) (by omega)⟩
theorem o_mod {i j : Int} (h : 0 < j) : Op2 W (rI (fun _ j => 0 < j) fun i j => .int (i % j)) (Is (.int i)) (Is (.int j)) (Is (.int (i % j))) := op2_I h
theorem o_eqI {i j : Int} : Op2 W (rEqA K) (Is (.int i)) (Is (.int j)) (Is (.bl (decide (i = j)))) := op2_l (by
  have := op2_eq (W := W) (x := .int i) (y := .int j) rfl
  have e : decide (V.int i = V.int j) = decide (i = j) := by by_cases h : i = j <;> simp [h]
  rw [e] at this; exact this)
theorem o_neI {i j : Int} : Op2 W (rNeA K) (Is (.int i)) (Is (.int j)) (Is (.bl (decide (i ≠ j)))) := op2_l (by
  have := op2_ne (W := W) (x := .int i) (y := .int j) rfl
  have e : (!decide (V.int i = V.int j)) = decide (i ≠ j) := by by_cases h : i = j <;> simp [h]
  rw [e] at this; exact this)
theorem o_eqS {i j : Str} : Op2 W (rEqA K) (Is (.str i)) (Is (.str j)) (Is (.bl (decide (i = j)))) := op2_l (by
  have := op2_eq (W := W) (x := .str i) (y := .str j) rfl
  have e : decide (V.str i = V.str j) = decide (i = j) := by by_cases h : i = j <;> simp [h]
  rw [e] at this; exact this)
/-! ### kinds -/
def HasTy (K : PySem.W.Frag) (t : String) (P : Pr) : Prop := ∀ v H, P v H → TyX K H v (.type t)
theorem hasTy_int {i : Int} : HasTy K "int" (Is (.int i)) := fun v H h => by cases h; exact .base (.int i)
theorem hasTy_bool {b : Bool} : HasTy K "bool" (Is (.bl b)) := fun v H h => by cases h; exact .base (.bl b)
theorem hasTy_str {x : Str} : HasTy K "str" (Is (.str x)) := fun v H h => by cases h; exact .base (.str x)
theorem hasTy_none : HasTy K "NoneType" (Is .non) := fun v H h => by cases h; exact .base .non
theorem hasTy_tup {Ps : List Pr} : HasTy K "tuple" (Tup K Ps) := fun v H ⟨p, xs, e, hs, _⟩ => by
  subst e
  rcases hs with (h | ⟨o, h⟩) | ⟨o, its, n, h, hc, _⟩
  · exact .base (.tup h)
  · exact .fTuple h
  · exact .kTuple h hc
theorem opA_isi {P : Pr} {t T : String} {b : Bool} (h : HasTy K t P) (k : kitB t T = some b) : OpA W (rIsi K) [P, Is (.ty T)] (Is (.bl b)) := fun vs H a Q q => by
  match vs, a with
  | [x, c], ⟨p, e, _⟩ =>
    cases e
    exact ⟨x, .ty T, .type t, .type T, b, rfl, .ty T, h x H p, kit_ty k, q _ H (w.refl H) rfl⟩
def rLenA (K : PySem.W.Frag) : List V → Hp → VK → Prop := fun xs H Q => ∃ x n, xs = [x] ∧ LenV K x H n ∧ Q (.int n) H
theorem call_lenA {X : Cx} : CallR X (.builtin "len") (rLenA X.K) := call_len
theorem lenv_t {p : Addr} {xs : List V} {H : Hp} (hs : SqT K H p xs) : LenV K (.ref p) H xs.length := Or.inr ⟨xs, hs, rfl⟩
theorem rlen_t {p : Addr} {xs : List V} {H : Hp} (lv : LenV K (.ref p) H xs.length) (Q : VK) (z : Q (.int (xs.length : Int)) H) : rLenA K [.ref p] H Q := ⟨V.ref p, xs.length, rfl, lv, z⟩
theorem allp1 {P : Pr} {vs : List V} {H : Hp} (a : AllP [P] vs H) : ∃ x, vs = [x] ∧ P x H := by
  cases vs with
  | nil => exact a.elim
  | cons x vs =>
    cases vs with
    | nil => exact ⟨x, rfl, a.1⟩
    | cons y vs => exact a.2.elim
theorem opA_lenT {Ps : List Pr} : OpA W (rLenA K) [Tup K Ps] (Is (.int (Ps.length : Int))) := fun vs H a Q q => by
  obtain ⟨x, ev, p, xs, e, hs, hp⟩ := allp1 a
  have l := allp_len hp
  have z := q (.int (Ps.length : Int)) H (w.refl H) rfl
  rw [← l] at z
  rw [ev, e]
  exact rlen_t (lenv_t hs) Q z
theorem opA_int {i : Int} : OpA W (fun xs H Q => (∃ i, xs = [.int i] ∧ Q (.int i) H) ∨ ∃ k, xs = [.bl k] ∧ Q (.int (if k then 1 else 0)) H) [Is (.int i)] (Is (.int i)) := fun vs H a Q q => by
  match vs, a with
  | [x], ⟨e, _⟩ => cases e; exact .inl ⟨i, rfl, q _ H (w.refl H) rfl⟩
theorem opA_abs {i : Int} : OpA W (fun xs H Q => ∃ i, xs = [.int i] ∧ Q (.int (if i < 0 then -i else i)) H) [Is (.int i)] (Is (.int (i.natAbs : Int))) := fun vs H a Q q => by
  match vs, a with
  | [x], ⟨e, _⟩ =>
    cases e
    refine ⟨i, rfl, ?_⟩
    have : (if i < 0 then -i else i) = (i.natAbs : Int) := by split <;> omega
    rw [this]
    exact q _ H (w.refl H) rfl
theorem opA_gcd {i j : Int} : OpA W rGcd [Is (.int i), Is (.int j)] (Is (.int ((Nat.gcd i.natAbs j.natAbs : Nat) : Int))) := fun vs H a Q q => by
  match vs, a with
  | [x, y], ⟨e, e2, _⟩ => cases e; cases e2; exact ⟨i, j, rfl, q _ H (w.refl H) rfl⟩
theorem o_ixT {Ps : List Pr} {i : Nat} {P : Pr} (h : Ps[i]? = some P) : Op2 W (rIx K) (Tup K Ps) (Is (.int (i : Int))) P := fun x y H a b Q q => .inr (.inl (op2_ixT h x y H a b Q q))
end
/-! ### lowest terms -/
theorem low_terms {t b : Int} (hb : b ≠ 0) : ∀ c : Int, c = (if b < 0 then -((Nat.gcd t.natAbs b.natAbs : Nat) : Int) else ((Nat.gcd t.natAbs b.natAbs : Nat) : Int)) → c ≠ 0 ∧ t.fdiv c = (Rat.divInt t b).num ∧ b.fdiv c = ((Rat.divInt t b).den : Int) := by
  intro c hc
  have g0 : 0 < Nat.gcd t.natAbs b.natAbs := Nat.gcd_pos_of_pos_right _ (by omega)
  have gc : (b.gcd t : Nat) = Nat.gcd t.natAbs b.natAbs := by rw [Int.gcd_comm]; rfl
  have d1 : ((Nat.gcd t.natAbs b.natAbs : Nat) : Int) ∣ t := by rw [← gc]; exact Int.gcd_dvd_right ..
  have d2 : ((Nat.gcd t.natAbs b.natAbs : Nat) : Int) ∣ b := by rw [← gc]; exact Int.gcd_dvd_left ..
  rw [Rat.num_divInt, Rat.den_divInt, if_neg hb, gc]
  by_cases hn : b < 0
  · rw [if_pos hn] at hc
    subst hc
    refine ⟨by omega, ?_, ?_⟩
    · rw [Int.fdiv_eq_ediv_of_dvd (Int.neg_dvd.mpr d1), Int.ediv_neg, Int.sign_eq_neg_one_of_neg hn, Int.neg_one_mul, Int.neg_ediv_of_dvd d1]
    · rw [Int.fdiv_eq_ediv_of_dvd (Int.neg_dvd.mpr d2), Int.ediv_neg, Int.natCast_ediv, ← Int.neg_ediv_of_dvd d2]
      congr 1
      omega
  · rw [if_neg hn] at hc
    subst hc
    have hp : 0 < b := by omega
    refine ⟨by omega, ?_, ?_⟩
    · rw [Int.fdiv_eq_ediv_of_dvd d1, Int.sign_eq_one_of_pos hp, Int.one_mul]
    · rw [Int.fdiv_eq_ediv_of_dvd d2, Int.natCast_ediv]
      congr 1
      omega
end U

namespace U
open PySem PySem.Spec PyProof.Rows L2
/-- a list, its items -/
def Lst (K : PySem.W.Frag) (Ps : List Pr) : Pr := fun v H => ∃ p xs, v = .ref p ∧ SqL K H p xs ∧ hs xs = false ∧ AllP Ps xs H
instance mn_lst {W : HR} [w : Pre W] {K : PySem.W.Frag} {Ps : List Pr} [ml : MnL W Ps] : Mn W (Lst K Ps) := ⟨fun v H H' h ⟨p, xs, e, hq, hn, hp⟩ => ⟨p, xs, e, w.lst h hn hq, hn, ml.mn xs H H' h hp⟩⟩
/-- some of several -/
def Some {A : Type} (C : A → Prop) (P : A → Pr) : Pr := fun v H => ∃ a, C a ∧ P a v H
instance mn_some {W : HR} {A : Type} {C : A → Prop} {P : A → Pr} [m : ∀ a, Mn W (P a)] : Mn W (Some C P) := ⟨fun v H H' h ⟨a, c, p⟩ => ⟨a, c, (m a).mn v H H' h p⟩⟩
section
variable {Y : Rs} [w : Pre Y.W] {G : Ctx} {ta tb te : TE} {t u : TT} {P P1 P2 P' : Pr} {r : R2} {K : PySem.W.Frag} {ts tu : TS} {N M : Ctx} {R : Pr}
theorem Ty.alt {A : Type} {C : A → Prop} {P : A → Pr} : ∀ {G : Ctx} {s : L2.St} {H : Hp} {i : Nat}, Ty G s H → G[i]? = some (some (Some C P)) → ∃ a, C a ∧ Ty (G.set i (some (P a))) s H
  | [], _, _, _, _, e => by simp at e
  | none :: G, [], _, _, h, _ => h.elim
  | some _ :: G, [], _, _, h, _ => h.elim
  | none :: G, x :: s, H, 0, _, e => by simp at e
  | none :: G, x :: s, H, i + 1, h, e => by
    obtain ⟨a, c, z⟩ := Ty.alt (G := G) (s := s) (i := i) h (by simpa using e)
    exact ⟨a, c, z⟩
  | some Q :: G, x :: s, H, 0, h, e => by
    have e' : Q = Some C P := by simpa using e
    subst e'
    obtain ⟨⟨v, e, a, c, p⟩, z⟩ := h
    exact ⟨a, c, ⟨v, e, p⟩, z⟩
  | some Q :: G, x :: s, H, i + 1, h, e => by
    obtain ⟨a, c, z⟩ := Ty.alt (G := G) (s := s) (i := i) h.2 (by simpa using e)
    exact ⟨a, c, h.1, z⟩
omit w in
/-- a slot's letter is taken out -/
theorem st_open {A : Type} {C : A → Prop} {P : A → Pr} (i : Nat) (h : G[i]? = some (some (Some C P))) (k : ∀ a, C a → St Y (G.set i (some (P a))) ts N R) : St Y G ts N R := fun s H D ty hx n r => by
  obtain ⟨a, c, z⟩ := ty.alt h
  exact k a c s H D z hx n r
omit w in
theorem ev_some {A : Type} {C : A → Prop} {P : A → Pr} (a : A) (c : C a) (h : Ev Y G te (P a)) : Ev Y G te (Some C P) := h.sub fun v H p => ⟨a, c, p⟩
omit w in
theorem st_sub (h : Sub G M) (k : St Y M ts N R) : St Y G ts N R := fun s H D ty => k s H D (h s H ty)
omit w in
theorem st_post {N' : Ctx} {R' : Pr} (k : St Y G ts N' R') (h : Sub N' N) (hr : ∀ v H, R' v H → R v H) : St Y G ts N R := fun s H D ty hx n r => k s H D ty hx (fun s' H' w t => n s' H' w (h s' H' t)) fun v H' w p => r v H' w (hr v H' p)
theorem op2_some1 {W : HR} {A : Type} {C : A → Prop} {P : A → Pr} {P2 P' : Pr} {r : R2} (h : ∀ a, C a → Op2 W r (P a) P2 P') : Op2 W r (Some C P) P2 P' := fun x y H ⟨a, c, p⟩ b Q q => h a c x y H p b Q q
theorem op2_some2 {W : HR} {A : Type} {C : A → Prop} {P : A → Pr} {P1 P' : Pr} {r : R2} (h : ∀ a, C a → Op2 W r P1 (P a) P') : Op2 W r P1 (Some C P) P' := fun x y H b ⟨a, c, p⟩ Q q => h a c x y H b p Q q
theorem op2_sub {W : HR} {P1 P2 P P' : Pr} {r : R2} (h : Op2 W r P1 P2 P) (k : ∀ v H, P v H → P' v H) : Op2 W r P1 P2 P' := fun x y H a b Q q => h x y H a b Q fun v H2 w p => q v H2 w (k v H2 p)
/-! ### displays of lists, items -/
theorem ev_lst {tr : TA} {Ps : List Pr} [ml : MnL Y.W Ps] (ha : EvA Y G tr Ps) (hn : ∀ vs H, AllP Ps vs H → hs vs = false) (hl : Ps.length ≤ 100000 := by first | decide | (simp only [List.length_cons, List.length_nil]; decide)) : Ev Y G (tLst tr) (Lst K Ps) := fun s H ty hx Q q =>
  ha s H ty hx _ fun vs H1 w1 p1 => ⟨by rw [allp_len p1]; exact Evl.sz_of hl, fun p hp => by
    have w2 : Y.W H1 (upd H1 p (.lst vs)) := w.ext (Evl.Ex.new hp)
    exact q _ _ (w.trans w1 w2) ⟨p, vs, rfl, SqL.of upd_same, hn vs H1 p1, ml.mn vs _ _ w2 p1⟩⟩
theorem o_ixL {W : HR} [w : Pre W] {Ps : List Pr} {i : Nat} {P : Pr} (h : Ps[i]? = some P) : Op2 W (rIx K) (Lst K Ps) (Is (.int (i : Int))) P := fun x y H ⟨p, xs, e, hq, hn, hp⟩ b Q q => by
  obtain ⟨v, a, c⟩ := allp_get hp h
  exact .inl ⟨p, xs, _, v, e, b, hq, atI_nat a, q v H (w.refl H) c⟩
theorem opA_lenL {W : HR} [w : Pre W] {Ps : List Pr} : OpA W (rLenA K) [Lst K Ps] (Is (.int (Ps.length : Int))) := fun vs H a Q q => by
  obtain ⟨x, ev, p, xs, e, hq, hn, hp⟩ := allp1 a
  have l := allp_len hp
  have z := q (.int (Ps.length : Int)) H (w.refl H) rfl
  rw [← l] at z
  rw [ev, e]
  have lv : LenV K (.ref p) H xs.length := Or.inl ⟨xs, hq, rfl⟩
  exact rlen_t lv Q z
theorem hasTy_lst {Ps : List Pr} : HasTy K "list" (Lst K Ps) := fun v H ⟨p, xs, e, hq, _, _⟩ => by
  subst e
  rcases hq with (h | ⟨o, h⟩) | ⟨o, its, n, h, hc, _⟩
  · exact .base (.lst h)
  · exact .base (.frz h)
  · exact .kList h hc
/-! ### truth -/
omit w in
theorem et_truI {i : Int} (h : Ev Y G te (Is (.int i))) : EvT Y G (fun σ H Q => te σ H fun x H' => ∃ k, TruV K x H' k ∧ Q k H') (i != 0) := fun s H ty hx Q q => h s H ty hx _ fun v H2 w e => by
  cases e
  exact ⟨_, rfl, q H2 w⟩
omit w in
theorem et_truB {b : Bool} (h : Ev Y G te (Is (.bl b))) : EvT Y G (fun σ H Q => te σ H fun x H' => ∃ k, TruV K x H' k ∧ Q k H') b := fun s H ty hx Q q => h s H ty hx _ fun v H2 w e => by
  cases e
  exact ⟨_, rfl, q H2 w⟩
/-! ### loops -/
/-- what a for walks: n turns, the item of each -/
def EvI (Y : Rs) (G : Ctx) (wi : TI) (n : Nat) (It : Nat → Pr) : Prop := ∀ s H, Ty G s H → Hx Y H → ∀ R : L2.It → Hp → Prop,
  (∀ J H2 (Gd : Hp → Prop), Y.W H H2 → Gd H2 → (∀ a b, Y.W a b → Gd a → Gd b) → Walk J n Gd (fun i Ha x Hb => Y.W Ha Hb ∧ It i x Hb) → R J H2) → wi s H R
def nth (Ps : List Pr) (i : Nat) : Pr := (Ps[i]?).getD fun _ _ => False
theorem allp_nth {Ps : List Pr} {xs : List V} {H : Hp} {i : Nat} {x : V} (h : AllP Ps xs H) (e : xs[i]? = some x) : nth Ps i x H := by
  have l := allp_len h
  have hi : i < Ps.length := by rw [← l]; exact (List.getElem?_eq_some_iff.mp e).1
  obtain ⟨v, a, b⟩ := allp_get (i := i) (P := Ps[i]) h (by simp)
  rw [e] at a
  cases a
  unfold nth
  rw [List.getElem?_eq_getElem hi]
  exact b
theorem ei_list {Ps : List Pr} [ml : MnL Y.W Ps] (h : Ev Y G te (Lst K Ps)) : EvI Y G (iList K te) Ps.length (nth Ps) := fun s H ty hx R k =>
  h s H ty hx _ fun v H2 w2 ⟨p, xs, e, hq, hn, hp⟩ => by
    refine ⟨p, e, ⟨xs, hq⟩, k _ H2 (fun H => SqL K H p xs ∧ AllP Ps xs H) w2 ⟨hq, hp⟩ (fun a b x z => ⟨w.lst x hn z.1, ml.mn xs a b x z.2⟩) ?_⟩
    rw [← allp_len hp]
    refine ⟨fun i H hi z => walk_list.goes i H hi z.1, fun H z => walk_list.stops H z.1, fun i Ha x Hb hi z y => ?_⟩
    obtain ⟨e1, e2⟩ := walk_list.yields i Ha x Hb hi z.1 y
    subst e1
    exact ⟨w.refl _, allp_nth z.2 e2⟩
theorem ei_tup {Ps : List Pr} [ml : MnL Y.W Ps] (h : Ev Y G te (Tup K Ps)) : EvI Y G (iTup K te) Ps.length (nth Ps) := fun s H ty hx R k =>
  h s H ty hx _ fun v H2 w2 ⟨p, xs, e, hq, hp⟩ => by
    refine ⟨p, e, ⟨xs, hq⟩, k _ H2 (fun H => SqT K H p xs ∧ AllP Ps xs H) w2 ⟨hq, hp⟩ (fun a b x z => ⟨w.tup x z.1, ml.mn xs a b x z.2⟩) ?_⟩
    rw [← allp_len hp]
    refine ⟨fun i H hi z => walk_tup.goes i H hi z.1, fun H z => walk_tup.stops H z.1, fun i Ha x Hb hi z y => ?_⟩
    obtain ⟨e1, e2⟩ := walk_tup.yields i Ha x Hb hi z.1 y
    subst e1
    exact ⟨w.refl _, allp_nth z.2 e2⟩
theorem ei_range1 {tr : TA} {j : Int} (h : EvA Y G tr [Is (.int j)]) (l : -(2 ^ 62) ≤ j ∧ j < 2 ^ 62) : EvI Y G (iRng1 tr) j.toNat (fun i => Is (.int (i : Int))) := fun s H ty hx R k =>
  h s H ty hx _ fun vs H2 w2 hp => by
    obtain ⟨x, ev, e⟩ := allp1 hp
    cases e
    refine ⟨j, ev, l.1, l.2, k _ H2 (fun _ => True) w2 True.intro (fun _ _ _ _ => True.intro) ⟨fun i H hi z => walk_range.goes i H hi True.intro, fun H z => walk_range.stops H True.intro, fun i Ha x Hb hi z y => ?_⟩⟩
    obtain ⟨e1, e2⟩ := walk_range.yields i Ha x Hb hi True.intro y
    subst e1
    refine ⟨w.refl _, ?_⟩
    show x = V.int (i : Int)
    have e3 : (fun i : Nat => V.int (0 + (i : Int))) i = V.int (i : Int) := congrArg V.int (Int.zero_add _)
    exact e2.trans e3
theorem ei_enum {tr : TA} {Ps : List Pr} [ml : MnL Y.W Ps] [mi : ∀ i, Mn Y.W (nth Ps i)] (h : EvA Y G tr [Lst K Ps]) : EvI Y G (iEnum K tr) Ps.length (fun i => Tup K [Is (.int (i : Int)), nth Ps i]) := fun s H ty hx R k =>
  h s H ty hx _ fun vs H2 w2 ha => by
    obtain ⟨x, ev, p, xs, e, hq, hn, hp⟩ := allp1 ha
    subst e
    refine ⟨p, xs, ev, hq, k _ H2 (fun H => SqL K H p xs ∧ AllP Ps xs H) w2 ⟨hq, hp⟩ (fun a b x z => ⟨w.lst x hn z.1, ml.mn xs a b x z.2⟩) ?_⟩
    rw [← allp_len hp]
    refine ⟨fun i H hi z => walk_enum.goes i H hi z.1, fun H z => walk_enum.stops H z.1, fun i Ha x Hb hi z y => ?_⟩
    obtain ⟨T, a, b, e1, e2, e3, e4, e5⟩ := walk_enum.yields i Ha x Hb hi z.1 y
    subst e3
    have w3 : Y.W Ha (upd Ha T (.tup [a, b])) := w.ext (Evl.Ex.new e2)
    cases e4
    exact ⟨w3, T, _, e1, SqT.of upd_same, rfl, (mi i).mn _ _ _ w3 (allp_nth z.2 e5), True.intro⟩
theorem st_for {wi : TI} {n : Nat} {It : Nat → Pr} {j : Nat} (hi : EvI Y G wi n It) (L : Nat → Ctx) (h0 : Sub G (L 0)) [mc : MnC Y.W G] [ml : ∀ i, MnC Y.W (L i)] (body : ∀ i, i < n → St Y ((L i).set j (some (It i))) tu (L (i + 1)) R) : St Y G (tFor wi (gName j) tu) (L n) R := fun s H D ty hx nx rt =>
  hi s H ty hx _ fun J H2 Gd w2 g2 gm wk => by
    refine for_it wk (fun i s' H' => Y.W H H' ∧ Gd H' ∧ Ty (L i) s' H') ⟨w2, g2, h0 s H2 (mc.mn s H H2 w2 ty)⟩ (fun i s' H' _ z => z.2.1) (fun i x s' Ha Hb hi z y => ?_) fun s' H' z => nx s' H' z.1 z.2.2
    obtain ⟨z1, z2, z3⟩ := z
    obtain ⟨y1, y2⟩ := y
    have wb := w.trans z1 y1
    refine body i hi _ Hb _ (((ml i).mn s' Ha Hb y1 z3).put y2) (hx.mono wb) (fun s2 H3 w3 t3 => ⟨w.trans wb w3, gm _ _ (w.trans y1 w3) z2, t3⟩) fun v H3 w3 p => rt v H3 (w.trans wb w3) p
theorem st_for2 {wi : TI} {n : Nat} {I1 I2 : Nat → Pr} {j l : Nat} (hi : EvI Y G wi n fun i => Tup K [I1 i, I2 i]) (L : Nat → Ctx) (h0 : Sub G (L 0)) [mc : MnC Y.W G] [ml : ∀ i, MnC Y.W (L i)] (body : ∀ i, i < n → St Y (((L i).set j (some (I1 i))).set l (some (I2 i))) tu (L (i + 1)) R) :
    St Y G (tFor wi (gTup K 2 (gCons (gName j) (gCons (gName l) gNil))) tu) (L n) R := fun s H D ty hx nx rt =>
  hi s H ty hx _ fun J H2 Gd w2 g2 gm wk => by
    refine for_it wk (fun i s' H' => Y.W H H' ∧ Gd H' ∧ Ty (L i) s' H') ⟨w2, g2, h0 s H2 (mc.mn s H H2 w2 ty)⟩ (fun i s' H' _ z => z.2.1) (fun i x s' Ha Hb hi z y => ?_) fun s' H' z => nx s' H' z.1 z.2.2
    obtain ⟨z1, z2, z3⟩ := z
    obtain ⟨y1, p, xs, e, hq, hp⟩ := y
    have wb := w.trans z1 y1
    obtain ⟨a, b, rfl⟩ : ∃ a b, xs = [a, b] := by
      have l := allp_len hp
      match xs, l with
      | [a, b], _ => exact ⟨a, b, rfl⟩
    refine ⟨p, [a, b], e, hq, rfl, a, [b], rfl, b, [], rfl, rfl, ?_⟩
    exact body i hi _ Hb _ ((((ml i).mn s' Ha Hb y1 z3).put hp.1).put hp.2.1) (hx.mono wb) (fun s2 H3 w3 t3 => ⟨w.trans wb w3, gm _ _ (w.trans y1 w3) z2, t3⟩) fun v H3 w3 p => rt v H3 (w.trans wb w3) p
theorem st_while {A : Type} {b : A → Bool} (L : A → Ctx) (m : A → Nat) (C : A → Prop) (a0 : A) (c0 : C a0) (h0 : Sub G (L a0)) [ml : ∀ a, MnC Y.W (L a)] (tst : ∀ a, C a → EvT Y (L a) t (b a)) (body : ∀ a, C a → b a = true → ∃ a', C a' ∧ m a' < m a ∧ St Y (L a) tu (L a') R) (done : ∀ a, C a → b a = false → Sub (L a) N) : St Y G (tWhile t tu) N R := fun s H D ty hx nx rt => by
  refine ⟨fun k s' H' => Y.W H H' ∧ ∃ a, C a ∧ m a = k ∧ Ty (L a) s' H', ⟨m a0, w.refl H, a0, c0, rfl, h0 s H ty⟩, fun k s' H' ⟨w1, a, c, e, t1⟩ => ?_⟩
  refine tst a c s' H' t1 (hx.mono w1) _ fun H2 w2 => ?_
  have w12 := w.trans w1 w2
  have t2 := (ml a).mn s' H' H2 w2 t1
  cases hb : b a with
  | true =>
    rw [if_pos rfl]
    obtain ⟨a', c', lt, sb⟩ := body a c hb
    refine ⟨fun s3 H3 => Y.W H H3 ∧ Ty (L a') s3 H3, fun s3 H3 z => ⟨m a', by omega, z.1, a', c', rfl, z.2⟩, ?_⟩
    exact sb s' H2 _ t2 (hx.mono w12) (fun s3 H3 w3 t3 => ⟨w.trans w12 w3, t3⟩) fun v H3 w3 p => rt v H3 (w.trans w12 w3) p
  | false =>
    rw [if_neg Bool.false_ne_true]
    exact nx s' H2 w12 (done a c hb s' H2 t2)
end
/-! ### what is known may be forgotten -/
theorem sub_refl {G : Ctx} : Sub G G := fun _ _ h => h
theorem sub_nil : Sub [] [] := fun _ _ h => h
theorem sub_keep {o : Option Pr} {G G' : Ctx} (h : Sub G G') : Sub (o :: G) (o :: G') := fun s H t => by
  cases s with
  | nil => cases o <;> exact t.elim
  | cons x s =>
    cases o with
    | none => exact h s H t
    | some P => exact ⟨t.1, h s H t.2⟩
theorem sub_drop {o : Option Pr} {G G' : Ctx} (h : Sub G G') : Sub (o :: G) (none :: G') := fun s H t => by
  cases s with
  | nil => cases o <;> exact t.elim
  | cons x s =>
    cases o with
    | none => exact h s H t
    | some P => exact h s H t.2
theorem sub_imp {P Q : Pr} {G G' : Ctx} (k : ∀ v H, P v H → Q v H) (h : Sub G G') : Sub (some P :: G) (some Q :: G') := fun s H t => by
  cases s with
  | nil => exact t.elim
  | cons x s =>
    obtain ⟨⟨v, e, p⟩, z⟩ := t
    exact ⟨⟨v, e, k v H p⟩, h s H z⟩
/-! ### list comprehensions: one for, no test -/
section
variable {Y : Rs} [w : Pre Y.W] {G : Ctx} {te : TE} {K : PySem.W.Frag}
/-- a new list that nobody else holds -/
def New (Ps : List Pr) : Pr := fun v H => ∃ p xs, v = .ref p ∧ H p = some (.lst xs) ∧ AllP Ps xs H
instance mn_new {Ps : List Pr} [ml : MnL Evl.Ex Ps] : Mn Evl.Ex (New Ps) := ⟨fun v H H' h ⟨p, xs, e, hq, hp⟩ => ⟨p, xs, e, h _ _ hq, ml.mn xs H H' h hp⟩⟩
theorem ty_wipe : ∀ {G : Ctx} {s : L2.St} {H : Hp} (j : Nat), Ty G s H → Ty (G.set j none) (s.set j none) H
  | [], [], _, _, h => h
  | [], _ :: _, _, _, h => h.elim
  | none :: G, [], _, _, h => h.elim
  | some _ :: G, [], _, _, h => h.elim
  | none :: G, x :: s, H, 0, h => h
  | some _ :: G, x :: s, H, 0, h => h.2
  | none :: G, x :: s, H, i + 1, h => ty_wipe (G := G) (s := s) i h
  | some _ :: G, x :: s, H, i + 1, h => ⟨h.1, ty_wipe (G := G) (s := s) i h.2⟩
instance mnc_wipe {W : HR} {G : Ctx} {i : Nat} [g : MnC W G] : MnC W (G.set i none) := ⟨fun Q h => by
  rcases List.mem_or_eq_of_mem_set h with e | e
  · exact g.all Q e
  · cases e⟩
theorem allp_snoc : ∀ {Ps : List Pr} {vs : List V} {P : Pr} {v : V} {H : Hp}, AllP Ps vs H → P v H → AllP (Ps ++ [P]) (vs ++ [v]) H
  | [], [], _, _, _, _, p => ⟨p, True.intro⟩
  | [], _ :: _, _, _, _, h, _ => h.elim
  | _ :: _, [], _, _, _, h, _ => h.elim
  | _ :: Ps, _ :: vs, _, _, _, h, p => ⟨h.1, allp_snoc (Ps := Ps) (vs := vs) h.2 p⟩
theorem allp_mn {W : HR} : ∀ {Ps : List Pr} {vs : List V} {H H' : Hp}, (∀ P ∈ Ps, Mn W P) → W H H' → AllP Ps vs H → AllP Ps vs H'
  | [], [], _, _, _, _, h => h
  | [], _ :: _, _, _, _, _, h => h.elim
  | _ :: _, [], _, _, _, _, h => h.elim
  | P :: Ps, v :: vs, _, _, m, w, h => ⟨(m P List.mem_cons_self).mn v _ _ w h.1, allp_mn (Ps := Ps) (vs := vs) (fun Q e => m Q (List.mem_cons_of_mem _ e)) w h.2⟩
/-- the predicates of n items -/
def each (n : Nat) (P : Nat → Pr) : List Pr := (List.range n).map P
theorem each_succ (n : Nat) (P : Nat → Pr) : each (n + 1) P = each n P ++ [P n] := by unfold each; rw [List.range_succ, List.map_append]; rfl
theorem each_len (n : Nat) (P : Nat → Pr) : (each n P).length = n := by unfold each; rw [List.length_map, List.length_range]
theorem each_mem {n : Nat} {P : Nat → Pr} {Q : Pr} (h : Q ∈ each n P) : ∃ i, i < n ∧ Q = P i := by
  unfold each at h
  obtain ⟨i, hi, e⟩ := List.mem_map.mp h
  exact ⟨i, List.mem_range.mp hi, e.symm⟩
theorem ev_lc {wi : TI} {n : Nat} {It : Nat → Pr} {P : Nat → Pr} {j : Nat} (hi : EvI Y G wi n It) (hn : n < 100000) [mc : MnC Y.W G] (mt : ∀ i, Mn WT (P i)) (mw : ∀ i, Mn Y.W (P i)) (he : ∀ i, i < n → Ev Y ((G.set j none).set j (some (It i))) te (P i)) (hh : ∀ i acc H, i ≤ n → AllP (each i P) acc H → hs acc = false) :
    Ev Y G (tLc wi (gName j) tYes te [j]) (New (each n P)) := fun s H ty hx Q q =>
  hi s H ty hx _ fun J H1 Gd w1 g1 gm wk D hD => by
    refine lc_it wk (fun i H' => Y.W H1 H' ∧ ∃ acc, H' D = some (.lst acc) ∧ AllP (each i P) acc H') ⟨w.wrt (w.refl H1) hD, [], upd_same, True.intro⟩ (fun i H' _ z => gm _ _ z.1 g1) (fun i x Ha Hb hi z y => ?_) (fun H' ⟨z, acc, e, a⟩ => q _ H' (w.trans w1 z) ⟨D, acc, rfl, e, a⟩)
    obtain ⟨z, acc, e, a⟩ := z
    obtain ⟨y1, y2⟩ := y
    have nh := hh i acc Ha (Nat.le_of_lt hi) a
    have wb := w.trans z y1
    have tyb : Ty ((G.set j none).set j (some (It i))) ((wipe s [j]).set j (some x)) Hb := (ty_wipe j (mc.mn s H Hb (w.trans w1 wb) ty)).put y2
    refine ⟨by show ((s.set j none).set j (some x)).set j none = s.set j none; rw [List.set_set, List.set_set], ?_⟩
    dsimp only [tYes]
    rw [if_pos (rfl : true = true)]
    refine he i hi _ Hb tyb (hx.mono (w.trans w1 wb)) _ fun v H4 w4 p4 => ?_
    have e4 := w.own (w.trans y1 w4) nh e
    have ma : ∀ R ∈ each i P, Mn Y.W R := fun R h => by obtain ⟨k, _, rfl⟩ := each_mem h; exact mw k
    have ta : ∀ R ∈ each i P, Mn WT R := fun R h => by obtain ⟨k, _, rfl⟩ := each_mem h; exact mt k
    have a4 := allp_mn ma (w.trans y1 w4) a
    have wt : WT H4 (upd H4 D (.lst (acc ++ [v]))) := wt_put e4 rfl
    have l4 := allp_len a4
    rw [each_len] at l4
    refine ⟨acc, e4, Evl.sz_lt (by omega), w.wrt (w.trans wb w4) hD, _, upd_same, ?_⟩
    rw [each_succ]
    exact allp_snoc (allp_mn ta wt a4) ((mt i).mn v _ _ wt p4)
end
end U

/-! ## the hand of a law's draws: a list that every draw writes -/
namespace U
open PySem PySem.Spec PyProof.Rows L2
def isHandO : HO → Bool
  | .lst xs => hs xs
  | _ => false
structure HandV (H : Hp) (p c : Addr) (xs : List Int) (a r t : Int) : Prop where
  at_ : H p = some (.lst [.ref c, .int a, .int r, .int t])
  cells : H c = some (.lst (xs.map V.int))
  pos : ∀ x ∈ xs, 0 ≤ x
  len : xs.length ≤ 63
  a0 : 0 ≤ a
  al : a ≤ xs.length
  r0 : 0 ≤ r
  t0 : 0 ≤ t
  tl : t < 2147483629
def HandAt (H : Hp) (p : Addr) : Prop := ∃ c xs a r t, HandV H p c xs a r t
/-- all stands but hands, and hands stay hands -/
def WL (H H' : Hp) : Prop := (∀ b o, H b = some o → isHandO o = false → H' b = some o) ∧ ∀ p c xs a r t, HandV H p c xs a r t → ∃ a' r' t', HandV H' p c xs a' r' t'
theorem hs_ints (xs : List Int) : hs (xs.map V.int) = false := by
  cases xs with
  | nil => rfl
  | cons x r => rfl
theorem HandV.mono {H H' : Hp} {p c : Addr} {xs : List Int} {a r t : Int} (h : HandV H p c xs a r t) (e : Evl.Ex H H') : HandV H' p c xs a r t := { h with at_ := e _ _ h.at_, cells := e _ _ h.cells }
instance pre_wl : Pre WL where
  refl := fun H => ⟨fun _ _ h _ => h, fun p c xs a r t h => ⟨a, r, t, h⟩⟩
  trans := fun a b => ⟨fun x o h n => b.1 x o (a.1 x o h n) n, fun p c xs x r t h => let ⟨x', r', t', h'⟩ := a.2 p c xs x r t h; b.2 p c xs x' r' t' h'⟩
  ext := fun e => ⟨fun b o h _ => e b o h, fun p c xs a r t h => ⟨a, r, t, h.mono e⟩⟩
  tup := fun w h => by
    rcases h with (h | ⟨o, h⟩) | h
    · exact .inl (.inl (w.1 _ _ h rfl))
    · exact .inl (.inr ⟨o, w.1 _ _ h rfl⟩)
    · exact .inr h
  lst := fun w n h => by
    rcases h with (h | ⟨o, h⟩) | h
    · exact .inl (.inl (w.1 _ _ h n))
    · exact .inl (.inr ⟨o, w.1 _ _ h rfl⟩)
    · exact .inr h
  own := fun w n h => w.1 _ _ h n
  wrt := fun w h => ⟨fun b o e n => by rw [upd_ne (ne_of_none e h)]; exact w.1 b o e n, fun p c xs a r t hv => by
    obtain ⟨a', r', t', hv'⟩ := w.2 p c xs a r t hv
    exact ⟨a', r', t', { hv' with at_ := by rw [upd_ne (ne_of_none hv.at_ h)]; exact hv'.at_, cells := by rw [upd_ne (ne_of_none hv.cells h)]; exact hv'.cells }⟩⟩
def Hand : Pr := fun v H => ∃ p, v = .ref p ∧ HandAt H p
instance mn_hand : Mn WL Hand := ⟨fun v H H' w ⟨p, e, c, xs, a, r, t, h⟩ => ⟨p, e, c, xs, w.2 p c xs a r t h⟩⟩
/-- the hand is written: nothing else -/
theorem wl_put {H : Hp} {p c : Addr} {xs : List Int} {a r t a' r' t' : Int} (h : HandV H p c xs a r t) (a0 : 0 ≤ a') (al : a' ≤ xs.length) (r0 : 0 ≤ r') (t0 : 0 ≤ t') (tl : t' < 2147483629) :
    HandV (upd H p (.lst [.ref c, .int a', .int r', .int t'])) p c xs a' r' t' ∧ WL H (upd H p (.lst [.ref c, .int a', .int r', .int t'])) := by
  have ne : c ≠ p := ne_of h.cells h.at_ (by
    intro z
    have := HO.lst.inj z
    cases xs with
    | nil => cases this
    | cons x l => cases this)
  have hv : HandV (upd H p (.lst [.ref c, .int a', .int r', .int t'])) p c xs a' r' t' := ⟨upd_same, by rw [upd_ne ne]; exact h.cells, h.pos, h.len, a0, al, r0, t0, tl⟩
  refine ⟨hv, fun b o e n => ?_, fun q c2 xs2 a2 r2 t2 h2 => ?_⟩
  · by_cases z : b = p
    · subst z
      rw [h.at_] at e
      cases e
      cases n
    · rw [upd_ne z]; exact e
  · by_cases z : q = p
    · subst z
      have e := h.at_.symm.trans h2.at_
      cases e
      have e2 := h.cells.symm.trans h2.cells
      have e3 : xs = xs2 := by
        have := HO.lst.inj (Option.some.inj e2)
        exact (List.map_inj_right (fun x y z => V.int.inj z)).mp this
      subst e3
      exact ⟨a', r', t', hv⟩
    · have ne2 : c2 ≠ p := ne_of h2.cells h.at_ (by
        intro z
        have := HO.lst.inj z
        cases xs2 with
        | nil => cases this
        | cons x l => cases this)
      exact ⟨a2, r2, t2, { h2 with at_ := by rw [upd_ne z]; exact h2.at_, cells := by rw [upd_ne ne2]; exact h2.cells }⟩
/-- a whole number from lo to below hi -/
def Rng (lo hi : Int) : Pr := Some (fun i : Int => lo ≤ i ∧ i < hi) fun i => Is (.int i)
theorem big_of {n : Nat} {i : Int} (h : -(2 ^ n) < i) (k : i < 2 ^ n) : Big n i := by
  unfold Big
  have : (2 : Int) ^ n = ((2 ^ n : Nat) : Int) := by simp
  omega
theorem big_rng {n : Nat} {i m : Int} (h : 0 ≤ i ∧ i < m) (k : m ≤ 2 ^ n) : Big n i := big_of (by have : (0 : Int) < 2 ^ n := Int.pow_pos (by decide); omega) (by omega)
theorem mod_rng {i m : Int} (h : 0 < m) : 0 ≤ i % m ∧ i % m < m := ⟨Int.emod_nonneg _ (by omega), Int.emod_lt_of_pos _ h⟩
/-! ### expressions that only grow the heap, in a text that also writes -/
abbrev Rs.ex (Y : Rs) : Rs := ⟨Evl.Ex, Y.E, Y.GX, Y.X⟩
instance mnl_ints {W : HR} {l : List Int} : MnL W (l.map fun x => Is (.int x)) := ⟨fun vs H H' w h => allp_mn (fun P hP => by obtain ⟨n, _, rfl⟩ := List.mem_map.mp hP; exact mn_is) w h⟩
section
variable {Y : Rs} [w : Pre Y.W] {G : Ctx} {te : TE} {t : TT} {P : Pr} {ts tu : TS} {N : Ctx} {R : Pr} {K : PySem.W.Frag}
theorem hx_ex {H : Hp} (h : Hx Y H) : Hx Y.ex H := fun s cls d H' e ty x => h s cls d H' (w.ext e) ty x
theorem Ev.up (h : Ev Y.ex G te P) : Ev Y G te P := fun s H ty hx Q q => h s H ty (hx_ex hx) Q fun v H2 e p => q v H2 (w.ext e) p
theorem st_setE [mc : MnC Evl.Ex G] {i : Nat} (h : Ev Y.ex G te P) : St Y G (tAsg te (gName i)) (G.set i (some P)) R := fun s H D ty hx n _ =>
  h s H ty (hx_ex hx) _ fun v H2 e p => n _ H2 (w.ext e) ((mc.mn s H H2 e ty).put p)
theorem st_ifE [mc : MnC Evl.Ex G] {b : Bool} (h : EvT Y.ex G t b) (h1 : b = true → St Y G ts N R) (h2 : b = false → St Y G tu N R) : St Y G (tIfS t ts tu) N R := fun s H D ty hx n r => h s H ty (hx_ex hx) _ fun H1 e => by
  have w1 := w.ext e
  cases b with
  | true => exact h1 rfl s H1 D (mc.mn s H H1 e ty) (hx.mono w1) (fun s2 H2 w2 t2 => n s2 H2 (w.trans w1 w2) t2) fun v H2 w2 p => r v H2 (w.trans w1 w2) p
  | false => exact h2 rfl s H1 D (mc.mn s H H1 e ty) (hx.mono w1) (fun s2 H2 w2 t2 => n s2 H2 (w.trans w1 w2) t2) fun v H2 w2 p => r v H2 (w.trans w1 w2) p
end
/-! ### inside a draw -/
def HV (p c : Addr) (xs : List Int) (a r t : Int) : Pr := fun v H => v = .ref p ∧ HandV H p c xs a r t
instance mn_hv {p c : Addr} {xs : List Int} {a r t : Int} : Mn Evl.Ex (HV p c xs a r t) := ⟨fun v H H' e h => ⟨h.1, h.2.mono e⟩⟩
def Cells (c : Addr) (xs : List Int) : Pr := fun v H => v = .ref c ∧ H c = some (.lst (xs.map V.int))
instance mn_cells {c : Addr} {xs : List Int} : Mn Evl.Ex (Cells c xs) := ⟨fun v H H' e h => ⟨h.1, e _ _ h.2⟩⟩
section
variable {K : PySem.W.Frag} {p c : Addr} {xs : List Int} {a r t : Int}
theorem o_hv0 : Op2 Evl.Ex (rIx K) (HV p c xs a r t) (Is (.int 0)) (Cells c xs) := fun x y H h e Q q => .inl ⟨p, _, _, _, h.1, e, SqL.of h.2.at_, atI_nat (xs := ([.ref c, .int a, .int r, .int t] : List V)) (j := 0) rfl, q _ H (Evl.Ex.refl H) ⟨rfl, h.2.cells⟩⟩
theorem o_hv1 : Op2 Evl.Ex (rIx K) (HV p c xs a r t) (Is (.int 1)) (Is (.int a)) := fun x y H h e Q q => .inl ⟨p, _, _, _, h.1, e, SqL.of h.2.at_, atI_nat (xs := ([.ref c, .int a, .int r, .int t] : List V)) (j := 1) rfl, q _ H (Evl.Ex.refl H) rfl⟩
theorem o_hv2 : Op2 Evl.Ex (rIx K) (HV p c xs a r t) (Is (.int 2)) (Is (.int r)) := fun x y H h e Q q => .inl ⟨p, _, _, _, h.1, e, SqL.of h.2.at_, atI_nat (xs := ([.ref c, .int a, .int r, .int t] : List V)) (j := 2) rfl, q _ H (Evl.Ex.refl H) rfl⟩
theorem o_hv3 : Op2 Evl.Ex (rIx K) (HV p c xs a r t) (Is (.int 3)) (Is (.int t)) := fun x y H h e Q q => .inl ⟨p, _, _, _, h.1, e, SqL.of h.2.at_, atI_nat (xs := ([.ref c, .int a, .int r, .int t] : List V)) (j := 3) rfl, q _ H (Evl.Ex.refl H) rfl⟩
theorem o_cell {i : Int} (h0 : 0 ≤ i) (h1 : i < xs.length) : Op2 Evl.Ex (rIx K) (Cells c xs) (Is (.int i)) (Some (fun z : Int => z ∈ xs) fun z => Is (.int z)) := fun x y H h e Q q => by
  have hi : i.toNat < xs.length := by omega
  have e2 : (i.toNat : Int) = i := by omega
  have g : (xs.map V.int)[i.toNat]? = some (.int xs[i.toNat]) := by simp [hi]
  have at2 := atI_nat (xs := xs.map V.int) (j := i.toNat) g
  rw [e2] at at2
  exact .inl ⟨c, _, i, _, h.1, e, SqL.of h.2, at2, q _ H (Evl.Ex.refl H) ⟨xs[i.toNat], List.getElem_mem _, rfl⟩⟩
theorem o_cellsLen : OpA Evl.Ex (rLenA K) [Cells c xs] (Is (.int (xs.length : Int))) := fun vs H al Q q => by
  obtain ⟨x, ev, e, h⟩ := allp1 al
  have z := q (.int (xs.length : Int)) H (Evl.Ex.refl H) rfl
  have l : (xs.map V.int).length = xs.length := List.length_map _
  rw [← l] at z
  rw [ev, e]
  exact rlen_t (Or.inl ⟨_, SqL.of h, rfl⟩) Q z
theorem opA_intR {lo hi : Int} {W : HR} [w : Pre W] : OpA W (fun xs H Q => (∃ i, xs = [.int i] ∧ Q (.int i) H) ∨ ∃ k, xs = [.bl k] ∧ Q (.int (if k then 1 else 0)) H) [Rng lo hi] (Rng lo hi) := fun vs H a Q q => by
  obtain ⟨x, ev, i, hi, e⟩ := allp1 a
  cases e
  exact .inl ⟨i, ev, q _ H (w.refl H) ⟨i, hi, rfl⟩⟩
theorem o_modR {lo hi m : Int} {W : HR} [w : Pre W] (h : 0 < m) : Op2 W (rI (fun _ j => 0 < j) fun i j => .int (i % j)) (Rng lo hi) (Is (.int m)) (Rng 0 m) := fun x y H ⟨i, hi, e⟩ e2 Q q => by
  cases e; cases e2
  exact ⟨i, m, rfl, rfl, h, q _ H (w.refl H) ⟨_, mod_rng h, rfl⟩⟩
instance mn_rng {lo hi : Int} {W : HR} : Mn W (Rng lo hi) := mn_some
/-- hand[k] = e -/
theorem st_hset {Y : Rs} {G : Ctx} {te : TE} {k z a' r' t' : Int} {R : Pr} (hW : Y.W = WL) [mc : MnC Evl.Ex G] [mt : MnC (fun _ _ => True) G] (h : Ev Y.ex (some (HV p c xs a r t) :: G) te (Is (.int z))) {j : Nat} (hk : k = (j : Int)) (hs : ([.ref c, .int a, .int r, .int t] : List V).set j (.int z) = [.ref c, .int a', .int r', .int t']) (hj : j < 4)
    (a0 : 0 ≤ a') (al : a' ≤ xs.length) (r0 : 0 ≤ r') (t0 : 0 ≤ t') (tl : t' < 2147483629) : St Y (some (HV p c xs a r t) :: G) (tAsg te (gSub (tVar 0) (tC (.int k)) rSetL)) (some (HV p c xs a' r' t') :: G) R := fun s H D ty hx n _ => by
  obtain ⟨W, E, GX, X⟩ := Y
  have hW' : W = WL := hW
  subst hW'
  refine h s H ty (hx_ex hx) _ fun v H2 e p2 => ?_
  cases p2
  have ty2 := (mnc_some (P := HV p c xs a r t) (G := G) (W := Evl.Ex)).mn s H H2 e ty
  cases s with
  | nil => exact ty2.elim
  | cons x s =>
    obtain ⟨⟨v, ex, ev, hv⟩, tr⟩ := ty2
    subst ex
    obtain ⟨p1, p2⟩ := wl_put hv a0 al r0 t0 tl
    refine ⟨v, rfl, ?_⟩
    refine ⟨p, _, k, j, ev, rfl, hv.at_, by rw [hk]; exact Evl.ixN_nat hj, ?_⟩
    rw [hs]
    refine n _ _ (PreT.trans (PreT.ext e) p2) ⟨⟨v, rfl, ev, p1⟩, mt.mn s _ _ True.intro tr⟩
end
theorem ev_hand {Y : Rs} [w : Pre Y.W] (hY : Y.W = Evl.Ex) {G : Ctx} {tr : TA} {xs : List Int} (h0 : ∀ x ∈ xs, 0 ≤ x) (hl : xs.length ≤ 63) {lo hi : Int} (l0 : 0 ≤ lo) (h1 : hi ≤ 2147483629) (ha : EvA Y G tr [New (xs.map fun x => Is (.int x)), Is (.int 0), Is (.int 0), Rng lo hi]) : Ev Y G (tLst tr) Hand := fun s H ty hx Q q =>
  ha s H ty hx _ fun vs H1 w1 p1 => by
    obtain ⟨v0, v1, v2, v3, rfl⟩ : ∃ a b c d, vs = [a, b, c, d] := by
      have l := allp_len p1
      match vs, l with
      | [a, b, c, d], _ => exact ⟨a, b, c, d, rfl⟩
    obtain ⟨⟨c, ys, e0, hc, hp⟩, e1, e2, ⟨t, ht, e3⟩, _⟩ := p1
    have ey : ys = xs.map V.int := by
      clear hc h0 hl ha
      induction xs generalizing ys with
      | nil =>
        cases ys with
        | nil => rfl
        | cons _ _ => exact hp.elim
      | cons x xs ih =>
        cases ys with
        | nil => exact hp.elim
        | cons y ys => rw [List.map_cons, ← ih ys hp.2, show y = V.int x from hp.1]
    subst ey
    cases e0; cases e1; cases e2; cases e3
    refine ⟨by show 4 ≤ sizeLine; decide, fun p hp0 => ?_⟩
    have w2 : Y.W H1 (upd H1 p (.lst [.ref c, .int 0, .int 0, .int t])) := w.ext (Evl.Ex.new hp0)
    refine q _ _ (w.trans w1 w2) ⟨p, rfl, c, xs, 0, 0, t, upd_same, ?_, h0, hl, Int.le_refl _, by omega, Int.le_refl _, by omega, by omega⟩
    rw [upd_ne (ne_of_none hc hp0)]
    exact hc
theorem st_openHand {Y : Rs} {G : Ctx} {ts : TS} {N : Ctx} {R : Pr} (k : ∀ p c xs a r t, 0 ≤ a → a ≤ (xs.length : Int) → xs.length ≤ 63 → (∀ x ∈ xs, 0 ≤ x) → 0 ≤ r → 0 ≤ t → t < 2147483629 → St Y (some (HV p c xs a r t) :: G) ts N R) : St Y (some Hand :: G) ts N R := fun s H D ty hx n r => by
  cases s with
  | nil => exact ty.elim
  | cons x s =>
    obtain ⟨⟨v, e, p, ev, c, xs, a, rr, t, hv⟩, tr⟩ := ty
    exact k p c xs a rr t hv.a0 hv.al hv.len hv.pos hv.r0 hv.t0 hv.tl (x :: s) H D ⟨⟨v, e, ev, hv⟩, tr⟩ hx n r
theorem hv_hand {p c : Addr} {xs : List Int} {a r t : Int} : ∀ v H, HV p c xs a r t v H → Hand v H := fun v H h => ⟨p, h.1, c, xs, a, r, t, h.2⟩
theorem o_pow {i j : Int} {W : HR} [w : Pre W] (h : CPow i j) : Op2 W (rI CPow fun i j => .int (i ^ j.toNat)) (Is (.int i)) (Is (.int j)) (Is (.int (i ^ j.toNat))) := op2_I h
end U

/-! ## tries, tests whose end is not known, told ratios compared -/
namespace U
open PySem PySem.Spec PyProof.Rows L2
theorem takesF {X : Cx} : Takes X (fun _ _ _ _ => False) := fun _ _ x => by
  obtain ⟨_, _, _, _, _, _, _, _, _, _, _, _, _, _, _, _, _, z⟩ := x
/-- a suite for just one class -/
def tWhen (p : Prop) (t : TS) : TS := fun D σ H => p ∧ t D σ H
theorem pss_when {X : Cx} {b : List Stmt} {p q : Prop} {t : TS} (k : p → q → PSs X b t) : PSs X b (tWhen (p ∧ q) t) := ⟨fun pins s σ H D I h => by
  obtain ⟨⟨z1, z2⟩, h⟩ := h
  exact (k z1 z2).run pins s σ H D I h⟩
theorem call_isE2 {X : Cx} {a C : Addr} {oe : Obj} {cls : Value} {d : Option Addr} {pn : List (Addr × Obj)} (E : ExcC X.K C) (z1 : cls = .ref C) (z2 : d = none) (hz : Zc cls d oe) (hf : ∃ vs, oe.data = .fields vs) : CallR (X.suite a ((a, oe) :: pn)) (.builtin "isinstance") (rIsE X.K C a) := by
  subst z1 z2
  exact call_isE E hz hf
section
variable {Y : Rs} [w : Pre Y.W] {G : Ctx} {ta tb te : TE} {t u : TT} {P P1 P2 P3 P4 P' : Pr} {r : R2} {K : PySem.W.Frag} {ts tu : TS} {N M : Ctx} {R : Pr}
theorem st_try {G' M' : Ctx} {X' : XP} {i : Nat} {c : Value} {tb : WX → TS} {ts : Addr → Value → Option Addr → TS} {Wout : WX} [mg : MnC Y.W G'] (body : ∀ W : WX, St ⟨Y.W, WE W, G', X'⟩ G (tb W) N R)
    (hd : ∀ cls d H, X' cls d H → PySem.W.exmOne K cls c = some true ∧ ∀ a, St Y (G'.set i (some (Is (.ref a)))) (ts a cls d) M' R) (hm : ∀ s H, Ty M' s H → Ty N (s.set i none) H) : St Y G (fun D σ H => tb (wAs K c i ts Wout D) D σ H) N R := fun s H D ty hx n r =>
  body (wAs K c i ts Wout D) s H D ty (fun s' cls d H' w1 ty' x => by
    obtain ⟨e, k⟩ := hd cls d H' x
    exact ⟨true, e, fun _ a _ => k a _ H' _ (ty'.put (P := Is (.ref a)) rfl) (hx.mono w1) (fun s2 H2 w2 t2 => n _ H2 (w.trans w1 w2) (hm s2 H2 t2)) (fun v H2 w2 p => r v H2 (w.trans w1 w2) p), fun z => nomatch z⟩) n r
theorem ei_isE {D a : Addr} {cv : Value} {c : V} {b : Bool} (k : PySem.W.kitOne K (.ref D) cv = some b) (e : ∀ u, RelV c u → u = cv) : OpA Y.W (rIsE K D a) [Is (.ref a), Is c] (Is (.bl b)) := fun vs H al Q q => by
  match vs, al with
  | [x, y], ⟨e1, e2, _⟩ =>
    cases e1
    cases e2
    exact ⟨c, cv, b, rfl, e, k, q _ H (w.refl H) rfl⟩
/-! ### tests, either way -/
def EvU (Y : Rs) (G : Ctx) (tt : TT) : Prop := ∀ s H, Ty G s H → Hx Y H → ∀ Q : Bool → Hp → Prop, (∀ b H2, Y.W H H2 → Q b H2) → tt s H Q
def Boo : Pr := Some (fun _ : Bool => True) fun b => Is (.bl b)
omit w in
theorem eu_test (h : Ev Y G te Boo) : EvU Y G (tTest te) := fun s H ty hx Q q => h s H ty hx _ fun v H2 w ⟨b, _, e⟩ => ⟨b, e, q b H2 w⟩
theorem st_ifU [mc : MnC Y.W G] (h : EvU Y G t) (h1 : St Y G ts N R) (h2 : St Y G tu N R) : St Y G (tIfS t ts tu) N R := fun s H D ty hx n r => h s H ty hx _ fun b H1 w1 => by
  cases b with
  | true => exact h1 s H1 D (mc.mn s H H1 w1 ty) (hx.mono w1) (fun s2 H2 w2 t2 => n s2 H2 (w.trans w1 w2) t2) fun v H2 w2 p => r v H2 (w.trans w1 w2) p
  | false => exact h2 s H1 D (mc.mn s H H1 w1 ty) (hx.mono w1) (fun s2 H2 w2 t2 => n s2 H2 (w.trans w1 w2) t2) fun v H2 w2 p => r v H2 (w.trans w1 w2) p
theorem ev_ifU [mc : MnC Y.W G] (h : EvU Y G t) (h1 : Ev Y G ta P) (h2 : Ev Y G tb P) : Ev Y G (tIf t ta tb) P := fun s H ty hx Q q => h s H ty hx _ fun b H1 w1 => by
  cases b with
  | true => exact h1 s H1 (mc.mn s H H1 w1 ty) (hx.mono w1) Q fun v2 H2 w2 e2 => q v2 H2 (w.trans w1 w2) e2
  | false => exact h2 s H1 (mc.mn s H H1 w1 ty) (hx.mono w1) Q fun v2 H2 w2 e2 => q v2 H2 (w.trans w1 w2) e2
/-- a, b, c, d = a tuple of four -/
theorem st_un4 [mc : MnC Y.W G] {i j k l : Nat} (h : Ev Y G te (Tup K [P1, P2, P3, P4])) :
    St Y G (tAsg te (gTup K 4 (gCons (gName i) (gCons (gName j) (gCons (gName k) (gCons (gName l) gNil)))))) ((((G.set i (some P1)).set j (some P2)).set k (some P3)).set l (some P4)) R := fun s H D ty hx n _ =>
  h s H ty hx _ fun v H2 w2 ⟨p, xs, e, hs, hp⟩ => by
    obtain ⟨a, b, c, d, rfl⟩ : ∃ a b c d, xs = [a, b, c, d] := by
      have l := allp_len hp
      match xs, l with
      | [a, b, c, d], _ => exact ⟨a, b, c, d, rfl⟩
    exact ⟨p, [a, b, c, d], e, hs, rfl, a, [b, c, d], rfl, b, [c, d], rfl, c, [d], rfl, d, [], rfl, rfl, n _ H2 w2 (((((mc.mn s H H2 w2 ty).put hp.1).put hp.2.1).put hp.2.2.1).put hp.2.2.2.1)⟩
end
section
variable {W : HR} [w : Pre W] {K : PySem.W.Frag}
theorem dp_told {q : Rat} {v : V} {H : Hp} (h : Told K q v H) : Dp K H v (.tuple [.int q.num, .int q.den]) := by
  obtain ⟨p, rfl, hs⟩ := isR_told h
  exact .tup hs (.cons (.int _) (.cons (.int _) .nil))
theorem eqv_told {q r : Rat} : PyData.eqv (.tuple [.int q.num, .int q.den]) (.tuple [.int r.num, .int r.den]) = decide (q = r) := by
  by_cases h : q = r
  · subst h; simp [PyData.eqv, PyData.eqvAll]
  · have : ¬ (q.num = r.num ∧ q.den = r.den) := fun z => h (Rat.ext z.1 z.2)
    simp [PyData.eqv, PyData.eqvAll, h]
    omega
theorem shaped_told {q : Rat} : SeqAt.shaped (.tuple [.int q.num, .int q.den]) = true := rfl
theorem o_eqTold {q r : Rat} : Op2 W (rEqA K) (Told K q) (Told K r) (Is (.bl (decide (q = r)))) := op2_r fun x y H a b Q q' =>
  ⟨_, _, dp_told a, dp_told b, shaped_told, shaped_told, by rw [eqv_told]; exact q' _ H (w.refl H) rfl⟩
theorem o_neTold {q r : Rat} : Op2 W (rNeA K) (Told K q) (Told K r) (Is (.bl (!decide (q = r)))) := op2_r fun x y H a b Q q' =>
  ⟨_, _, dp_told a, dp_told b, shaped_told, shaped_told, by rw [eqv_told]; exact q' _ H (w.refl H) rfl⟩
theorem den_big {n : Nat} {a b : Int} (hb : b ≠ 0) (k : Big n b) : Big n ((Rat.divInt a b).den : Int) := by
  unfold Big at *
  rw [Rat.den_divInt, if_neg hb, Int.natAbs_natCast]
  exact Nat.lt_of_le_of_lt (Nat.div_le_self _ _) k
end
end U

/-! ## what the top has written -/
namespace U
open PySem PySem.Spec PyProof.Rows L2
/-- a def of the top -/
def HasFn (K : PySem.W.Frag) (x : Str) (st : Stmt) : Prop := ∃ f fd, PySem.W.nsIn K mainGlobals x = some (some (.ref f)) ∧ Fun K x x st f fd
theorem has_fn {K : PySem.W.Frag} {x : Str} {st : Stmt} {f : Addr} {oc : Value} {od an : Option Addr} {osl : Array (Option Value)} {kV doc pm cdv ct : Value} (a : PySem.W.nsIn K mainGlobals x = some (some (.ref f)))
    (l : K.lookup f = some ⟨oc, od, .func (PySem.W.fnOf x x (defArgs st) (defBody st) (defScope st) .none kV doc pm an cdv ct), osl⟩) (c : PySem.W.codeIn K cdv x = true) (k : PySem.W.keepIn K (.ref f) = true) : HasFn K x st := ⟨f, _, a, fun_mk l c k⟩
theorem has_df {P : Program} {w : World} {K : PySem.W.Frag} {mg : Str → Option Value} {base h : Heap} {x : Str} {st : Stmt} {k : Nat} {ps : List Str} {sp : Sp} (F : HasFn K x st) (X : K.In h) (G : h.Ns mainGlobals mg) (ok : ∀ f fd, Fun K x x st f fd → FnOk P w K mg base (L2.CX P w) k f fd ps sp)
    (b : ∀ (kV doc pm : Value) (an : Option Addr) (cdv ct : Value) (us : List Value), us.length = ps.length → bindArgs (PySem.W.fnOf x x (defArgs st) (defBody st) (defScope st) .none kV doc pm an cdv ct) ⟨us, []⟩ = pure (ps.zip us)) : Df P w K mg base k x ps sp := by
  obtain ⟨f, fd, a, F⟩ := F
  exact df_of (ok f fd F) F (PySem.W.mg_of X G a) (F.binds b)
/-! ### classes of errors -/
theorem kit_own {K : PySem.W.Frag} {D C : Addr} (hc : PySem.W.isClsIn K C = true) (ht : PySem.W.typeIn K (.ref C) = some (.type "type")) (h : PySem.W.subIn K (.ref D) (.ref C) = some true) : PySem.W.kitOne K (.ref D) (.ref C) = some true := by
  unfold PySem.W.kitOne
  split
  · rfl
  · have e : ((PySem.W.clsIn K C).isSome && PySem.W.typeIn K (.ref C) == some (.type "type")) = true := by
      have hc' : (PySem.W.clsIn K C).isSome = true := hc
      rw [hc', ht] <;> rfl
    show (if ((PySem.W.clsIn K C).isSome && PySem.W.typeIn K (.ref C) == some (.type "type")) = true then PySem.W.subIn K (.ref D) (.ref C) else none) = some true
    rw [if_pos e]
    exact h
theorem kit_bt {K : PySem.W.Frag} {D : Addr} {T : String} {b : Bool} (hm : PySem.W.kitMeta T = true) (h : PySem.W.subIn K (.ref D) (.type T) = some b) : PySem.W.kitOne K (.ref D) (.type T) = some b := by
  show (if PySem.W.kitMeta T = true then PySem.W.subIn K (.ref D) (.type T) else none) = some b
  rw [if_pos hm]
  exact h
/-- what k_is says of an own error -/
structure ErK (K : PySem.W.Frag) (x : Str) (C : Addr) : Prop where
  gC : PySem.W.nsIn K mainGlobals x = some (some (.ref C))
  kC : PySem.W.keepIn K (.ref C) = true
  exC : PySem.W.subIn K (.ref C) (.type "BaseException") = some true
  tyC : PySem.W.typeIn K (.ref C) = some (.type "type")
  hdC : PySem.W.hasDictIn K C = true
  me : PySem.W.subIn K (.ref C) (.ref C) = some true
  hg : PySem.W.findIn K (.ref C) "__getattribute__" = some (some (.builtin "BaseException.__getattribute__"))
  hk : PySem.W.findIn K (.ref C) "__getattr__" = some none
  ha : PySem.W.findIn K (.ref C) "__class__" = some (some (.builtin "object.__class__"))
  hn : PySem.W.specialIn K (.builtin "object.__class__") "__get__" = some (some (.builtin "getset_descriptor.__get__"))
  ht : PySem.W.takesIn K (.builtin "object.__class__") = some true
  hm : PySem.W.mroIn K C (.type "object") = some true
theorem ErK.exC' {K : PySem.W.Frag} {x : Str} {C : Addr} (E : ErK K x C) : ExcC K C := ⟨E.hg, E.hk, E.exC, E.hdC, E.ha, E.hn, E.ht, E.hm⟩
theorem ErK.exm {K : PySem.W.Frag} {x : Str} {C : Addr} (E : ErK K x C) : PySem.W.exmOne K (.ref C) (.ref C) = some true := PySem.W.exm_ref E.exC E.hdC E.tyC E.me
/-- the __init__ of an own error, as the top made it -/
abbrev supFn (q : Str) (st : Stmt) (cc : Addr) (kV doc pm : Value) (an : Option Addr) (cda : Addr) (ct : Value) : FuncData :=
  { PySem.W.fnOf "__init__" q (defArgs st) (defBody st) (defScope st) .none kV doc pm an (.ref cda) ct with closure := [(("__class__" : Str), cc)] }
/-- what k_is says of it -/
structure ErF (P : Program) (K : PySem.W.Frag) (C : Addr) (q : Str) (st : Stmt) (cc cda fI : Addr) (fd : FuncData) : Prop where
  cls : ∃ nm qn N bs bm sn sub ab col dd k0 k1 k2 k3 k5, K.lookup C = some (excClassObj nm qn C N bs bm true sn sub ab col dd k0 k1 k2 k3 k5 "ValueError.__new__") ∧ PySem.HandSPX.refsVE bm = true
  sa : PySem.W.findIn K (.ref C) "__setattr__" = some (some (.builtin "object.__setattr__"))
  iC : PySem.W.findIn K (.ref C) "__init__" = some (some (.ref fI))
  tC : PySem.W.typeIn K (.ref fI) = some (.type "function")
  fn : ∃ oc od osl, K.lookup fI = some ⟨oc, od, .func fd, osl⟩
  hcd : PySem.W.codeIn K (.ref cda) q = true
  cell : ∃ cl cld csl, K.lookup cc = some ⟨cl, cld, .cell (some (.ref C)), csl⟩
  code : ∃ ccl cdd vs ccs file tf, K.lookup cda = some ⟨ccl, cdd, .fields vs, ccs⟩ ∧ vs[2]? = some (.str file tf) ∧ ((P.main.file : Str) == file) = true
  third : PySem.W.nsIn K PySem.cStatics "thirdparty.any" = some none
  hm : PySem.W.ks_superIn K C C "__init__" = some (some (.builtin "ValueError.__init__"))
  hB : PySem.W.subIn K (.ref C) (.type "ValueError") = some true
  hsub : PySem.W.mroIn K C (.ref C) = some true
  top : (P.main.scope.names.lookup ("super" : Str)).isSome = false
theorem ErF.sup {P : Program} {K : PySem.W.Frag} {C : Addr} {q : Str} {st : Stmt} {cc cda fI : Addr} {kV doc pm ct : Value} {an : Option Addr} (E : ErF P K C q st cc cda fI (supFn q st cc kV doc pm an cda ct)) : PySem.USup.SupCls P K C fI cc cda (supFn q st cc kV doc pm an cda ct) :=
  { cls := E.cls, sa := E.sa, iC := E.iC, tC := E.tC, fn := E.fn, clo := rfl, gl := rfl, bl := rfl, cdv := rfl, hcd := E.hcd, cell := E.cell, code := E.code, third := E.third, hm := E.hm, hB := E.hB, hsub := E.hsub, top := E.top }
theorem er_of {P : Program} {w : World} {K : PySem.W.Frag} {mg : Str → Option Value} {h : Heap} {x : Str} {C : Addr} {q : Str} {st : Stmt} {cc cda fI : Addr} {kV doc pm ct : Value} {an : Option Addr} {ps : List Str} {fs : List (Str × Str)} {MV : List V → Prop} {msg : Expr} (X : K.In h) (G : h.Ns mainGlobals mg) (E : ErK K x C) (F : ErF P K C q st cc cda fI (supFn q st cc kV doc pm an cda ct))
    (gS : PySem.W.nsIn K mainGlobals "super" = some none) (IT : PySem.USup.InitText (supFn q st cc kV doc pm an cda ct) fI ps msg fs)
    (hmsg : ∀ (vs : List V) (us : List Value) (a : Addr) (L : Addr), Vals vs us → vs.length = ps.length → MV vs → PySem.USup.MsgOk P w (callEnv (supFn q st cc kV doc pm an cda ct) L fI) (fun y => (((("self" : Str) :: ps).zip (Value.ref a :: us)).reverse).lookup y) msg)
    (hps : ∀ fp ∈ fs, PySem.W.findIn K (.ref C) fp.1 = some none ∧ fp.2 ∈ ps) (hfl : fs.length ≤ 100) (hpl : ps.length ≤ 1000) : Er P w K mg x C ps fs MV :=
  ⟨⟨fI, cc, cda, _, msg, F.sup, IT, hmsg⟩, PySem.W.mg_none_of X G gS, PySem.W.mg_of X G E.gC, E.kC, E.exC, E.tyC, E.hdC, hps, hfl, hpl⟩
theorem cls_ex {K : PySem.W.Frag} {C : Addr} {nm qn : Str} {N : Addr} {bs bm : List Value} {sn : List Str} {sub : List Value} {ab : Bool} {col : Option Bool} {dd : Option Addr} {k0 k1 k2 k3 k5 : Option Value} (x : K.lookup C = some (excClassObj nm qn C N bs bm true sn sub ab col dd k0 k1 k2 k3 k5 "ValueError.__new__")) (y : PySem.HandSPX.refsVE bm = true) :
    ∃ nm qn N bs bm sn sub ab col dd k0 k1 k2 k3 k5, K.lookup C = some (excClassObj nm qn C N bs bm true sn sub ab col dd k0 k1 k2 k3 k5 "ValueError.__new__") ∧ PySem.HandSPX.refsVE bm = true := ⟨_, _, _, _, _, _, _, _, _, _, _, _, _, _, _, x, y⟩
theorem fn_ex {K : PySem.W.Frag} {fI : Addr} {oc : Value} {od : Option Addr} {fd : FuncData} {osl : Array (Option Value)} (x : K.lookup fI = some ⟨oc, od, .func fd, osl⟩) : ∃ oc od osl, K.lookup fI = some ⟨oc, od, .func fd, osl⟩ := ⟨_, _, _, x⟩
theorem cell_ex {K : PySem.W.Frag} {cc C : Addr} {cl : Value} {cld : Option Addr} {csl : Array (Option Value)} (x : K.lookup cc = some ⟨cl, cld, .cell (some (.ref C)), csl⟩) : ∃ cl cld csl, K.lookup cc = some ⟨cl, cld, .cell (some (.ref C)), csl⟩ := ⟨_, _, _, x⟩
theorem code_ex {P : Program} {K : PySem.W.Frag} {cda : Addr} {ccl : Value} {cdd : Option Addr} {vs : Array Value} {ccs : Array (Option Value)} {file : Str} {tf : Nat} (x : K.lookup cda = some ⟨ccl, cdd, .fields vs, ccs⟩) (y : vs[2]? = some (.str file tf)) (z : ((P.main.file : Str) == file) = true) :
    ∃ ccl cdd vs ccs file tf, K.lookup cda = some ⟨ccl, cdd, .fields vs, ccs⟩ ∧ vs[2]? = some (.str file tf) ∧ ((P.main.file : Str) == file) = true := ⟨_, _, _, _, _, _, x, y, z⟩
end U

namespace U
open PySem PySem.Spec PyProof.Rows L2
def top (i : Nat) : Stmt := PySem.Challenge.pw_untoldgaps_k01_ratios_added_and_divided.main.body.getD i (.Pass ⟨0, 0, 0, 0⟩)
/-- the classes' places -/
structure Addrs where
  BadRatio : Addr
  GapError : Addr
structure Txt (P : Program) (w : World) (K : PySem.W.Frag) (mg : Str → Option Value) (CX : Addrs) : Prop where
  n_isinstance : mg "isinstance" = none
  n_len : mg "len" = none
  n_int : mg "int" = none
  n_bool : mg "bool" = none
  n_tuple : mg "tuple" = none
  n_abs : mg "abs" = none
  n_enumerate : mg "enumerate" = none
  i_gcd : mg "gcd" = some (.builtin "math.gcd")
  n_ValueError : mg "ValueError" = none
  g_BadRatio : mg "BadRatio" = some (.ref CX.BadRatio)
  g_GapError : mg "GapError" = some (.ref CX.GapError)
  c_BadRatio : Er P w K mg "BadRatio" CX.BadRatio [] [] fun _ => True
  x_BadRatio : ExcC K CX.BadRatio
  m_BadRatio : PySem.W.exmOne K (.ref CX.BadRatio) (.ref CX.BadRatio) = some true
  k_BadRatio_GapError : PySem.W.kitOne K (.ref CX.BadRatio) (.ref CX.GapError) = some true
  k_BadRatio_ValueError : PySem.W.kitOne K (.ref CX.BadRatio) (.type "ValueError") = some true
/-! ### ratios.py -/
abbrev s_is_whole : Stmt := top 5
theorem sc_is_whole : FnScope ["thing"] ["thing"] (defScope s_is_whole) := ⟨rfl, rfl, rfl, by decide +kernel, rfl, by decide +kernel, by decide +kernel⟩
abbrev s_is_ratio : Stmt := top 6
theorem sc_is_ratio : FnScope ["thing"] ["thing"] (defScope s_is_ratio) := ⟨rfl, rfl, rfl, by decide +kernel, rfl, by decide +kernel, by decide +kernel⟩
abbrev s_lowest_terms : Stmt := top 7
theorem sc_lowest_terms : FnScope ["top", "bottom", "common"] ["top", "bottom"] (defScope s_lowest_terms) := ⟨rfl, rfl, rfl, by decide +kernel, rfl, by decide +kernel, by decide +kernel⟩
abbrev s_ratio_of : Stmt := top 8
theorem sc_ratio_of : FnScope ["thing"] ["thing"] (defScope s_ratio_of) := ⟨rfl, rfl, rfl, by decide +kernel, rfl, by decide +kernel, by decide +kernel⟩
abbrev s_plus : Stmt := top 9
theorem sc_plus : FnScope ["one", "other", "top", "bottom", "more", "part"] ["one", "other"] (defScope s_plus) := ⟨rfl, rfl, rfl, by decide +kernel, rfl, by decide +kernel, by decide +kernel⟩
abbrev s_minus : Stmt := top 10
theorem sc_minus : FnScope ["one", "other", "top", "bottom", "less", "part"] ["one", "other"] (defScope s_minus) := ⟨rfl, rfl, rfl, by decide +kernel, rfl, by decide +kernel, by decide +kernel⟩
abbrev s_times : Stmt := top 11
theorem sc_times : FnScope ["one", "other", "top", "bottom", "factor", "part"] ["one", "other"] (defScope s_times) := ⟨rfl, rfl, rfl, by decide +kernel, rfl, by decide +kernel, by decide +kernel⟩
abbrev s_over : Stmt := top 12
theorem sc_over : FnScope ["one", "other", "top", "bottom", "divisor", "part"] ["one", "other"] (defScope s_over) := ⟨rfl, rfl, rfl, by decide +kernel, rfl, by decide +kernel, by decide +kernel⟩
abbrev s_compare : Stmt := top 13
theorem sc_compare : FnScope ["one", "other", "top", "bottom", "rival", "part", "apart"] ["one", "other"] (defScope s_compare) := ⟨rfl, rfl, rfl, by decide +kernel, rfl, by decide +kernel, by decide +kernel⟩
/-- a thing of the kind t -/
structure KindOf (K : PySem.W.Frag) (P : Pr) (t : String) : Prop where
  mn : Mn Evl.Ex P
  ty : HasTy K t P
def wWhole (i : Pr × String × Bool × Bool) : Way := ⟨[i.1], Is (.bl (i.2.2.1 && !i.2.2.2)), NoX⟩
def sp_is_whole (K : PySem.W.Frag) : Sp := SpW Evl.Ex (fun i : Pr × String × Bool × Bool => KindOf K i.1 i.2.1 ∧ kitB i.2.1 "int" = some i.2.2.1 ∧ kitB i.2.1 "bool" = some i.2.2.2) wWhole
def wIsR (K : PySem.W.Frag) : Int ⊕ (Int × Int) → Way
  | .inl i => ⟨[Is (.int i)], Is (.bl true), NoX⟩
  | .inr ab => ⟨[Tup K [Is (.int ab.1), Is (.int ab.2)]], Is (.bl true), NoX⟩
def sp_is_ratio (K : PySem.W.Frag) : Sp := SpW Evl.Ex (fun i => match i with | .inl _ => True | .inr ab => 0 < ab.2) (wIsR K)
def sp_lowest_terms (K : PySem.W.Frag) : Sp := SpW Evl.Ex (fun i : Int × Int => i.2 ≠ 0 ∧ Big 8000 i.2) fun i => ⟨[Is (.int i.1), Is (.int i.2)], Told K (Rat.divInt i.1 i.2), NoX⟩
def wRof (K : PySem.W.Frag) : Int ⊕ (Int × Int) → Way
  | .inl i => ⟨[Is (.int i)], Told K (i : Rat), NoX⟩
  | .inr ab => ⟨[Tup K [Is (.int ab.1), Is (.int ab.2)]], Told K (Rat.divInt ab.1 ab.2), NoX⟩
def sp_ratio_of (K : PySem.W.Frag) : Sp := SpW Evl.Ex (fun i => match i with | .inl _ => True | .inr ab => 0 < ab.2 ∧ Big 8000 ab.2) (wRof K)
section
variable {P : Program} {w : World} {K : PySem.W.Frag} {mg : Str → Option Value} {base : Heap} {CX : Addrs}
theorem ok_is_whole {f : Addr} {fd : FuncData} (F : Fun K "is_whole" "is_whole" s_is_whole f fd) (T : Txt P w K mg CX) : FnOk P w K mg base (L2.CX P w) 1 f fd ["thing"] (sp_is_whole K) := by
  refine okW F sc_is_whole (fun i => rfl) (by decide) (fun cdv A outer s H E hr => ⟨_, (pss_one (ps_ret (pe_and (pe_callB call_isi (by rfl) T.n_isinstance (by decide +kernel) (pa_cons (pv 0) (pa_cons (pe_bltn (v := .ty "int") (by rfl) T.n_int (by decide +kernel) rfl) pa_nil))) (pe_one (pe_not (pe_callB call_isi (by rfl) T.n_isinstance (by decide +kernel) (pa_cons (pv 0) (pa_cons (pe_bltn (v := .ty "bool") (by rfl) T.n_bool (by decide +kernel) rfl) pa_nil)))))))), fun i c => ⟨Dead, ?_, fun _ _ h => (dead h).elim⟩⟩)
  obtain ⟨P, t, b1, b2⟩ := i
  obtain ⟨⟨m, ty⟩, k1, k2⟩ := c
  haveI := m
  show St (RsE E NoX 1) [some P] _ Dead (Is (.bl (b1 && !b2)))
  exact st_ret (ev_andV (ev_cb (ea_cons (ev_var rfl) (ea_cons ev_c ea_nil)) (opA_isi ty k1)) fun _ => ev_notV (ev_cb (ea_cons (ev_var rfl) (ea_cons ev_c ea_nil)) (opA_isi ty k2)))
theorem kit_ii : kitB "int" "int" = some true := by decide +kernel
theorem kit_ib : kitB "int" "bool" = some false := by decide +kernel
theorem cl_whole {W : HR} [Pre W] {i : Int} : Cl W (sp_is_whole K) [Is (.int i)] (Is (.bl true)) NoX :=
  cl_of (C := fun i : Pr × String × Bool × Bool => KindOf K i.1 i.2.1 ∧ kitB i.2.1 "int" = some i.2.2.1 ∧ kitB i.2.1 "bool" = some i.2.2.2) (f := wWhole) (Is (.int i), "int", true, false) ⟨⟨inferInstance, hasTy_int⟩, kit_ii, kit_ib⟩
theorem ok_is_ratio {f : Addr} {fd : FuncData} (F : Fun K "is_ratio" "is_ratio" s_is_ratio f fd) (T : Txt P w K mg CX) (D_is_whole : Df P w K mg base 1 "is_whole" ["thing"] (sp_is_whole K)) :
    FnOk P w K mg base (L2.CX P w) 2 f fd ["thing"] (sp_is_ratio K) := by
  refine okW F sc_is_ratio (fun i => by cases i <;> rfl) (by decide) (fun cdv A outer s H E hr => ⟨_, (pss_cons (ps_if (pt_not (pt_val (pe_callB call_isi (by rfl) T.n_isinstance (by decide +kernel) (pa_cons (pv 0) (pa_cons (pe_bltn (v := .ty "tuple") (by rfl) T.n_tuple (by decide +kernel) rfl) pa_nil))))) (pss_one (ps_ret (pe_df D_is_whole (hr.mono (by decide)) (takes_of rfl rfl rfl rfl) (pa_cons (pv 0) pa_nil)))) pss_nil) (pss_one (ps_ret (pe_and (pe_cmpR (op_eqA hr.units) (pe_callB call_lenA (by rfl) T.n_len (by decide +kernel) (pa_cons (pv 0) pa_nil)) pe_int (nomark _)) (pe_and (pe_df D_is_whole (hr.mono (by decide)) (takes_of rfl rfl rfl rfl) (pa_cons (pe_ix ix_seq (pv 0) pe_int (fun _ _ => rfl)) pa_nil)) (pe_and (pe_df D_is_whole (hr.mono (by decide)) (takes_of rfl rfl rfl rfl) (pa_cons (pe_ix ix_seq (pv 0) pe_int (fun _ _ => rfl)) pa_nil)) (pe_one (pe_cmpR op_ge (pe_ix ix_seq (pv 0) pe_int (fun _ _ => rfl)) pe_int (nomark _))))))))), fun i c => ⟨Dead, ?_, fun _ _ h => (dead h).elim⟩⟩)
  cases i with
  | inl i =>
    show St (RsE E NoX 1) [some (Is (.int i))] _ Dead (Is (.bl true))
    refine st_seq (M := Dead) (st_if (et_not (et_B (ev_cb (ea_cons (ev_var rfl) (ea_cons ev_c ea_nil)) (opA_isi hasTy_int (b := false) (by decide +kernel))))) (fun _ => st_ret (ev_call (ea_cons (ev_var rfl) ea_nil) cl_whole)) (fun h => by cases h)) ?_
    exact fun s H D ty => (dead ty).elim
  | inr ab =>
    have hb : 0 < ab.2 := c
    show St (RsE E NoX 1) [some (Tup K [Is (.int ab.1), Is (.int ab.2)])] _ Dead (Is (.bl true))
    refine st_seq (st_if (et_not (et_B (ev_cb (ea_cons (ev_var rfl) (ea_cons ev_c ea_nil)) (opA_isi hasTy_tup (b := true) (by decide +kernel))))) (fun h => by cases h) (fun _ => st_next)) ?_
    refine st_ret (Ev.to (ev_andV (ev_op (ev_cb (ea_cons (ev_var rfl) ea_nil) opA_lenT) ev_c o_eqI) fun _ => ev_andV (ev_call (ea_cons (ev_op (ev_var rfl) ev_c (o_ixT (i := 0) rfl)) ea_nil) cl_whole) fun _ => ev_andV (ev_call (ea_cons (ev_op (ev_var rfl) ev_c (o_ixT (i := 1) rfl)) ea_nil) cl_whole) fun _ => (ev_op (ev_op (ev_var rfl) ev_c (o_ixT (i := 1) rfl)) ev_c op2_I0)) ?_)
    show V.bl (true && (true && (true && decide (1 ≤ ab.2)))) = V.bl true
    rw [decide_eq_true (show 1 ≤ ab.2 by omega)]
    rfl
theorem cl_is_ratio_i {W : HR} [Pre W] {i : Int} : Cl W (sp_is_ratio K) [Is (.int i)] (Is (.bl true)) NoX := cl_of (f := wIsR K) (.inl i) True.intro
theorem cl_is_ratio_t {W : HR} [Pre W] {a b : Int} (h : 0 < b) : Cl W (sp_is_ratio K) [Tup K [Is (.int a), Is (.int b)]] (Is (.bl true)) NoX := cl_of (C := fun i => match i with | .inl _ => True | .inr ab => 0 < ab.2) (f := wIsR K) (.inr (a, b)) h
theorem ok_lowest_terms {f : Addr} {fd : FuncData} (F : Fun K "lowest_terms" "lowest_terms" s_lowest_terms f fd) (T : Txt P w K mg CX) : FnOk P w K mg base (L2.CX P w) 1 f fd ["top", "bottom"] (sp_lowest_terms K) := by
  refine okW F sc_lowest_terms (fun i => rfl) (by decide) (fun cdv A outer s H E hr => ⟨_, (pss_cons (ps_set (i := 2) sc_lowest_terms.nd rfl (Or.inl rfl) (pe_callBfun cr_gcd (by rfl) T.i_gcd (pa_cons (pv 0) (pa_cons (pv 1) pa_nil)))) (pss_cons (ps_if (pt_cmpR op_lt (pv 1) pe_int (nomark _)) (pss_one (ps_set (i := 2) sc_lowest_terms.nd rfl (Or.inl rfl) (pe_un un_neg (pv 2)))) pss_nil) (pss_one (ps_ret (pe_tup (pa_cons (pe_op op_fd (pv 0) (pv 2)) (pa_cons (pe_op op_fd (pv 1) (pv 2)) pa_nil))))))), fun i c => ⟨Dead, ?_, fun _ _ h => (dead h).elim⟩⟩)
  obtain ⟨t, b⟩ := i
  obtain ⟨hb, bb⟩ := c
  show St (RsE E NoX 3) [some (Is (.int t)), some (Is (.int b)), none] _ Dead (Told K (Rat.divInt t b))
  obtain ⟨c0, c1, c2⟩ := low_terms (t := t) hb _ rfl
  have cb : Big 8000 (if b < 0 then -((Nat.gcd t.natAbs b.natAbs : Nat) : Int) else ((Nat.gcd t.natAbs b.natAbs : Nat) : Int)) := by
    have hle : Nat.gcd t.natAbs b.natAbs ≤ b.natAbs := Nat.gcd_le_right _ (by omega)
    have : (if b < 0 then -((Nat.gcd t.natAbs b.natAbs : Nat) : Int) else ((Nat.gcd t.natAbs b.natAbs : Nat) : Int)).natAbs = Nat.gcd t.natAbs b.natAbs := by split <;> omega
    unfold Big at *
    rw [this]
    exact Nat.lt_of_le_of_lt hle bb
  refine st_seq (st_set (ev_cb (ea_cons (ev_var rfl) (ea_cons (ev_var rfl) ea_nil)) opA_gcd)) ?_
  refine st_seq (M := [some (Is (.int t)), some (Is (.int b)), some (Is (.int (if b < 0 then -((Nat.gcd t.natAbs b.natAbs : Nat) : Int) else ((Nat.gcd t.natAbs b.natAbs : Nat) : Int))))]) (st_if (et_test (ev_op (ev_var rfl) ev_c op2_I0)) (fun h => ?_) (fun h => ?_)) ?_
  · have hn : b < 0 := of_decide_eq_true h
    rw [if_pos hn]
    exact st_set (ev_un (ev_var rfl) op1_neg)
  · have hn : ¬ b < 0 := of_decide_eq_false h
    rw [if_neg hn]
    exact st_next
  · refine st_ret (Ev.sub (ev_tup (K := K) (ea_cons (ev_op (ev_var rfl) (ev_var rfl) (o_fd c0 cb (Nat.le_refl _))) (ea_cons (ev_op (ev_var rfl) (ev_var rfl) (o_fd c0 cb (Nat.le_refl _))) ea_nil))) ?_)
    rw [c1, c2]
    exact fun _ _ h => h
theorem cl_low {W : HR} [Pre W] {t b : Int} (h : b ≠ 0) (k : Big 8000 b) : Cl W (sp_lowest_terms K) [Is (.int t), Is (.int b)] (Told K (Rat.divInt t b)) NoX :=
  cl_of (C := fun i : Int × Int => i.2 ≠ 0 ∧ Big 8000 i.2) (f := fun i => ⟨[Is (.int i.1), Is (.int i.2)], Told K (Rat.divInt i.1 i.2), NoX⟩) (t, b) ⟨h, k⟩
theorem ok_ratio_of {f : Addr} {fd : FuncData} (F : Fun K "ratio_of" "ratio_of" s_ratio_of f fd) (T : Txt P w K mg CX) (D_is_ratio : Df P w K mg base 2 "is_ratio" ["thing"] (sp_is_ratio K)) (D_lowest_terms : Df P w K mg base 1 "lowest_terms" ["top", "bottom"] (sp_lowest_terms K)) :
    FnOk P w K mg base (L2.CX P w) 3 f fd ["thing"] (sp_ratio_of K) := by
  refine okW F sc_ratio_of (fun i => by cases i <;> rfl) (by decide) (fun cdv A outer s H E hr => ⟨_, (pss_cons (ps_if (pt_not (pt_val (pe_df D_is_ratio (hr.mono (by decide)) (takes_of rfl rfl rfl rfl) (pa_cons (pv 0) pa_nil)))) (pss_one (ps_raise rfl (takes_of rfl rfl rfl rfl) (pmk_er0 T.c_BadRatio (hr.mono (by decide))))) pss_nil) (pss_cons (ps_if (pt_val (pe_callB call_isi (by rfl) T.n_isinstance (by decide +kernel) (pa_cons (pv 0) (pa_cons (pe_bltn (v := .ty "tuple") (by rfl) T.n_tuple (by decide +kernel) rfl) pa_nil)))) (pss_one (ps_ret (pe_df D_lowest_terms (hr.mono (by decide)) (takes_of rfl rfl rfl rfl) (pa_cons (pe_ix ix_seq (pv 0) pe_int (fun _ _ => rfl)) (pa_cons (pe_ix ix_seq (pv 0) pe_int (fun _ _ => rfl)) pa_nil))))) pss_nil) (pss_one (ps_ret (pe_tup (pa_cons (pv 0) (pa_cons pe_int pa_nil))))))), fun i c => ⟨Dead, ?_, fun _ _ h => (dead h).elim⟩⟩)
  cases i with
  | inl i =>
    show St (RsE E NoX 1) [some (Is (.int i))] _ Dead (Told K (i : Rat))
    refine st_seq (st_if (et_not (et_B (ev_call (ea_cons (ev_var rfl) ea_nil) cl_is_ratio_i))) (fun h => by cases h) (fun _ => st_next)) ?_
    refine st_seq (st_if (et_B (ev_cb (ea_cons (ev_var rfl) (ea_cons ev_c ea_nil)) (opA_isi hasTy_int (b := false) (by decide +kernel)))) (fun h => by cases h) (fun _ => st_next)) ?_
    exact st_ret (ev_tup (K := K) (ea_cons (ev_var rfl) (ea_cons ev_c ea_nil)))
  | inr ab =>
    obtain ⟨hb, bb⟩ := (c : 0 < ab.2 ∧ Big 8000 ab.2)
    show St (RsE E NoX 1) [some (Tup K [Is (.int ab.1), Is (.int ab.2)])] _ Dead (Told K (Rat.divInt ab.1 ab.2))
    refine st_seq (st_if (et_not (et_B (ev_call (ea_cons (ev_var rfl) ea_nil) (cl_is_ratio_t hb)))) (fun h => by cases h) (fun _ => st_next)) ?_
    refine st_seq (M := Dead) (st_if (et_B (ev_cb (ea_cons (ev_var rfl) (ea_cons ev_c ea_nil)) (opA_isi hasTy_tup (b := true) (by decide +kernel)))) (fun _ => ?_) (fun h => by cases h)) (fun s H D ty => (dead ty).elim)
    exact st_ret (ev_call (ea_cons (ev_op (ev_var rfl) ev_c (o_ixT (i := 0) rfl)) (ea_cons (ev_op (ev_var rfl) ev_c (o_ixT (i := 1) rfl)) ea_nil)) (cl_low (by omega) bb))
/-- what a def is worth upon any of two things -/
theorem cl_or {W : HR} {sp : Sp} {P1 P2 : Pr} {Ps : List Pr} {R : Pr} {X : XP} (h1 : Cl W sp (P1 :: Ps) R X) (h2 : Cl W sp (P2 :: Ps) R X) : Cl W sp ((fun v H => P1 v H ∨ P2 v H) :: Ps) R X := fun vs H a Q E q e => by
  cases vs with
  | nil => exact a.elim
  | cons v vs => exact a.1.elim (fun z => h1 (v :: vs) H ⟨z, a.2⟩ Q E q e) fun z => h2 (v :: vs) H ⟨z, a.2⟩ Q E q e
theorem cl_ratio_of {W : HR} [Pre W] {n : Nat} {q : Rat} (hn : n ≤ 8000) : Cl W (sp_ratio_of K) [IsR K n q] (Told K q) NoX := fun vs H al Q E k e => by
  obtain ⟨v, rfl, h⟩ := allp1 al
  rcases h with ⟨i, rfl, _, rfl⟩ | ⟨a, b, t, h0, h1, h2, rfl⟩
  · exact cl_of (W := Evl.Ex) (W' := W) (C := fun i => match i with | .inl _ => True | .inr ab => 0 < ab.2 ∧ Big 8000 ab.2) (f := wRof K) (.inl i) True.intro _ H (show AllP [Is (.int i)] [V.int i] H from ⟨rfl, True.intro⟩) Q E k e
  · exact cl_of (W := Evl.Ex) (W' := W) (C := fun i => match i with | .inl _ => True | .inr ab => 0 < ab.2 ∧ Big 8000 ab.2) (f := wRof K) (.inr (a, b)) ⟨h0, big_mono h2 hn⟩ _ H (show AllP [Tup K [Is (.int a), Is (.int b)]] [v] H from ⟨t, True.intro⟩) Q E k e
/-- two ratios, sizes -/
structure Two where
  n : Nat
  q : Rat
  r : Rat
def Two.ok (i : Two) : Prop := i.n ≤ 3900 ∧ Sz i.n i.q ∧ Sz i.n i.r
def sp_plus (K : PySem.W.Frag) : Sp := SpW Evl.Ex Two.ok fun i => ⟨[IsR K i.n i.q, IsR K i.n i.r], Told K (i.q + i.r), NoX⟩
def sp_minus (K : PySem.W.Frag) : Sp := SpW Evl.Ex Two.ok fun i => ⟨[IsR K i.n i.q, IsR K i.n i.r], Told K (i.q - i.r), NoX⟩
def sp_times (K : PySem.W.Frag) : Sp := SpW Evl.Ex Two.ok fun i => ⟨[IsR K i.n i.q, IsR K i.n i.r], Told K (i.q * i.r), NoX⟩
def cmpR (q r : Rat) : Int := if q < r then -1 else if q = r then 0 else 1
def sp_compare (K : PySem.W.Frag) : Sp := SpW Evl.Ex Two.ok fun i => ⟨[IsR K i.n i.q, IsR K i.n i.r], Is (.int (cmpR i.q i.r)), NoX⟩
theorem rat_add (q r : Rat) : Rat.divInt (q.num * r.den + r.num * q.den) (q.den * r.den) = q + r := by
  rw [← Rat.divInt_add_divInt _ _ (by have := q.den_pos; omega) (by have := r.den_pos; omega)]; simp
theorem rat_sub (q r : Rat) : Rat.divInt (q.num * r.den - r.num * q.den) (q.den * r.den) = q - r := by
  rw [← Rat.divInt_sub_divInt _ _ (by have := q.den_pos; omega) (by have := r.den_pos; omega)]; simp
theorem rat_mul (q r : Rat) : Rat.divInt (q.num * r.num) (q.den * r.den) = q * r := by
  rw [← Rat.divInt_mul_divInt]; simp
theorem den_ne (q r : Rat) : ((q.den : Int) * (r.den : Int)) ≠ 0 := Int.mul_ne_zero (by have := q.den_pos; omega) (by have := r.den_pos; omega)
theorem sz_den {n : Nat} {q : Rat} (h : Sz n q) : Big n (q.den : Int) := by have := h.2; unfold Big; omega
theorem ok_plus {f : Addr} {fd : FuncData} (F : Fun K "plus" "plus" s_plus f fd) (D_ratio_of : Df P w K mg base 3 "ratio_of" ["thing"] (sp_ratio_of K)) (D_lowest_terms : Df P w K mg base 1 "lowest_terms" ["top", "bottom"] (sp_lowest_terms K)) :
    FnOk P w K mg base (L2.CX P w) 4 f fd ["one", "other"] (sp_plus K) := by
  refine okW F sc_plus (fun i => rfl) (by decide) (fun cdv A outer s H E hr => ⟨_, (pss_cons (ps_asg (pe_df D_ratio_of (hr.mono (by decide)) (takes_of rfl rfl rfl rfl) (pa_cons (pv 0) pa_nil)) (pg_tup rfl (pgs_cons (pg_name (i := 2) sc_plus.nd rfl (Or.inl rfl)) (pgs_cons (pg_name (i := 3) sc_plus.nd rfl (Or.inl rfl)) pgs_nil)))) (pss_cons (ps_asg (pe_df D_ratio_of (hr.mono (by decide)) (takes_of rfl rfl rfl rfl) (pa_cons (pv 1) pa_nil)) (pg_tup rfl (pgs_cons (pg_name (i := 4) sc_plus.nd rfl (Or.inl rfl)) (pgs_cons (pg_name (i := 5) sc_plus.nd rfl (Or.inl rfl)) pgs_nil)))) (pss_one (ps_ret (pe_df D_lowest_terms (hr.mono (by decide)) (takes_of rfl rfl rfl rfl) (pa_cons (pe_op op_addA (pe_op op_mulA (pv 2) (pv 5)) (pe_op op_mulA (pv 4) (pv 3))) (pa_cons (pe_op op_mulA (pv 3) (pv 5)) pa_nil))))))), fun i c => ⟨Dead, ?_, fun _ _ h => (dead h).elim⟩⟩)
  obtain ⟨n, q, r⟩ := i
  obtain ⟨hn, hq, hr'⟩ := c
  replace hn : n ≤ 3900 := hn
  replace hq : Sz n q := hq
  replace hr' : Sz n r := hr'
  show St (RsE E NoX 6) [some (IsR K n q), some (IsR K n r), none, none, none, none] _ Dead (Told K (q + r))
  refine st_seq (st_un2 (ev_call (ea_cons (ev_var rfl) ea_nil) (cl_ratio_of (by omega)))) ?_
  refine st_seq (st_un2 (ev_call (ea_cons (ev_var rfl) ea_nil) (cl_ratio_of (by omega)))) ?_
  rw [← rat_add]
  exact st_ret (ev_call (ea_cons (ev_op (ev_op (ev_var rfl) (ev_var rfl) (o_mul hq.1 (sz_den hr') (by omega))) (ev_op (ev_var rfl) (ev_var rfl) (o_mul hr'.1 (sz_den hq) (by omega))) o_add) (ea_cons (ev_op (ev_var rfl) (ev_var rfl) (o_mul (sz_den hq) (sz_den hr') (by omega))) ea_nil)) (cl_low (den_ne q r) (big_mono (big_mul (sz_den hq) (sz_den hr')) (by omega))))
theorem ok_minus {f : Addr} {fd : FuncData} (F : Fun K "minus" "minus" s_minus f fd) (D_ratio_of : Df P w K mg base 3 "ratio_of" ["thing"] (sp_ratio_of K)) (D_lowest_terms : Df P w K mg base 1 "lowest_terms" ["top", "bottom"] (sp_lowest_terms K)) :
    FnOk P w K mg base (L2.CX P w) 4 f fd ["one", "other"] (sp_minus K) := by
  refine okW F sc_minus (fun i => rfl) (by decide) (fun cdv A outer s H E hr => ⟨_, (pss_cons (ps_asg (pe_df D_ratio_of (hr.mono (by decide)) (takes_of rfl rfl rfl rfl) (pa_cons (pv 0) pa_nil)) (pg_tup rfl (pgs_cons (pg_name (i := 2) sc_minus.nd rfl (Or.inl rfl)) (pgs_cons (pg_name (i := 3) sc_minus.nd rfl (Or.inl rfl)) pgs_nil)))) (pss_cons (ps_asg (pe_df D_ratio_of (hr.mono (by decide)) (takes_of rfl rfl rfl rfl) (pa_cons (pv 1) pa_nil)) (pg_tup rfl (pgs_cons (pg_name (i := 4) sc_minus.nd rfl (Or.inl rfl)) (pgs_cons (pg_name (i := 5) sc_minus.nd rfl (Or.inl rfl)) pgs_nil)))) (pss_one (ps_ret (pe_df D_lowest_terms (hr.mono (by decide)) (takes_of rfl rfl rfl rfl) (pa_cons (pe_op op_sub (pe_op op_mulA (pv 2) (pv 5)) (pe_op op_mulA (pv 4) (pv 3))) (pa_cons (pe_op op_mulA (pv 3) (pv 5)) pa_nil))))))), fun i c => ⟨Dead, ?_, fun _ _ h => (dead h).elim⟩⟩)
  obtain ⟨n, q, r⟩ := i
  obtain ⟨hn, hq, hr'⟩ := c
  replace hn : n ≤ 3900 := hn
  replace hq : Sz n q := hq
  replace hr' : Sz n r := hr'
  show St (RsE E NoX 6) [some (IsR K n q), some (IsR K n r), none, none, none, none] _ Dead (Told K (q - r))
  refine st_seq (st_un2 (ev_call (ea_cons (ev_var rfl) ea_nil) (cl_ratio_of (by omega)))) ?_
  refine st_seq (st_un2 (ev_call (ea_cons (ev_var rfl) ea_nil) (cl_ratio_of (by omega)))) ?_
  rw [← rat_sub]
  exact st_ret (ev_call (ea_cons (ev_op (ev_op (ev_var rfl) (ev_var rfl) (o_mul hq.1 (sz_den hr') (by omega))) (ev_op (ev_var rfl) (ev_var rfl) (o_mul hr'.1 (sz_den hq) (by omega))) o_sub) (ea_cons (ev_op (ev_var rfl) (ev_var rfl) (o_mul (sz_den hq) (sz_den hr') (by omega))) ea_nil)) (cl_low (den_ne q r) (big_mono (big_mul (sz_den hq) (sz_den hr')) (by omega))))
theorem ok_times {f : Addr} {fd : FuncData} (F : Fun K "times" "times" s_times f fd) (D_ratio_of : Df P w K mg base 3 "ratio_of" ["thing"] (sp_ratio_of K)) (D_lowest_terms : Df P w K mg base 1 "lowest_terms" ["top", "bottom"] (sp_lowest_terms K)) :
    FnOk P w K mg base (L2.CX P w) 4 f fd ["one", "other"] (sp_times K) := by
  refine okW F sc_times (fun i => rfl) (by decide) (fun cdv A outer s H E hr => ⟨_, (pss_cons (ps_asg (pe_df D_ratio_of (hr.mono (by decide)) (takes_of rfl rfl rfl rfl) (pa_cons (pv 0) pa_nil)) (pg_tup rfl (pgs_cons (pg_name (i := 2) sc_times.nd rfl (Or.inl rfl)) (pgs_cons (pg_name (i := 3) sc_times.nd rfl (Or.inl rfl)) pgs_nil)))) (pss_cons (ps_asg (pe_df D_ratio_of (hr.mono (by decide)) (takes_of rfl rfl rfl rfl) (pa_cons (pv 1) pa_nil)) (pg_tup rfl (pgs_cons (pg_name (i := 4) sc_times.nd rfl (Or.inl rfl)) (pgs_cons (pg_name (i := 5) sc_times.nd rfl (Or.inl rfl)) pgs_nil)))) (pss_one (ps_ret (pe_df D_lowest_terms (hr.mono (by decide)) (takes_of rfl rfl rfl rfl) (pa_cons (pe_op op_mulA (pv 2) (pv 4)) (pa_cons (pe_op op_mulA (pv 3) (pv 5)) pa_nil))))))), fun i c => ⟨Dead, ?_, fun _ _ h => (dead h).elim⟩⟩)
  obtain ⟨n, q, r⟩ := i
  obtain ⟨hn, hq, hr'⟩ := c
  replace hn : n ≤ 3900 := hn
  replace hq : Sz n q := hq
  replace hr' : Sz n r := hr'
  show St (RsE E NoX 6) [some (IsR K n q), some (IsR K n r), none, none, none, none] _ Dead (Told K (q * r))
  refine st_seq (st_un2 (ev_call (ea_cons (ev_var rfl) ea_nil) (cl_ratio_of (by omega)))) ?_
  refine st_seq (st_un2 (ev_call (ea_cons (ev_var rfl) ea_nil) (cl_ratio_of (by omega)))) ?_
  rw [← rat_mul]
  exact st_ret (ev_call (ea_cons (ev_op (ev_var rfl) (ev_var rfl) (o_mul hq.1 hr'.1 (by omega))) (ea_cons (ev_op (ev_var rfl) (ev_var rfl) (o_mul (sz_den hq) (sz_den hr') (by omega))) ea_nil)) (cl_low (den_ne q r) (big_mono (big_mul (sz_den hq) (sz_den hr')) (by omega))))
def wOver (K : PySem.W.Frag) (CX : Addrs) : Two ⊕ Two → Way
  | .inl i => ⟨[IsR K i.n i.q, IsR K i.n i.r], Told K (i.q / i.r), NoX⟩
  | .inr i => ⟨[IsR K i.n i.q, IsR K i.n i.r], fun _ _ => False, fun cls d _ => cls = .ref CX.BadRatio ∧ d = none⟩
def okOver : Two ⊕ Two → Prop
  | .inl i => i.ok ∧ i.r ≠ 0
  | .inr i => i.ok ∧ i.r = 0
def sp_over (K : PySem.W.Frag) (CX : Addrs) : Sp := SpW Evl.Ex okOver (wOver K CX)
theorem rat_div {q r : Rat} (h : r ≠ 0) : Rat.divInt (q.num * r.den) (q.den * r.num) = q / r := by
  have h1 : (r.num : Int) ≠ 0 := fun z => h (Rat.num_eq_zero.mp z)
  have e : q / r = Rat.divInt q.num q.den * (Rat.divInt r.num r.den)⁻¹ := by rw [Rat.div_def]; simp
  rw [e, Rat.inv_divInt, Rat.divInt_mul_divInt]
theorem ok_over {f : Addr} {fd : FuncData} (F : Fun K "over" "over" s_over f fd) (T : Txt P w K mg CX) (D_ratio_of : Df P w K mg base 3 "ratio_of" ["thing"] (sp_ratio_of K)) (D_lowest_terms : Df P w K mg base 1 "lowest_terms" ["top", "bottom"] (sp_lowest_terms K)) :
    FnOk P w K mg base (L2.CX P w) 4 f fd ["one", "other"] (sp_over K CX) := by
  refine okW F sc_over (fun i => by cases i <;> rfl) (by decide) (fun cdv A outer s H E hr => ⟨_, (pss_cons (ps_asg (pe_df D_ratio_of (hr.mono (by decide)) (takes_of rfl rfl rfl rfl) (pa_cons (pv 0) pa_nil)) (pg_tup rfl (pgs_cons (pg_name (i := 2) sc_over.nd rfl (Or.inl rfl)) (pgs_cons (pg_name (i := 3) sc_over.nd rfl (Or.inl rfl)) pgs_nil)))) (pss_cons (ps_asg (pe_df D_ratio_of (hr.mono (by decide)) (takes_of rfl rfl rfl rfl) (pa_cons (pv 1) pa_nil)) (pg_tup rfl (pgs_cons (pg_name (i := 4) sc_over.nd rfl (Or.inl rfl)) (pgs_cons (pg_name (i := 5) sc_over.nd rfl (Or.inl rfl)) pgs_nil)))) (pss_cons (ps_if (pt_cmpR (op_eqA hr.units) (pv 4) pe_int (nomark _)) (pss_one (ps_raise rfl (takes_of rfl rfl rfl rfl) (pmk_er0 T.c_BadRatio (hr.mono (by decide))))) pss_nil) (pss_one (ps_ret (pe_df D_lowest_terms (hr.mono (by decide)) (takes_of rfl rfl rfl rfl) (pa_cons (pe_op op_mulA (pv 2) (pv 5)) (pa_cons (pe_op op_mulA (pv 3) (pv 4)) pa_nil)))))))), fun i c => ⟨Dead, ?_, fun _ _ h => (dead h).elim⟩⟩)
  cases i with
  | inl i =>
    obtain ⟨n, q, r⟩ := i
    obtain ⟨⟨hn, hq, hr'⟩, h0⟩ := c
    replace hn : n ≤ 3900 := hn
    replace hq : Sz n q := hq
    replace hr' : Sz n r := hr'
    replace h0 : r ≠ 0 := h0
    have h1 : r.num ≠ 0 := fun z => h0 (Rat.num_eq_zero.mp z)
    show St (RsE E NoX 6) [some (IsR K n q), some (IsR K n r), none, none, none, none] _ Dead (Told K (q / r))
    refine st_seq (st_un2 (ev_call (ea_cons (ev_var rfl) ea_nil) (cl_ratio_of (by omega)))) ?_
    refine st_seq (st_un2 (ev_call (ea_cons (ev_var rfl) ea_nil) (cl_ratio_of (by omega)))) ?_
    refine st_seq (st_if (et_test (ev_op (ev_var rfl) ev_c o_eqI)) (fun h => absurd (of_decide_eq_true h) h1) (fun _ => st_next)) ?_
    rw [← rat_div h0]
    exact st_ret (ev_call (ea_cons (ev_op (ev_var rfl) (ev_var rfl) (o_mul hq.1 (sz_den hr') (by omega))) (ea_cons (ev_op (ev_var rfl) (ev_var rfl) (o_mul (sz_den hq) hr'.1 (by omega))) ea_nil)) (cl_low (Int.mul_ne_zero (by have := q.den_pos; omega) h1) (big_mono (big_mul (sz_den hq) hr'.1) (by omega))))
  | inr i =>
    obtain ⟨n, q, r⟩ := i
    obtain ⟨⟨hn, hq, hr'⟩, h0⟩ := c
    replace hn : n ≤ 3900 := hn
    replace h0 : r = 0 := h0
    subst h0
    show St (RsE E (fun cls d _ => cls = .ref CX.BadRatio ∧ d = none) 6) [some (IsR K n q), some (IsR K n 0), none, none, none, none] _ Dead (fun _ _ => False)
    refine st_seq (st_un2 (ev_call (ea_cons (ev_var rfl) ea_nil) (cl_ratio_of (by omega)))) ?_
    refine st_seq (st_un2 (ev_call (ea_cons (ev_var rfl) ea_nil) (cl_ratio_of (by omega)))) ?_
    refine st_seq (M := Dead) (st_if (et_test (ev_op (ev_var rfl) ev_c o_eqI)) (fun h => ?_) (fun h => by simp at h)) (fun s H D ty => (dead ty).elim)
    refine st_raise (sub_none rfl) (fun s H Q ty k => ?_)
    exact ⟨rfl, True.intro, fun _ => k _ _ _ (Evl.Ex.refl H) ty ⟨rfl, rfl⟩, fun z => absurd rfl z⟩
theorem cmp_num (q r : Rat) : (q.num * r.den - r.num * q.den = 0 ↔ q = r) ∧ (q.num * r.den - r.num * q.den < 0 ↔ q < r) := by
  have e1 : q < r ↔ q.num * r.den < r.num * q.den := Rat.lt_iff q r
  have e2 : r < q ↔ r.num * q.den < q.num * r.den := Rat.lt_iff r q
  have e3 : q = r ↔ ¬ q < r ∧ ¬ r < q := by
    constructor
    · rintro rfl; exact ⟨Rat.lt_irrefl, Rat.lt_irrefl⟩
    · rintro ⟨a, b⟩; exact Rat.le_antisymm (Rat.not_lt.mp b) (Rat.not_lt.mp a)
  rw [e3, e1, e2]
  constructor <;> omega
theorem ok_compare {f : Addr} {fd : FuncData} (F : Fun K "compare" "compare" s_compare f fd) (D_ratio_of : Df P w K mg base 3 "ratio_of" ["thing"] (sp_ratio_of K)) :
    FnOk P w K mg base (L2.CX P w) 4 f fd ["one", "other"] (sp_compare K) := by
  refine okW F sc_compare (fun i => rfl) (by decide) (fun cdv A outer s H E hr => ⟨_, (pss_cons (ps_asg (pe_df D_ratio_of (hr.mono (by decide)) (takes_of rfl rfl rfl rfl) (pa_cons (pv 0) pa_nil)) (pg_tup rfl (pgs_cons (pg_name (i := 2) sc_compare.nd rfl (Or.inl rfl)) (pgs_cons (pg_name (i := 3) sc_compare.nd rfl (Or.inl rfl)) pgs_nil)))) (pss_cons (ps_asg (pe_df D_ratio_of (hr.mono (by decide)) (takes_of rfl rfl rfl rfl) (pa_cons (pv 1) pa_nil)) (pg_tup rfl (pgs_cons (pg_name (i := 4) sc_compare.nd rfl (Or.inl rfl)) (pgs_cons (pg_name (i := 5) sc_compare.nd rfl (Or.inl rfl)) pgs_nil)))) (pss_cons (ps_set (i := 6) sc_compare.nd rfl (Or.inl rfl) (pe_op op_sub (pe_op op_mulA (pv 2) (pv 5)) (pe_op op_mulA (pv 4) (pv 3)))) (pss_cons (ps_if (pt_cmpR (op_eqA hr.units) (pv 6) pe_int (nomark _)) (pss_one (ps_ret pe_int)) pss_nil) (pss_one (ps_ret (pe_ifExp (pt_cmpR op_lt (pv 6) pe_int (nomark _)) (pe_un un_neg pe_int) pe_int))))))), fun i c => ⟨Dead, ?_, fun _ _ h => (dead h).elim⟩⟩)
  obtain ⟨n, q, r⟩ := i
  obtain ⟨hn, hq, hr'⟩ := c
  replace hn : n ≤ 3900 := hn
  replace hq : Sz n q := hq
  replace hr' : Sz n r := hr'
  obtain ⟨c1, c2⟩ := cmp_num q r
  show St (RsE E NoX 7) [some (IsR K n q), some (IsR K n r), none, none, none, none, none] _ Dead (Is (.int (cmpR q r)))
  refine st_seq (st_un2 (ev_call (ea_cons (ev_var rfl) ea_nil) (cl_ratio_of (by omega)))) ?_
  refine st_seq (st_un2 (ev_call (ea_cons (ev_var rfl) ea_nil) (cl_ratio_of (by omega)))) ?_
  refine st_seq (st_set (ev_op (ev_op (ev_var rfl) (ev_var rfl) (o_mul hq.1 (sz_den hr') (by omega))) (ev_op (ev_var rfl) (ev_var rfl) (o_mul hr'.1 (sz_den hq) (by omega))) o_sub)) ?_
  by_cases h0 : q = r
  · refine st_seq (M := Dead) (st_if (et_test (ev_op (ev_var rfl) ev_c o_eqI)) (fun _ => st_ret (Ev.to (z := .int 0) ev_c ?_)) (fun h => absurd (c1.mpr h0) (of_decide_eq_false h))) (fun s H D ty => (dead ty).elim)
    subst h0
    show V.int 0 = V.int (cmpR q q)
    unfold cmpR
    rw [if_neg Rat.lt_irrefl, if_pos rfl]
  · refine st_seq (st_if (et_test (ev_op (ev_var rfl) ev_c o_eqI)) (fun h => absurd (c1.mp (of_decide_eq_true h)) h0) (fun _ => st_next)) ?_
    refine st_ret (ev_if (et_test (ev_op (ev_var rfl) ev_c op2_I0)) (fun h => Ev.to (z := .int (-1)) (ev_un ev_c op1_neg) ?_) (fun h => Ev.to (z := .int 1) ev_c ?_))
    · have := c2.mp (of_decide_eq_true h)
      unfold cmpR; rw [if_pos this]
    · have : ¬ q < r := fun z => of_decide_eq_false h (c2.mpr z)
      unfold cmpR; rw [if_neg this, if_neg h0]
end
/-! ### the law's draws -/
abbrev s__law_mix : Stmt := top 15
theorem sc__law_mix : FnScope ["_law_number", "_law_turn", "_law_once", "_law_twice"] ["_law_number", "_law_turn"] (defScope s__law_mix) := ⟨rfl, rfl, rfl, by decide +kernel, rfl, by decide +kernel, by decide +kernel⟩
abbrev s__law_hand : Stmt := top 16
theorem sc__law_hand : FnScope ["_law_script", "_law_total", "_law_k", "_law_cell"] ["_law_script"] (defScope s__law_hand) := ⟨rfl, rfl, rfl, by decide +kernel, rfl, by decide +kernel, by decide +kernel⟩
abbrev s__law_draw : Stmt := top 17
theorem sc__law_draw : FnScope ["_law_hand_here", "_law_many", "_law_cell", "_law_rest"] ["_law_hand_here", "_law_many"] (defScope s__law_draw) := ⟨rfl, rfl, rfl, by decide +kernel, rfl, by decide +kernel, by decide +kernel⟩
def sp_mix : Sp := SpW Evl.Ex (fun i : Int × Int => (0 ≤ i.1 ∧ i.1 < 2147483647) ∧ 0 ≤ i.2 ∧ i.2 ≤ 100) fun i => ⟨[Is (.int i.1), Is (.int i.2)], Rng 0 2147483648, NoX⟩
/-- a draw below many -/
def sp_draw : Sp := SpW WL (fun m : Int => 0 < m ∧ Big 300 m) fun m => ⟨[Hand, Is (.int m)], Rng 0 m, NoX⟩
def sp_hand (K : PySem.W.Frag) : Sp := SpW Evl.Ex (fun ns : List Int => ns.length ≤ 63) fun ns => ⟨[Lst K (ns.map fun n => Is (.int n))], Hand, NoX⟩
section
variable {P : Program} {w : World} {K : PySem.W.Frag} {mg : Str → Option Value} {base : Heap} {CX : Addrs}
theorem ok_mix {f : Addr} {fd : FuncData} (F : Fun K "_law_mix" "_law_mix" s__law_mix f fd) (T : Txt P w K mg CX) : FnOk P w K mg base (L2.CX P w) 1 f fd ["_law_number", "_law_turn"] sp_mix := by
  refine okW F sc__law_mix (fun i => rfl) (by decide) (fun cdv A outer s H E hr => ⟨_, (pss_cons (ps_set (i := 2) sc__law_mix.nd rfl (Or.inl rfl) (pe_op op_mod (pe_callTy call_int1 (by rfl) T.n_int (by decide +kernel) (pa_cons (pe_op op_addA (pe_op op_addA (pe_op op_mulA (pv 0) pe_int) (pe_op op_mulA (pv 1) pe_int)) pe_int) pa_nil)) pe_int)) (pss_cons (ps_set (i := 3) sc__law_mix.nd rfl (Or.inl rfl) (pe_op op_mod (pe_callTy call_int1 (by rfl) T.n_int (by decide +kernel) (pa_cons (pe_op op_addA (pe_op op_addA (pe_op op_mulA (pv 2) (pv 2)) (pe_op op_mulA (pe_op op_fd (pv 2) pe_int) pe_int)) (pe_op op_mulA (pv 1) pe_int)) pa_nil)) pe_int)) (pss_one (ps_ret (pe_op op_fd (pe_op op_mod (pe_callTy call_int1 (by rfl) T.n_int (by decide +kernel) (pa_cons (pe_op op_addA (pe_op op_fd (pe_op op_mulA (pv 3) (pv 3)) pe_int) (pv 2)) pa_nil)) pe_int) pe_int))))), fun i c => ⟨Dead, ?_, fun _ _ h => (dead h).elim⟩⟩)
  obtain ⟨x, y⟩ := i
  obtain ⟨hx, h0, h1⟩ := (c : (0 ≤ x ∧ x < 2147483647) ∧ 0 ≤ y ∧ y ≤ 100)
  show St (RsE E NoX 4) [some (Is (.int x)), some (Is (.int y)), none, none] _ Dead (Rng 0 2147483648)
  have bx : Big 31 x := big_rng hx (by decide)
  have by' : Big 7 y := big_rng ⟨h0, show y < 101 by omega⟩ (by decide)
  have bc : ∀ c : Int, -(2 ^ 31) < c ∧ c < 2 ^ 31 → Big 31 c := fun c h => big_of h.1 h.2
  refine st_seq (st_set (ev_some (C := fun i : Int => 0 ≤ i ∧ i < 2147483647) (P := fun i => Is (.int i)) _ (mod_rng (by decide)) (ev_op (ev_cb (ea_cons (ev_op (ev_op (ev_op (ev_var rfl) ev_c (o_mul bx (bc 48271 (by decide)) (by decide))) (ev_op (ev_var rfl) ev_c (o_mul by' (bc 16807 (by decide)) (by decide))) o_add) ev_c o_add) ea_nil) opA_int) ev_c (o_mod (by decide))))) ?_
  refine st_open 2 rfl fun o ho => ?_
  have bo : Big 31 o := big_rng ho (by decide)
  refine st_seq (st_set (ev_some (C := fun i : Int => 0 ≤ i ∧ i < 2147483399) (P := fun i => Is (.int i)) _ (mod_rng (by decide)) (ev_op (ev_cb (ea_cons (ev_op (ev_op (ev_op (ev_var rfl) (ev_var rfl) (o_mul bo bo (by decide))) (ev_op (ev_op (ev_var rfl) ev_c (o_fd (n := 31) (by decide) (bc 127 (by decide)) (by decide))) ev_c (o_mul (n := 31) ?_ (bc 40692 (by decide)) (by decide))) o_add) (ev_op (ev_var rfl) ev_c (o_mul by' (bc 69621 (by decide)) (by decide))) o_add) ea_nil) opA_int) ev_c (o_mod (by decide))))) ?_
  · rw [Int.fdiv_eq_ediv_of_nonneg _ (by decide)]
    exact big_rng (m := 2147483648) ⟨Int.ediv_nonneg ho.1 (by decide), by omega⟩ (by decide)
  refine st_open 3 rfl fun q hq => ?_
  have bq : Big 31 q := big_rng hq (by decide)
  refine st_ret (Ev.sub (ev_op (ev_op (ev_cb (ea_cons (ev_op (ev_op (ev_op (ev_var rfl) (ev_var rfl) (o_mul bq bq (by decide))) ev_c (o_fd (n := 31) (by decide) (bc 1009 (by decide)) (by decide))) (ev_var rfl) o_add) ea_nil) opA_int) ev_c (o_mod (by decide))) ev_c (o_fd (n := 31) (by decide) (bc 16 (by decide)) (by decide))) ?_)
  rintro v H e
  have hm := mod_rng (i := (q * q).fdiv 1009 + o) (m := 2147483563) (by decide)
  refine ⟨_, ⟨?_, ?_⟩, e⟩
  · rw [Int.fdiv_eq_ediv_of_nonneg _ (by decide)]; exact Int.ediv_nonneg hm.1 (by decide)
  · rw [Int.fdiv_eq_ediv_of_nonneg _ (by decide)]; omega
theorem cl_mix {W : HR} [Pre W] {x y : Int} (hx : 0 ≤ x ∧ x < 2147483647) (h0 : 0 ≤ y) (h1 : y ≤ 100) : Cl W sp_mix [Is (.int x), Is (.int y)] (Rng 0 2147483648) NoX :=
  cl_of (W := Evl.Ex) (C := fun i : Int × Int => (0 ≤ i.1 ∧ i.1 < 2147483647) ∧ 0 ≤ i.2 ∧ i.2 ≤ 100) (f := fun i => ⟨[Is (.int i.1), Is (.int i.2)], Rng 0 2147483648, NoX⟩) (x, y) ⟨hx, h0, h1⟩
theorem ok_hand {f : Addr} {fd : FuncData} (F : Fun K "_law_hand" "_law_hand" s__law_hand f fd) (T : Txt P w K mg CX) : FnOk P w K mg base (L2.CX P w) 1 f fd ["_law_script"] (sp_hand K) := by
  refine okW F sc__law_hand (fun i => rfl) (by decide) (fun cdv A outer s H E hr => ⟨_, (pss_cons (ps_set (i := 1) sc__law_hand.nd rfl (Or.inl rfl) pe_int) (pss_cons (ps_for (passes_of rfl) rfl (pi_enum (by rfl) T.n_enumerate (pa_cons (pv 0) pa_nil)) (pg_tup rfl (pgs_cons (pg_name (i := 2) sc__law_hand.nd rfl (Or.inl rfl)) (pgs_cons (pg_name (i := 3) sc__law_hand.nd rfl (Or.inl rfl)) pgs_nil))) (pss_one (ps_set (i := 1) sc__law_hand.nd rfl (Or.inl rfl) (pe_op op_mod (pe_callTy call_int1 (by rfl) T.n_int (by decide +kernel) (pa_cons (pe_op op_addA (pe_op op_mulA (pv 1) pe_int) (pe_op op_mulA (pe_callTy call_int1 (by rfl) T.n_int (by decide +kernel) (pa_cons (pv 3) pa_nil)) (pe_op op_addA (pv 2) pe_int))) pa_nil)) pe_int)))) (pss_one (ps_ret (pe_lst (pa_cons (pe_lc (own := [("_law_cell", 3)]) (g := gName 3) (by rfl) sc__law_hand.nd (pi_list (pv 0)) (blkOk_by (own := [("_law_cell", 3)]) (N := ["_law_script", "_law_total", "_law_k", "_law_cell"]) (sc := defScope s__law_hand) (by decide +kernel)) (fun _ _ _ _ _ => pg_name (i := 3) sc__law_hand.nd rfl (Or.inl rfl)) (fun _ _ _ _ _ => pts_nil) (fun _ _ _ _ _ => (pe_callB call_abs (by rfl) T.n_abs (by decide +kernel) (pa_cons (pe_callTy call_int1 (by rfl) T.n_int (by decide +kernel) (pa_cons (pv 3) pa_nil)) pa_nil)))) (pa_cons pe_int (pa_cons pe_int (pa_cons (pv 1) pa_nil))))))))), fun ns c => ⟨Dead, ?_, fun _ _ h => (dead h).elim⟩⟩)
  have hl : ns.length ≤ 63 := c
  show St (RsE E NoX 4) [some (Lst K (ns.map fun n => Is (.int n))), none, none, none] _ Dead Hand
  have en : (ns.map fun n => Is (.int n)).length = ns.length := List.length_map _
  have nthI : ∀ i, i < ns.length → nth (ns.map fun n => Is (.int n)) i = Is (.int (ns.getD i 0)) := fun i hi => by
    unfold nth; simp [hi]
  haveI mn1 : ∀ i, Mn Evl.Ex (nth (ns.map fun n => Is (.int n)) i) := fun i => by
    by_cases hi : i < ns.length
    · rw [nthI i hi]; exact mn_is
    · have : nth (ns.map fun n => Is (.int n)) i = fun _ _ => False := by unfold nth; simp [hi]
      rw [this]; exact ⟨fun _ _ _ _ h => h⟩
  refine st_seq (st_set ev_c) ?_
  refine st_seq (M := [some (Lst K (ns.map fun n => Is (.int n))), some (Rng 0 2147483629), none, none]) ?_ ?_
  · refine st_for2 (Y := RsE E NoX 4) (ei_enum (Y := RsE E NoX 4) (ea_cons (Y := RsE E NoX 4) (ev_var rfl) ea_nil)) (fun _ => [some (Lst K (ns.map fun n => Is (.int n))), some (Rng 0 2147483629), none, none]) (sub_keep (sub_imp (fun v H e => ⟨0, by decide, e⟩) sub_refl)) (fun i hi => ?_)
    rw [en] at hi
    rw [nthI i hi]
    refine st_open 1 rfl fun z hz => ?_
    refine st_post (N' := [some (Lst K (ns.map fun n => Is (.int n))), some (Rng 0 2147483629), some (Is (.int (i : Int))), some (Is (.int (ns.getD i 0)))]) (st_set (ev_some (C := fun i : Int => 0 ≤ i ∧ i < 2147483629) (P := fun i => Is (.int i)) _ (mod_rng (by decide)) (ev_op (ev_cb (ea_cons (ev_op (ev_op (ev_var rfl) ev_c (o_mulS (by decide))) (ev_op (ev_cb (ea_cons (ev_var rfl) ea_nil) opA_int) (ev_op (ev_var rfl) ev_c o_add) (o_mulS (by omega))) o_add) ea_nil) opA_int) ev_c (o_mod (by decide))))) (sub_keep (sub_keep (sub_drop (sub_drop sub_nil)))) (fun _ _ h => h)
  · refine st_ret (ev_hand (Y := RsE E NoX 4) rfl (xs := (List.range ns.length).map fun i => ((ns.getD i 0).natAbs : Int)) (lo := 0) (hi := 2147483629) (fun x hx => ?_) ?_ (Int.le_refl _) (Int.le_refl _) (ea_cons ?_ (ea_cons ev_c (ea_cons ev_c (ea_cons (ev_var rfl) ea_nil)))))
    · obtain ⟨i, _, rfl⟩ := List.mem_map.mp hx
      exact Int.natCast_nonneg _
    · rw [List.length_map, List.length_range]; exact hl
    · have key : ((List.range ns.length).map fun i => ((ns.getD i 0).natAbs : Int)).map (fun x => Is (.int x)) = each (ns.map fun n => Is (.int n)).length (fun i => Is (.int ((ns.getD i 0).natAbs : Int))) := by
        unfold each
        rw [en, List.map_map]
        rfl
      rw [key]
      refine ev_lc (ei_list (ev_var rfl)) (by rw [en]; omega) (fun i => mn_is) (fun i => mn_is) (fun i hi => ?_) (fun i acc H hi ha => ?_)
      · rw [en] at hi
        rw [nthI i hi]
        exact ev_cb (ea_cons (ev_cb (ea_cons (ev_var rfl) ea_nil) opA_int) ea_nil) opA_abs
      · match acc, i, ha with
        | [], _, _ => rfl
        | .int _ :: _, _, _ => rfl
        | .non :: _, _, _ => rfl
        | .bl _ :: _, _, _ => rfl
        | .str _ :: _, _, _ => rfl
        | .byt _ :: _, _, _ => rfl
        | .flt _ :: _, _, _ => rfl
        | .ty _ :: _, _, _ => rfl
        | .ref a :: r, 0, ha => exact ha.elim
        | .ref a :: r, i + 1, ha =>
          obtain ⟨v, e1, e2⟩ := allp_get (i := 0) (P := Is (.int ((ns.getD 0 0).natAbs : Int))) ha (by unfold each; simp)
          cases e1
          cases e2
theorem cl_hand {ns : List Int} (h : ns.length ≤ 63) : Cl WL (sp_hand K) [Lst K (ns.map fun n => Is (.int n))] Hand NoX :=
  cl_of (W := Evl.Ex) (C := fun ns : List Int => ns.length ≤ 63) (f := fun ns => ⟨[Lst K (ns.map fun n => Is (.int n))], Hand, NoX⟩) ns h
theorem ok_draw {f : Addr} {fd : FuncData} (F : Fun K "_law_draw" "_law_draw" s__law_draw f fd) (T : Txt P w K mg CX) (D__law_mix : Df P w K mg base 1 "_law_mix" ["_law_number", "_law_turn"] sp_mix) : FnOk P w K mg base (L2.CX P w) 2 f fd ["_law_hand_here", "_law_many"] sp_draw := by
  refine okW F sc__law_draw (fun i => rfl) (by decide) (fun cdv A outer s H E hr => ⟨_, (pss_cons (ps_if (pw_and (pt_cmpR (op_eqA hr.units) (pe_ix ix_seq (pv 0) pe_int (fun _ _ => rfl)) pe_int (nomark _)) (pw_and1 (pt_cmpR op_lt (pe_ix ix_seq (pv 0) pe_int (fun _ _ => rfl)) (pe_callB call_lenA (by rfl) T.n_len (by decide +kernel) (pa_cons (pe_ix ix_seq (pv 0) pe_int (fun _ _ => rfl)) pa_nil)) (nomark _)))).pt (pss_cons (ps_set (i := 2) sc__law_draw.nd rfl (Or.inl rfl) (pe_ix ix_seq (pe_ix ix_seq (pv 0) pe_int (fun _ _ => rfl)) (pe_ix ix_seq (pv 0) pe_int (fun _ _ => rfl)) (fun _ _ => rfl))) (pss_cons (ps_asg (pe_op op_addA (pe_ix ix_seq (pv 0) pe_int (fun _ _ => rfl)) pe_int) (pg_sub (pv 0) pe_int set_list)) (pss_cons (ps_if (pt_cmpR op_lt (pv 2) (pe_op op_pow pe_int pe_int) (nomark _)) (pss_one (ps_ret (pe_op op_mod (pe_callTy call_int1 (by rfl) T.n_int (by decide +kernel) (pa_cons (pe_df D__law_mix (hr.mono (by decide)) (takes_of rfl rfl rfl rfl) (pa_cons (pe_op op_mod (pe_callTy call_int1 (by rfl) T.n_int (by decide +kernel) (pa_cons (pv 2) pa_nil)) pe_int) (pa_cons (pe_ix ix_seq (pv 0) pe_int (fun _ _ => rfl)) pa_nil))) pa_nil)) (pv 1)))) pss_nil) (pss_one (ps_asg (pv 2) (pg_sub (pv 0) pe_int set_list)))))) pss_nil) (pss_cons (ps_if (pt_cmpR op_gt (pe_ix ix_seq (pv 0) pe_int (fun _ _ => rfl)) pe_int (nomark _)) (pss_cons (ps_set (i := 3) sc__law_draw.nd rfl (Or.inl rfl) (pe_ix ix_seq (pv 0) pe_int (fun _ _ => rfl))) (pss_cons (ps_asg (pe_op op_fd (pv 3) (pv 1)) (pg_sub (pv 0) pe_int set_list)) (pss_one (ps_ret (pe_op op_mod (pe_callTy call_int1 (by rfl) T.n_int (by decide +kernel) (pa_cons (pv 3) pa_nil)) (pv 1)))))) pss_nil) (pss_cons (ps_asg (pe_op op_mod (pe_callTy call_int1 (by rfl) T.n_int (by decide +kernel) (pa_cons (pe_op op_addA (pe_ix ix_seq (pv 0) pe_int (fun _ _ => rfl)) pe_int) pa_nil)) pe_int) (pg_sub (pv 0) pe_int set_list)) (pss_one (ps_ret (pe_op op_mod (pe_callTy call_int1 (by rfl) T.n_int (by decide +kernel) (pa_cons (pe_df D__law_mix (hr.mono (by decide)) (takes_of rfl rfl rfl rfl) (pa_cons (pe_ix ix_seq (pv 0) pe_int (fun _ _ => rfl)) (pa_cons (pe_ix ix_seq (pv 0) pe_int (fun _ _ => rfl)) pa_nil))) pa_nil)) (pv 1))))))), fun m c => ⟨Dead, ?_, fun _ _ h => (dead h).elim⟩⟩)
  obtain ⟨m0, mb⟩ := (c : 0 < m ∧ Big 300 m)
  show St (RsW WL E NoX 4) [some Hand, some (Is (.int m)), none, none] _ Dead (Rng 0 m)
  refine st_seq (M := [some Hand, some (Is (.int m)), none, none]) (st_openHand fun p c xs a r t a0 al xl pos r0 t0 tl => ?_) (st_openHand fun p c xs a r t a0 al xl pos r0 t0 tl => ?_)
  · refine st_ifE (et_and (et_test (ev_op (ev_op (ev_var rfl) ev_c o_hv2) ev_c o_eqI)) (fun _ => et_test (ev_op (ev_op (ev_var rfl) ev_c o_hv1) (ev_cb (ea_cons (ev_op (ev_var rfl) ev_c o_hv0) ea_nil) o_cellsLen) op2_I0))) (fun h => ?_) (fun h => ?_)
    · have h2 := of_decide_eq_true ((Bool.and_eq_true _ _).mp h).2
      have h1 := of_decide_eq_true ((Bool.and_eq_true _ _).mp h).1
      refine st_seq (st_setE (ev_op (ev_op (ev_var rfl) ev_c o_hv0) (ev_op (ev_var rfl) ev_c o_hv1) (o_cell a0 h2))) ?_
      refine st_open 2 rfl fun z hz => ?_
      have z0 := pos z hz
      refine st_seq (st_hset (a' := a + 1) (r' := r) (t' := t) rfl (ev_op (ev_op (ev_var rfl) ev_c o_hv1) ev_c o_add) (j := 1) rfl rfl (by decide) (by omega) (by omega) r0 t0 tl) ?_
      refine st_seq (st_ifE (et_test (ev_op (ev_var rfl) (ev_op ev_c ev_c (o_pow ⟨by decide, by decide, by decide⟩)) op2_I0)) (fun _ => ?_) (fun _ => st_next)) ?_
      · refine st_ret (Ev.up (ev_op (ev_cb (ea_cons (ev_call (ea_cons (ev_op (ev_cb (ea_cons (ev_var rfl) ea_nil) opA_int) ev_c (o_mod (by decide))) (ea_cons (ev_op (ev_var rfl) ev_c o_hv1) ea_nil)) (cl_mix (mod_rng (by decide)) (by omega) (by omega))) ea_nil) opA_intR) (ev_var rfl) (o_modR m0)))
      · refine st_post (st_hset (a' := a + 1) (r' := z) (t' := t) rfl (ev_var rfl) (j := 2) rfl rfl (by decide) (by omega) (by omega) z0 t0 tl) (sub_imp hv_hand (sub_keep (sub_drop (sub_drop sub_nil)))) (fun _ _ h => h)
    · exact st_post st_next (sub_imp hv_hand (sub_keep (sub_keep (sub_keep sub_nil)))) (fun _ _ h => h)
  · refine st_seq (M := [some (HV p c xs a r t), some (Is (.int m)), none, none]) (st_ifE (et_test (ev_op (ev_op (ev_var rfl) ev_c o_hv2) ev_c op2_I0)) (fun h => ?_) (fun _ => st_next)) ?_
    · refine st_seq (st_setE (ev_op (ev_var rfl) ev_c o_hv2)) ?_
      refine st_seq (st_hset (a' := a) (r' := r.fdiv m) (t' := t) rfl (ev_op (ev_var rfl) (ev_var rfl) (o_fd (n := 300) (by omega) mb (by decide))) (j := 2) rfl rfl (by decide) a0 al (by rw [Int.fdiv_eq_ediv_of_nonneg _ (by omega)]; exact Int.ediv_nonneg r0 (by omega)) t0 tl) ?_
      exact st_ret (Ev.up (ev_some _ (mod_rng m0) (ev_op (ev_cb (ea_cons (ev_var rfl) ea_nil) opA_int) (ev_var rfl) (o_mod m0))))
    · have ht := mod_rng (i := t + 1) (m := 2147483629) (by decide)
      refine st_seq (st_hset (a' := a) (r' := r) (t' := (t + 1) % 2147483629) rfl (ev_op (ev_cb (ea_cons (ev_op (ev_op (ev_var rfl) ev_c o_hv3) ev_c o_add) ea_nil) opA_int) ev_c (o_mod (by decide))) (j := 3) rfl rfl (by decide) a0 al r0 ht.1 ht.2) ?_
      exact st_ret (Ev.up (ev_op (ev_cb (ea_cons (ev_call (ea_cons (ev_op (ev_var rfl) ev_c o_hv3) (ea_cons (ev_op (ev_var rfl) ev_c o_hv1) ea_nil)) (cl_mix ⟨ht.1, by omega⟩ a0 (by omega))) ea_nil) opA_intR) (ev_var rfl) (o_modR m0)))
theorem cl_draw {m : Int} (h : 0 < m) (k : Big 300 m) : Cl WL sp_draw [Hand, Is (.int m)] (Rng 0 m) NoX :=
  cl_of (W := WL) (C := fun m : Int => 0 < m ∧ Big 300 m) (f := fun m => ⟨[Hand, Is (.int m)], Rng 0 m, NoX⟩) m ⟨h, k⟩
end
end U

namespace U
open PySem PySem.Spec PyProof.Rows L2
/-! ### the law's own ratios -/
abbrev s__law_low : Stmt := top 18
theorem sc__law_low : FnScope ["_law_top", "_law_bottom", "_law_one", "_law_other"] ["_law_top", "_law_bottom"] (defScope s__law_low) := ⟨rfl, rfl, rfl, by decide +kernel, rfl, by decide +kernel, by decide +kernel⟩
abbrev s__law_is_ratio : Stmt := top 19
theorem sc__law_is_ratio : FnScope ["_law_x", "_law_n"] ["_law_x"] (defScope s__law_is_ratio) := ⟨rfl, rfl, rfl, by decide +kernel, rfl, by decide +kernel, by decide +kernel⟩
abbrev s__law_thing : Stmt := top 20
theorem sc__law_thing : FnScope ["_law_hand_here", "_law_far", "_law_top", "_law_kind", "_law_bottom", "_law_size"] ["_law_hand_here"] (defScope s__law_thing) := ⟨rfl, rfl, rfl, by decide +kernel, rfl, by decide +kernel, by decide +kernel⟩
abbrev s__law_same : Stmt := top 21
theorem sc__law_same : FnScope ["_law_told", "_law_top", "_law_bottom"] ["_law_told", "_law_top", "_law_bottom"] (defScope s__law_same) := ⟨rfl, rfl, rfl, by decide +kernel, rfl, by decide +kernel, by decide +kernel⟩
abbrev s__law_order : Stmt := top 22
theorem sc__law_order : FnScope ["_law_left", "_law_right"] ["_law_left", "_law_right"] (defScope s__law_order) := ⟨rfl, rfl, rfl, by decide +kernel, rfl, by decide +kernel, by decide +kernel⟩
abbrev s__law_over : Stmt := top 23
theorem sc__law_over : FnScope ["_law_one", "_law_other", "e"] ["_law_one", "_law_other"] (defScope s__law_over) := ⟨rfl, rfl, rfl, by decide +kernel, rfl, by decide +kernel, by decide +kernel⟩
abbrev s__law_two : Stmt := top 24
theorem sc__law_two : FnScope ["_law_x", "_law_y", "_law_a", "_law_b", "_law_c", "_law_d", "_law_one", "_law_other", "_law_told"] ["_law_x", "_law_y"] (defScope s__law_two) := ⟨rfl, rfl, rfl, by decide +kernel, rfl, by decide +kernel, by decide +kernel⟩
abbrev s_law : Stmt := top 25
theorem sc_law : FnScope ["_law_script", "_law_hand_here", "_law_x", "_law_y", "_law_z", "_law_back", "_law_one", "_law_other", "_law_whole"] ["_law_script"] (defScope s_law) := ⟨rfl, rfl, rfl, by decide +kernel, rfl, by decide +kernel, by decide +kernel⟩
def sp_isr (K : PySem.W.Frag) : Sp := SpW Evl.Ex (fun q : Rat => Big 8000 (q.den : Int)) fun q => ⟨[Told K q], Is (.bl true), NoX⟩
def wSame (K : PySem.W.Frag) (i : Int × Int) : Way := ⟨[Told K (Rat.divInt i.1 i.2), Is (.int i.1), Is (.int i.2)], Is (.bl true), NoX⟩
def sp_same (K : PySem.W.Frag) : Sp := SpW Evl.Ex (fun i : Int × Int => i.2 ≠ 0 ∧ Big 8000 i.2) (wSame K)
def ord (l r : Int) : Int := if l < r then -1 else if r < l then 1 else 0
def sp_order : Sp := SpW Evl.Ex (fun _ : Int × Int => True) fun i => ⟨[Is (.int i.1), Is (.int i.2)], Is (.int (ord i.1 i.2)), NoX⟩
def wLover (K : PySem.W.Frag) : Two ⊕ Two → Way
  | .inl i => ⟨[IsR K i.n i.q, IsR K i.n i.r], Told K (i.q / i.r), NoX⟩
  | .inr i => ⟨[IsR K i.n i.q, IsR K i.n i.r], Is (.str "none"), NoX⟩
def sp_lover (K : PySem.W.Frag) : Sp := SpW Evl.Ex okOver (wLover K)
/-- a thing passed, with its top and bottom -/
def Thing (K : PySem.W.Frag) (p : Int × Int) : Pr := Lst K [IsR K 140 (Rat.divInt p.1 p.2), Is (.int p.1), Is (.int p.2)]
instance mn_thing {W : HR} [Pre W] {K : PySem.W.Frag} {p : Int × Int} : Mn W (Thing K p) := mn_lst
def okab (p : Int × Int) : Prop := 0 < p.2 ∧ Big 134 p.1 ∧ Big 134 p.2
def sp_thing (K : PySem.W.Frag) : Sp := SpW WL (fun _ : Unit => True) fun _ => ⟨[Hand], Some okab (Thing K), NoX⟩
def sp_two (K : PySem.W.Frag) : Sp := SpW Evl.Ex (fun i : (Int × Int) × (Int × Int) => okab i.1 ∧ okab i.2) fun i => ⟨[Thing K i.1, Thing K i.2], Is (.bl true), NoX⟩
section
variable {P : Program} {w : World} {K : PySem.W.Frag} {mg : Str → Option Value} {base : Heap} {CX : Addrs}
theorem gcd_step (a b : Nat) : Nat.gcd b (a % b) = Nat.gcd a b := by rw [Nat.gcd_comm b, ← Nat.gcd_rec, Nat.gcd_comm]
theorem ok_low {f : Addr} {fd : FuncData} (F : Fun K "_law_low" "_law_low" s__law_low f fd) (T : Txt P w K mg CX) : FnOk P w K mg base (L2.CX P w) 1 f fd ["_law_top", "_law_bottom"] (sp_lowest_terms K) := by
  refine okW F sc__law_low (fun i => rfl) (by decide) (fun cdv A outer s H E hr => ⟨_, (pss_cons (ps_set (i := 2) sc__law_low.nd rfl (Or.inl rfl) (pe_callB call_abs (by rfl) T.n_abs (by decide +kernel) (pa_cons (pv 0) pa_nil))) (pss_cons (ps_set (i := 3) sc__law_low.nd rfl (Or.inl rfl) (pe_callB call_abs (by rfl) T.n_abs (by decide +kernel) (pa_cons (pv 1) pa_nil))) (pss_cons (ps_while (passes_of rfl) (pt_truth (pv 3) (fun _ => rfl)) (pss_one (ps_par (i := 2) (j := 3) rfl sc__law_low.nd rfl rfl (by decide) rfl rfl (pa_cons (pv 3) (pa_cons (pe_op op_mod (pe_callTy call_int1 (by rfl) T.n_int (by decide +kernel) (pa_cons (pv 2) pa_nil)) (pv 3)) pa_nil)) rfl))) (pss_cons (ps_if (pt_cmpR op_lt (pv 1) pe_int (nomark _)) (pss_one (ps_set (i := 2) sc__law_low.nd rfl (Or.inl rfl) (pe_un un_neg (pv 2)))) pss_nil) (pss_one (ps_ret (pe_tup (pa_cons (pe_op op_fd (pv 0) (pv 2)) (pa_cons (pe_op op_fd (pv 1) (pv 2)) pa_nil))))))))), fun i c => ⟨Dead, ?_, fun _ _ h => (dead h).elim⟩⟩)
  obtain ⟨t, b⟩ := i
  obtain ⟨hb, bb⟩ := c
  replace hb : b ≠ 0 := hb
  replace bb : Big 8000 b := bb
  show St (RsE E NoX 4) [some (Is (.int t)), some (Is (.int b)), none, none] _ Dead (Told K (Rat.divInt t b))
  obtain ⟨c0, c1, c2⟩ := low_terms (t := t) hb _ rfl
  have cb : Big 8000 (if b < 0 then -((Nat.gcd t.natAbs b.natAbs : Nat) : Int) else ((Nat.gcd t.natAbs b.natAbs : Nat) : Int)) := by
    have hle : Nat.gcd t.natAbs b.natAbs ≤ b.natAbs := Nat.gcd_le_right _ (by omega)
    have : (if b < 0 then -((Nat.gcd t.natAbs b.natAbs : Nat) : Int) else ((Nat.gcd t.natAbs b.natAbs : Nat) : Int)).natAbs = Nat.gcd t.natAbs b.natAbs := by split <;> omega
    unfold Big at *
    rw [this]
    exact Nat.lt_of_le_of_lt hle bb
  refine st_seq (st_set (ev_cb (ea_cons (ev_var rfl) ea_nil) opA_abs)) ?_
  refine st_seq (st_set (ev_cb (ea_cons (ev_var rfl) ea_nil) opA_abs)) ?_
  refine st_seq (M := [some (Is (.int t)), some (Is (.int b)), some (Is (.int ((Nat.gcd t.natAbs b.natAbs : Nat) : Int))), none]) ?_ ?_
  · refine st_while (A := Nat × Nat) (b := fun a => ((a.2 : Nat) : Int) != 0) (fun a => [some (Is (.int t)), some (Is (.int b)), some (Is (.int (a.1 : Int))), some (Is (.int (a.2 : Int)))]) (fun a => a.2) (fun a => Nat.gcd a.1 a.2 = Nat.gcd t.natAbs b.natAbs) (t.natAbs, b.natAbs) rfl sub_refl (fun a c => et_truI (ev_var rfl)) (fun a c h => ?_) (fun a c h => ?_)
    · have h2 : 0 < a.2 := by
        have : ((a.2 : Nat) : Int) ≠ 0 := by simpa using h
        omega
      refine ⟨(a.2, a.1 % a.2), (gcd_step a.1 a.2).trans c, Nat.mod_lt _ h2, ?_⟩
      refine st_post (st_par (ea_cons (ev_var rfl) (ea_cons (ev_op (ev_cb (ea_cons (ev_var rfl) ea_nil) opA_int) (ev_var rfl) (o_mod (by omega))) ea_nil))) (fun s H ty => ?_) (fun _ _ h => h)
      exact ty
    · have h2 : a.2 = 0 := by
        have : ((a.2 : Nat) : Int) = 0 := by simpa using h
        omega
      have e : a.1 = Nat.gcd t.natAbs b.natAbs := by rw [← c, h2, Nat.gcd_zero_right]
      rw [← e]
      exact sub_keep (sub_keep (sub_keep (sub_drop sub_nil)))
  refine st_seq (M := [some (Is (.int t)), some (Is (.int b)), some (Is (.int (if b < 0 then -((Nat.gcd t.natAbs b.natAbs : Nat) : Int) else ((Nat.gcd t.natAbs b.natAbs : Nat) : Int)))), none]) (st_if (et_test (ev_op (ev_var rfl) ev_c op2_I0)) (fun h => ?_) (fun h => ?_)) ?_
  · have hn : b < 0 := of_decide_eq_true h
    rw [if_pos hn]
    exact st_set (ev_un (ev_var rfl) op1_neg)
  · have hn : ¬ b < 0 := of_decide_eq_false h
    rw [if_neg hn]
    exact st_next
  · refine st_ret (Ev.sub (ev_tup (K := K) (ea_cons (ev_op (ev_var rfl) (ev_var rfl) (o_fd c0 cb (Nat.le_refl _))) (ea_cons (ev_op (ev_var rfl) (ev_var rfl) (o_fd c0 cb (Nat.le_refl _))) ea_nil))) ?_)
    rw [c1, c2]
    exact fun _ _ h => h
theorem ok_isr {f : Addr} {fd : FuncData} (F : Fun K "_law_is_ratio" "_law_is_ratio" s__law_is_ratio f fd) (T : Txt P w K mg CX) (D__law_low : Df P w K mg base 1 "_law_low" ["_law_top", "_law_bottom"] (sp_lowest_terms K)) : FnOk P w K mg base (L2.CX P w) 2 f fd ["_law_x"] (sp_isr K) := by
  refine okW F sc__law_is_ratio (fun i => rfl) (by decide) (fun cdv A outer s H E hr => ⟨_, (pss_cons (ps_if (PW.pt (pw_or (pt_not (pt_val (pe_callB call_isi (by rfl) T.n_isinstance (by decide +kernel) (pa_cons (pv 0) (pa_cons (pe_bltn (v := .ty "tuple") (by rfl) T.n_tuple (by decide +kernel) rfl) pa_nil))))) (pw_or1 (pt_cmpR (op_neA hr.units) (pe_callB call_lenA (by rfl) T.n_len (by decide +kernel) (pa_cons (pv 0) pa_nil)) pe_int (nomark _))))) (pss_one (ps_ret pe_bl)) pss_nil) (pss_cons (ps_for (passes_of rfl) rfl (pi_tup (pv 0)) (pg_name (i := 1) sc__law_is_ratio.nd rfl (Or.inl rfl)) (pss_one (ps_if (PW.pt (pw_or (pt_not (pt_val (pe_callB call_isi (by rfl) T.n_isinstance (by decide +kernel) (pa_cons (pv 1) (pa_cons (pe_bltn (v := .ty "int") (by rfl) T.n_int (by decide +kernel) rfl) pa_nil))))) (pw_or1 (pt_val (pe_callB call_isi (by rfl) T.n_isinstance (by decide +kernel) (pa_cons (pv 1) (pa_cons (pe_bltn (v := .ty "bool") (by rfl) T.n_bool (by decide +kernel) rfl) pa_nil))))))) (pss_one (ps_ret pe_bl)) pss_nil))) (pss_one (ps_ret (pe_and (pe_cmpR op_gt (pe_ix ix_seq (pv 0) pe_int (fun _ _ => rfl)) pe_int (nomark _)) (pe_one (pe_cmpR (op_eqA hr.units) (pe_df D__law_low (hr.mono (by decide)) (takes_of rfl rfl rfl rfl) (pa_cons (pe_ix ix_seq (pv 0) pe_int (fun _ _ => rfl)) (pa_cons (pe_ix ix_seq (pv 0) pe_int (fun _ _ => rfl)) pa_nil))) (pv 0) (nomark _)))))))), fun q c => ⟨Dead, ?_, fun _ _ h => (dead h).elim⟩⟩)
  have qb : Big 8000 (q.den : Int) := c
  show St (RsE E NoX 2) [some (Told K q), none] _ Dead (Is (.bl true))
  refine st_seq (st_if (et_or (et_not (et_B (ev_cb (ea_cons (ev_var rfl) (ea_cons ev_c ea_nil)) (opA_isi (hasTy_tup (K := K) (Ps := [Is (.int q.num), Is (.int q.den)])) (b := true) (by decide +kernel))))) (fun _ => et_test (ev_op (ev_cb (ea_cons (P1 := Tup K [Is (.int q.num), Is (.int q.den)]) (ev_var rfl) ea_nil) opA_lenT) ev_c o_neI))) (fun h => by cases h) (fun _ => st_next)) ?_
  refine st_seq (M := [some (Told K q), none]) ?_ ?_
  · refine st_for (Y := RsE E NoX 2) (ei_tup (Y := RsE E NoX 2) (K := K) (Ps := [Is (.int q.num), Is (.int q.den)]) (ev_var rfl)) (fun _ => [some (Told K q), none]) sub_refl (fun i hi => ?_)
    have key : ∃ z : Int, nth [Is (.int q.num), Is (.int q.den)] i = Is (.int z) := by
      match i, hi with
      | 0, _ => exact ⟨_, rfl⟩
      | 1, _ => exact ⟨_, rfl⟩
    obtain ⟨z, ez⟩ := key
    rw [ez]
    refine st_post (N' := [some (Told K q), some (Is (.int z))]) (st_if (et_or (et_not (et_B (ev_cb (ea_cons (ev_var rfl) (ea_cons ev_c ea_nil)) (opA_isi hasTy_int (b := true) (by decide +kernel))))) (fun _ => et_B (ev_cb (ea_cons (ev_var rfl) (ea_cons ev_c ea_nil)) (opA_isi hasTy_int (b := false) (by decide +kernel))))) (fun h => by cases h) (fun _ => st_next)) (sub_keep (sub_drop sub_nil)) (fun _ _ h => h)
  have dp := q.den_pos
  refine st_ret (Ev.to (ev_andV (ev_op (ev_op (ev_var rfl) ev_c (o_ixT (Ps := [Is (.int q.num), Is (.int q.den)]) (i := 1) rfl)) ev_c op2_I0) fun _ => ev_op (ev_call (ea_cons (ev_op (ev_var rfl) ev_c (o_ixT (Ps := [Is (.int q.num), Is (.int q.den)]) (i := 0) rfl)) (ea_cons (ev_op (ev_var rfl) ev_c (o_ixT (Ps := [Is (.int q.num), Is (.int q.den)]) (i := 1) rfl)) ea_nil)) (cl_low (by omega) qb)) (ev_var rfl) o_eqTold) ?_)
  rw [decide_eq_true (show Rat.divInt q.num q.den = q by simp)]
  simp
  exact dp
theorem cl_isr {W : HR} [Pre W] {q : Rat} (h : Big 8000 (q.den : Int)) : Cl W (sp_isr K) [Told K q] (Is (.bl true)) NoX :=
  cl_of (W := Evl.Ex) (C := fun q : Rat => Big 8000 (q.den : Int)) (f := fun q => ⟨[Told K q], Is (.bl true), NoX⟩) q h
theorem ok_same {f : Addr} {fd : FuncData} (F : Fun K "_law_same" "_law_same" s__law_same f fd) (D__law_low : Df P w K mg base 1 "_law_low" ["_law_top", "_law_bottom"] (sp_lowest_terms K)) (D__law_is_ratio : Df P w K mg base 2 "_law_is_ratio" ["_law_x"] (sp_isr K)) : FnOk P w K mg base (L2.CX P w) 3 f fd ["_law_told", "_law_top", "_law_bottom"] (sp_same K) := by
  refine okW F sc__law_same (fun i => rfl) (by decide) (fun cdv A outer s H E hr => ⟨_, (pss_one (ps_ret (pe_and (pe_df D__law_is_ratio (hr.mono (by decide)) (takes_of rfl rfl rfl rfl) (pa_cons (pv 0) pa_nil)) (pe_one (pe_cmpR (op_eqA hr.units) (pv 0) (pe_df D__law_low (hr.mono (by decide)) (takes_of rfl rfl rfl rfl) (pa_cons (pv 1) (pa_cons (pv 2) pa_nil))) (nomark _)))))), fun i c => ⟨Dead, ?_, fun _ _ h => (dead h).elim⟩⟩)
  obtain ⟨t, b⟩ := i
  obtain ⟨hb, bb⟩ := c
  replace hb : b ≠ 0 := hb
  replace bb : Big 8000 b := bb
  show St (RsE E NoX 3) [some (Told K (Rat.divInt t b)), some (Is (.int t)), some (Is (.int b))] _ Dead (Is (.bl true))
  refine st_ret (Ev.to (ev_andV (ev_call (ea_cons (ev_var rfl) ea_nil) (cl_isr (den_big hb bb))) fun _ => ev_op (ev_var rfl) (ev_call (ea_cons (ev_var rfl) (ea_cons (ev_var rfl) ea_nil)) (cl_low hb bb)) o_eqTold) ?_)
  rw [decide_eq_true rfl]; rfl
theorem cl_same {W : HR} [Pre W] {q : Rat} {t b : Int} (hb : b ≠ 0) (bb : Big 8000 b) (e : q = Rat.divInt t b) : Cl W (sp_same K) [Told K q, Is (.int t), Is (.int b)] (Is (.bl true)) NoX := by
  subst e
  exact cl_of (W := Evl.Ex) (C := fun i : Int × Int => i.2 ≠ 0 ∧ Big 8000 i.2) (f := wSame K) (t, b) ⟨hb, bb⟩
theorem ok_order {f : Addr} {fd : FuncData} (F : Fun K "_law_order" "_law_order" s__law_order f fd) (T : Txt P w K mg CX) : FnOk P w K mg base (L2.CX P w) 1 f fd ["_law_left", "_law_right"] sp_order := by
  refine okW F sc__law_order (fun i => rfl) (by decide) (fun cdv A outer s H E hr => ⟨_, (pss_cons (ps_if (pt_cmpR op_lt (pv 0) (pv 1) (nomark _)) (pss_one (ps_ret (pe_un un_neg pe_int))) pss_nil) (pss_one (ps_ret (pe_ifExp (pt_cmpR op_gt (pv 0) (pv 1) (nomark _)) pe_int pe_int)))), fun i c => ⟨Dead, ?_, fun _ _ h => (dead h).elim⟩⟩)
  obtain ⟨l, r⟩ := i
  show St (RsE E NoX 2) [some (Is (.int l)), some (Is (.int r))] _ Dead (Is (.int (ord l r)))
  by_cases h0 : l < r
  · refine st_seq (M := Dead) (st_if (et_test (ev_op (ev_var rfl) (ev_var rfl) op2_I0)) (fun _ => st_ret (Ev.to (z := .int (-1)) (ev_un ev_c op1_neg) ?_)) (fun h => absurd h0 (of_decide_eq_false h))) (fun s H D ty => (dead ty).elim)
    unfold ord; rw [if_pos h0]
  · refine st_seq (st_if (et_test (ev_op (ev_var rfl) (ev_var rfl) op2_I0)) (fun h => absurd (of_decide_eq_true h) h0) (fun _ => st_next)) ?_
    refine st_ret (ev_if (et_test (ev_op (ev_var rfl) (ev_var rfl) op2_I0)) (fun h => Ev.to (z := .int 1) ev_c ?_) (fun h => Ev.to (z := .int 0) ev_c ?_))
    · unfold ord; rw [if_neg h0, if_pos (of_decide_eq_true h)]
    · unfold ord; rw [if_neg h0, if_neg (of_decide_eq_false h)]
theorem cl_order {W : HR} [Pre W] {l r : Int} : Cl W sp_order [Is (.int l), Is (.int r)] (Is (.int (ord l r))) NoX :=
  cl_of (W := Evl.Ex) (C := fun _ : Int × Int => True) (f := fun i => ⟨[Is (.int i.1), Is (.int i.2)], Is (.int (ord i.1 i.2)), NoX⟩) (l, r) True.intro
theorem cl_over {W : HR} [Pre W] {n : Nat} {q r : Rat} (hn : n ≤ 3900) (hq : Sz n q) (hr : Sz n r) (h0 : r ≠ 0) : Cl W (sp_over K CX) [IsR K n q, IsR K n r] (Told K (q / r)) NoX :=
  cl_of (W := Evl.Ex) (W' := W) (C := okOver) (f := wOver K CX) (.inl ⟨n, q, r⟩) ⟨⟨hn, hq, hr⟩, h0⟩
theorem cl_overX {W : HR} [Pre W] {n : Nat} {q r : Rat} {Q : Pr} (hn : n ≤ 3900) (hq : Sz n q) (hr : Sz n r) (h0 : r = 0) : Cl W (sp_over K CX) [IsR K n q, IsR K n r] Q (fun cls d _ => cls = .ref CX.BadRatio ∧ d = none) := fun vs H a Q' E _ e =>
  cl_of (W := Evl.Ex) (W' := W) (C := okOver) (f := wOver K CX) (.inr ⟨n, q, r⟩) ⟨⟨hn, hq, hr⟩, h0⟩ vs H a Q' E (fun _ _ _ z => False.elim z) e
theorem ok_lover {f : Addr} {fd : FuncData} (F : Fun K "_law_over" "_law_over" s__law_over f fd) (T : Txt P w K mg CX) (D_over : Df P w K mg base 4 "over" ["one", "other"] (sp_over K CX)) : FnOk P w K mg base (L2.CX P w) 5 f fd ["_law_one", "_law_other"] (sp_lover K) := by
  refine okW F sc__law_over (fun i => by cases i <;> rfl) (by decide) (fun cdv A outer s H E hr => ⟨_, (pss_one (ps_try_as (i := 2) rfl rfl sc__law_over.nd rfl rfl ⟨rfl, by decide, Or.inl T.g_BadRatio⟩ takesF (fun W pn xe tk _ => (pss_one (ps_ret (pe_df D_over (hr.mono (by decide)) tk (pa_cons (pv 0) (pa_cons (pv 1) pa_nil)))))) (fun a oe cls d pn hz hf => pss_when fun z1 z2 => (pss_one (ps_ret (pe_ifExp (PW.pt (pw_and (pt_val (pe_callB (call_isE2 T.x_BadRatio z1 z2 hz hf) (by rfl) T.n_isinstance (by decide +kernel) (pa_cons (pv 2) (pa_cons (pe_glob (v := .ref CX.GapError) (by rfl) T.g_GapError rfl) pa_nil)))) (pw_and1 (pt_val (pe_callB (call_isE2 T.x_BadRatio z1 z2 hz hf) (by rfl) T.n_isinstance (by decide +kernel) (pa_cons (pv 2) (pa_cons (pe_bltn (v := .ty "ValueError") (by rfl) T.n_ValueError (by decide +kernel) rfl) pa_nil))))))) pe_str pe_str)))))), fun i c => ⟨Dead, ?_, fun _ _ h => (dead h).elim⟩⟩)
  cases i with
  | inl i =>
    obtain ⟨n, q, r⟩ := i
    obtain ⟨⟨hn, hq, hr'⟩, h0⟩ := c
    show St (RsE E NoX 3) [some (IsR K n q), some (IsR K n r), none] _ Dead (Told K (q / r))
    exact st_try (Y := RsE E NoX 3) (G' := [none, none, none]) (X' := NoX) (M' := Dead) (fun W => st_ret (ev_call (ea_cons (ev_var rfl) (ea_cons (ev_var rfl) ea_nil)) (cl_over hn hq hr' h0))) (fun _ _ _ z => z.elim) (fun _ _ z => (dead z).elim)
  | inr i =>
    obtain ⟨n, q, r⟩ := i
    obtain ⟨⟨hn, hq, hr'⟩, h0⟩ := c
    show St (RsE E NoX 3) [some (IsR K n q), some (IsR K n r), none] _ Dead (Is (.str "none"))
    refine st_try (Y := RsE E NoX 3) (G' := [none, none, none]) (X' := fun cls d _ => cls = .ref CX.BadRatio ∧ d = none) (M' := Dead) (fun W => st_ret (ev_callX (ea_cons (ev_var rfl) (ea_cons (ev_var rfl) ea_nil)) (cl_overX hn hq hr' h0) (sub_none rfl))) (fun cls d H z => ⟨by rw [z.1]; exact T.m_BadRatio, fun a => ?_⟩) (fun _ _ z => (dead z).elim)
    refine fun s H D ty hx n r => ⟨z, ?_⟩
    revert s H D
    refine st_ret (ev_if (et_and (et_B (ev_cb (ea_cons (ev_var rfl) (ea_cons ev_c ea_nil)) (ei_isE T.k_BadRatio_GapError (fun _ e => e)))) fun _ => et_B (ev_cb (ea_cons (ev_var rfl) (ea_cons ev_c ea_nil)) (ei_isE T.k_BadRatio_ValueError (fun _ e => e)))) (fun _ => ev_c) (fun h => by cases h))
theorem cl_lover {W : HR} [Pre W] {n : Nat} {q r : Rat} (hn : n ≤ 3900) (hq : Sz n q) (hr : Sz n r) (h0 : r ≠ 0) : Cl W (sp_lover K) [IsR K n q, IsR K n r] (Told K (q / r)) NoX :=
  cl_of (W := Evl.Ex) (W' := W) (C := okOver) (f := wLover K) (.inl ⟨n, q, r⟩) ⟨⟨hn, hq, hr⟩, h0⟩
theorem cl_loverX {W : HR} [Pre W] {n : Nat} {q r : Rat} (hn : n ≤ 3900) (hq : Sz n q) (hr : Sz n r) (h0 : r = 0) : Cl W (sp_lover K) [IsR K n q, IsR K n r] (Is (.str "none")) NoX :=
  cl_of (W := Evl.Ex) (W' := W) (C := okOver) (f := wLover K) (.inr ⟨n, q, r⟩) ⟨⟨hn, hq, hr⟩, h0⟩
/-! ### the operations, upon any ratios -/
theorem cl_plus {W : HR} [Pre W] {n : Nat} {q r : Rat} (hn : n ≤ 3900) (hq : Sz n q) (hr : Sz n r) : Cl W (sp_plus K) [IsR K n q, IsR K n r] (Told K (q + r)) NoX :=
  cl_of (W := Evl.Ex) (C := Two.ok) (f := fun i => ⟨[IsR K i.n i.q, IsR K i.n i.r], Told K (i.q + i.r), NoX⟩) ⟨n, q, r⟩ ⟨hn, hq, hr⟩
theorem cl_minus {W : HR} [Pre W] {n : Nat} {q r : Rat} (hn : n ≤ 3900) (hq : Sz n q) (hr : Sz n r) : Cl W (sp_minus K) [IsR K n q, IsR K n r] (Told K (q - r)) NoX :=
  cl_of (W := Evl.Ex) (C := Two.ok) (f := fun i => ⟨[IsR K i.n i.q, IsR K i.n i.r], Told K (i.q - i.r), NoX⟩) ⟨n, q, r⟩ ⟨hn, hq, hr⟩
theorem cl_times {W : HR} [Pre W] {n : Nat} {q r : Rat} (hn : n ≤ 3900) (hq : Sz n q) (hr : Sz n r) : Cl W (sp_times K) [IsR K n q, IsR K n r] (Told K (q * r)) NoX :=
  cl_of (W := Evl.Ex) (C := Two.ok) (f := fun i => ⟨[IsR K i.n i.q, IsR K i.n i.r], Told K (i.q * i.r), NoX⟩) ⟨n, q, r⟩ ⟨hn, hq, hr⟩
theorem cl_compare {W : HR} [Pre W] {n : Nat} {q r : Rat} (hn : n ≤ 3900) (hq : Sz n q) (hr : Sz n r) : Cl W (sp_compare K) [IsR K n q, IsR K n r] (Is (.int (cmpR q r))) NoX :=
  cl_of (W := Evl.Ex) (C := Two.ok) (f := fun i => ⟨[IsR K i.n i.q, IsR K i.n i.r], Is (.int (cmpR i.q i.r)), NoX⟩) ⟨n, q, r⟩ ⟨hn, hq, hr⟩
theorem divInt_le {a b c d : Int} (hb : 0 < b) (hd : 0 < d) : Rat.divInt a b ≤ Rat.divInt c d ↔ a * d ≤ c * b := by
  rw [Rat.le_iff_sub_nonneg, Rat.divInt_sub_divInt _ _ (by omega) (by omega), Rat.divInt_nonneg_iff_of_pos_right (Int.mul_pos hd hb)]
  omega
theorem cmp_ord {a b c d : Int} (hb : 0 < b) (hd : 0 < d) : cmpR (Rat.divInt a b) (Rat.divInt c d) = ord (a * d) (c * b) := by
  have h1 := divInt_le (a := a) (c := c) hb hd
  have h2 := divInt_le (a := c) (c := a) hd hb
  have h3 := Rat.divInt_eq_divInt_iff (n₁ := a) (n₂ := c) (show b ≠ 0 by omega) (show d ≠ 0 by omega)
  unfold cmpR ord
  by_cases e : a * d < c * b
  · have : Rat.divInt a b < Rat.divInt c d := Rat.not_le.mp fun z => by have := h2.mp z; omega
    rw [if_pos e, if_pos this]
  · have n1 : ¬ Rat.divInt a b < Rat.divInt c d := fun z => by
      have : ¬ Rat.divInt c d ≤ Rat.divInt a b := Rat.not_le.mpr z
      exact this (h2.mpr (by omega))
    rw [if_neg e, if_neg n1]
    by_cases e2 : c * b < a * d
    · rw [if_pos e2, if_neg fun z => by have := h3.mp z; omega]
    · rw [if_neg e2, if_pos (h3.mpr (by omega))]
theorem cmp_neg (q r : Rat) : cmpR r q = -cmpR q r := by
  unfold cmpR
  by_cases h : q = r
  · subst h; simp [Rat.lt_irrefl]
  · have h' : ¬ r = q := fun z => h z.symm
    by_cases l : q < r
    · have n : ¬ r < q := Rat.not_lt.mpr (Rat.le_of_lt l)
      rw [if_pos l, if_neg n, if_neg h']; rfl
    · have n : r < q := Rat.lt_of_le_of_ne (Rat.not_lt.mp l) h'
      rw [if_neg l, if_pos n, if_neg h]
theorem isR_up {n m : Nat} {q : Rat} (l : n ≤ m) {v : V} {H : Hp} (h : IsR K n q v H) : IsR K m q v H := h.elim (fun ⟨i, e, b, z⟩ => .inl ⟨i, e, big_mono b l, z⟩) fun ⟨a, b, t, p, x, y, z⟩ => .inr ⟨a, b, t, p, big_mono x l, big_mono y l, z⟩
theorem sz_mono {n m : Nat} {q : Rat} (h : Sz n q) (l : n ≤ m) : Sz m q := ⟨big_mono h.1 l, Nat.lt_of_lt_of_le h.2 (Nat.pow_le_pow_right (by decide) l)⟩
theorem sz_add {n m : Nat} {q r : Rat} (h : Sz n q) (k : Sz m r) : Sz (n + m + 1) (q + r) := by
  rw [← rat_add]
  refine sz_divInt (den_ne q r) ?_ (big_mono (big_mul (sz_den h) (sz_den k)) (by omega))
  exact big_add (m := 0) (big_mul h.1 (sz_den k)) (big_mono (big_mul k.1 (sz_den h)) (by omega))
theorem sz_sub {n m : Nat} {q r : Rat} (h : Sz n q) (k : Sz m r) : Sz (n + m + 1) (q - r) := by
  rw [← rat_sub]
  refine sz_divInt (den_ne q r) ?_ (big_mono (big_mul (sz_den h) (sz_den k)) (by omega))
  exact big_sub (m := 0) (big_mul h.1 (sz_den k)) (big_mono (big_mul k.1 (sz_den h)) (by omega))
theorem sz_mul {n m : Nat} {q r : Rat} (h : Sz n q) (k : Sz m r) : Sz (n + m) (q * r) := by
  rw [← rat_mul]
  exact sz_divInt (den_ne q r) (big_mul h.1 k.1) (big_mul (sz_den h) (sz_den k))
theorem okab.sz {p : Int × Int} (h : okab p) : Sz 134 (Rat.divInt p.1 p.2) := sz_divInt (by have := h.1; omega) h.2.1 h.2.2
theorem divInt_zero_iff {a b : Int} (hb : b ≠ 0) : Rat.divInt a b = 0 ↔ a = 0 := by
  rw [← Rat.zero_divInt 1, Rat.divInt_eq_divInt_iff hb (by decide)]
  omega
theorem divInt_div {a b c d : Int} : Rat.divInt a b / Rat.divInt c d = Rat.divInt (a * d) (b * c) := by
  rw [Rat.div_def, Rat.inv_divInt, Rat.divInt_mul_divInt]
theorem ok_two {f : Addr} {fd : FuncData} (F : Fun K "_law_two" "_law_two" s__law_two f fd) (T : Txt P w K mg CX) (D_ratio_of : Df P w K mg base 3 "ratio_of" ["thing"] (sp_ratio_of K)) (D_lowest_terms : Df P w K mg base 1 "lowest_terms" ["top", "bottom"] (sp_lowest_terms K))
    (D_plus : Df P w K mg base 4 "plus" ["one", "other"] (sp_plus K)) (D_minus : Df P w K mg base 4 "minus" ["one", "other"] (sp_minus K)) (D_times : Df P w K mg base 4 "times" ["one", "other"] (sp_times K)) (D_compare : Df P w K mg base 4 "compare" ["one", "other"] (sp_compare K))
    (D__law_same : Df P w K mg base 3 "_law_same" ["_law_told", "_law_top", "_law_bottom"] (sp_same K)) (D__law_order : Df P w K mg base 1 "_law_order" ["_law_left", "_law_right"] sp_order) (D__law_over : Df P w K mg base 5 "_law_over" ["_law_one", "_law_other"] (sp_lover K)) :
    FnOk P w K mg base (L2.CX P w) 6 f fd ["_law_x", "_law_y"] (sp_two K) := by
  refine okW F sc__law_two (fun i => rfl) (by decide) (fun cdv A outer s H E hr => ⟨_, (pss_cons (ps_asg (pe_tup (pa_cons (pe_ix ix_seq (pv 0) pe_int (fun _ _ => rfl)) (pa_cons (pe_ix ix_seq (pv 0) pe_int (fun _ _ => rfl)) (pa_cons (pe_ix ix_seq (pv 1) pe_int (fun _ _ => rfl)) (pa_cons (pe_ix ix_seq (pv 1) pe_int (fun _ _ => rfl)) pa_nil))))) (pg_tup rfl (pgs_cons (pg_name (i := 2) sc__law_two.nd rfl (Or.inl rfl)) (pgs_cons (pg_name (i := 3) sc__law_two.nd rfl (Or.inl rfl)) (pgs_cons (pg_name (i := 4) sc__law_two.nd rfl (Or.inl rfl)) (pgs_cons (pg_name (i := 5) sc__law_two.nd rfl (Or.inl rfl)) pgs_nil)))))) (pss_cons (ps_par (i := 6) (j := 7) rfl sc__law_two.nd rfl rfl (by decide) rfl rfl (pa_cons (pe_ix ix_seq (pv 0) pe_int (fun _ _ => rfl)) (pa_cons (pe_ix ix_seq (pv 1) pe_int (fun _ _ => rfl)) pa_nil)) rfl) (pss_cons (ps_if (PW.pt (pw_or (pt_not (pt_val (pe_df D__law_same (hr.mono (by decide)) (takes_of rfl rfl rfl rfl) (pa_cons (pe_df D_ratio_of (hr.mono (by decide)) (takes_of rfl rfl rfl rfl) (pa_cons (pv 6) pa_nil)) (pa_cons (pv 2) (pa_cons (pv 3) pa_nil)))))) (pw_or1 (pt_not (pt_val (pe_df D__law_same (hr.mono (by decide)) (takes_of rfl rfl rfl rfl) (pa_cons (pe_df D_lowest_terms (hr.mono (by decide)) (takes_of rfl rfl rfl rfl) (pa_cons (pe_op op_mulA (pv 2) pe_int) (pa_cons (pe_op op_mulA (pe_un un_neg (pv 3)) pe_int) pa_nil))) (pa_cons (pe_un un_neg (pv 2)) (pa_cons (pv 3) pa_nil))))))))) (pss_one (ps_ret pe_bl)) pss_nil) (pss_cons (ps_if (PW.pt (pw_or (pt_not (pt_val (pe_df D__law_same (hr.mono (by decide)) (takes_of rfl rfl rfl rfl) (pa_cons (pe_df D_plus (hr.mono (by decide)) (takes_of rfl rfl rfl rfl) (pa_cons (pv 6) (pa_cons (pv 7) pa_nil))) (pa_cons (pe_op op_addA (pe_op op_mulA (pv 2) (pv 5)) (pe_op op_mulA (pv 4) (pv 3))) (pa_cons (pe_op op_mulA (pv 3) (pv 5)) pa_nil)))))) (pw_or1 (pt_not (pt_val (pe_df D__law_same (hr.mono (by decide)) (takes_of rfl rfl rfl rfl) (pa_cons (pe_df D_minus (hr.mono (by decide)) (takes_of rfl rfl rfl rfl) (pa_cons (pv 6) (pa_cons (pv 7) pa_nil))) (pa_cons (pe_op op_sub (pe_op op_mulA (pv 2) (pv 5)) (pe_op op_mulA (pv 4) (pv 3))) (pa_cons (pe_op op_mulA (pv 3) (pv 5)) pa_nil))))))))) (pss_one (ps_ret pe_bl)) pss_nil) (pss_cons (ps_if (pt_not (pt_val (pe_df D__law_same (hr.mono (by decide)) (takes_of rfl rfl rfl rfl) (pa_cons (pe_df D_times (hr.mono (by decide)) (takes_of rfl rfl rfl rfl) (pa_cons (pv 6) (pa_cons (pv 7) pa_nil))) (pa_cons (pe_op op_mulA (pv 2) (pv 4)) (pa_cons (pe_op op_mulA (pv 3) (pv 5)) pa_nil)))))) (pss_one (ps_ret pe_bl)) pss_nil) (pss_cons (ps_set (i := 8) sc__law_two.nd rfl (Or.inl rfl) (pe_df D_compare (hr.mono (by decide)) (takes_of rfl rfl rfl rfl) (pa_cons (pv 6) (pa_cons (pv 7) pa_nil)))) (pss_cons (ps_if (PW.pt (pw_or (pt_val (pe_callB call_isi (by rfl) T.n_isinstance (by decide +kernel) (pa_cons (pv 8) (pa_cons (pe_bltn (v := .ty "bool") (by rfl) T.n_bool (by decide +kernel) rfl) pa_nil)))) (pw_or (pt_cmpR (op_neA hr.units) (pv 8) (pe_df D__law_order (hr.mono (by decide)) (takes_of rfl rfl rfl rfl) (pa_cons (pe_op op_mulA (pv 2) (pv 5)) (pa_cons (pe_op op_mulA (pv 4) (pv 3)) pa_nil))) (nomark _)) (pw_or1 (pt_cmpR (op_neA hr.units) (pe_df D_compare (hr.mono (by decide)) (takes_of rfl rfl rfl rfl) (pa_cons (pv 7) (pa_cons (pv 6) pa_nil))) (pe_un un_neg (pv 8)) (nomark _)))))) (pss_one (ps_ret pe_bl)) pss_nil) (pss_cons (ps_if (pt_cmpR (op_eqA hr.units) (pv 4) pe_int (nomark _)) (pss_one (ps_ret (pe_cmpR (op_eqA hr.units) (pe_df D__law_over (hr.mono (by decide)) (takes_of rfl rfl rfl rfl) (pa_cons (pv 6) (pa_cons (pv 7) pa_nil))) pe_str (nomark _)))) pss_nil) (pss_one (ps_ret (pe_df D__law_same (hr.mono (by decide)) (takes_of rfl rfl rfl rfl) (pa_cons (pe_df D__law_over (hr.mono (by decide)) (takes_of rfl rfl rfl rfl) (pa_cons (pv 6) (pa_cons (pv 7) pa_nil))) (pa_cons (pe_op op_mulA (pv 2) (pv 5)) (pa_cons (pe_op op_mulA (pv 3) (pv 4)) pa_nil)))))))))))))), fun i cc => ⟨Dead, ?_, fun _ _ h => (dead h).elim⟩⟩)
  obtain ⟨⟨a, b⟩, ⟨c, d⟩⟩ := i
  have sz1 := sz_mono (m := 140) cc.1.sz (by decide)
  have sz2 := sz_mono (m := 140) cc.2.sz (by decide)
  obtain ⟨⟨b0, ab, bb⟩, ⟨d0, cb, db⟩⟩ := cc
  replace b0 : 0 < b := b0
  replace d0 : 0 < d := d0
  replace ab : Big 134 a := ab
  replace bb : Big 134 b := bb
  replace cb : Big 134 c := cb
  replace db : Big 134 d := db
  replace sz1 : Sz 140 (Rat.divInt a b) := sz1
  replace sz2 : Sz 140 (Rat.divInt c d) := sz2
  have bd0 : b * d ≠ 0 := Int.ne_of_gt (Int.mul_pos b0 d0)
  have bdb : Big 8000 (b * d) := big_mono (big_mul bb db) (by decide)
  have x6 : Big 8000 (-b * 6) := big_mono (big_mul (big_neg bb) (big_of (n := 3) (i := 6) (by decide) (by decide))) (by decide)
  show St (RsE E NoX 9) [some (Thing K (a, b)), some (Thing K (c, d)), none, none, none, none, none, none, none] _ Dead (Is (.bl true))
  have n6 : Rat.divInt (a * 6) (-b * 6) = Rat.divInt (-a) b := by
    rw [Rat.divInt_mul_right (by decide), ← Rat.neg_divInt_neg, Int.neg_neg]
  have o_m : ∀ {i j : Int}, Big 134 i → Big 134 j → Op2 (RsE E NoX 9).W rMulA (Is (.int i)) (Is (.int j)) (Is (.int (i * j))) := fun h k => o_mul h k (by decide)
  refine st_seq (st_un4 (ev_tup (K := K) (ea_cons (ev_op (ev_var rfl) ev_c (o_ixL (i := 1) rfl)) (ea_cons (ev_op (ev_var rfl) ev_c (o_ixL (i := 2) rfl)) (ea_cons (ev_op (ev_var rfl) ev_c (o_ixL (i := 1) rfl)) (ea_cons (ev_op (ev_var rfl) ev_c (o_ixL (i := 2) rfl)) ea_nil)))))) ?_
  refine st_seq (st_par (ea_cons (ev_op (ev_var rfl) ev_c (o_ixL (i := 0) rfl)) (ea_cons (ev_op (ev_var rfl) ev_c (o_ixL (i := 0) rfl)) ea_nil))) ?_
  refine st_seq (st_if (et_or (et_not (et_B (ev_call (ea_cons (ev_call (ea_cons (ev_var rfl) ea_nil) (cl_ratio_of (by decide))) (ea_cons (ev_var rfl) (ea_cons (ev_var rfl) ea_nil))) (cl_same (by omega) (big_mono bb (by decide)) rfl)))) fun _ => et_not (et_B (ev_call (ea_cons (ev_call (ea_cons (ev_op (ev_var rfl) ev_c (o_mulS (by decide))) (ea_cons (ev_op (ev_un (ev_var rfl) op1_neg) ev_c (o_mulS (by decide))) ea_nil)) (cl_low (by omega) x6)) (ea_cons (ev_un (ev_var rfl) op1_neg) (ea_cons (ev_var rfl) ea_nil))) (cl_same (by omega) (big_mono bb (by decide)) n6)))) (fun h => by cases h) (fun _ => st_next)) ?_
  refine st_seq (st_if (et_or (et_not (et_B (ev_call (ea_cons (ev_call (ea_cons (ev_var rfl) (ea_cons (ev_var rfl) ea_nil)) (cl_plus (by decide) sz1 sz2)) (ea_cons (ev_op (ev_op (ev_var rfl) (ev_var rfl) (o_m ab db)) (ev_op (ev_var rfl) (ev_var rfl) (o_m cb bb)) o_add) (ea_cons (ev_op (ev_var rfl) (ev_var rfl) (o_m bb db)) ea_nil))) (cl_same bd0 bdb (Rat.divInt_add_divInt _ _ (by omega) (by omega)))))) fun _ => et_not (et_B (ev_call (ea_cons (ev_call (ea_cons (ev_var rfl) (ea_cons (ev_var rfl) ea_nil)) (cl_minus (by decide) sz1 sz2)) (ea_cons (ev_op (ev_op (ev_var rfl) (ev_var rfl) (o_m ab db)) (ev_op (ev_var rfl) (ev_var rfl) (o_m cb bb)) o_sub) (ea_cons (ev_op (ev_var rfl) (ev_var rfl) (o_m bb db)) ea_nil))) (cl_same bd0 bdb (Rat.divInt_sub_divInt _ _ (by omega) (by omega)))))) (fun h => by cases h) (fun _ => st_next)) ?_
  refine st_seq (st_if (et_not (et_B (ev_call (ea_cons (ev_call (ea_cons (ev_var rfl) (ea_cons (ev_var rfl) ea_nil)) (cl_times (by decide) sz1 sz2)) (ea_cons (ev_op (ev_var rfl) (ev_var rfl) (o_m ab cb)) (ea_cons (ev_op (ev_var rfl) (ev_var rfl) (o_m bb db)) ea_nil))) (cl_same bd0 bdb (Rat.divInt_mul_divInt _ _))))) (fun h => by cases h) (fun _ => st_next)) ?_
  refine st_seq (st_set (ev_call (ea_cons (ev_var rfl) (ea_cons (ev_var rfl) ea_nil)) (cl_compare (by decide) sz1 sz2))) ?_
  refine st_seq (st_if (et_or (et_B (ev_cb (ea_cons (ev_var rfl) (ea_cons ev_c ea_nil)) (opA_isi hasTy_int (b := false) (by decide +kernel)))) fun _ => et_or (et_test (ev_op (ev_var rfl) (ev_call (ea_cons (ev_op (ev_var rfl) (ev_var rfl) (o_m ab db)) (ea_cons (ev_op (ev_var rfl) (ev_var rfl) (o_m cb bb)) ea_nil)) cl_order) o_neI)) fun _ => et_test (ev_op (ev_call (ea_cons (ev_var rfl) (ea_cons (ev_var rfl) ea_nil)) (cl_compare (by decide) sz2 sz1)) (ev_un (ev_var rfl) op1_neg) o_neI)) (fun h => ?_) (fun _ => st_next)) ?_
  · rw [cmp_ord b0 d0, decide_eq_false (fun z => z rfl), cmp_neg, cmp_ord b0 d0, decide_eq_false (fun z => z rfl)] at h
    cases h
  by_cases c0 : c = 0
  · refine st_seq (M := Dead) (st_if (et_test (ev_op (ev_var rfl) ev_c o_eqI)) (fun _ => ?_) (fun h => absurd c0 (of_decide_eq_false h))) (fun s H D ty => (dead ty).elim)
    exact st_ret (Ev.to (ev_op (ev_call (ea_cons (ev_var rfl) (ea_cons (ev_var rfl) ea_nil)) (cl_loverX (by decide) sz1 sz2 ((divInt_zero_iff (by omega)).mpr c0))) ev_c o_eqS) rfl)
  · refine st_seq (st_if (et_test (ev_op (ev_var rfl) ev_c o_eqI)) (fun h => absurd (of_decide_eq_true h) c0) (fun _ => st_next)) ?_
    exact st_ret (ev_call (ea_cons (ev_call (ea_cons (ev_var rfl) (ea_cons (ev_var rfl) ea_nil)) (cl_lover (by decide) sz1 sz2 (fun z => c0 ((divInt_zero_iff (by omega)).mp z)))) (ea_cons (ev_op (ev_var rfl) (ev_var rfl) (o_m ab db)) (ea_cons (ev_op (ev_var rfl) (ev_var rfl) (o_m bb cb)) ea_nil))) (cl_same (Int.mul_ne_zero (by omega) c0) (big_mono (big_mul bb cb) (by decide)) divInt_div))
theorem cl_two {W : HR} [Pre W] {p q : Int × Int} (h : okab p) (k : okab q) : Cl W (sp_two K) [Thing K p, Thing K q] (Is (.bl true)) NoX :=
  cl_of (W := Evl.Ex) (C := fun i : (Int × Int) × (Int × Int) => okab i.1 ∧ okab i.2) (f := fun i => ⟨[Thing K i.1, Thing K i.2], Is (.bl true), NoX⟩) (p, q) ⟨h, k⟩
theorem int_divInt (t : Int) : (t : Rat) = Rat.divInt t 1 := Rat.ext (by rw [Rat.num_divInt]; simp) (by rw [Rat.den_divInt]; simp)
theorem big40 {i : Int} (h : -10 ^ 40 ≤ i ∧ i ≤ 10 ^ 40) : Big 134 i := big_of (Int.lt_of_lt_of_le (by decide) h.1) (Int.lt_of_le_of_lt h.2 (by decide))
theorem hs3 {P1 P2 P3 : Pr} (vs : List V) (H : Hp) (h : AllP [P1, P2, P3] vs H) : L2.St → U.hs vs = false := fun _ => by
  have l := allp_len h
  match vs, l with
  | [a, b, c], _ => cases a <;> first | rfl | (cases b <;> first | rfl | (cases c <;> rfl))
theorem thing_of {p : Int × Int} {q : Rat} {i : Int × Int} (h : 0 < i.2 ∧ Big 140 i.1 ∧ Big 140 i.2) (e : Rat.divInt i.1 i.2 = q) {v : V} {H : Hp} (t : Tup K [Is (.int i.1), Is (.int i.2)] v H) : IsR K 140 q v H := .inr ⟨i.1, i.2, t, h.1, h.2.1, h.2.2, e⟩
theorem ok_thing {f : Addr} {fd : FuncData} (F : Fun K "_law_thing" "_law_thing" s__law_thing f fd) (D__law_draw : Df P w K mg base 2 "_law_draw" ["_law_hand_here", "_law_many"] sp_draw) : FnOk P w K mg base (L2.CX P w) 3 f fd ["_law_hand_here"] (sp_thing K) := by
  refine okW F sc__law_thing (fun i => rfl) (by decide) (fun cdv A outer s H E hr => ⟨_, (pss_cons (ps_set (i := 1) sc__law_thing.nd rfl (Or.inl rfl) (pe_ifExp (pt_cmpR (op_eqA hr.units) (pe_df D__law_draw (hr.mono (by decide)) (takes_of rfl rfl rfl rfl) (pa_cons (pv 0) (pa_cons pe_int pa_nil))) pe_int (nomark _)) pe_int (pe_op op_pow pe_int pe_int))) (pss_cons (ps_set (i := 2) sc__law_thing.nd rfl (Or.inl rfl) (pe_op op_sub (pe_df D__law_draw (hr.mono (by decide)) (takes_of rfl rfl rfl rfl) (pa_cons (pv 0) (pa_cons (pe_op op_addA (pe_op op_mulA pe_int (pv 1)) pe_int) pa_nil))) (pv 1))) (pss_cons (ps_if (pt_cmpR (op_eqA hr.units) (pe_df D__law_draw (hr.mono (by decide)) (takes_of rfl rfl rfl rfl) (pa_cons (pv 0) (pa_cons pe_int pa_nil))) pe_int (nomark _)) (pss_one (ps_set (i := 2) sc__law_thing.nd rfl (Or.inl rfl) pe_int)) pss_nil) (pss_cons (ps_set (i := 3) sc__law_thing.nd rfl (Or.inl rfl) (pe_df D__law_draw (hr.mono (by decide)) (takes_of rfl rfl rfl rfl) (pa_cons (pv 0) (pa_cons pe_int pa_nil)))) (pss_cons (ps_if (pt_cmpR (op_eqA hr.units) (pv 3) pe_int (nomark _)) (pss_one (ps_ret (pe_lst (pa_cons (pv 2) (pa_cons (pv 2) (pa_cons pe_int pa_nil)))))) pss_nil) (pss_cons (ps_set (i := 4) sc__law_thing.nd rfl (Or.inl rfl) (pe_op op_addA pe_int (pe_df D__law_draw (hr.mono (by decide)) (takes_of rfl rfl rfl rfl) (pa_cons (pv 0) (pa_cons (pv 1) pa_nil))))) (pss_cons (ps_set (i := 5) sc__law_thing.nd rfl (Or.inl rfl) pe_int) (pss_cons (ps_if (pt_cmpR (op_eqA hr.units) (pv 3) pe_int (nomark _)) (pss_one (ps_set (i := 5) sc__law_thing.nd rfl (Or.inl rfl) (pe_op op_addA pe_int (pe_df D__law_draw (hr.mono (by decide)) (takes_of rfl rfl rfl rfl) (pa_cons (pv 0) (pa_cons pe_int pa_nil)))))) pss_nil) (pss_one (ps_ret (pe_lst (pa_cons (pe_tup (pa_cons (pe_op op_mulA (pv 2) (pv 5)) (pa_cons (pe_op op_mulA (pv 4) (pv 5)) pa_nil))) (pa_cons (pv 2) (pa_cons (pv 4) pa_nil)))))))))))))), fun i c => ⟨Dead, ?_, fun _ _ h => (dead h).elim⟩⟩)
  show St (RsW WL E NoX 6) [some Hand, none, none, none, none, none] _ Dead (Some okab (Thing K))
  have bs : ∀ m : Int, -(2 ^ 200) < m ∧ m < 2 ^ 200 → Big 300 m := fun m h => big_mono (n := 200) (big_of h.1 h.2) (by decide)
  have tst : ∀ {G : Ctx} {te : TE} {m j : Int}, MnC WL G → Ev (RsW WL E NoX 6) G te (Rng 0 m) → EvU (RsW WL E NoX 6) G (tTest (tOp (rEqA K) te (tC (.int j)))) := fun g h => by
    haveI := g
    exact eu_test (ev_op h ev_c (op2_some1 fun a _ => op2_sub o_eqI fun v H e => ⟨_, True.intro, e⟩))
  refine st_seq (st_set (P := Some (fun f : Int => 0 < f ∧ f ≤ 10 ^ 40) fun f => Is (.int f)) (ev_ifU (tst inferInstance (ev_call (ea_cons (ev_var rfl) (ea_cons ev_c ea_nil)) (cl_draw (m := 2) (by decide) (bs 2 (by decide))))) (ev_some 4 (by decide) ev_c) (ev_some (10 ^ 40) (by decide) (ev_op ev_c ev_c (o_pow ⟨by decide, by decide, by decide⟩))))) ?_
  refine st_open 1 rfl fun g hg => ?_
  have eg : (10 : Int) ^ 40 < 2 ^ 150 := by decide
  have z150 : (0 : Int) < 2 ^ 150 := by decide
  have l200 : (2 : Int) ^ 150 < 2 ^ 200 := by decide
  have hbig : -(2 ^ 200) < 2 * g + 1 ∧ 2 * g + 1 < 2 ^ 200 := by
    have : (2 : Int) ^ 150 * 2 + 1 < 2 ^ 200 := by decide
    have : (0 : Int) < 2 ^ 200 := by decide
    omega
  refine st_seq (st_set (P := Some (fun i : Int => -10 ^ 40 ≤ i ∧ i ≤ 10 ^ 40) fun i => Is (.int i)) (ev_op (ev_call (ea_cons (ev_var rfl) (ea_cons (ev_op (ev_op ev_c (ev_var rfl) (o_mul (n := 3) (m := 150) (big_of (by decide) (by decide)) (big_of (by omega) (by omega)) (by decide))) ev_c o_add) ea_nil)) (cl_draw (by omega) (bs _ hbig))) (ev_var rfl) (op2_some1 fun a ha => op2_sub op2_I0 fun v H e => ⟨a - g, by omega, e⟩))) ?_
  refine st_seq (st_ifU (Y := RsW WL E NoX 6) (tst inferInstance (ev_call (ea_cons (ev_var rfl) (ea_cons ev_c ea_nil)) (cl_draw (m := 8) (by decide) (bs 8 (by decide))))) (st_set (Y := RsW WL E NoX 6) (ev_some 0 (by decide) (ev_c (Y := RsW WL E NoX 6)))) (st_next (Y := RsW WL E NoX 6))) ?_
  refine st_open 2 rfl fun t ht => ?_
  have tb := big40 ht
  refine st_seq (st_set (ev_call (ea_cons (ev_var rfl) (ea_cons ev_c ea_nil)) (cl_draw (m := 4) (by decide) (bs 4 (by decide))))) ?_
  refine st_open 3 rfl fun k hk => ?_
  refine st_seq (st_if (et_test (ev_op (ev_var rfl) ev_c o_eqI)) (fun _ => ?_) (fun _ => st_next)) ?_
  · refine st_ret (ev_some (t, 1) ⟨Int.one_pos, tb, big_of (i := 1) (by decide) (by decide)⟩ (Ev.sub (ev_lst (K := K) (ea_cons (P1 := IsR K 140 (Rat.divInt t 1)) (Ev.sub (ev_var rfl) ?_) (ea_cons (ev_var rfl) (ea_cons ev_c ea_nil))) (fun vs H h => hs3 vs H h [])) fun _ _ h => h))
    rintro v H rfl
    exact .inl ⟨t, rfl, big_mono tb (by decide), int_divInt t⟩
  refine st_seq (st_set (P := Some (fun i : Int => 0 < i ∧ i ≤ 10 ^ 40) fun i => Is (.int i)) (ev_op ev_c (ev_call (ea_cons (ev_var rfl) (ea_cons (ev_var rfl) ea_nil)) (cl_draw hg.1 (bs _ (by omega)))) (op2_some2 fun a ha => op2_sub o_add fun v H e => ⟨1 + a, by omega, e⟩))) ?_
  refine st_open 4 rfl fun b hb => ?_
  have bb := big40 (i := b) (by omega)
  refine st_seq (st_set (P := Some (fun i : Int => 0 < i ∧ i ≤ 12) fun i => Is (.int i)) (ev_some 1 (by decide) ev_c)) ?_
  refine st_seq (st_if (et_test (ev_op (ev_var rfl) ev_c o_eqI)) (fun _ => st_set (P := Some (fun i : Int => 0 < i ∧ i ≤ 12) fun i => Is (.int i)) (ev_op ev_c (ev_call (ea_cons (ev_var rfl) (ea_cons ev_c ea_nil)) (cl_draw (m := 12) (by decide) (bs 12 (by decide)))) (op2_some2 fun a ha => op2_sub o_add fun v H e => ⟨1 + a, by omega, e⟩))) (fun _ => st_next)) ?_
  refine st_open 5 rfl fun z hz => ?_
  have zb : Big 4 z := big_of (by omega) (by omega)
  refine st_ret (ev_some (t, b) ⟨hb.1, tb, bb⟩ (ev_lst (K := K) (ea_cons (Ev.sub (ev_tup (K := K) (ea_cons (ev_op (ev_var rfl) (ev_var rfl) (o_mul tb zb (by decide))) (ea_cons (ev_op (ev_var rfl) (ev_var rfl) (o_mul bb zb (by decide))) ea_nil))) fun v H h => thing_of (p := (t, b)) (i := (t * z, b * z)) ⟨Int.mul_pos hb.1 hz.1, big_mono (big_mul tb zb) (by decide), big_mono (big_mul bb zb) (by decide)⟩ (Rat.divInt_mul_right (by omega)) h) (ea_cons (ev_var rfl) (ea_cons (ev_var rfl) ea_nil))) (fun vs H h => hs3 vs H h [])))
theorem cl_thing : Cl WL (sp_thing K) [Hand] (Some okab (Thing K)) NoX :=
  cl_of (W := WL) (C := fun _ : Unit => True) (f := fun _ => ⟨[Hand], Some okab (Thing K), NoX⟩) () True.intro
def sp_law (K : PySem.W.Frag) : Sp := SpW WL (fun ns : List Int => ns.length ≤ 63) fun ns => ⟨[Lst K (ns.map fun n => Is (.int n))], Is (.bl true), NoX⟩
section
variable {Y : Rs} [w : Pre Y.W] {G : Ctx} [mc : MnC Y.W G] {ta tb : TE} {q r : Rat} {E' : L2.St → XK}
omit mc in
theorem Ev.ir {q : Rat} {te : TE} (h : Ev Y G te (Told K q)) (s : Sz 600 q) : Ev Y G te (IsR K 600 q) := h.sub fun _ _ z => told_isR s z
theorem ev_th {i : Nat} {p : Int × Int} (h : G[i]? = some (some (Thing K p))) : Ev Y G (tOp (rIx K) (tVar i) (tC (.int 0))) (IsR K 600 (Rat.divInt p.1 p.2)) :=
  Ev.sub (ev_op (ev_var h) ev_c (o_ixL (i := 0) rfl)) fun _ _ z => isR_up (by decide) z
theorem e_plus (ha : Ev Y G ta (IsR K 600 q)) (hb : Ev Y G tb (IsR K 600 r)) (sq : Sz 600 q) (sr : Sz 600 r) : Ev Y G (tCallS (sp_plus K) E' (tCons ta (tCons tb tNil))) (Told K (q + r)) := ev_call (ea_cons ha (ea_cons hb ea_nil)) (cl_plus (by decide) sq sr)
theorem e_minus (ha : Ev Y G ta (IsR K 600 q)) (hb : Ev Y G tb (IsR K 600 r)) (sq : Sz 600 q) (sr : Sz 600 r) : Ev Y G (tCallS (sp_minus K) E' (tCons ta (tCons tb tNil))) (Told K (q - r)) := ev_call (ea_cons ha (ea_cons hb ea_nil)) (cl_minus (by decide) sq sr)
theorem e_times (ha : Ev Y G ta (IsR K 600 q)) (hb : Ev Y G tb (IsR K 600 r)) (sq : Sz 600 q) (sr : Sz 600 r) : Ev Y G (tCallS (sp_times K) E' (tCons ta (tCons tb tNil))) (Told K (q * r)) := ev_call (ea_cons ha (ea_cons hb ea_nil)) (cl_times (by decide) sq sr)
theorem e_compare (ha : Ev Y G ta (IsR K 600 q)) (hb : Ev Y G tb (IsR K 600 r)) (sq : Sz 600 q) (sr : Sz 600 r) : Ev Y G (tCallS (sp_compare K) E' (tCons ta (tCons tb tNil))) (Is (.int (cmpR q r))) := ev_call (ea_cons ha (ea_cons hb ea_nil)) (cl_compare (by decide) sq sr)
end
theorem cmp_add (q r s : Rat) : cmpR (q + s) (r + s) = cmpR q r := by
  unfold cmpR
  have h1 : (q + s < r + s) ↔ q < r := by grind
  have h2 : (q + s = r + s) ↔ q = r := by grind
  by_cases l : q < r
  · rw [if_pos l, if_pos (h1.mpr l)]
  · rw [if_neg l, if_neg fun z => l (h1.mp z)]
    by_cases e : q = r
    · rw [if_pos e, if_pos (h2.mpr e)]
    · rw [if_neg e, if_neg fun z => e (h2.mp z)]
theorem hs4 {p1 p2 p3 p4 : Int × Int} (vs : List V) (H : Hp) (h : AllP [Thing K p1, Thing K p2, Thing K p3, Thing K p4] vs H) : U.hs vs = false := by
  have l := allp_len h
  match vs, l with
  | [a, b, c, d], _ =>
    obtain ⟨_, ⟨p, xs, e, _⟩, _⟩ := h
    subst e
    cases a <;> rfl
theorem nth4 {p1 p2 p3 p4 : Int × Int} (h1 : okab p1) (h2 : okab p2) (h3 : okab p3) (h4 : okab p4) (i : Nat) (hi : i < 4) : ∃ p, okab p ∧ nth [Thing K p1, Thing K p2, Thing K p3, Thing K p4] i = Thing K p := by
  match i, hi with
  | 0, _ => exact ⟨p1, h1, rfl⟩
  | 1, _ => exact ⟨p2, h2, rfl⟩
  | 2, _ => exact ⟨p3, h3, rfl⟩
  | 3, _ => exact ⟨p4, h4, rfl⟩
theorem ok_law {f : Addr} {fd : FuncData} (F : Fun K "law" "law" s_law f fd) (D_ratio_of : Df P w K mg base 3 "ratio_of" ["thing"] (sp_ratio_of K))
    (D_plus : Df P w K mg base 4 "plus" ["one", "other"] (sp_plus K)) (D_minus : Df P w K mg base 4 "minus" ["one", "other"] (sp_minus K)) (D_times : Df P w K mg base 4 "times" ["one", "other"] (sp_times K)) (D_over : Df P w K mg base 4 "over" ["one", "other"] (sp_over K CX)) (D_compare : Df P w K mg base 4 "compare" ["one", "other"] (sp_compare K))
    (D__law_hand : Df P w K mg base 1 "_law_hand" ["_law_script"] (sp_hand K)) (D__law_thing : Df P w K mg base 3 "_law_thing" ["_law_hand_here"] (sp_thing K)) (D__law_two : Df P w K mg base 6 "_law_two" ["_law_x", "_law_y"] (sp_two K)) :
    FnOk P w K mg base (L2.CX P w) 7 f fd ["_law_script"] (sp_law K) := by
  refine okW F sc_law (fun i => rfl) (by decide) (fun cdv A outer s H E hr => ⟨_, (pss_cons (ps_set (i := 1) sc_law.nd rfl (Or.inl rfl) (pe_df D__law_hand (hr.mono (by decide)) (takes_of rfl rfl rfl rfl) (pa_cons (pv 0) pa_nil))) (pss_cons (ps_set (i := 2) sc_law.nd rfl (Or.inl rfl) (pe_df D__law_thing (hr.mono (by decide)) (takes_of rfl rfl rfl rfl) (pa_cons (pv 1) pa_nil))) (pss_cons (ps_set (i := 3) sc_law.nd rfl (Or.inl rfl) (pe_df D__law_thing (hr.mono (by decide)) (takes_of rfl rfl rfl rfl) (pa_cons (pv 1) pa_nil))) (pss_cons (ps_set (i := 4) sc_law.nd rfl (Or.inl rfl) (pe_df D__law_thing (hr.mono (by decide)) (takes_of rfl rfl rfl rfl) (pa_cons (pv 1) pa_nil))) (pss_cons (ps_set (i := 5) sc_law.nd rfl (Or.inl rfl) (pe_lst (pa_cons (pe_tup (pa_cons (pe_op op_mulA (pe_un un_neg pe_int) (pe_ix ix_seq (pv 2) pe_int (fun _ _ => rfl))) (pa_cons (pe_op op_mulA pe_int (pe_ix ix_seq (pv 2) pe_int (fun _ _ => rfl))) pa_nil))) (pa_cons (pe_un un_neg (pe_ix ix_seq (pv 2) pe_int (fun _ _ => rfl))) (pa_cons (pe_ix ix_seq (pv 2) pe_int (fun _ _ => rfl)) pa_nil))))) (pss_cons (ps_for (passes_of rfl) rfl (pi_list (pe_lst (pa_cons (pv 2) (pa_cons (pv 3) (pa_cons (pv 4) (pa_cons (pv 5) pa_nil)))))) (pg_name (i := 6) sc_law.nd rfl (Or.inl rfl)) (pss_one (ps_for (passes_of rfl) rfl (pi_list (pe_lst (pa_cons (pv 2) (pa_cons (pv 3) (pa_cons (pv 4) (pa_cons (pv 5) pa_nil)))))) (pg_name (i := 7) sc_law.nd rfl (Or.inl rfl)) (pss_one (ps_if (pt_not (pt_val (pe_df D__law_two (hr.mono (by decide)) (takes_of rfl rfl rfl rfl) (pa_cons (pv 6) (pa_cons (pv 7) pa_nil))))) (pss_one (ps_ret pe_bl)) pss_nil))))) (pss_cons (ps_set (i := 8) sc_law.nd rfl (Or.inl rfl) (pe_df D_plus (hr.mono (by decide)) (takes_of rfl rfl rfl rfl) (pa_cons (pe_ix ix_seq (pv 2) pe_int (fun _ _ => rfl)) (pa_cons (pe_df D_plus (hr.mono (by decide)) (takes_of rfl rfl rfl rfl) (pa_cons (pe_ix ix_seq (pv 3) pe_int (fun _ _ => rfl)) (pa_cons (pe_ix ix_seq (pv 4) pe_int (fun _ _ => rfl)) pa_nil))) pa_nil)))) (pss_cons (ps_if (PW.pt (pw_or (pt_cmpR (op_neA hr.units) (pv 8) (pe_df D_plus (hr.mono (by decide)) (takes_of rfl rfl rfl rfl) (pa_cons (pe_df D_plus (hr.mono (by decide)) (takes_of rfl rfl rfl rfl) (pa_cons (pe_ix ix_seq (pv 2) pe_int (fun _ _ => rfl)) (pa_cons (pe_ix ix_seq (pv 3) pe_int (fun _ _ => rfl)) pa_nil))) (pa_cons (pe_ix ix_seq (pv 4) pe_int (fun _ _ => rfl)) pa_nil))) (nomark _)) (pw_or1 (pt_cmpR (op_neA hr.units) (pe_df D_minus (hr.mono (by decide)) (takes_of rfl rfl rfl rfl) (pa_cons (pv 8) (pa_cons (pe_ix ix_seq (pv 4) pe_int (fun _ _ => rfl)) pa_nil))) (pe_df D_plus (hr.mono (by decide)) (takes_of rfl rfl rfl rfl) (pa_cons (pe_ix ix_seq (pv 3) pe_int (fun _ _ => rfl)) (pa_cons (pe_ix ix_seq (pv 2) pe_int (fun _ _ => rfl)) pa_nil))) (nomark _))))) (pss_one (ps_ret pe_bl)) pss_nil) (pss_cons (ps_if (pt_cmpR (op_neA hr.units) (pe_df D_times (hr.mono (by decide)) (takes_of rfl rfl rfl rfl) (pa_cons (pe_ix ix_seq (pv 2) pe_int (fun _ _ => rfl)) (pa_cons (pe_df D_plus (hr.mono (by decide)) (takes_of rfl rfl rfl rfl) (pa_cons (pe_ix ix_seq (pv 3) pe_int (fun _ _ => rfl)) (pa_cons (pe_ix ix_seq (pv 4) pe_int (fun _ _ => rfl)) pa_nil))) pa_nil))) (pe_df D_plus (hr.mono (by decide)) (takes_of rfl rfl rfl rfl) (pa_cons (pe_df D_times (hr.mono (by decide)) (takes_of rfl rfl rfl rfl) (pa_cons (pe_ix ix_seq (pv 2) pe_int (fun _ _ => rfl)) (pa_cons (pe_ix ix_seq (pv 3) pe_int (fun _ _ => rfl)) pa_nil))) (pa_cons (pe_df D_times (hr.mono (by decide)) (takes_of rfl rfl rfl rfl) (pa_cons (pe_ix ix_seq (pv 4) pe_int (fun _ _ => rfl)) (pa_cons (pe_ix ix_seq (pv 2) pe_int (fun _ _ => rfl)) pa_nil))) pa_nil))) (nomark _)) (pss_one (ps_ret pe_bl)) pss_nil) (pss_cons (ps_if (PW.pt (pw_or (pt_cmpR (op_neA hr.units) (pe_df D_plus (hr.mono (by decide)) (takes_of rfl rfl rfl rfl) (pa_cons (pe_ix ix_seq (pv 2) pe_int (fun _ _ => rfl)) (pa_cons (pe_ix ix_seq (pv 5) pe_int (fun _ _ => rfl)) pa_nil))) (pe_tup (pa_cons pe_int (pa_cons pe_int pa_nil))) (nomark _)) (pw_or1 (pt_cmpR (op_neA hr.units) (pe_df D_compare (hr.mono (by decide)) (takes_of rfl rfl rfl rfl) (pa_cons (pe_df D_minus (hr.mono (by decide)) (takes_of rfl rfl rfl rfl) (pa_cons (pe_ix ix_seq (pv 3) pe_int (fun _ _ => rfl)) (pa_cons (pe_ix ix_seq (pv 3) pe_int (fun _ _ => rfl)) pa_nil))) (pa_cons pe_int pa_nil))) pe_int (nomark _))))) (pss_one (ps_ret pe_bl)) pss_nil) (pss_cons (ps_if (PW.pt (pw_and (pt_cmpR (op_neA hr.units) (pe_ix ix_seq (pv 4) pe_int (fun _ _ => rfl)) pe_int (nomark _)) (pw_and1 (pt_cmpR (op_neA hr.units) (pe_df D_over (hr.mono (by decide)) (takes_of rfl rfl rfl rfl) (pa_cons (pe_df D_times (hr.mono (by decide)) (takes_of rfl rfl rfl rfl) (pa_cons (pe_ix ix_seq (pv 3) pe_int (fun _ _ => rfl)) (pa_cons (pe_ix ix_seq (pv 4) pe_int (fun _ _ => rfl)) pa_nil))) (pa_cons (pe_ix ix_seq (pv 4) pe_int (fun _ _ => rfl)) pa_nil))) (pe_df D_ratio_of (hr.mono (by decide)) (takes_of rfl rfl rfl rfl) (pa_cons (pe_ix ix_seq (pv 3) pe_int (fun _ _ => rfl)) pa_nil)) (nomark _))))) (pss_one (ps_ret pe_bl)) pss_nil) (pss_one (ps_ret (pe_cmpR (op_eqA hr.units) (pe_df D_compare (hr.mono (by decide)) (takes_of rfl rfl rfl rfl) (pa_cons (pe_df D_plus (hr.mono (by decide)) (takes_of rfl rfl rfl rfl) (pa_cons (pe_ix ix_seq (pv 2) pe_int (fun _ _ => rfl)) (pa_cons (pe_ix ix_seq (pv 4) pe_int (fun _ _ => rfl)) pa_nil))) (pa_cons (pe_df D_plus (hr.mono (by decide)) (takes_of rfl rfl rfl rfl) (pa_cons (pe_ix ix_seq (pv 3) pe_int (fun _ _ => rfl)) (pa_cons (pe_ix ix_seq (pv 4) pe_int (fun _ _ => rfl)) pa_nil))) pa_nil))) (pe_df D_compare (hr.mono (by decide)) (takes_of rfl rfl rfl rfl) (pa_cons (pe_ix ix_seq (pv 2) pe_int (fun _ _ => rfl)) (pa_cons (pe_ix ix_seq (pv 3) pe_int (fun _ _ => rfl)) pa_nil))) (nomark _))))))))))))))), fun ns c => ⟨Dead, ?_, fun _ _ h => (dead h).elim⟩⟩)
  have hl : ns.length ≤ 63 := c
  show St (RsW WL E NoX 9) [some (Lst K (ns.map fun n => Is (.int n))), none, none, none, none, none, none, none, none] _ Dead (Is (.bl true))
  refine st_seq (st_set (ev_call (ea_cons (ev_var rfl) ea_nil) (cl_hand hl))) ?_
  refine st_seq (st_set (ev_call (ea_cons (ev_var rfl) ea_nil) cl_thing)) ?_
  refine st_seq (st_set (ev_call (ea_cons (ev_var rfl) ea_nil) cl_thing)) ?_
  refine st_seq (st_set (ev_call (ea_cons (ev_var rfl) ea_nil) cl_thing)) ?_
  refine st_open 2 rfl fun p1 h1 => ?_
  refine st_open 3 rfl fun p2 h2 => ?_
  refine st_open 4 rfl fun p3 h3 => ?_
  have sq := sz_mono (m := 600) h1.sz (by decide)
  have sr := sz_mono (m := 600) h2.sz (by decide)
  have ss := sz_mono (m := 600) h3.sz (by decide)
  have m3 : ∀ i : Int, Big 134 i → Big 140 (3 * i) ∧ Big 140 (-3 * i) := fun i h => ⟨big_mono (big_mul (big_of (n := 2) (i := 3) (by decide) (by decide)) h) (by decide), big_mono (big_mul (big_of (n := 2) (i := -3) (by decide) (by decide)) h) (by decide)⟩
  have h4 : okab (-p1.1, p1.2) := ⟨h1.1, big_neg h1.2.1, h1.2.2⟩
  have sb := sz_mono (m := 600) h4.sz (by decide)
  refine st_seq (st_set (P := Thing K (-p1.1, p1.2)) (ev_lst (K := K) (ea_cons (Ev.sub (ev_tup (K := K) (ea_cons (ev_op (ev_un ev_c op1_neg) (ev_op (ev_var rfl) ev_c (o_ixL (i := 1) rfl)) (o_mul (n := 2) (big_of (by decide) (by decide)) h1.2.1 (by decide))) (ea_cons (ev_op ev_c (ev_op (ev_var rfl) ev_c (o_ixL (i := 2) rfl)) (o_mul (n := 2) (big_of (by decide) (by decide)) h1.2.2 (by decide))) ea_nil))) fun v H h => thing_of (p := (-p1.1, p1.2)) (i := (-3 * p1.1, 3 * p1.2)) ⟨by have := h1.1; show 0 < 3 * p1.2; omega, (m3 _ h1.2.1).2, (m3 _ h1.2.2).1⟩ ?_ h) (ea_cons (ev_un (ev_op (ev_var rfl) ev_c (o_ixL (i := 1) rfl)) op1_neg) (ea_cons (ev_op (ev_var rfl) ev_c (o_ixL (i := 2) rfl)) ea_nil))) (fun vs H h => hs3 vs H h []))) ?_
  · show Rat.divInt (-3 * p1.1) (3 * p1.2) = Rat.divInt (-p1.1) p1.2
    rw [show -3 * p1.1 = -p1.1 * 3 by omega, show 3 * p1.2 = p1.2 * 3 by omega, Rat.divInt_mul_right (by decide)]
  refine st_seq (M := [some (Lst K (ns.map fun n => Is (.int n))), some Hand, some (Thing K p1), some (Thing K p2), some (Thing K p3), some (Thing K (-p1.1, p1.2)), none, none, none]) ?_ ?_
  · refine st_for (Y := RsW WL E NoX 9) (ei_list (Y := RsW WL E NoX 9) (K := K) (Ps := [Thing K p1, Thing K p2, Thing K p3, Thing K (-p1.1, p1.2)]) (ev_lst (Y := RsW WL E NoX 9) (ea_cons (ev_var rfl) (ea_cons (ev_var rfl) (ea_cons (ev_var rfl) (ea_cons (ev_var rfl) ea_nil)))) (fun vs H h => hs4 vs H h))) (fun _ => [some (Lst K (ns.map fun n => Is (.int n))), some Hand, some (Thing K p1), some (Thing K p2), some (Thing K p3), some (Thing K (-p1.1, p1.2)), none, none, none]) sub_refl (fun i hi => ?_)
    obtain ⟨p, hp, ep⟩ := nth4 (K := K) h1 h2 h3 h4 i hi
    rw [ep]
    refine st_post (N' := [some (Lst K (ns.map fun n => Is (.int n))), some Hand, some (Thing K p1), some (Thing K p2), some (Thing K p3), some (Thing K (-p1.1, p1.2)), some (Thing K p), none, none]) ?_ (sub_keep (sub_keep (sub_keep (sub_keep (sub_keep (sub_keep (sub_drop (sub_keep (sub_keep sub_nil))))))))) (fun _ _ h => h)
    refine st_for (Y := RsW WL E NoX 9) (ei_list (Y := RsW WL E NoX 9) (K := K) (Ps := [Thing K p1, Thing K p2, Thing K p3, Thing K (-p1.1, p1.2)]) (ev_lst (Y := RsW WL E NoX 9) (ea_cons (ev_var rfl) (ea_cons (ev_var rfl) (ea_cons (ev_var rfl) (ea_cons (ev_var rfl) ea_nil)))) (fun vs H h => hs4 vs H h))) (fun _ => [some (Lst K (ns.map fun n => Is (.int n))), some Hand, some (Thing K p1), some (Thing K p2), some (Thing K p3), some (Thing K (-p1.1, p1.2)), some (Thing K p), none, none]) sub_refl (fun j hj => ?_)
    obtain ⟨p', hp', ep'⟩ := nth4 (K := K) h1 h2 h3 h4 j hj
    rw [ep']
    refine st_post (N' := [some (Lst K (ns.map fun n => Is (.int n))), some Hand, some (Thing K p1), some (Thing K p2), some (Thing K p3), some (Thing K (-p1.1, p1.2)), some (Thing K p), some (Thing K p'), none]) (st_if (Y := RsW WL E NoX 9) (et_not (et_B (ev_call (ea_cons (ev_var rfl) (ea_cons (ev_var rfl) ea_nil)) (cl_two hp hp')))) (fun h => by cases h) (fun _ => st_next)) (sub_keep (sub_keep (sub_keep (sub_keep (sub_keep (sub_keep (sub_keep (sub_drop (sub_keep sub_nil))))))))) (fun _ _ h => h)
  have z1 := h1.sz
  have z2 := h2.sz
  have z3 := h3.sz
  have s_rs := sz_add z2 z3
  have s_qr := sz_add z1 z2
  have s_w := sz_add z1 s_rs
  have s_qs := sz_add z1 z3
  have s_rs' := sz_mono (m := 600) s_rs (by decide)
  have s_qr' := sz_mono (m := 600) s_qr (by decide)
  have s_w' := sz_mono (m := 600) s_w (by decide)
  have s_qs' := sz_mono (m := 600) s_qs (by decide)
  have s_mqr := sz_mono (m := 600) (sz_mul z1 z2) (by decide)
  have s_msq := sz_mono (m := 600) (sz_mul z3 z1) (by decide)
  have s_mrs := sz_mono (m := 600) (sz_mul z2 z3) (by decide)
  have s_rr := sz_mono (m := 600) (sz_sub z2 z2) (by decide)
  have s_0 : Sz 600 0 := ⟨by unfold Big; decide, by decide⟩
  refine st_seq (st_set (e_plus (ev_th rfl) (Ev.ir (e_plus (ev_th rfl) (ev_th rfl) sr ss) s_rs') sq s_rs')) ?_
  refine st_seq (st_if (et_or (et_test (ev_op (ev_var rfl) (e_plus (Ev.ir (e_plus (ev_th rfl) (ev_th rfl) sq sr) s_qr') (ev_th rfl) s_qr' ss) o_neTold)) fun _ => et_test (ev_op (e_minus (Ev.ir (ev_var rfl) s_w') (ev_th rfl) s_w' ss) (e_plus (ev_th rfl) (ev_th rfl) sr sq) o_neTold)) (fun h => ?_) (fun _ => st_next)) ?_
  · rw [decide_eq_true (by grind), decide_eq_true (by grind)] at h
    cases h
  refine st_seq (st_if (et_test (ev_op (e_times (ev_th rfl) (Ev.ir (e_plus (ev_th rfl) (ev_th rfl) sr ss) s_rs') sq s_rs') (e_plus (Ev.ir (e_times (ev_th rfl) (ev_th rfl) sq sr) s_mqr) (Ev.ir (e_times (ev_th rfl) (ev_th rfl) ss sq) s_msq) s_mqr s_msq) o_neTold)) (fun h => ?_) (fun _ => st_next)) ?_
  · rw [decide_eq_true (by grind)] at h
    cases h
  refine st_seq (st_if (et_or (et_test (ev_op (e_plus (ev_th rfl) (ev_th rfl) sq sb) (Ev.sub (P' := Told K 0) (ev_tup (K := K) (ea_cons ev_c (ea_cons ev_c ea_nil))) fun _ _ h => h) o_neTold)) fun _ => et_test (ev_op (e_compare (Ev.ir (e_minus (ev_th rfl) (ev_th rfl) sr sr) s_rr) (Ev.sub (P' := IsR K 600 0) ev_c fun v H e => .inl ⟨0, e, by unfold Big; decide, by simp⟩) s_rr s_0) ev_c o_neI)) (fun h => ?_) (fun _ => st_next)) ?_
  · have e1 : Rat.divInt p1.1 p1.2 + Rat.divInt (-p1.1, p1.2).1 (-p1.1, p1.2).2 = 0 := by
      show Rat.divInt p1.1 p1.2 + Rat.divInt (-p1.1) p1.2 = 0
      rw [← Rat.neg_divInt]; grind
    have e2 : cmpR (Rat.divInt p2.1 p2.2 - Rat.divInt p2.1 p2.2) 0 = 0 := by
      rw [Rat.sub_self]
      unfold cmpR
      rw [if_neg Rat.lt_irrefl, if_pos rfl]
    rw [e2, decide_eq_true e1] at h
    cases h
  refine st_seq (st_if (b := decide (p3.1 ≠ 0) && !decide (Rat.divInt p2.1 p2.2 * Rat.divInt p3.1 p3.2 / Rat.divInt p3.1 p3.2 = Rat.divInt p2.1 p2.2)) (et_and (et_test (ev_op (ev_op (ev_var rfl) ev_c (o_ixL (i := 1) rfl)) ev_c o_neI)) fun h => et_test (ev_op (ev_call (ea_cons (Ev.ir (e_times (ev_th rfl) (ev_th rfl) sr ss) s_mrs) (ea_cons (ev_th rfl) ea_nil)) (cl_over (by decide) s_mrs ss fun z => of_decide_eq_true h ((divInt_zero_iff (by have := h3.1; omega)).mp z))) (ev_call (ea_cons (ev_th rfl) ea_nil) (cl_ratio_of (by decide))) o_neTold)) (fun h => ?_) (fun _ => st_next)) ?_
  · have hz := of_decide_eq_true ((Bool.and_eq_true _ _).mp h).1
    have hz2 : Rat.divInt p3.1 p3.2 ≠ 0 := fun z => hz ((divInt_zero_iff (by have := h3.1; omega)).mp z)
    have e2 := ((Bool.and_eq_true _ _).mp h).2
    rw [decide_eq_true (by grind)] at e2
    cases e2
  refine st_ret (Ev.to (ev_op (e_compare (Ev.ir (e_plus (ev_th rfl) (ev_th rfl) sq ss) s_qs') (Ev.ir (e_plus (ev_th rfl) (ev_th rfl) sr ss) s_rs') s_qs' s_rs') (e_compare (ev_th rfl) (ev_th rfl) sq sr) o_eqI) ?_)
  rw [decide_eq_true (cmp_add _ _ _)]
end
end U

namespace U
open PySem PySem.Spec PyProof.Rows L2
/-! ### all defs -/
theorem all_mk {P : Program} {w : World} {K : PySem.W.Frag} {h : Heap} {mg : Str → Option Value} {fa : Addr} {CX : Addrs} (X : K.In h) (G : h.Ns mainGlobals mg) (hfa : mg "law" = some (.ref fa))
    (H_is_whole : HasFn K "is_whole" s_is_whole)
    (H_is_ratio : HasFn K "is_ratio" s_is_ratio)
    (H_lowest_terms : HasFn K "lowest_terms" s_lowest_terms)
    (H_ratio_of : HasFn K "ratio_of" s_ratio_of)
    (H_plus : HasFn K "plus" s_plus)
    (H_minus : HasFn K "minus" s_minus)
    (H_times : HasFn K "times" s_times)
    (H_over : HasFn K "over" s_over)
    (H_compare : HasFn K "compare" s_compare)
    (H__law_mix : HasFn K "_law_mix" s__law_mix)
    (H__law_hand : HasFn K "_law_hand" s__law_hand)
    (H__law_draw : HasFn K "_law_draw" s__law_draw)
    (H__law_low : HasFn K "_law_low" s__law_low)
    (H__law_is_ratio : HasFn K "_law_is_ratio" s__law_is_ratio)
    (H__law_thing : HasFn K "_law_thing" s__law_thing)
    (H__law_same : HasFn K "_law_same" s__law_same)
    (H__law_order : HasFn K "_law_order" s__law_order)
    (H__law_over : HasFn K "_law_over" s__law_over)
    (H__law_two : HasFn K "_law_two" s__law_two)
    (H_law : HasFn K "law" s_law)
    (T : Txt P w K mg CX) : ∃ fd : FuncData, (∀ (s : Shared) (v : Value), BindsTo s fd ⟨[v], []⟩ [("_law_script", v)]) ∧ ∀ base : Heap, K.In base → base.Ns mainGlobals mg → FnOk P w K mg base (L2.CX P w) 7 fa fd ["_law_script"] (sp_law K) := by
  obtain ⟨f, fd, a, F⟩ := H_law
  have e := hfa.symm.trans (PySem.W.mg_of X G a)
  cases e
  refine ⟨fd, ?_, fun base _ _ => ?_⟩
  · obtain ⟨oc, od, kV, doc, pm, an, cdv, ct, osl, rfl, lk, hcd⟩ := F.ex
    exact fun s v => .of_eq rfl
  have D_is_whole := has_df (P := P) (w := w) (base := base) H_is_whole X G (fun f fd F => ok_is_whole F T) (fun _ _ _ _ _ _ us hl => match us, hl with | [_], _ => rfl)
  have D_is_ratio := has_df (P := P) (w := w) (base := base) H_is_ratio X G (fun f fd F => ok_is_ratio F T D_is_whole) (fun _ _ _ _ _ _ us hl => match us, hl with | [_], _ => rfl)
  have D_lowest_terms := has_df (P := P) (w := w) (base := base) H_lowest_terms X G (fun f fd F => ok_lowest_terms F T) (fun _ _ _ _ _ _ us hl => match us, hl with | [_, _], _ => rfl)
  have D_ratio_of := has_df (P := P) (w := w) (base := base) H_ratio_of X G (fun f fd F => ok_ratio_of F T D_is_ratio D_lowest_terms) (fun _ _ _ _ _ _ us hl => match us, hl with | [_], _ => rfl)
  have D_plus := has_df (P := P) (w := w) (base := base) H_plus X G (fun f fd F => ok_plus F D_ratio_of D_lowest_terms) (fun _ _ _ _ _ _ us hl => match us, hl with | [_, _], _ => rfl)
  have D_minus := has_df (P := P) (w := w) (base := base) H_minus X G (fun f fd F => ok_minus F D_ratio_of D_lowest_terms) (fun _ _ _ _ _ _ us hl => match us, hl with | [_, _], _ => rfl)
  have D_times := has_df (P := P) (w := w) (base := base) H_times X G (fun f fd F => ok_times F D_ratio_of D_lowest_terms) (fun _ _ _ _ _ _ us hl => match us, hl with | [_, _], _ => rfl)
  have D_over := has_df (P := P) (w := w) (base := base) H_over X G (fun f fd F => ok_over F T D_ratio_of D_lowest_terms) (fun _ _ _ _ _ _ us hl => match us, hl with | [_, _], _ => rfl)
  have D_compare := has_df (P := P) (w := w) (base := base) H_compare X G (fun f fd F => ok_compare F D_ratio_of) (fun _ _ _ _ _ _ us hl => match us, hl with | [_, _], _ => rfl)
  have D__law_mix := has_df (P := P) (w := w) (base := base) H__law_mix X G (fun f fd F => ok_mix F T) (fun _ _ _ _ _ _ us hl => match us, hl with | [_, _], _ => rfl)
  have D__law_hand := has_df (P := P) (w := w) (base := base) H__law_hand X G (fun f fd F => ok_hand F T) (fun _ _ _ _ _ _ us hl => match us, hl with | [_], _ => rfl)
  have D__law_draw := has_df (P := P) (w := w) (base := base) H__law_draw X G (fun f fd F => ok_draw F T D__law_mix) (fun _ _ _ _ _ _ us hl => match us, hl with | [_, _], _ => rfl)
  have D__law_low := has_df (P := P) (w := w) (base := base) H__law_low X G (fun f fd F => ok_low F T) (fun _ _ _ _ _ _ us hl => match us, hl with | [_, _], _ => rfl)
  have D__law_is_ratio := has_df (P := P) (w := w) (base := base) H__law_is_ratio X G (fun f fd F => ok_isr F T D__law_low) (fun _ _ _ _ _ _ us hl => match us, hl with | [_], _ => rfl)
  have D__law_thing := has_df (P := P) (w := w) (base := base) H__law_thing X G (fun f fd F => ok_thing F D__law_draw) (fun _ _ _ _ _ _ us hl => match us, hl with | [_], _ => rfl)
  have D__law_same := has_df (P := P) (w := w) (base := base) H__law_same X G (fun f fd F => ok_same F D__law_low D__law_is_ratio) (fun _ _ _ _ _ _ us hl => match us, hl with | [_, _, _], _ => rfl)
  have D__law_order := has_df (P := P) (w := w) (base := base) H__law_order X G (fun f fd F => ok_order F T) (fun _ _ _ _ _ _ us hl => match us, hl with | [_, _], _ => rfl)
  have D__law_over := has_df (P := P) (w := w) (base := base) H__law_over X G (fun f fd F => ok_lover F T D_over) (fun _ _ _ _ _ _ us hl => match us, hl with | [_, _], _ => rfl)
  have D__law_two := has_df (P := P) (w := w) (base := base) H__law_two X G (fun f fd F => ok_two F T D_ratio_of D_lowest_terms D_plus D_minus D_times D_compare D__law_same D__law_order D__law_over) (fun _ _ _ _ _ _ us hl => match us, hl with | [_, _], _ => rfl)
  exact ok_law F D_ratio_of D_plus D_minus D_times D_over D_compare D__law_hand D__law_thing D__law_two
/-! ### the error -/
abbrev s_BadRatio : Stmt := inClass (top 3) 0
theorem it_BadRatio {cc cda fI : Addr} {kV doc pm ct : Value} {an : Option Addr} : ∃ msg, PySem.USup.InitText (supFn "BadRatio.__init__" s_BadRatio cc kV doc pm an cda ct) fI [] msg [] ∧ ∃ x j p, msg = .Constant (.str x) j p :=
  ⟨_, { body := ⟨_, _, _, _, _, _, rfl, fun L => ⟨.nil, rfl, ⟨_, rfl⟩, rfl, rfl, rfl⟩⟩, kind := rfl, co := rfl, gen := rfl, cell := (show ∀ x ∈ (defScope s_BadRatio).names, x.2 ≠ NameKind.cell by decide +kernel), ks := rfl, kc := rfl, kf := rfl, kp := (fun x h => by cases h), pp := ⟨_, rfl, rfl⟩, bind := (fun us hl => match us, hl with | [_], _ => rfl), nself := (fun h => by cases h) }, _, _, _, rfl⟩
theorem er_BadRatio {P : Program} {w : World} {K : PySem.W.Frag} {mg : Str → Option Value} {h : Heap} {C : Addr} {cc cda fI : Addr} {kV doc pm ct : Value} {an : Option Addr} (X : K.In h) (G : h.Ns mainGlobals mg) (E : ErK K "BadRatio" C) (F : ErF P K C "BadRatio.__init__" s_BadRatio cc cda fI (supFn "BadRatio.__init__" s_BadRatio cc kV doc pm an cda ct))
    (gS : PySem.W.nsIn K mainGlobals "super" = some none) : Er P w K mg "BadRatio" C [] [] fun _ => True := by
  obtain ⟨msg, IT, x, j, p, rfl⟩ := it_BadRatio (cc := cc) (cda := cda) (fI := fI) (kV := kV) (doc := doc) (pm := pm) (ct := ct) (an := an)
  exact er_of X G E F gS IT (fun _ _ _ _ _ _ _ => PySem.USup.msg_const) (fun _ h => by cases h) (by decide) (by decide)
theorem txt_mk {P : Program} {w : World} {K : PySem.W.Frag} {mg : Str → Option Value} {h : Heap} {C C0 : Addr} {cc cda fI : Addr} {kV doc pm ct : Value} {an : Option Addr} (X : K.In h) (G : h.Ns mainGlobals mg) (E : ErK K "BadRatio" C) (F : ErF P K C "BadRatio.__init__" s_BadRatio cc cda fI (supFn "BadRatio.__init__" s_BadRatio cc kV doc pm an cda ct))
    (g0 : PySem.W.nsIn K mainGlobals "GapError" = some (some (.ref C0))) (i0 : PySem.W.isClsIn K C0 = true) (t0 : PySem.W.typeIn K (.ref C0) = some (.type "type")) (s0 : PySem.W.subIn K (.ref C) (.ref C0) = some true)
    (zs : PySem.W.nsIn K mainGlobals "super" = some none) (z1 : PySem.W.nsIn K mainGlobals "isinstance" = some none) (z2 : PySem.W.nsIn K mainGlobals "len" = some none) (z3 : PySem.W.nsIn K mainGlobals "int" = some none) (z4 : PySem.W.nsIn K mainGlobals "bool" = some none) (z5 : PySem.W.nsIn K mainGlobals "tuple" = some none)
    (z6 : PySem.W.nsIn K mainGlobals "abs" = some none) (z7 : PySem.W.nsIn K mainGlobals "enumerate" = some none) (z8 : PySem.W.nsIn K mainGlobals "ValueError" = some none) (g1 : PySem.W.nsIn K mainGlobals "gcd" = some (some (.builtin "math.gcd"))) : Txt P w K mg ⟨C, C0⟩ :=
  { n_isinstance := PySem.W.mg_none_of X G z1, n_len := PySem.W.mg_none_of X G z2, n_int := PySem.W.mg_none_of X G z3, n_bool := PySem.W.mg_none_of X G z4, n_tuple := PySem.W.mg_none_of X G z5, n_abs := PySem.W.mg_none_of X G z6, n_enumerate := PySem.W.mg_none_of X G z7, n_ValueError := PySem.W.mg_none_of X G z8,
    i_gcd := PySem.W.mg_of X G g1, g_BadRatio := PySem.W.mg_of X G E.gC, g_GapError := PySem.W.mg_of X G g0, c_BadRatio := er_BadRatio X G E F zs, x_BadRatio := E.exC', m_BadRatio := E.exm, k_BadRatio_GapError := kit_own i0 t0 s0, k_BadRatio_ValueError := kit_bt (by decide +kernel) F.hB }
theorem allp_ints {H : Hp} : ∀ ns : List Int, AllP (ns.map fun n => Is (.int n)) (ns.map V.int) H
  | [] => True.intro
  | _ :: ns => ⟨rfl, allp_ints ns⟩
theorem walk {l : PySem.W.OpenLaw} {q : Program} {loose : List Str} {XP : (Str → Option Value) → Heap → Prop} {YP : World → Heap → Prop} {d : DefRec} {K : Params → PySem.W.Frag} (hn : l.most = some 63) (hdf : d.params.defaults = [])
    (hY : ∀ (w : World) (h : Heap), YP w h → (K w.params).In h)
    (F : ∀ (w : World) (mg : Str → Option Value) (fa : Addr) (h : Heap), (K w.params).In h → h.Ns mainGlobals mg → mg d.name = some (.ref fa) →
      ∃ fd : FuncData, (∀ (s : Shared) (u : Value), BindsTo s fd ⟨[u], []⟩ [("_law_script", u)]) ∧ ∀ base : Heap, (K w.params).In base → base.Ns mainGlobals mg → FnOk l.prog w (K w.params) mg base (L2.CX l.prog w) 7 fa fd ["_law_script"] (sp_law (K w.params))) :
    PySem.W.WalkO q loose XP YP l.row.toRowW d [] (fun f vs => PySem.call f vs) :=
  L2.walk_of (n := 63) (k := 7) (x := "_law_script") (CX := fun w => L2.CX l.prog w) (sp := fun w => sp_law (K w.params)) hn (by decide) hdf ⟨rfl, by decide, by decide⟩ hY F
    (fun _ _ a ns hl _ hS => ⟨ns, hl, ⟨⟨a, ns.map V.int, rfl, hS, hs_ints ns, allp_ints ns⟩, True.intro⟩, fun _ _ _ e => e, fun _ _ _ _ z => z.elim⟩)
    fun _ _ _ _ _ z => by
      obtain ⟨_, _, _, _, _, _, _, _, _, _, _, z⟩ := z
      exact z.2
end U

open PySem PySem.W PyProof.Rows
set_option maxRecDepth 100000 in
set_option maxHeartbeats 0 in
theorem PySem.Challenge.cw_untoldgaps_k01_ratios_added_and_divided_holds : PySem.Challenge.rw_untoldgaps_k01_ratios_added_and_divided.Holds := by
  w_on; o_law; k_head; (case hw => w_witness2)
  k_fill
  refine U.walk (l := PySem.Challenge.rw_untoldgaps_k01_ratios_added_and_divided) rfl rfl (fun w h Y => PySem.W.kIn_of Y) ?F
  case F =>
    intro w mg fa h KX G hmg
    refine' U.all_mk KX G hmg ?h_is_whole ?h_is_ratio ?h_lowest_terms ?h_ratio_of ?h_plus ?h_minus ?h_times ?h_over ?h_compare ?h__law_mix ?h__law_hand ?h__law_draw ?h__law_low ?h__law_is_ratio ?h__law_thing ?h__law_same ?h__law_order ?h__law_over ?h__law_two ?h_law ?T
    (case h_is_whole => refine' U.has_fn ?a ?l ?c ?k; (case a => k_is); (case l => k_is); (case c => k_is); (case k => k_is))
    (case h_is_ratio => refine' U.has_fn ?a ?l ?c ?k; (case a => k_is); (case l => k_is); (case c => k_is); (case k => k_is))
    (case h_lowest_terms => refine' U.has_fn ?a ?l ?c ?k; (case a => k_is); (case l => k_is); (case c => k_is); (case k => k_is))
    (case h_ratio_of => refine' U.has_fn ?a ?l ?c ?k; (case a => k_is); (case l => k_is); (case c => k_is); (case k => k_is))
    (case h_plus => refine' U.has_fn ?a ?l ?c ?k; (case a => k_is); (case l => k_is); (case c => k_is); (case k => k_is))
    (case h_minus => refine' U.has_fn ?a ?l ?c ?k; (case a => k_is); (case l => k_is); (case c => k_is); (case k => k_is))
    (case h_times => refine' U.has_fn ?a ?l ?c ?k; (case a => k_is); (case l => k_is); (case c => k_is); (case k => k_is))
    (case h_over => refine' U.has_fn ?a ?l ?c ?k; (case a => k_is); (case l => k_is); (case c => k_is); (case k => k_is))
    (case h_compare => refine' U.has_fn ?a ?l ?c ?k; (case a => k_is); (case l => k_is); (case c => k_is); (case k => k_is))
    (case h__law_mix => refine' U.has_fn ?a ?l ?c ?k; (case a => k_is); (case l => k_is); (case c => k_is); (case k => k_is))
    (case h__law_hand => refine' U.has_fn ?a ?l ?c ?k; (case a => k_is); (case l => k_is); (case c => k_is); (case k => k_is))
    (case h__law_draw => refine' U.has_fn ?a ?l ?c ?k; (case a => k_is); (case l => k_is); (case c => k_is); (case k => k_is))
    (case h__law_low => refine' U.has_fn ?a ?l ?c ?k; (case a => k_is); (case l => k_is); (case c => k_is); (case k => k_is))
    (case h__law_is_ratio => refine' U.has_fn ?a ?l ?c ?k; (case a => k_is); (case l => k_is); (case c => k_is); (case k => k_is))
    (case h__law_thing => refine' U.has_fn ?a ?l ?c ?k; (case a => k_is); (case l => k_is); (case c => k_is); (case k => k_is))
    (case h__law_same => refine' U.has_fn ?a ?l ?c ?k; (case a => k_is); (case l => k_is); (case c => k_is); (case k => k_is))
    (case h__law_order => refine' U.has_fn ?a ?l ?c ?k; (case a => k_is); (case l => k_is); (case c => k_is); (case k => k_is))
    (case h__law_over => refine' U.has_fn ?a ?l ?c ?k; (case a => k_is); (case l => k_is); (case c => k_is); (case k => k_is))
    (case h__law_two => refine' U.has_fn ?a ?l ?c ?k; (case a => k_is); (case l => k_is); (case c => k_is); (case k => k_is))
    (case h_law => refine' U.has_fn ?a ?l ?c ?k; (case a => k_is); (case l => k_is); (case c => k_is); (case k => k_is))
    (case T =>
      refine' U.txt_mk KX G ?E ?Fe ?g0 ?i0 ?t0 ?s0 ?zs ?z1 ?z2 ?z3 ?z4 ?z5 ?z6 ?z7 ?z8 ?g1
      (case E => refine' ⟨?q1, ?q2, ?q3, ?q4, ?q5, ?q6, ?q7, ?q8, ?q9, ?q10, ?q11, ?q12⟩; (case q1 => k_is); (case q2 => k_is); (case q3 => k_is); (case q4 => k_is); (case q5 => k_is); (case q6 => k_is); (case q7 => k_is); (case q8 => k_is); (case q9 => k_is); (case q10 => k_is); (case q11 => k_is); (case q12 => k_is))
      (case Fe =>
        refine' ⟨?f1, ?f2, ?f3, ?f4, ?f5, ?f6, ?f7, ?f8, ?f9, ?f10, ?f11, ?f12, ?f13⟩
        (case f1 => refine' U.cls_ex ?x ?y; (case x => k_is); (case y => decide +kernel))
        (case f2 => k_is); (case f3 => k_is); (case f4 => k_is)
        (case f5 => refine' U.fn_ex ?x; (case x => k_is))
        (case f6 => k_is)
        (case f7 => refine' U.cell_ex ?x; (case x => k_is))
        (case f8 => refine' U.code_ex ?x ?y ?z; (case x => k_is); (case y => rfl); (case z => decide +kernel))
        (case f9 => k_is); (case f10 => ks_is); (case f11 => k_is); (case f12 => k_is); (case f13 => decide +kernel))
      (case g0 => k_is); (case i0 => k_is); (case t0 => k_is); (case s0 => k_is)
      (case zs => k_is); (case z1 => k_is); (case z2 => k_is); (case z3 => k_is); (case z4 => k_is); (case z5 => k_is); (case z6 => k_is); (case z7 => k_is); (case z8 => k_is); (case g1 => k_is))

