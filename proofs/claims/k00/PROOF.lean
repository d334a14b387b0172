import PyProof.Rows.All
import Wide.All
import OpenK.AllK
import Wide.FinOn
import PySem.Challenge.RW_openrings_k00_errors_made_from_their_fie
import PyProof.EqAt
import PyProof.EqKinds
import PyProof.TupleCall
import KE.KFromBytes
import KE.KSuper
import KE.KExcSuper
import HandS.Base
import HandS.Call
import HandS.Exc
import HandS.ExcInit
import HandS.ForExc
import HandS.ExcField
import HandS.ExcIs
import HandS.IsInst
import KE.KExcIs
import HandS.ForMost
import HandS.Wide
import HandS.Style
set_option Elab.async false
set_option linter.all false
set_option maxRecDepth 100000
set_option maxHeartbeats 4000000
/-! ## An exception class over a class of one's own over ValueError: super().__init__('..'), then self.f = f for each of its fields -/
namespace PySem
namespace RingX
open PySem.W PySem.Calls PyProof.Rows PySem.HandSPX

structure SetP where
  (p1 p2 p3 p4 : Pos)
structure SupP where
  (q0 q1 q2 q3 q4 q5 : Pos)
def exArgs (ps : Pos) (fs : List (Str × Pos)) : Arguments := { posonlyargs := [], args := { arg := "self", annotation := none, pos := ps } :: fs.map (fun f => { arg := f.1, annotation := none, pos := f.2 }), vararg := none, kwonlyargs := [], kw_defaults := [], kwarg := none, defaults := [] }
def exSup (t : Str) (q : SupP) : Stmt := .Expr (.Call (.Attribute (.Call (.Name "super" q.q0) [] [] q.q1) "__init__" q.q2) [.Constant (.str t) 0 q.q3] [] q.q4) q.q5
def exSet (f : Str × SetP) : Stmt := .Assign [.Attribute (.Name "self" f.2.p1) f.1 f.2.p2] (.Name f.1 f.2.p3) f.2.p4
def exScope (fs : List Str) : Scope := { kind := .function, names := ("self", NameKind.local) :: ((fs.map fun f => (f, NameKind.local)) ++ [(("__class__" : Str), NameKind.free), (("super" : Str), NameKind.globalImplicit)]), isGenerator := false, isCoroutine := false, more := [] }
/-- what is asked of the fields' names -/
def namesOk (fs : List Str) : Bool :=
  (exScope fs).names.lookup ("super" : Str) == some NameKind.globalImplicit && (exScope fs).names.lookup ("__class__" : Str) == some NameKind.free && (exScope fs).names.lookup ("self" : Str) == some NameKind.local &&
    decide fs.Nodup && fs.all fun f => (exScope fs).names.lookup f == some NameKind.local && !(f == ("__debug__" : Str)) && !(f == ("self" : Str))

/-- what the written part says of the class at C, and of its __init__ at fI -/
structure ExTxt (prog : Program) (K : Frag) (mg : Str → Option Value) (C fI : Addr) (nm : Str) (fs : List Str) : Prop where
  gC : mg nm = some (.ref C)
  cls : ∃ cn q N bs bm sn sub ab col dd k0 k1 k2 k3 k5, K.lookup C = some (excClassObj cn q C N bs bm true sn sub ab col dd k0 k1 k2 k3 k5 "ValueError.__new__") ∧ refsVE bm = true
  sa : findIn K (.ref C) "__setattr__" = some (some (.builtin "object.__setattr__"))
  ga : findIn K (.ref C) "__getattribute__" = some (some (.builtin "BaseException.__getattribute__"))
  gg : findIn K (.ref C) "__getattr__" = some none
  noN : ∀ f ∈ fs, findIn K (.ref C) f = some none
  iC : findIn K (.ref C) "__init__" = some (some (.ref fI))
  tC : typeIn K (.ref fI) = some (.type "function")
  kC : keepIn K (.ref C) = true
  exC : subIn K (.ref C) (.type "BaseException") = some true
  tyC : typeIn K (.ref C) = some (.type "type")
  hdC : hasDictIn K C = true
  op : nsIn K cStatics "thirdparty.any" = some none
  sI : ks_superIn K C C "__init__" = some (some (.builtin "ValueError.__init__"))
  sV : subIn K (.ref C) (.type "ValueError") = some true
  mC : mroIn K C (.ref C) = some true
  sup : mg "super" = none
  htop : (prog.main.scope.names.lookup ("super" : Str)).isSome = false
  names : namesOk fs = true
  len : fs.length ≤ 500
  fn : ∃ (oc : Value) (od : Option Addr) (kV doc pm : Value) (an : Option Addr) (cda : Addr) (ct : Value) (cc : Addr) (osl : Array (Option Value)) (ps : Pos) (fp : List (Str × Pos)) (t : Str) (q : SupP) (sp : List (Str × SetP)) (qual : Str)
      (ccl cl : Value) (cdd cld : Option Addr) (ccs csl : Array (Option Value)) (vs : Array Value) (file : Str) (tf : Tok),
    K.lookup fI = some ⟨oc, od, .func (ksFn "__init__" qual (exArgs ps fp) (exSup t q :: sp.map exSet) (exScope fs) .none kV doc pm an (.ref cda) ct cc), osl⟩ ∧ codeIn K (.ref cda) qual = true ∧ sp.map (·.1) = fs ∧ (q.q2.endLine == q.q4.line) = true ∧
      K.lookup cda = some ⟨ccl, cdd, .fields vs, ccs⟩ ∧ vs[2]? = some (.str file tf) ∧ ((prog.main.file : Str) == file) = true ∧ K.lookup cc = some ⟨cl, cld, .cell (some (.ref C)), csl⟩ ∧
      ∀ (s : Shared) (x : Value) (us : List Value), us.length = fs.length → BindsTo s (ksFn "__init__" qual (exArgs ps fp) (exSup t q :: sp.map exSet) (exScope fs) .none kV doc pm an (.ref cda) ct cc) ⟨x :: us, []⟩ (("self", x) :: fs.zip us)

theorem one_size (v : Value) : [v].length ≤ sizeLine := by
  rw [sizeLine_eq]
  exact (by decide : 1 ≤ 16777216)

section
variable {prog : Program} {w : World} {M : Model} {A : Around} {E : Value → Shared → Prop} {h : Heap} {g : Array GenState} {d : Drawn} {t : Nat} {os : OsState} {K : Frag} {x C D u : Addr}

/-- super() in such a def -/
theorem sup_node {body : List Stmt} {q : Str} {scope : Scope} {p0 p1 : Pos} {attr : Str} {whole : Sem Value} {f cc cda L : Addr} {fd : FuncData} {ar : Arg} {vs : Array Value} {file : Str} {tf : Tok} {oc ccl cl : Value} {od cdd cld : Option Addr} {osl ccs csl : Array (Option Value)}
    {cdD : ClassData} {m mg mb : Str → Option Value} {ox : Obj} {odx : Option Obj} {Q : Value → Shared → Prop}
    (X : K.In h) (hL : h.Ns L m) (hg : h.Ns mainGlobals mg) (hb : h.Ns builtinsNs mb) (hmb : mb "super" = some (.type "super"))
    (hf : K.lookup f = some ⟨oc, od, .func fd, osl⟩) (hp : (fd.params.posonlyargs ++ fd.params.args).head? = some ar) (hv : m ar.arg = some (.ref x)) (I : InstAt h x ox C odx)
    (hcode : K.lookup cda = some ⟨ccl, cdd, .fields vs, ccs⟩) (hvs : vs[2]? = some (.str file tf)) (hfile : ((prog.main.file : Str) == file) = true)
    (hcell : K.lookup cc = some ⟨cl, cld, .cell (some (.ref D)), csl⟩) (hD : clsIn K D = some cdD) (hsub : mroIn K C (.ref D) = some true) (hsuper : mg "super" = none)
    (hat : (attr == ("__class__" : Str)) = false) (hks : scope.names.lookup ("super" : Str) = some .globalImplicit) (hkc : scope.names.lookup ("__class__" : Str) = some .free) (hka : scope.names.lookup ar.arg = some .local) (hk : scope.kind = .function)
    (htop : (prog.main.scope.names.lookup ("super" : Str)).isSome = false)
    (hq : ∀ h', h'.get? h.objs.size = some (ks_superObj D x C) → (∀ b o, h.get? b = some o → h'.get? b = some o) → Q (.ref h.objs.size) ⟨h', g, d, t, os⟩) :
    _root_.PySem.wpAt (model prog w) A (.func body (ksEnv q scope L f (.ref cda) cc)) (attributeBase (.Call (.Name "super" p0) [] [] p1) attr (ksEnv q scope L f (.ref cda) cc) whole) Q E ⟨h, g, d, t, os⟩ := by
  obtain ⟨oD, hD1, hD2⟩ : ∃ oD, h.get? D = some oD ∧ oD.data = .cls cdD := by
    unfold clsIn at hD
    split at hD
    · rename_i c d cd' sl ho
      cases hD
      exact ⟨_, X _ _ ho, rfl⟩
    · cases hD
  refine ks_wpAt_super_base (env := ksEnv q scope L f (.ref cda) cc) hks hkc hat rfl (X _ _ hf) rfl hp rfl (X _ _ hcode) rfl hvs hfile htop ?_
  refine ks_loadName_global hk hks (loadGlobal_builtin (env := ksEnv q scope L f (.ref cda) cc) hg hsuper hb hmb ⟨rfl, ?_⟩)
  refine wpAny_loadName_free hk hkc rfl ⟨_, X _ _ hcell, rfl⟩ ?_
  refine wpAny_loadName_local hk hka hL hv ?_
  refine ks_wpAny_isType_cls hD1 hD2 ⟨rfl, ?_⟩
  refine ks_wpAny_call_super hD1 hD2 I.at_ I.cls (fun c e => ?_) (looks_mroIn X hsub) (fun h' e k => ?_)
  · have := I.no
    unfold notCls at this
    rw [e] at this
    exact Bool.noConfusion this
  · exact hq h' e k

/-- ValueError.__init__ bound to e, called -/
theorem call_mw {nm q : Str} {N : Addr} {bs bm : List Value} {hdct : Bool} {sn : List Str} {sub : List Value} {ab : Bool} {col : Option Bool} {dd : Option Addr} {k0 k1 k2 k3 k5 : Option Value} {e t0 : Addr} {rest : List Value} {Q : Value → Shared → Prop}
    (hC : h.get? C = some (excClassObj nm q C N bs bm hdct sn sub ab col dd k0 k1 k2 k3 k5 "ValueError.__new__")) (he : h.get? e = some (HandSPX.excO C t0)) (hu : h.get? u = some (kxs_mw "ValueError.__init__" e)) (hrest : rest.length ≤ sizeLine)
    (hq : ∀ h' t1, (∀ b o, b ≠ e → h.get? b = some o → h'.get? b = some o) → h'.get? e = some (HandSPX.excO C t1) → Q .none ⟨h', g, d, t, os⟩) :
    wpAny (model prog w) A (call (.ref u) rest) Q E ⟨h, g, d, t, os⟩ := by
  refine wpAny_call (codeAny_of_tree ?_)
  show wpAny _ A.in1 (callAny (.ref u) ⟨rest, []⟩) _ _ _
  simp only [callAny]
  refine wpAny_bind (wpAny_load hu ?_)
  simp only [kxs_mw, show (Value.type "method-wrapper" == Value.type "method" || Value.type "method-wrapper" == Value.type "builtin_function_or_method" || Value.type "method-wrapper" == Value.type "method-wrapper") = true by decide, if_true]
  refine W.KFB.if_so (by decide) ?_
  refine wpAny_bind (check_bound_init F.excBase_ValueError.toExcCallFacts hC he rfl ?_)
  refine wpAny_bind (wpAny_pure (wpAny_pure ?_))
  refine ⟨Code.quiet_builtin _ (by decide +kernel), codeAny_builtin F.excBase_ValueError.initEntry ?_⟩
  rw [Around.under_plainId F.excBase_ValueError.init.plain _]
  wp_walk
  refine hq _ h.objs.size (fun b o hb ho => ?_) ?_
  · rw [Heap.get?_update_other _ _ (Ne.symm hb)]
    exact Heap.get?_push_of_some _ ho
  · rw [Heap.get?_update_self _ (Heap.get?_push_of_some _ he) rfl]
    rfl
theorem callWith_mw {s : Shared} {pos : Pos} {first : List Value} {env : Env} {e : Expr} {rest : List Expr} {Q : Value → Shared → Prop}
    (h : wpAny M A (spliced (backTo pos (starEach (e :: rest) env))) (fun vs s₁ => s₁.heap.get? u = some (kxs_mw "ValueError.__init__" x) ∧ wpAny M A (call (.ref u) (first ++ vs)) Q E s₁) E s)
    (he : starEach (e :: rest) env = (false, eval e env) :: starEach rest env := by rfl) (hplain : (backTo pos (starEach rest env)).any (·.1) = false := by rfl) :
    wpAny M A (callWith pos (.ref u) first (backTo pos (starEach (e :: rest) env)) []) Q E s := by
  rw [he] at h ⊢
  refine kxs_callWith (i := "ValueError.__init__") (x := x) (by show (false || (backTo pos (starEach rest env)).any (·.1)) = false; rw [hplain]; rfl) ?_
  exact evalArgs_plain h
/-- a method of something, called with one written constant, in a known activation -/
theorem at_meth {c : Code} {s : Shared} {env : Env} {o : Expr} {name : Str} {apos pos p3 : Pos} {k : Const} {j : Nat} {Q : Value → Shared → Prop} (hline : (apos.endLine == pos.line) = true)
    (h : ∀ pl, _root_.PySem.wpAt M A c (attributeBase o name env (eval o env)) (fun ov s₁ => wpAny M A (getMethod ov name pl) (fun fx s₂ => wpAny M A (callWith pos fx.1 fx.2 (backTo pos (starEach [.Constant k j p3] env)) []) Q E s₂) E s₁) E s) :
    _root_.PySem.wpAt M A c (eval (.Call (.Attribute o name apos) [.Constant k j p3] [] pos) env) Q E s := by
  rw [arm_eval_Call]
  refine wpAt_bind (_root_.PySem.wpAt_mono (h (do return (← importBound o env).getD true)) (fun ov s₁ h₁ => wpAt_of_wpAny (wpAny_bind (wpAny_standAt ?_))) fun _ _ y => y)
  have hform : methodCallForm (([.Constant k j p3] : List Expr).length + ([] : List Keyword).length) (backTo pos (starEach [.Constant k j p3] env)) (backToKw pos (keywordEach [] env)) = true := rfl
  have hpos : methodCallPos true o env apos pos = pure pos := by unfold methodCallPos; simp [hline]
  unfold methodCall calleeOf
  rw [hform]
  simp only [if_true]
  exact wpAny_bind (wpAny_holding (wpAny_mono h₁ (fun fx s₂ h₂ => wpAny_bind (wpAny_of_eq hpos h₂)) fun _ _ y => y))
end
end RingX
end PySem

namespace PySem
namespace RingX
open PySem.W PySem.Calls PyProof.Rows PySem.HandSPX

/-- the fields' map behind the stores of fs, in their order -/
def fmap : List Str → List Value → (Str → Option Value) → Str → Option Value
  | f :: fs, v :: vs, m => fmap fs vs (fun y => if y = f then some v else m y)
  | _, _, m => m

abbrev excD (C t : Addr) (od : Option Addr) : Obj := { cls := .ref C, dict := od, data := .fields #[.ref t, .none, .none, .none, .bool false, .none] }

section
variable {prog : Program} {w : World} {A : Around} {E : Value → Shared → Prop} {R : Result → Shared → Prop} {K : Frag} {mg mb : Str → Option Value} {C fI L x t0 : Addr}

theorem exc_ld {M : Model} {s : Shared} {name : Str} {scope : Scope} {a cc : Addr} {cd : Value} {m : Str → Option Value} {y : Str} {pos : Pos} {v : Value} {Q : Value → Shared → Prop} (hn : s.heap.Ns L m) (hv : m y = some v) (h : Q v s)
    (hk : scope.kind = .function) (hl : scope.names.lookup y = some .local) (hd : (y == ("__debug__" : Str)) = false) : wpAny M A (eval (.Name y pos) (ksEnv name scope L a cd cc)) Q E s :=
  wpAny_Name (wpAny_loadName_local (env := ksEnv name scope L a cd cc) hk hl hn hv h) hd

/-- what is asked of a class whose instances get fields -/
structure SetC (K : Frag) (C : Addr) : Prop where
  sa : findIn K (.ref C) "__setattr__" = some (some (.builtin "object.__setattr__"))
  cl : ∃ cd, clsIn K C = some cd ∧ refsVE cd.mro = true ∧ cd.hasDict = true

/-- self.f = f, for the fields behind the first -/
theorem sets_on (T : SetC K C) {q : Str} {sc : Scope} {a cc dx : Addr} {cd : Value} {m : Str → Option Value} {Q : Flow → Shared → Prop} (hk : sc.kind = .function) (hself : sc.names.lookup ("self" : Str) = some .local) (hmx : m "self" = some (Value.ref x)) :
    ∀ (sp : List (Str × SetP)) (us : List Value) (m0 : Str → Option Value) (nl : List Str) (s : Shared), us.length = sp.length → nl.length + sp.length ≤ 900 →
      (∀ f ∈ sp, sc.names.lookup f.1 = some .local ∧ (f.1 == ("__debug__" : Str)) = false ∧ findIn K (.ref C) f.1 = some none) → (∀ p ∈ (sp.map (·.1)).zip us, m p.1 = some p.2) →
      K.In s.heap → s.heap.Ns L m → L ≠ dx → s.heap.get? x = some (excD C t0 (some dx)) → x ≠ dx → s.heap.Ns1 dx m0 → Within m0 nl →
      (∀ h' tk, (∀ b o, b ≠ dx → s.heap.get? b = some o → h'.get? b = some o) → h'.Ns1 dx (fmap (sp.map (·.1)) us m0) → Q .next { s with heap := h', toks := tk }) →
      (∀ b o, K.lookup b = some o → b ≠ dx) →
      wpAny (model prog w) A (execs (sp.map exSet) (ksEnv q sc L a cd cc)) Q E s := by
  intro sp
  induction sp with
  | nil =>
    intro us m0 nl s hl _ _ _ X hL hLd hx hxd hd hw hq _
    cases us with
    | cons _ _ => cases hl
    | nil =>
      refine wpAny_execs_nil ?_
      obtain ⟨h, g, d, t, os⟩ := s
      exact hq h t (fun _ _ _ e => e) hd
  | cons f sp ih =>
    intro us m0 nl s hl hz hf hm X hL hLd hx hxd hd hw hq hKd
    cases us with
    | nil => cases hl
    | cons v us =>
      obtain ⟨cl, hcl, hmro, hdict⟩ := T.cl
      obtain ⟨hloc, hdbg, hno⟩ := hf f List.mem_cons_self
      obtain ⟨oD, _, _, hoD, _, _⟩ := hd.count hw
      rw [List.map_cons]
      refine wpAny_execs_cons (plainObj_wpAny_Assign_Attribute ?_)
      refine exc_ld (L := L) hL (hm (f.1, v) List.mem_cons_self) (exc_ld (L := L) hL hmx ?_ hk hself (by decide)) hk hloc hdbg
      refine set_plain X (ox := excD C t0 (some dx)) (od := some oD) ⟨hx, rfl, rfl, hoD⟩ T.sa ?_
      obtain ⟨h, g, d, t, os⟩ := s
      refine PySem.OEX.osa_old X hx hd hw (by have := hz; simp only [List.length_cons] at this; omega) hcl hmro hdict hno (fun h' tk' k hn => ?_)
      refine ih us _ (f.1 :: nl) ⟨h', g, d, tk', os⟩ (by simpa using hl) (by have := hz; simp only [List.length_cons] at this ⊢; omega) (fun y hy => hf y (List.mem_cons_of_mem _ hy)) (fun p hp => hm p (List.mem_cons_of_mem _ hp))
        (fun b o e => k b o (hKd b o e) (X b o e)) ?_ hLd (k _ _ hxd hx) hxd hn (Within.cons f.1 v hw) (fun h'' tk'' k2 hn2 => hq h'' tk'' (fun b o hb e => k2 b o hb (k b o hb e)) hn2) hKd
      obtain ⟨oL, es, ep, hoL, r⟩ := hL
      exact ⟨oL, es, ep, k _ _ hLd hoL, r⟩

theorem lookup_mem {α : Type} : ∀ {l : List (Str × α)} {p : Str × α}, (l.map (·.1)).Nodup → p ∈ l → l.lookup p.1 = some p.2
  | [], _, _, h => nomatch h
  | q :: l, p, hn, h => by
    obtain ⟨n1, n2⟩ := List.nodup_cons.mp (show (q.1 :: l.map (·.1)).Nodup from hn)
    rcases List.mem_cons.mp h with e | e
    · subst e
      rw [show p :: l = (p.1, p.2) :: l from rfl, List.lookup_cons, beq_self_eq_true]
    · have ne : (p.1 == q.1) = false := by
        refine beq_eq_false_iff_ne.mpr fun z => n1 ?_
        rw [← z]
        exact List.mem_map_of_mem e
      rw [show q :: l = (q.1, q.2) :: l from rfl, List.lookup_cons, ne]
      exact lookup_mem n2 e
theorem zip_fst {α β : Type} : ∀ {l : List α} {r : List β}, r.length = l.length → (l.zip r).map (·.1) = l
  | [], _, _ => rfl
  | _ :: _, [], h => nomatch h
  | a :: l, b :: r, h => by
    show a :: (l.zip r).map (·.1) = a :: l
    rw [zip_fst (by simpa using h)]

/-- what __init__ leaves of a fresh exception at x -/
structure InitEnd (h h' : Heap) (x C : Addr) (od : Option Addr) (fs : List Str) (us : List Value) : Prop where
  keep : ∀ b o, b ≠ x → h.get? b = some o → h'.get? b = some o
  obj : ∃ t1, h'.get? x = some (excD C t1 od)
  dict : (fs = [] ∧ od = none) ∨ fs ≠ [] ∧ ∃ dx, od = some dx ∧ h.objs.size ≤ dx ∧ dx ≠ x ∧ h'.Ns1 dx (fmap fs us fun _ => none)

theorem ex_init {nm : Str} {fs : List Str} {s : Shared} {us : List Value} (T : ExTxt prog K mg C fI nm fs) (X : K.In s.heap) (hlim : s.heap.NoLimit) (G : s.heap.Ns mainGlobals mg) (hB : s.heap.Ns builtinsNs mb) (hmb : ∀ y : Str, y ≠ "__name__" → mb y = bootBuiltins y)
    (hx : s.heap.get? x = some (excO C t0)) (hnx : K.lookup x = none) (hroom : A.depth < recursionLimit) (hl : us.length = fs.length)
    (hq : ∀ h' tk od, InitEnd s.heap h' x C od fs us → R (.ok (.ret .none)) { s with heap := h', toks := tk }) :
    codeAny (model prog w) A (.call (.ref fI) ⟨.ref x :: us, []⟩) R s := by
  obtain ⟨oc, od, kV, doc, pm, an, cda, ct, cc, osl, ps, fp, txt, q, sp, qual, ccl, cl, cdd, cld, ccs, csl, vs, file, tf, ho, hcd, hsp, hline, hcode, hvs, hfile, hcell, hbind⟩ := T.fn
  obtain ⟨cn, cq, N, bs, bm, sn, sub, ab, col, dd, k0, k1, k2, k3, k5, hC, hbm⟩ := T.cls
  have hcl : clsIn K C = some { name := cn, bases := bs, mro := .ref C :: bm, ns := N, qualname := cq, hasDict := true, slotNames := sn, subclasses := sub, abstract := ab, collection := col, hasDel := false } := by unfold clsIn; rw [hC] <;> rfl
  have hnames := T.names
  unfold namesOk at hnames
  simp only [Bool.and_eq_true, beq_iff_eq, List.all_eq_true, Bool.not_eq_true', decide_eq_true_eq] at hnames
  obtain ⟨⟨⟨⟨nS, nC⟩, nX⟩, nD⟩, nF⟩ := hnames
  have hlocF : ∀ y ∈ (("self" : Str), Value.ref x) :: fs.zip us, (exScope fs).names.lookup y.1 = some .local := by
    intro y hy
    rcases List.mem_cons.mp hy with e | e
    · rw [e]; exact nX
    · exact (nF y.1 (List.of_mem_zip e).1).1.1
  have hcellF : ∀ y ∈ (exScope fs).names, y.2 ≠ .cell := by
    intro y hy
    unfold exScope at hy
    simp only [List.mem_cons, List.mem_append, List.mem_map, List.not_mem_nil, or_false] at hy
    rcases hy with e | ⟨f, _, e⟩ | e | e <;> (subst e; intro z; cases z)
  refine ks_codeAny_call_defAt (fd := ksFn "__init__" qual (exArgs ps fp) (exSup txt q :: sp.map exSet) (exScope fs) .none kV doc pm an (.ref cda) ct cc) (body := exSup txt q :: sp.map exSet) (binds := ("self", .ref x) :: fs.zip us)
    hroom (X _ _ ho) rfl hlim (codeRec_of X hcd) rfl (hbind s (.ref x) us hl) hcellF hlocF (fun h₁ hns hk₁ => ?_) rfl rfl rfl
  have hxs := Heap.lt_size hx
  have X₁ : K.In h₁ := X.keeps hk₁
  have hx₁ := hk₁ _ _ hx
  have nsk : ∀ {b : Addr} {m : Str → Option Value}, s.heap.Ns b m → h₁.Ns b m := fun {b m} ⟨o, es, ep, e, r⟩ => ⟨o, es, ep, hk₁ _ _ e, r⟩
  have hall : ∀ p ∈ (("self" : Str), Value.ref x) :: fs.zip us, (fun y => ((("self" : Str), Value.ref x) :: fs.zip us).reverse.lookup y) p.1 = some p.2 := fun p hp => by
    refine lookup_mem ?_ (List.mem_reverse.mpr hp)
    rw [List.map_reverse]
    refine List.pairwise_reverse.mpr (List.Pairwise.imp (fun z => Ne.symm z) ?_)
    rw [List.map_cons, zip_fst hl]
    refine List.nodup_cons.mpr ⟨fun z => ?_, nD⟩
    have := (nF _ z).2
    simp at this
  have hmself : (fun y => ((("self" : Str), Value.ref x) :: fs.zip us).reverse.lookup y) ("self" : Str) = some (Value.ref x) := hall (("self" : Str), Value.ref x) List.mem_cons_self
  have hmf : ∀ p ∈ fs.zip us, (fun y => ((("self" : Str), Value.ref x) :: fs.zip us).reverse.lookup y) p.1 = some p.2 := fun p hp => hall p (List.mem_cons_of_mem _ hp)
  have I₁ : InstAt h₁ x (excO C t0) C none := ⟨hx₁, rfl, rfl, trivial⟩
  have hLx : s.heap.objs.size ≠ x := Nat.ne_of_gt hxs
  refine ks_wpAt_execs_cons ?_
  show _root_.PySem.wpAt _ _ _ (exec (exSup txt q) _) _ _ _
  unfold exSup
  refine ks_wpAt_Expr_any (at_meth hline fun pl => ?_)
  refine sup_node (C := C) (x := x) (m := fun y => ((("self" : Str), Value.ref x) :: fs.zip us).reverse.lookup y) X₁ hns (nsk G) (nsk hB) ((hmb _ (by decide)).trans (by first | rfl | kernel_rfl)) ho rfl hmself I₁ hcode hvs hfile hcell hcl T.mC T.sup (by decide) nS nC nX rfl T.htop (fun h₂ e₂ k₂ => ?_)
  have X₂ : K.In h₂ := X₁.keeps k₂
  have I₂ : InstAt h₂ x (excO C t0) C none := ⟨k₂ _ _ hx₁, rfl, rfl, trivial⟩
  have hsI := T.sI
  unfold ks_superIn at hsI
  rw [hcl, Option.bind_some] at hsI
  refine kxs_getMethod kxs_ValueError e₂ (looks_opaque X₂ T.op) (l₀ := .ref C :: bm) (fun A Q E s k q => wpAny_bind ((looks_clsIn X₂ hcl) A _ E s k (wpAny_pure q))) rfl X₂ hsI (I₂.type.andThen (looks_subIn X₂ T.sV)) (ks_ne X₂ I₂ hcl) (by decide) ?_
  dsimp only
  have k₃ : ∀ b o, h₂.get? b = some o → (h₂.push (kxs_mw "ValueError.__init__" x)).get? b = some o := fun b o e => Heap.get?_push_of_some _ e
  refine callWith_mw (x := x) ?_
  show wpAny _ _ (spliced [(false, eval (.Constant (.str txt) 0 q.q3) _)]) _ _ _
  refine spliced_cons (Calls.Constant_str (spliced_nil ⟨Heap.get?_push_at rfl rfl, ?_⟩))
  refine call_mw (k₃ _ _ (X₂ _ _ hC)) (k₃ _ _ (k₂ _ _ hx₁)) (Heap.get?_push_at rfl rfl) (one_size _) (fun h₄ t1 k₄ hx₄ => ?_)
  -- the fields
  have kk : ∀ b o, b ≠ x → h₁.get? b = some o → h₄.get? b = some o := fun b o hb e => k₄ b o hb (k₃ _ _ (k₂ _ _ e))
  have X₄ : K.In h₄ := fun b o e => kk b o (fun z => by rw [z, hnx] at e; cases e) (X₁ b o e)
  have hns₄ : h₄.Ns s.heap.objs.size (fun y => ((("self" : Str), Value.ref x) :: fs.zip us).reverse.lookup y) := by
    obtain ⟨oL, es, ep, hoL, r⟩ := hns
    exact ⟨oL, es, ep, kk _ _ hLx hoL, r⟩
  have old : ∀ b o, b ≠ x → s.heap.get? b = some o → h₄.get? b = some o := fun b o hb e => kk b o hb (hk₁ b o e)
  refine wpAt_of_wpAny ?_
  have SC : SetC K C := ⟨T.sa, _, hcl, hbm, rfl⟩
  cases sp with
  | nil =>
    refine wpAny_execs_nil (hq h₄ _ none ⟨old, ⟨t1, hx₄⟩, .inl ⟨hsp.symm, rfl⟩⟩)
  | cons f sp =>
    subst hsp
    cases us with
    | nil => cases hl
    | cons v us =>
      obtain ⟨hloc, hdbg⟩ := (nF f.1 (by simp)).1
      rw [List.map_cons]
      refine wpAny_execs_cons (plainObj_wpAny_Assign_Attribute ?_)
      refine exc_ld hns₄ (hmf (f.1, v) (by simp)) (exc_ld hns₄ hmself ?_ rfl nX (by decide)) rfl hloc hdbg
      refine set_plain X₄ (ox := excO C t1) (od := none) ⟨hx₄, rfl, rfl, trivial⟩ T.sa ?_
      refine exc_osa X₄ hx₄ hcl (show refsVE (.ref C :: bm) = true from hbm) rfl (T.noN f.1 (by simp)) (fun h₅ tk₅ dx k₅ dn dne hx₅ hn₅ => ?_)
      have hsz : s.heap.objs.size < h₄.objs.size := hns₄.lt
      refine sets_on SC (x := x) (t0 := t1) (dx := dx) (m := fun y => ((("self" : Str), Value.ref x) :: ((f :: sp).map (·.1)).zip (v :: us)).reverse.lookup y) rfl nX hmself sp us _ [f.1] ⟨h₅, _, _, tk₅, _⟩ (by simpa using hl) (by have := T.len; simp only [List.length_cons, List.length_map, List.length_nil] at this ⊢; omega)
        (fun y hy => ⟨(nF y.1 (by simp; exact .inr ⟨_, hy⟩)).1.1, (nF y.1 (by simp; exact .inr ⟨_, hy⟩)).1.2, T.noN y.1 (by simp; exact .inr ⟨_, hy⟩)⟩) (fun p hp => hmf p (by simp only [List.map_cons, List.zip_cons_cons]; exact List.mem_cons_of_mem _ hp))
        (fun b o e => k₅ b o (fun z => by rw [z, hnx] at e; cases e) (X₄ b o e)) ?_ (fun z => ?_) hx₅ (Ne.symm dne) hn₅ (Within.cons f.1 v Within.nil) (fun h₆ tk₆ k₆ hn₆ => ?_) (fun b o e => ?_)
      · obtain ⟨oL, es, ep, hoL, r⟩ := hns₄
        exact ⟨oL, es, ep, k₅ _ _ hLx hoL, r⟩
      · have dn' : h₄.objs.size ≤ dx := dn
        have z' : s.heap.objs.size = dx := z
        omega
      · have dn' : h₄.objs.size ≤ dx := dn
        refine hq h₆ tk₆ (some dx) ⟨fun b o hb e => k₆ b o ?_ (k₅ b o hb (old b o hb e)), ⟨t1, k₆ x _ (Ne.symm dne) hx₅⟩, .inr ⟨by simp, dx, rfl, by omega, dne, hn₆⟩⟩
        have hb1 : b < s.heap.objs.size := Heap.lt_size e
        exact Nat.ne_of_lt (Nat.lt_of_lt_of_le (Nat.lt_trans hb1 hsz) dn')
      · exact Nat.ne_of_lt (Nat.lt_of_lt_of_le (Heap.lt_size (X₄ b o e)) dn)

/-- a made exception -/
structure OwnMade (h h' : Heap) (e C : Addr) (od : Option Addr) (fs : List Str) (us : List Value) : Prop where
  keep : ∀ b o, h.get? b = some o → h'.get? b = some o
  new : h.objs.size ≤ e
  obj : ∃ t1, h'.get? e = some (excD C t1 od)
  dict : (fs = [] ∧ od = none) ∨ fs ≠ [] ∧ ∃ dx, od = some dx ∧ h.objs.size ≤ dx ∧ dx ≠ e ∧ h'.Ns1 dx (fmap fs us fun _ => none)

theorem ex_made {nm : Str} {fs : List Str} {s : Shared} {us : List Value} (T : ExTxt prog K mg C fI nm fs) (X : K.In s.heap) (hlim : s.heap.NoLimit) (G : s.heap.Ns mainGlobals mg) (hB : s.heap.Ns builtinsNs mb) (hmb : ∀ y : Str, y ≠ "__name__" → mb y = bootBuiltins y)
    (hroom : A.depth + 1 < recursionLimit) (hl : us.length = fs.length)
    (hq : ∀ h' tk e od, OwnMade s.heap h' e C od fs us → R (.ok (.ret (.ref e))) { s with heap := h', toks := tk }) :
    codeAny (model prog w) A (.call (.ref C) ⟨us, []⟩) R s := by
  obtain ⟨cn, cq, N, bs, bm, sn, sub, ab, col, dd, k0, k1, k2, k3, k5, hC, hbm⟩ := T.cls
  obtain ⟨hp, g, dr, tk, os⟩ := s
  have k : ∀ b o, hp.get? b = some o → ((hp.push (kdv_tup us)).push (excO C hp.objs.size)).get? b = some o := fun b o e => Heap.get?_push_of_some _ (Heap.get?_push_of_some _ e)
  have hget : ((hp.push (kdv_tup us)).push (excO C hp.objs.size)).get? (hp.objs.size + 1) = some (excO C hp.objs.size) := by heap_get
  have nsk : ∀ {b : Addr} {m : Str → Option Value}, hp.Ns b m → ((hp.push (kdv_tup us)).push (excO C hp.objs.size)).Ns b m := fun {b m} ⟨o, es, ep, e, r⟩ => ⟨o, es, ep, k _ _ e, r⟩
  have hnx : K.lookup (hp.objs.size + 1) = none := by
    cases e : K.lookup (hp.objs.size + 1) with
    | none => rfl
    | some o =>
      have z : hp.get? (hp.objs.size + 1) = some o := X _ _ e
      exact absurd (Nat.lt_of_succ_lt (Heap.lt_size z)) (Nat.lt_irrefl _)
  have hus : us.length ≤ sizeLine := by
    have := T.len
    rw [sizeLine_eq]
    omega
  refine call_own F.excBase_ValueError (fun X => refsVE_contains X bm hbm) (X _ _ hC) (looks_findIn X T.iC) (fun self => bind_fn X self T.tC) hus ?_
  refine ex_init (s := ⟨(hp.push (kdv_tup us)).push (excO C hp.objs.size), g, dr, tk, os⟩) T (X.keeps k) (hlim.keeps k) (nsk G) (nsk hB) hmb hget hnx ?_ hl fun h' tk' od I => ?_
  · show A.depth + 1 < recursionLimit
    exact hroom
  · have old : ∀ b o, hp.get? b = some o → h'.get? b = some o := fun b o e => I.keep b o (Nat.ne_of_lt (Nat.lt_succ_of_lt (Heap.lt_size e))) (k b o e)
    refine ⟨rfl, hq h' tk' (hp.objs.size + 1) od ⟨old, Nat.le_succ _, I.obj, ?_⟩⟩
    rcases I.dict with z | ⟨e0, dx, e1, e2, e3, e4⟩
    · exact .inl z
    · have z : hp.objs.size + 1 + 1 ≤ dx := by
        have q := e2
        rw [Heap.size_push, Heap.size_push] at q
        exact q
      exact .inr ⟨e0, dx, e1, Nat.le_trans (Nat.le_trans (Nat.le_succ _) (Nat.le_succ _)) z, e3, e4⟩
end
end RingX
end PySem

namespace L2
open PySem PySem.Spec PyProof.Rows PySem.RingX

/-! ### the fields of an exception -/
def xdl (fs : List Str) (vs : List V) : List (Str × V) := (fs.zip vs).reverse
theorem relO_fmap : ∀ (fs : List Str) (vs : List V) (us : List Value) (l0 : List (Str × V)) (m0 : Str → Option Value), vs.length = fs.length → Vals vs us → (∀ f, RelO (l0.lookup f) (m0 f)) → ∀ f, RelO (((fs.zip vs).reverse ++ l0).lookup f) (fmap fs us m0 f) := by
  intro fs
  induction fs with
  | nil =>
    intro vs us l0 m0 hl r h f
    cases r with
    | nil => exact h f
    | cons _ _ => cases hl
  | cons g fs ih =>
    intro vs us l0 m0 hl r h f
    cases r with
    | nil => cases hl
    | @cons v u vs us rv r =>
      have e : ((g :: fs).zip (v :: vs)).reverse ++ l0 = (fs.zip vs).reverse ++ ((g, v) :: l0) := by simp
      rw [e]
      exact ih vs us ((g, v) :: l0) _ (by simpa using hl) r (fun y => relO_put rv h y) f

section
variable {X : Cx} {C fI : Addr} {nm : Str} {fs : List Str}
/-- nm(a, ..), a class of exceptions with the fields fs -/
def tMkX (C : Addr) (fs : List Str) (ta : TA) : St → Hp → XK → Prop := fun σ H Q => ta σ H fun vs H1 => vs.length = fs.length ∧ (fs = [] → Q (.ref C) none H1) ∧ (fs ≠ [] → ∀ d, H1 d = none → Q (.ref C) (some d) (upd H1 d (.xd (xdl fs vs))))
theorem mkx_core {pins : List (Addr × Obj)} {σ : St} {H1 : Hp} {s1 : Shared} {vs : List V} {us : List Value} {Q : XK} {k : Nat} (T : ExTxt X.prog X.K X.mg C fI nm fs) (hr : Room k X.A) (I1 : Inv X pins σ H1 s1) (r1 : Vals vs us)
    (hq : vs.length = fs.length ∧ (fs = [] → Q (.ref C) none H1) ∧ (fs ≠ [] → ∀ d, H1 d = none → Q (.ref C) (some d) (upd H1 d (.xd (xdl fs vs))))) : wpAny (model X.prog X.w) X.A (call (.ref C) us) (MkP X pins σ Q) X.xe s1 := by
  obtain ⟨hl, q0, qd⟩ := hq
  have hlim := I1.nolimit
  obtain ⟨mb, hmb1, hmb2⟩ := I1.ok.mod.blt
  have hG := I1.ok.mod.glob.keeps I1.bk
  have hB := hmb1.keeps I1.bk
  have hlu : us.length = fs.length := by rw [← r1.length]; exact hl
  obtain ⟨hp, g, dr, tk, os⟩ := s1
  refine wpAny_call (ex_made T I1.kIn hlim hG hB hmb2 (by have := hr.dp; omega) hlu fun h' tk' e od M => ?_)
  show MkP X pins σ Q (.ref e) ⟨h', g, dr, tk', os⟩
  obtain ⟨t1, hoe⟩ := M.obj
  obtain ⟨G', g1, g2⟩ := restrict h' fun b => decide (b ≠ e)
  have gk : ∀ b, b ≠ e → G'.get? b = h'.get? b := fun b hb => g1 b (decide_eq_true hb)
  have ge : G'.get? e = none := g2 e (by simp)
  have old : ∀ b o, hp.get? b = some o → G'.get? b = some o := fun b o q => (gk b (Nat.ne_of_lt (Nat.lt_of_lt_of_le (Heap.lt_size q) M.new))).trans (M.keep b o q)
  have back : ∀ b o, G'.get? b = some o → h'.get? b = some o := fun b o q => by
    by_cases hb : b = e
    · rw [hb, ge] at q; cases q
    · exact (gk b hb).symm.trans q
  rcases M.dict with ⟨e1, e2⟩ | ⟨hfs, dx, e1, hdx, hne, hns⟩
  · subst e2
    have J : Inv X pins σ H1 ⟨G', g, dr, tk', os⟩ := I1.kept (t' := tk') old
    exact ⟨e, _, _, ⟨G', g, dr, tk', os⟩, _, .ref C, none, rfl, J, back, ge, hoe, ⟨rfl, rfl⟩, rfl, rfl, I1.hok.fresh M.new, rfl, I1.bare, raises_own T.exC T.tyC, q0 e1⟩
  · subst e1
    have rel : ∀ f, RelO ((xdl fs vs).lookup f) (fmap fs us (fun _ => none) f) := fun f => by
        have z := relO_fmap fs vs us [] (fun _ => none) hl r1 (fun _ => trivial) f
        rw [List.append_nil] at z
        exact z
    have ob : ObjOk X.prog X.w (upd H1 dx (.xd (xdl fs vs))) G' dx (.xd (xdl fs vs)) :=
        ⟨_, hns.at (fun o q => (gk dx hne).trans q), rel⟩
    have J : Inv X pins σ (upd H1 dx (.xd (xdl fs vs))) ⟨G', g, dr, tk', os⟩ := I1.laid (t' := tk') old hdx ob
    refine ⟨e, _, _, ⟨G', g, dr, tk', os⟩, _, .ref C, some dx, rfl, J, back, ge, hoe, ⟨rfl, rfl⟩, rfl, rfl, ?_, rfl, I1.bare, raises_own T.exC T.tyC, qd hfs dx (I1.hok.fresh hdx)⟩
    rw [upd_ne (Ne.symm hne)]
    exact I1.hok.fresh M.new
theorem pmk_ex {a : Expr} {as : List Expr} {ta : TA} {p pos : Pos} {k : Nat} (T : ExTxt X.prog X.K X.mg C fI nm fs) (hr : Room k X.A) (ha : PA X (a :: as) ta) (hg : Gl X nm := by rfl) (hdb : (nm == ("__debug__" : Str)) = false := by decide)
    (he : starEach (a :: as) X.env = (false, eval a X.env) :: starEach as X.env := by rfl) (hpl : (backTo pos (starEach as X.env)).any (·.1) = false := by rfl) :
    PMk X (.Call (.Name nm p) (a :: as) [] pos) (tMkX C fs ta) := by
  intro pins s σ H Q I h
  refine wpAny_Call_Name_kw (ld_glob I hg T.gC ?_ hdb)
  refine PySem.W.callWith_K (h₀ := X.base) I.ok.mod.kin T.kC (thn (ha.run pos pins s σ H _ I h) fun us s1 hh => ?_) he hpl
  obtain ⟨vs, H1, I1, r1, q1⟩ := hh
  exact ⟨I1.kIn, mkx_core T hr I1 r1 q1⟩
theorem pmk_ex0 {p pos : Pos} {k : Nat} (T : ExTxt X.prog X.K X.mg C fI nm fs) (hr : Room k X.A) (hg : Gl X nm := by rfl) (hdb : (nm == ("__debug__" : Str)) = false := by decide) :
    PMk X (.Call (.Name nm p) [] [] pos) (tMkX C fs tNil) := by
  intro pins s σ H Q I h
  refine wpAny_Call_Name_kw (ld_glob I hg T.gC ?_ hdb)
  exact PySem.W.callWith_K0 I.kIn T.kC (mkx_core (us := []) T hr I .nil h)
/-- raise nm(a, ..) -/
def tRaiseX (C : Addr) (fs : List Str) (W : WX) (ta : TA) : TS := fun _ σ H => tMkX C fs ta σ H fun cls d H' => W cls d σ H'
theorem ps_raiseX {a : Expr} {as : List Expr} {ta : TA} {W : WX} {p pos pos2 : Pos} {k : Nat} (hc : X.calm = true) (T : ExTxt X.prog X.K X.mg C fI nm fs) (hr : Room k X.A) (tk : Takes X W) (ha : PA X (a :: as) ta) (hg : Gl X nm := by rfl) (hdb : (nm == ("__debug__" : Str)) = false := by decide)
    (he : starEach (a :: as) X.env = (false, eval a X.env) :: starEach as X.env := by rfl) (hpl : (backTo pos (starEach as X.env)).any (·.1) = false := by rfl) :
    PS X (.Raise (some (.Call (.Name nm p) (a :: as) [] pos)) none pos2) (tRaiseX C fs W ta) := ps_raise hc tk (pmk_ex T hr ha hg hdb he hpl)
theorem ps_raiseX0 {W : WX} {p pos pos2 : Pos} {k : Nat} (hc : X.calm = true) (T : ExTxt X.prog X.K X.mg C fI nm fs) (hr : Room k X.A) (tk : Takes X W) (hg : Gl X nm := by rfl) (hdb : (nm == ("__debug__" : Str)) = false := by decide) :
    PS X (.Raise (some (.Call (.Name nm p) [] [] pos)) none pos2) (tRaiseX C fs W tNil) := ps_raise hc tk (pmk_ex0 T hr hg hdb)
end

/-! ### several clauses, with and without names -/
/-- behind a suite with a name (slot i): the slot is empty -/
def gone (i : Nat) (D : Ends) : Ends := { nx := fun σ H => D.nx (σ.set i none) H, rt := D.rt, bk := fun σ H => D.bk (σ.set i none) H, ct := fun σ H => D.ct (σ.set i none) H }
/-- a clause: its class, its name's slot, its suite's reading -/
structure Clause where
  c : Value
  i : Option Nat
  ts : Addr → Value → Option Addr → TS
def wCl (K : PySem.W.Frag) (Wout : WX) (D : Ends) : List Clause → WX
  | [] => Wout
  | q :: r => fun cls d σ H => ∃ b, PySem.W.exmOne K cls q.c = some b ∧ (b = true → ∀ a, H a = none → match q.i with | none => q.ts a cls d D σ H | some i => q.ts a cls d (gone i D) (σ.set i (some (.ref a))) H) ∧ (b = false → wCl K Wout D r cls d σ H)
inductive ClsOk (X : Cx) : List ExceptHandler → List Clause → Prop
  | nil : ClsOk X [] []
  | plain {x : Str} {c : Value} {ts : Addr → Value → Option Addr → TS} {b₀ : Stmt} {suite : List Stmt} {np pos' : Pos} {hds : List ExceptHandler} {l : List Clause} (hc : Names X x c)
      (hsu : ∀ (a : Addr) (oe : Obj) (cls : Value) (d : Option Addr) (pn : List (Addr × Obj)), Zc cls d oe → (∃ vs, oe.data = .fields vs) → X.base.get? a = none → PSs (X.suite a ((a, oe) :: pn)) (b₀ :: suite) (ts a cls d)) (r : ClsOk X hds l) :
      ClsOk X (.ExceptHandler (some (.Name x np)) none (b₀ :: suite) pos' :: hds) (⟨c, none, ts⟩ :: l)
  | named {x n : Str} {c : Value} {i : Nat} {ts : Addr → Value → Option Addr → TS} {b₀ : Stmt} {suite : List Stmt} {np pos' : Pos} {hds : List ExceptHandler} {l : List Clause} (hi : X.N[i]? = some n) (hln : X.env.kindOf n = some .local) (hc : Names X x c)
      (hsu : ∀ (a : Addr) (oe : Obj) (cls : Value) (d : Option Addr) (pn : List (Addr × Obj)), Zc cls d oe → (∃ vs, oe.data = .fields vs) → X.base.get? a = none → PSs (X.suite a ((a, oe) :: pn)) (b₀ :: suite) (ts a cls d)) (r : ClsOk X hds l) :
      ClsOk X (.ExceptHandler (some (.Name x np)) (some n) (b₀ :: suite) pos' :: hds) (⟨c, some i, ts⟩ :: l)
section
variable {X : Cx} {body : List Stmt} {h₀ : ExceptHandler} {hds : List ExceptHandler} {l : List Clause} {pos : Pos} {tb : WX → TS} {Wout : WX}
theorem SP.ofTry {pins : List (Addr × Obj)} {xe : Value → Shared → Prop} {D : Ends} (ok : X.Ok) {f : Flow} {s1 : Shared} (h : SP (X.tr (X.pn ++ pins) xe) [] D f s1) : SP X pins D f s1 := by
  cases f with
  | next => obtain ⟨σ', H', J', q⟩ := h; exact ⟨σ', H', J'.ofTry ok, q⟩
  | brk => obtain ⟨σ', H', J', q⟩ := h; exact ⟨σ', H', J'.ofTry ok, q⟩
  | cont => obtain ⟨σ', H', J', q⟩ := h; exact ⟨σ', H', J'.ofTry ok, q⟩
  | ret u => obtain ⟨v, σ', H', J', r, q⟩ := h; exact ⟨v, σ', H', J'.ofTry ok, r, q⟩
theorem ps_try_cl (hs : X.stack = X.env :: X.outer) (hf : X.env.frame = some X.env.locals) (hN : X.N.Nodup) (tk : Takes X Wout)
    (hb : ∀ (W : WX) (pn : List (Addr × Obj)) (xe : Value → Shared → Prop), Takes (X.tr pn xe) W → PassesOwn (model X.prog X.w) X.A X.env xe → PSs (X.tr pn xe) body (tb W))
    (hh : ClsOk X (h₀ :: hds) l) : PS X (.Try body (h₀ :: hds) [] [] pos) (fun D σ H => tb (wCl X.K Wout D l) D σ H) := by
  refine ⟨fun pins s σ H D I h => wpAny_Try_except ?_⟩
  have ok := I.ok
  have hfr : X.A.frames = some (X.env :: X.outer) := by rw [ok.frames, hs]
  refine wpAny_mono ((hb (wCl X.K Wout D l) (X.pn ++ pins) (fun e s₁ => wpAny (model X.prog X.w) X.A (noteFrame e X.env) (fun _ s₂ => wpAny (model X.prog X.w) X.A (setFlight e none) (fun _ s₃ =>
    wpAny (model X.prog X.w) X.A (handleBy e X.env (h₀ :: hds)) (SP X pins D) X.xe s₃) X.xe s₂) X.xe s₁) (fun u s' xx => ?_) PassesOwn.looking).run [] s σ H D (I.toTry _) h) (fun f s1 hsp => ?_) (fun e s1 he => he)
  · obtain ⟨a, B, sI, pins', σ', H', cls, d, rfl, J', nb, up, sky, na, os, ag, w⟩ := xx
    have J : Inv X pins σ' H' sI := J'.ofTry ok
    rw [hs] at sky
    refine Sky.land Zc.steady hfr hf sky fun h3 fl3 up3 => ?_
    have J3 : Inv X pins σ' H' { s' with heap := h3 } := J.landed nb fl3.1 (up.trans up3) os ag
    obtain ⟨oe3, vs3, he3, hz3, hd3⟩ := fl3.there
    have nfr : a ∉ frs (X.env :: X.outer) := fun hm => by
      obtain ⟨_, o', e', hnf⟩ := fl3.2.2.1.mem hm
      rw [he3] at e'; cases e'
      exact hnf _ hd3
    have nL : a ≠ X.env.locals := fun z => nfr (List.mem_filterMap.mpr ⟨X.env, List.mem_cons_self, by rw [hf, z]⟩)
    have nF : a ∉ X.fs := fun hm => by
      obtain ⟨e, he, q⟩ := List.mem_filterMap.mp hm
      exact nfr (List.mem_filterMap.mpr ⟨e, List.mem_cons_of_mem _ he, q⟩)
    have nbase : X.base.get? a = none := by
      cases q : X.base.get? a with
      | none => rfl
      | some o =>
        have z := nb a o (J.bs a o q).1 (by rw [hs]; exact nfr)
        rw [fl3.2.1] at z
        cases z
    have S3 := J3.suite he3 hd3 na nL nF
    have LT : PySem.W.Looks (model X.prog X.w) h3 (typeOf (.ref a)) cls := fun A Q E s k q => wpAny_typeOf_ref (k _ _ he3) (by rw [hz3.1]; exact q)
    have test : ∀ {x : Str} {c : Value} {np : Pos} {Q : Value → Shared → Prop} {E : Value → Shared → Prop}, Names X x c → Q c { s' with heap := h3 } → wpAny (model X.prog X.w) (X.A.mark (some (.ref a))) (eval (.Name x np) X.env) Q E { s' with heap := h3 } := fun {x c np Q E} hc q => by
      obtain ⟨hg, hdbg, hm | ⟨hm, hv, hnn⟩⟩ := hc
      · exact ld_glob (X := X.suite a ((a, oe3) :: (X.pn ++ pins))) S3 hg hm q hdbg
      · exact ld_blt (X := X.suite a ((a, oe3) :: (X.pn ++ pins))) S3 hg hm hv q hnn hdbg
    have go : ∀ {hds' : List ExceptHandler} {l' : List Clause}, ClsOk X hds' l' → wCl X.K Wout D l' cls d σ' H' →
        wpAny (model X.prog X.w) X.A (handleBy (.ref a) X.env hds') (SP X pins D) X.xe { s' with heap := h3 } := by
      intro hds' l' hk
      induction hk with
      | nil =>
        intro w
        refine wpAny_handleBy_nil ?_
        obtain ⟨k1, k2, k3, oe, vs, T, oT, ts', he, hz, hd, h1, hr⟩ := id fl3
        unfold PySem.passOn
        refine wpAny_bind (wpAny_field he hd h1 ?_)
        rw [if_neg (show ¬ ((Value.ref T == Value.none) = true) from by simp)]
        have fin : wpAny (model X.prog X.w) X.A (setFlight (.ref a) X.env.frame) (fun _ s4 => wpAny (model X.prog X.w) X.A (throw (.ref a) : Sem Flow) (SP X pins D) X.xe s4) X.xe { s' with heap := h3 } := by
          rw [hf]
          refine HandSPX.setFlight_upZ fl3 fun h4 hh4 up4 => wpAny_throw (tk _ _ ?_)
          exact ⟨a, B, sI, pins, σ', H', cls, d, rfl, J, nb, (up.trans up3).trans up4, .inr (.inr (by rw [hs]; exact hh4)), na, os, ag, w⟩
        first
          | exact wpAny_bind (wpAny_pure (wpAny_bind fin))
          | exact wpAny_bind fin
      | @plain x c ts b₀ suite np pos' hds2 l2 hc hsu r ih =>
        intro w
        obtain ⟨b, hb1, hyes, hno⟩ := w
        refine wpAny_handleBy_cons (codeAny_handlers_test (test hc ?_)) (by intro q; cases q)
        have LM := PySem.W.exm_one (M := model X.prog X.w) (J3.kIn) LT hb1
        refine LM.here ?_
        cases b with
        | false => exact ih (hno rfl)
        | true =>
          refine codeAny_handlers_suite (HandSPX.lands_againZ fl3 fun h4 fl4 up4 => ?_)
          have J4 : Inv X pins σ' H' { s' with heap := h4 } := J.landed nb fl4.1 ((up.trans up3).trans up4) os ag
          obtain ⟨oe4, vs4, he4, hz4, hd4⟩ := fl4.there
          have S4 := J4.suite he4 hd4 na nL nF
          refine wpAny_mono ((hsu a oe4 cls d (X.pn ++ pins) hz4 ⟨_, hd4⟩ nbase).run [] _ _ H' _ S4 (hyes rfl a na)) (fun f s6 hsp => ?_) (fun _ _ z => False.elim z)
          cases f with
          | next => obtain ⟨σ6, H6, S6, q6⟩ := hsp; exact ⟨_, _, S6.unsuite ok, q6⟩
          | brk => obtain ⟨σ6, H6, S6, q6⟩ := hsp; exact ⟨_, _, S6.unsuite ok, q6⟩
          | cont => obtain ⟨σ6, H6, S6, q6⟩ := hsp; exact ⟨_, _, S6.unsuite ok, q6⟩
          | ret u => obtain ⟨v6, σ6, H6, S6, r6, q6⟩ := hsp; exact ⟨_, _, _, S6.unsuite ok, r6, q6⟩
      | @named x n c i ts b₀ suite np pos' hds2 l2 hi hln hc hsu r ih =>
        intro w
        obtain ⟨b, hb1, hyes, hno⟩ := w
        refine wpAny_handleBy_cons (codeAny_handlers_test (test hc ?_)) (by intro q; cases q)
        have LM := PySem.W.exm_one (M := model X.prog X.w) (J3.kIn) LT hb1
        refine LM.here ?_
        cases b with
        | false => exact ih (hno rfl)
        | true =>
          refine codeAny_handlers_suite_as (HandSPX.lands_againZ fl3 fun h4 fl4 up4 => ?_)
          have J4 : Inv X pins σ' H' { s' with heap := h4 } := J.landed nb fl4.1 ((up.trans up3).trans up4) os ag
          obtain ⟨oe4, vs4, he4, hz4, hd4⟩ := fl4.there
          have S4 := J4.suite he4 hd4 na nL nF
          refine store_ok (X := X.suite a ((a, oe4) :: (X.pn ++ pins))) (v := .ref a) S4 hN hi (.inl hln) rfl (fun s5 S5 => ?_) (.inr hln)
          refine wpAny_mono ((hsu a oe4 cls d (X.pn ++ pins) hz4 ⟨_, hd4⟩ nbase).run [] s5 _ H' _ S5 (hyes rfl a na)) (fun f s6 hsp => ?_) (fun _ _ z => False.elim z)
          have end_ : ∀ {σ6 : St} {H6 : Hp} {Q : Shared → Prop}, Inv (X.suite a ((a, oe4) :: (X.pn ++ pins))) [] σ6 H6 s6 → (∀ s7, Inv X pins (σ6.set i none) H6 s7 → Q s7) →
              wpAny (model X.prog X.w) X.A (do bindName X.env n .none; unbindBehindTheSuite X.env n pos') (fun _ s7 => Q s7) X.xe s6 := fun {σ6 H6 Q} S6 hq => gone_ok (S6.unsuite ok) hN hi hln hq
          cases f with
          | next => obtain ⟨σ6, H6, S6, q6⟩ := hsp; exact end_ S6 fun s7 J7 => ⟨_, _, J7, q6⟩
          | brk => obtain ⟨σ6, H6, S6, q6⟩ := hsp; exact end_ S6 fun s7 J7 => ⟨_, _, J7, q6⟩
          | cont => obtain ⟨σ6, H6, S6, q6⟩ := hsp; exact end_ S6 fun s7 J7 => ⟨_, _, J7, q6⟩
          | ret u => obtain ⟨v6, σ6, H6, S6, r6, q6⟩ := hsp; exact end_ S6 fun s7 J7 => ⟨_, _, _, J7, r6, q6⟩
    exact go hh w
  · have z := SP.ofTry ok hsp
    cases f with
    | next => obtain ⟨σ', H', J', q⟩ := z; exact wpAny_execs_nil ⟨σ', H', J', q⟩
    | brk => exact z
    | cont => exact z
    | ret u => exact z
end
end L2

namespace L2
open PySem PySem.Spec PyProof.Rows PySem.RingX

/-- a caught exception, while a def looks at it -/
abbrev errO (a : Addr) (oe : Obj) : HO := .frz oe (.ext fun h => h.get? a = some oe)
theorem errO_ne {a : Addr} {oe : Obj} {o : HO} (h : ∀ q u, o ≠ .frz q u) : errO a oe ≠ o := fun z => h _ _ z.symm

/-- the dict of a caught exception, if it has one, is tracked -/
def DictAt (H : Hp) (d : Option Addr) : Prop := d = none ∨ ∃ dd l, d = some dd ∧ H dd = some (.xd l)
theorem DictAt.get {P : Program} {w : World} {H : Hp} {h : Heap} {d : Option Addr} (D : DictAt H d) (hok : HOk P w H h) {a C : Addr} {oe : Obj} (ha : h.get? a = some oe) (hz : Zc (.ref C) d oe) (hf : ∃ vs, oe.data = .fields vs) : ∃ od, PySem.W.InstAt h a oe C od := by
  obtain ⟨vs, hv⟩ := hf
  have no : PySem.W.notCls oe = true := by unfold PySem.W.notCls; rw [hv] <;> rfl
  rcases D with e | ⟨dd, l, e, q⟩
  · exact ⟨none, ha, hz.1, no, by rw [hz.2, e]; trivial⟩
  · obtain ⟨mA, ⟨o, es, ep, ho, _⟩, _⟩ := (show ObjOk P w H h dd (.xd l) from hok dd _ q)
    exact ⟨some o, ha, hz.1, no, by rw [hz.2, e]; exact ho⟩

section
variable {X : Cx} {pins : List (Addr × Obj)} {σ : St} {H : Hp} {s : Shared}
theorem is_exc {C a : Addr} {oe : Obj} {od : Option Obj} {cv : Value} {b : Bool} {Q : Value → Shared → Prop} {A : Around} {E : Value → Shared → Prop} (K : ExcC X.K C) (X1 : X.K.In s.heap) (J : PySem.W.InstAt s.heap a oe C od) (e : PySem.W.kitOne X.K (.ref C) cv = some b)
    (h : ∀ tk, Q (.bool b) { s with toks := tk }) : wpAny (model X.prog X.w) A (call (.builtin "isinstance") [.ref a, cv]) Q E s :=
  PySem.W.kia_one (PySem.W.kitx_exc (od := od) (by obtain ⟨cd, hc, _⟩ := PySem.W.any_some K.hd; rw [hc]; rfl) K.hg K.hk K.hs K.ha K.hn K.ht K.hm) X1 J e (fun z => nomatch z) h
end

/-- isinstance(e, c), e the exception that the suite holds: cls its class, d its dict -/
def rIsX (K : PySem.W.Frag) (a : Addr) (cls : Value) (d : Option Addr) : List V → Hp → VK → Prop := fun xs H Q => ∃ (c : V) (cv : Value) (C : Addr) (b : Bool), xs = [.ref a, c] ∧ cls = .ref C ∧ ExcC K C ∧ DictAt H d ∧ ClsV c cv ∧ PySem.W.kitOne K (.ref C) cv = some b ∧ Q (.bl b) H
theorem call_isX {X : Cx} {a : Addr} {oe : Obj} {cls : Value} {d : Option Addr} {pn : List (Addr × Obj)} (hz : Zc cls d oe) (hf : ∃ vs, oe.data = .fields vs) : CallR (X.suite a ((a, oe) :: pn)) (.builtin "isinstance") (rIsX X.K a cls d) := by
  intro pins s σ H xs us Q I r h
  obtain ⟨c, cv, C, b, rfl, rfl, K, D, k, e, q⟩ := h
  obtain ⟨u1, u2, rfl, r1, r2⟩ := vals2 r
  cases (show u1 = Value.ref a from r1)
  have e2 := k.eq r2
  subst e2
  obtain ⟨hget, _⟩ := I.pin (a, oe) (List.mem_append.mpr (.inl List.mem_cons_self))
  obtain ⟨od, J⟩ := D.get I.hok hget hz hf
  exact is_exc (X := X) K I.kIn J e fun tk => ⟨.bl b, H, I.tok tk, rfl, q⟩
/-- the same in a def that is handed the exception -/
def rIsA (K : PySem.W.Frag) : List V → Hp → VK → Prop := fun xs H Q => ∃ (a C : Addr) (oe : Obj) (d : Option Addr) (c : V) (cv : Value) (b : Bool), xs = [.ref a, c] ∧ H a = some (errO a oe) ∧ Zc (.ref C) d oe ∧ (∃ vs, oe.data = .fields vs) ∧ ExcC K C ∧ DictAt H d ∧ ClsV c cv ∧ PySem.W.kitOne K (.ref C) cv = some b ∧ Q (.bl b) H
theorem call_isA {X : Cx} : CallR X (.builtin "isinstance") (rIsA X.K) := by
  intro pins s σ H xs us Q I r h
  obtain ⟨a, C, oe, d, c, cv, b, rfl, ha, hz, hf, K, D, k, e, q⟩ := h
  obtain ⟨u1, u2, rfl, r1, r2⟩ := vals2 r
  cases (show u1 = Value.ref a from r1)
  have e2 := k.eq r2
  subst e2
  obtain ⟨hget, _⟩ := (show ObjOk X.prog X.w H s.heap a (errO a oe) from I.hok a _ ha)
  obtain ⟨od, J⟩ := D.get I.hok hget hz hf
  exact is_exc (X := X) K I.kIn J e fun tk => ⟨.bl b, H, I.tok tk, rfl, q⟩

/-! ### a def that is handed the exception which the suite holds -/
section
variable {X : Cx} {pins pn : List (Addr × Obj)} {σ : St} {H : Hp} {s : Shared} {a : Addr} {oe : Obj}
theorem track_ok {P : Program} {w : World} {h : Heap} (hok : HOk P w H h) (ha : h.get? a = some oe) (na : H a = none) : HOk P w (upd H a (errO a oe)) h := fun b o q => by
  by_cases hb : b = a
  · subst hb
    rw [upd_same] at q
    cases q
    exact ⟨ha, ha, ⟨_, ha⟩, fun h1 h2 z k => k _ z⟩
  · rw [upd_ne hb] at q
    exact (hok b o q).stay (fun c v _ z => z) (fun c z => by rw [upd_ne (ne_of_none z na)]; exact z) fun c xs z => by rw [upd_ne (ne_of_none z na)]; exact z
theorem untrack_ok {P : Program} {w : World} {h : Heap} (hok : HOk P w H h) (ha : H a = some (errO a oe)) : HOk P w (del H a) h := fun b o q => by
  have hb : b ≠ a := fun z => by rw [z, del_same] at q; cases q
  rw [del_ne hb] at q
  refine (hok b o q).stay (fun c v _ z => z) (fun c z => ?_) fun c xs z => ?_
  · rw [del_ne (ne_of z ha (fun y => nomatch y))]
    exact z
  · rw [del_ne (ne_of z ha (fun y => nomatch y))]
    exact z
theorem untrack_un {fs : List Addr} {H2 : Hp} {h h2 : Heap} {P : Program} {w : World} (na : H a = none) (ha : h.get? a = some oe) (hok : HOk P w H2 h2) (u : Un fs [] (upd H a (errO a oe)) H2 h h2) : Un fs [] H (del H2 a) h h2 := by
  have h2a : H2 a = some (errO a oe) := u.frzs a _ _ upd_same
  have ga : h2.get? a = some oe := (hok a _ h2a).1
  have up : ∀ {b : Addr}, b ≠ a → H b = none → upd H a (errO a oe) b = none := fun {b} hb n => by rw [upd_ne hb]; exact n
  refine ⟨fun b o e n hf hx => ?_, fun b o e n hf hx => ?_, fun b o e n hx => ?_, fun b o e hx => u.there b o e hx, fun b xs q => ?_, fun b o v q => ?_, fun b ps q => ?_⟩
  · by_cases hb : b = a
    · subst hb
      rw [ha] at e
      cases e
      exact ga
    · exact u.keep b o e (up hb n) hf hx
  · by_cases hb : b = a
    · subst hb
      rw [ha] at e
      cases e
      exact ⟨_, ga⟩
    · exact u.slot b o e (up hb n) hf hx
  · by_cases hb : b = a
    · rw [hb]
      exact del_same
    · rw [del_ne hb]
      exact u.free b o e (up hb n) hx
  · have hb := ne_of_none q na
    rw [del_ne hb]
    exact u.tups b xs (by rw [upd_ne hb]; exact q)
  · have hb := ne_of_none q na
    rw [del_ne hb]
    exact u.frzs b o v (by rw [upd_ne hb]; exact q)
  · have hb := ne_of_none q na
    obtain ⟨m, e⟩ := u.tbls b ps (by rw [upd_ne hb]; exact q)
    exact ⟨m, by rw [del_ne hb]; exact e⟩
end
theorem noX {P : Program} {w : World} {outer : List Env} (H : Hp) (s : Shared) (e : Value) (s' : Shared) : ¬ L2.CX P w outer H s E0 e s' := fun ⟨_, _, _, _, _, _, _, _, _, _, _, _, z⟩ => z
theorem no0 {outer : List Env} (H : Hp) (s : Shared) (e : Value) (s' : Shared) : ¬ CX0 outer H s E0 e s' := fun z => z
end L2

namespace L2
open PySem PySem.Spec PyProof.Rows PySem.RingX
/-! ### a def that is called while an exception is handled, and lets nothing out -/
structure RoomS (k : Nat) (A : Around) : Prop where
  dp : A.depth + 3 * k + 5 < recursionLimit
  un : A.units + 16 * k + 200 < cLine
theorem RoomS.of {k : Nat} {A : Around} (r : Room k A) (h : Option Value) : RoomS k (A.mark h) := ⟨r.dp, r.un⟩
theorem RoomS.mono {j k : Nat} {A : Around} (r : RoomS k A) (h : j ≤ k) : RoomS j A := ⟨by have := r.dp; omega, by have := r.un; omega⟩
theorem RoomS.deeper {k : Nat} {A : Around} (r : RoomS (k + 1) A) (env : Env) : RoomS k (A.deeper env) :=
  ⟨by have := r.dp; show A.depth + 1 + 3 * k + 5 < _; omega, by have := r.un; show A.units + 3 + 16 * k + 200 < _; omega⟩
structure FnS (P : Program) (w : World) (K : PySem.W.Frag) (mg : Str → Option Value) (base : Heap) (k : Nat) (f : Addr) (fd : FuncData) (ps : List Str) (sp : Sp) : Prop where
  len : ∀ vs H Q E, sp vs H Q E → vs.length = ps.length
  run : ∀ (A : Around) (outer : List Env) (s : Shared) (H : Hp) (args : Args) (us : List Value) (vs : List V) (Q : VK), RoomS k A → Env0 P w K mg base A outer s H → BindsTo s fd args (ps.zip us) → Vals vs us → sp vs H Q E0 →
    codeAny (model P w) A (.call (.ref f) args) (CR CX0 outer P w H s Q E0) s
/-- such a def's context -/
def cxS (P : Program) (w : World) (K : PySem.W.Frag) (mg : Str → Option Value) (base : Heap) (N : List Str) (qual : Str) (scope : Scope) (f : Addr) (cd : Value) (A : Around) (outer : List Env) (s : Shared) (H : Hp) : Cx :=
  { cxOf CX0 P w K mg base N qual scope f cd A outer s H E0 with calm := false, xe := fun _ _ => False }
theorem Fun.okS {P : Program} {w : World} {K : PySem.W.Frag} {mg : Str → Option Value} {base : Heap} {x qual : Str} {st : Stmt} {f : Addr} {fd : FuncData} {N ps : List Str} {k : Nat} {sp : Sp} (F : Fun K x qual st f fd) (S : FnScope N ps (defScope st)) (len : ∀ vs H Q E, sp vs H Q E → vs.length = ps.length)
    (hbody : ∀ (cdv : Value) (A : Around) (outer : List Env) (s : Shared) (H : Hp) (vs : List V) (Q : VK), RoomS k (A.deeper (envOfC qual (defScope st) s.heap.objs.size f cdv)) → sp vs H Q E0 →
      ∃ t, PSs (cxS P w K mg base N qual (defScope st) f cdv A outer s H) (defBody st) t ∧ t { nx := fun _ H' => Q .non H', rt := Q } (start N vs) H) : FnS P w K mg base (k + 1) f fd ps sp := by
  obtain ⟨oc, od, kV, doc, pm, an, cdv, ct, osl, rfl, lk, hcd⟩ := F.ex
  refine ⟨len, fun A outer s H args us vs Q hr e0 hb r hsp => ?_⟩
  have hl := len _ _ _ _ hsp
  have KX : K.In s.heap := e0.mod.kin.keeps fun b o e => (e0.bs b o e).1
  have lim : s.heap.NoLimit := e0.mod.nolimit.keeps fun b o e => (e0.bs b o e).1
  have hkind : ∀ y ∈ ps.zip us, (defScope st).names.lookup y.1 = some .local ∨ ((defScope st).names.lookup y.1 = some .cell ∧ ((cellsFrom (s.heap.objs.size + 1) (defScope st).names []).lookup y.1).isSome = true) := fun ⟨n, v⟩ hy =>
    (S.par n (List.of_mem_zip hy).1).elim .inl fun q => .inr ⟨q, PySem.W.cellsFrom_some _ _ _ (.inl q)⟩
  refine codeAny_call_function (by have := hr.dp; omega) (KX _ _ lk) rfl S.co S.gen rfl (PySem.W.codeRec_of KX hcd) (hb _ _ _ _ ?_)
  refine wpAny_newFunctionEnv_cells S.kind hkind fun env he s1 y => ?_
  subst he
  refine ⟨lim.keeps y.toInCall.keep, codeAny_func ?_⟩
  obtain ⟨t, ht, hq⟩ := hbody cdv A outer s H vs Q (hr.deeper _) hsp
  have e1 : Env0 P w K mg base { A with handled := none } outer s H := ⟨e0.frames, e0.mod, e0.bs, e0.bsz, e0.funs, e0.frf, e0.hok, e0.bare⟩
  have I0 : Inv (cxOf CX0 P w K mg base N qual (defScope st) f cdv { A with handled := none } outer s H E0) [] (start N vs) H s1 := inv_start S rfl e1 hl r y
  have I : Inv (cxS P w K mg base N qual (defScope st) f cdv A outer s H) [] (start N vs) H s1 :=
    ⟨⟨I0.ok.mod, I0.ok.kind, I0.ok.glob, I0.ok.blt, I0.ok.above, I0.ok.inj, I0.ok.has, I0.ok.cab, (fun z => Bool.noConfusion (show false = true from z)), I0.ok.frames, I0.ok.stk, I0.ok.exf, I0.ok.bs, I0.ok.bsz, I0.ok.noex, I0.ok.exfs, I0.ok.funs, I0.ok.frf⟩,
      I0.os, I0.bare, I0.base, I0.loc, I0.cell, I0.free, I0.freeC, I0.pin, I0.hok, I0.len⟩
  refine wpAny_mono (ht.run [] s1 (start N vs) H _ I hq) (fun fl s' hs => ?_) fun e s' hs => False.elim hs
  have fin : ∀ {σ' : St} {H' : Hp} {v : V} {u : Value}, Inv (cxS P w K mg base N qual (defScope st) f cdv A outer s H) [] σ' H' s' → RelV v u → Q v H' → CE outer P w H s Q u s' :=
    fun {σ' H' v u} J rv q => ⟨v, H', J.os, J.bare, J.base, J.hok, rv, q⟩
  cases fl with
  | ret u => obtain ⟨v, σ', H', J, rv, q⟩ := hs; exact fin J rv q
  | next => obtain ⟨σ', H', J, q⟩ := hs; exact fin (v := V.non) (u := Value.none) J rfl q
  | brk => obtain ⟨_, _, _, q⟩ := hs; exact False.elim q
  | cont => obtain ⟨_, _, _, q⟩ := hs; exact False.elim q

/-- f(e, ..) in a suite; the def is handed the exception at a as an object that it may look at -/
def tCallE (a : Addr) (cls : Value) (d : Option Addr) (sp : Sp) (t : TA) : TE := fun σ H Q => t σ H fun vs H1 => ∀ oe, Zc cls d oe → (∃ vs, oe.data = .fields vs) → H1 a = none → sp vs (upd H1 a (errO a oe)) (fun v H2 => Q v (del H2 a)) E0
section
variable {X : Cx} {k : Nat} {f : Addr} {fd : FuncData} {ps : List Str} {sp : Sp} {x : Str} {p pos : Pos} {e : Expr} {es : List Expr} {t : TA} {a : Addr} {oe : Obj} {cls : Value} {d : Option Addr} {pn : List (Addr × Obj)}
theorem pe_callE (hbase : X.base.get? a = none) (hz : Zc cls d oe) (hfd : ∃ vs, oe.data = .fields vs) (F : FnS X.prog X.w X.K X.mg X.base k f fd ps sp) (hr : Room k X.A) (hg : Gl X x) (hm : X.mg x = some (.ref f)) (hk : PySem.W.keepIn X.K (.ref f) = true) (hb : Binds X.K fd ps [])
    (ha : PA (X.suite a ((a, oe) :: pn)) (e :: es) t) (hdb : (x == ("__debug__" : Str)) = false := by decide)
    (he : starEach (e :: es) X.env = (false, eval e X.env) :: starEach es X.env := by rfl) (hpl : (backTo pos (starEach es X.env)).any (·.1) = false := by rfl) :
    PE (X.suite a ((a, oe) :: pn)) (.Call (.Name x p) (e :: es) [] pos) (tCallE a cls d sp t) := by
  refine ⟨fun pins s σ H Q I h => ?_⟩
  refine wpAny_Call_Name_kw (ld_glob I hg hm ?_ hdb)
  refine PySem.W.callWith_K (h₀ := X.base) I.ok.mod.kin hk (thn (ha.run pos pins s σ H _ I h) fun us s1 ⟨vs, H1, I1, r, q⟩ => ⟨I1.kIn, ?_⟩) he hpl
  show wpAny _ _ (call (.ref f) us) _ _ _
  obtain ⟨hget, na, nL, nF, _⟩ := I1.pin (a, oe) (List.mem_append.mpr (.inl List.mem_cons_self))
  have na' : H1 a = none := na
  have hq := q oe hz hfd na'
  have hl : us.length = ps.length := by rw [← r.length]; exact F.len _ _ _ _ hq
  have b := hb s1 us I1.kIn (by rw [List.append_nil]; exact hl)
  rw [List.append_nil] at b
  have e0 := I1.env0
  have nst : a ∉ frs X.stack := fun z => (List.mem_cons.mp (I1.stkSub a z)).elim nL nF
  have e1 : Env0 X.prog X.w X.K X.mg X.base (X.A.mark (some (.ref a))) X.stack s1 (upd H1 a (errO a oe)) := by
    refine ⟨e0.frames, e0.mod, fun c o z => ?_, e0.bsz, e0.funs, fun c z => ?_, track_ok e0.hok hget na', e0.bare⟩
    · have hc : c ≠ a := fun y => by rw [y, hbase] at z; cases z
      exact ⟨(e0.bs c o z).1, by rw [upd_ne hc]; exact (e0.bs c o z).2⟩
    · have hc : c ≠ a := fun y => nst (y ▸ z)
      rw [upd_ne hc]
      exact e0.frf c z
  refine wpAny_call (codeAny_mono (F.run _ X.stack s1 _ ⟨us, []⟩ us vs _ (.of hr _) e1 b r hq) fun r' s' hq' => ?_)
  cases r' with
  | error e => exact False.elim hq'
  | ok fl =>
    cases fl with
    | ret u =>
      obtain ⟨v, H2, os, bare, un, hok, rv, q2⟩ := hq'
      exact I1.after ⟨v, del H2 a, os, bare, untrack_un na' hget hok un, untrack_ok hok (un.frzs a _ _ upd_same), rv, q2⟩
    | next => exact False.elim hq'
    | brk => exact False.elim hq'
    | cont => exact False.elim hq'
end
end L2

namespace L2
open PySem PySem.Spec PyProof.Rows PySem.RingX
/-! ### the facts of such a class, from what the top has written -/
def exB (K : PySem.W.Frag) (C fI : Addr) (fs : List Str) : Bool :=
  decide (PySem.W.findIn K (.ref C) "__setattr__" = some (some (.builtin "object.__setattr__"))) && (xfB K C && (fs.all (fun f => decide (PySem.W.findIn K (.ref C) f = some none)) &&
    (decide (PySem.W.findIn K (.ref C) "__init__" = some (some (.ref fI))) && (decide (PySem.W.typeIn K (.ref fI) = some (.type "function")) && (PySem.W.keepIn K (.ref C) && (decide (PySem.W.typeIn K (.ref C) = some (.type "type")) &&
      (decide (PySem.W.ks_superIn K C C "__init__" = some (some (.builtin "ValueError.__init__"))) && (decide (PySem.W.subIn K (.ref C) (.type "ValueError") = some true) && (decide (PySem.W.mroIn K C (.ref C) = some true) &&
        (decide (PySem.W.findIn K (.ref C) "__class__" = some (some (.builtin "object.__class__"))) && decide (PySem.W.mroIn K C (.type "object") = some true)))))))))))
structure ExF (K : PySem.W.Frag) (C fI : Addr) (fs : List Str) : Prop where
  sa : PySem.W.findIn K (.ref C) "__setattr__" = some (some (.builtin "object.__setattr__"))
  xf : XfC K C
  noN : ∀ f ∈ fs, PySem.W.findIn K (.ref C) f = some none
  iC : PySem.W.findIn K (.ref C) "__init__" = some (some (.ref fI))
  tC : PySem.W.typeIn K (.ref fI) = some (.type "function")
  kC : PySem.W.keepIn K (.ref C) = true
  tyC : PySem.W.typeIn K (.ref C) = some (.type "type")
  sI : PySem.W.ks_superIn K C C "__init__" = some (some (.builtin "ValueError.__init__"))
  sV : PySem.W.subIn K (.ref C) (.type "ValueError") = some true
  mC : PySem.W.mroIn K C (.ref C) = some true
  cl : PySem.W.findIn K (.ref C) "__class__" = some (some (.builtin "object.__class__"))
  mo : PySem.W.mroIn K C (.type "object") = some true
theorem exB_ok {K : PySem.W.Frag} {C fI : Addr} {fs : List Str} (h : exB K C fI fs = true) : ExF K C fI fs := by
  unfold exB at h
  simp only [Bool.and_eq_true, decide_eq_true_eq, List.all_eq_true] at h
  obtain ⟨h1, h2, h3, h4, h5, h6, h7, h8, h9, h10, h11, h12⟩ := h
  exact ⟨h1, xfB_ok h2, h3, h4, h5, h6, h7, h8, h9, h10, h11, h12⟩
def psOf (st : Stmt) : Pos := match (defArgs st).args with | a :: _ => a.pos | [] => ⟨0, 0, 0, 0⟩
def fpOf (st : Stmt) : List (Str × Pos) := match (defArgs st).args with | _ :: r => r.map fun a => (a.arg, a.pos) | [] => []
def txtOf (st : Stmt) : Str := match defBody st with | .Expr (.Call _ [.Constant (.str t) _ _] _ _) _ :: _ => t | _ => ""
def supOf (st : Stmt) : SupP := match defBody st with
  | .Expr (.Call (.Attribute (.Call (.Name _ q0) _ _ q1) _ q2) [.Constant _ _ q3] _ q4) q5 :: _ => ⟨q0, q1, q2, q3, q4, q5⟩
  | _ => ⟨⟨0, 0, 0, 0⟩, ⟨0, 0, 0, 0⟩, ⟨0, 0, 0, 0⟩, ⟨0, 0, 0, 0⟩, ⟨0, 0, 0, 0⟩, ⟨0, 0, 0, 0⟩⟩
def setOf : Stmt → Str × SetP
  | .Assign [.Attribute (.Name _ p1) f p2] (.Name _ p3) p4 => (f, ⟨p1, p2, p3, p4⟩)
  | _ => ("", ⟨⟨0, 0, 0, 0⟩, ⟨0, 0, 0, 0⟩, ⟨0, 0, 0, 0⟩, ⟨0, 0, 0, 0⟩⟩)
def setsOf (st : Stmt) : List (Str × SetP) := match defBody st with | _ :: r => r.map setOf | [] => []
/-- the text of such an __init__ -/
structure ExText (st : Stmt) (fs : List Str) : Prop where
  hA : defArgs st = exArgs (psOf st) (fpOf st)
  hB : defBody st = exSup (txtOf st) (supOf st) :: (setsOf st).map exSet
  hS : defScope st = exScope fs
  hN : (setsOf st).map (·.1) = fs
  hL : ((supOf st).q2.endLine == (supOf st).q4.line) = true
  nm : namesOk fs = true
  len : fs.length ≤ 500
  bind : ∀ (qual : Str) (kV doc pm : Value) (an : Option Addr) (cda : Addr) (ct : Value) (cc : Addr) (s : Shared) (x : Value) (us : List Value), us.length = fs.length →
    BindsTo s (PySem.W.ksFn "__init__" qual (defArgs st) (defBody st) (defScope st) .none kV doc pm an (.ref cda) ct cc) ⟨x :: us, []⟩ (("self", x) :: fs.zip us)
theorem ex_mk {prog : Program} {K : PySem.W.Frag} {h : Heap} {mg : Str → Option Value} {C fI cc cda : Addr} {nm cn qual q file : Str} {fs : List Str} {st : Stmt} {N : Addr} {bs bm : List Value} {sn : List Str} {sub : List Value} {ab : Bool} {col : Option Bool} {dd : Option Addr} {k0 k1 k2 k3 k5 : Option Value}
    {oc kV doc pm ct cl ccl : Value} {od an cld cdd : Option Addr} {osl csl ccs : Array (Option Value)} {vs : Array Value} {tf : Tok}
    (X : K.In h) (G : h.Ns mainGlobals mg) (T : ExText st fs)
    (aC : PySem.W.nsIn K mainGlobals nm = some (some (.ref C)))
    (xC : K.lookup C = some (excClassObj cn q C N bs bm true sn sub ab col dd k0 k1 k2 k3 k5 "ValueError.__new__")) (hbm : PySem.HandSPX.refsVE bm = true)
    (l : K.lookup fI = some ⟨oc, od, .func (PySem.W.ksFn "__init__" qual (defArgs st) (defBody st) (defScope st) .none kV doc pm an (.ref cda) ct cc), osl⟩) (cd : PySem.W.codeIn K (.ref cda) qual = true)
    (cel : K.lookup cc = some ⟨cl, cld, .cell (some (.ref C)), csl⟩) (ca : K.lookup cda = some ⟨ccl, cdd, .fields vs, ccs⟩) (hv : vs[2]? = some (.str file tf)) (hf : ((prog.main.file : Str) == file) = true)
    (chk : exB K C fI fs = true) (op : PySem.W.nsIn K PySem.cStatics "thirdparty.any" = some none) (su : PySem.W.nsIn K mainGlobals "super" = some none) (htop : (prog.main.scope.names.lookup ("super" : Str)).isSome = false) : ExTxt prog K mg C fI nm fs := by
  have F := exB_ok chk
  have b := T.bind
  rw [T.hA, T.hB, T.hS] at l b
  exact ⟨PySem.W.mg_of X G aC, ⟨cn, q, N, bs, bm, sn, sub, ab, col, dd, k0, k1, k2, k3, k5, xC, hbm⟩, F.sa, F.xf.ga, F.xf.gg, F.noN, F.iC, F.tC, F.kC, F.xf.exC, F.tyC, F.xf.hdC, op, F.sI, F.sV, F.mC, PySem.W.mg_none_of X G su, htop, T.nm, T.len,
    ⟨oc, od, kV, doc, pm, an, cda, ct, cc, osl, psOf st, fpOf st, txtOf st, supOf st, setsOf st, qual, ccl, cl, cdd, cld, ccs, csl, vs, file, tf, l, cd, T.hN, T.hL, ca, hv, hf, cel, b _ _ _ _ _ _ _ _⟩⟩
theorem exc_mk {K : PySem.W.Frag} {C fI : Addr} {fs : List Str} (chk : exB K C fI fs = true) (hn : PySem.W.specialIn K (.builtin "object.__class__") "__get__" = some (some (.builtin "getset_descriptor.__get__"))) (ht : PySem.W.takesIn K (.builtin "object.__class__") = some true) : ExcC K C := by
  have F := exB_ok chk
  exact ⟨F.xf.ga, F.xf.gg, F.xf.exC, F.xf.hdC, F.cl, hn, ht, F.mo⟩
/-- which of the classes cs lie below which -/
def relB (K : PySem.W.Frag) (cs : List Addr) : Bool := cs.zipIdx.all fun p => cs.zipIdx.all fun q => decide (PySem.W.subIn K (.ref p.1) (.ref q.1) = some (decide (p.2 = q.2)))
theorem relB_ok {K : PySem.W.Frag} {cs : List Addr} (h : relB K cs = true) {i j : Nat} (hi : i < cs.length) (hj : j < cs.length) : PySem.W.subIn K (.ref (cs.getD i 0)) (.ref (cs.getD j 0)) = some (decide (i = j)) := by
  unfold relB at h
  rw [List.all_eq_true] at h
  have h1 := h (cs[i], i) (List.mk_mem_zipIdx_iff_getElem?.mpr (List.getElem?_eq_getElem hi))
  rw [List.all_eq_true] at h1
  have h2 := of_decide_eq_true (h1 (cs[j], j) (List.mk_mem_zipIdx_iff_getElem?.mpr (List.getElem?_eq_getElem hj)))
  have e1 : cs.getD i 0 = cs[i] := by rw [List.getD_eq_getElem?_getD, List.getElem?_eq_getElem hi]; rfl
  have e2 : cs.getD j 0 = cs[j] := by rw [List.getD_eq_getElem?_getD, List.getElem?_eq_getElem hj]; rfl
  rw [e1, e2]
  exact h2
theorem kit_ref {K : PySem.W.Frag} {C : Addr} {cls : Value} {b : Bool} (hd : PySem.W.hasDictIn K C = true) (ht : PySem.W.typeIn K (.ref C) = some (.type "type")) (hs : PySem.W.subIn K cls (.ref C) = some b) (hself : cls = .ref C → b = true) : PySem.W.kitOne K cls (.ref C) = some b := by
  unfold PySem.W.kitOne
  by_cases e : cls = .ref C
  · rw [if_pos (by rw [e]; exact beq_self_eq_true _), hself e]
  · rw [if_neg (by simpa using e)]
    unfold PySem.W.kitCls
    obtain ⟨cd, hc, _⟩ := PySem.W.any_some hd
    have z : ((PySem.W.clsIn K C).isSome && PySem.W.typeIn K (.ref C) == some (.type "type")) = true := by rw [hc, ht]; rfl
    show (if ((PySem.W.clsIn K C).isSome && PySem.W.typeIn K (.ref C) == some (.type "type")) = true then PySem.W.subIn K cls (.ref C) else none) = some b
    rw [if_pos z, hs]
theorem kit_type {K : PySem.W.Frag} {T : String} {cls : Value} {b : Bool} (hm : PySem.W.kitMeta T = true) (hs : PySem.W.subIn K cls (.type T) = some b) (hn : cls ≠ .type T) : PySem.W.kitOne K cls (.type T) = some b := by
  unfold PySem.W.kitOne
  rw [if_neg (by simpa using hn)]
  show (if PySem.W.kitMeta T = true then PySem.W.subIn K cls (.type T) else none) = some b
  rw [if_pos hm, hs]
end L2

namespace K00
open PySem PySem.Spec PyProof.Rows L2
def top (i : Nat) : Stmt := PySem.Challenge.pw_openrings_k00_errors_made_from_their_fie.main.body.getD i (.Pass ⟨0, 0, 0, 0⟩)
abbrev sBag : Stmt := top 16
abbrev sDraw : Stmt := top 17

/-! ### the bag -/
def bagK (c : Addr) (at_ dg ct fo : Int) : List (Key × V) := [(.inr "cells", .ref c), (.inr "at", .int at_), (.inr "digits", .int dg), (.inr "count", .int ct), (.inr "fold", .int fo)]
theorem bag_cells (c : Addr) (at_ dg ct fo : Int) : valV (bagK c at_ dg ct fo) (.inr "cells") = some (.ref c) := by kernel_rfl
theorem bag_at (c : Addr) (at_ dg ct fo : Int) : valV (bagK c at_ dg ct fo) (.inr "at") = some (.int at_) := by kernel_rfl
theorem bag_dg (c : Addr) (at_ dg ct fo : Int) : valV (bagK c at_ dg ct fo) (.inr "digits") = some (.int dg) := by kernel_rfl
theorem bag_ct (c : Addr) (at_ dg ct fo : Int) : valV (bagK c at_ dg ct fo) (.inr "count") = some (.int ct) := by kernel_rfl
theorem bag_fo (c : Addr) (at_ dg ct fo : Int) : valV (bagK c at_ dg ct fo) (.inr "fold") = some (.int fo) := by kernel_rfl
theorem put_at (c : Addr) (at_ dg ct fo z : Int) : putK (bagK c at_ dg ct fo) (.inr "at") (.int z) = bagK c z dg ct fo := by kernel_rfl
theorem put_dg (c : Addr) (at_ dg ct fo z : Int) : putK (bagK c at_ dg ct fo) (.inr "digits") (.int z) = bagK c at_ z ct fo := by kernel_rfl
theorem put_ct (c : Addr) (at_ dg ct fo z : Int) : putK (bagK c at_ dg ct fo) (.inr "count") (.int z) = bagK c at_ dg z fo := by kernel_rfl
theorem put_fo (c : Addr) (at_ dg ct fo z : Int) : putK (bagK c at_ dg ct fo) (.inr "fold") (.int z) = bagK c at_ dg ct z := by kernel_rfl
theorem bag_mk (c : Addr) (fo : Int) : mergeK [] (bagK c 0 0 0 fo) = bagK c 0 0 0 fo := by kernel_rfl

/-- a bag at b over the script ns, from which ct draws were made -/
structure BagAt (K : PySem.W.Frag) (H : Hp) (b : Addr) (ns : List Int) (ct : Int) : Prop where
  ex : ∃ (c : Addr) (at_ dg fo : Int), H b = some (.dK (bagK c at_ dg ct fo)) ∧ SqL K H c (ns.map V.int) ∧ 0 ≤ at_ ∧ 0 ≤ dg ∧ 0 ≤ fo ∧ fo < 2147483587
theorem BagAt.keep {K : PySem.W.Frag} {H H' : Hp} {b : Addr} {ns : List Int} {ct : Int} (B : BagAt K H b ns ct) (s : Same H H') : BagAt K H' b ns ct := by
  obtain ⟨c, at_, dg, fo, h1, h2, h3⟩ := B.ex
  exact ⟨c, at_, dg, fo, s _ _ h1, s.seq h2, h3⟩
/-- all that was tracked is as it was, but what stands at b -/
def SameBut (b : Addr) (H H' : Hp) : Prop := ∀ q o, q ≠ b → H q = some o → H' q = some o
theorem SameBut.refl (b : Addr) (H : Hp) : SameBut b H H := fun _ _ _ h => h
theorem SameBut.trans {b : Addr} {H H1 H2 : Hp} (x : SameBut b H H1) (y : SameBut b H1 H2) : SameBut b H H2 := fun q o hq h => y q o hq (x q o hq h)
theorem SameBut.of {b : Addr} {H H1 : Hp} (x : Same H H1) : SameBut b H H1 := fun q o _ h => x q o h
theorem SameBut.upd {b : Addr} {H H1 : Hp} (x : SameBut b H H1) (o : HO) : SameBut b H (upd H1 b o) := fun q u hq h => by rw [upd_ne hq]; exact x q u hq h

def spDraw (K : PySem.W.Frag) : Sp := fun vs H Q _ => ∃ (b : Addr) (lim : Int) (ns : List Int) (ct : Int), vs = [.ref b, .int lim] ∧ BagAt K H b ns ct ∧ 0 ≤ ct ∧ ct < 1000000 ∧ 0 < lim ∧ lim < 2 ^ 200 ∧ ns.length < 1000 ∧
  ∀ (r : Int) (H' : Hp), 0 ≤ r → r < lim → BagAt K H' b ns (ct + 1) → SameBut b H H' → Q (.int r) H'
def spBag (K : PySem.W.Frag) : Sp := fun vs H Q _ => ∃ (a : Addr) (ns : List Int), vs = [.ref a] ∧ SqL K H a (ns.map V.int) ∧ ns.length < 1000 ∧ ∀ (b : Addr) (H' : Hp), H b = none → BagAt K H' b ns 0 → Same H H' → Q (.ref b) H'

theorem sq_upd {K : PySem.W.Frag} {H : Hp} {a b : Addr} {xs : List V} {kvs : List (Key × V)} {o : HO} (h : SqL K H a xs) (hb : H b = some (.dK kvs)) : SqL K (upd H b o) a xs := by
  rcases h with (h | ⟨u, h⟩) | h
  · exact .inl (.inl (by rw [upd_ne (ne_of h hb (fun z => nomatch z))]; exact h))
  · exact .inl (.inr ⟨u, by rw [upd_ne (ne_of h hb (fun z => nomatch z))]; exact h⟩)
  · exact .inr h
theorem small5 {c : Addr} {at_ dg ct fo : Int} : (bagK c at_ dg ct fo).length < sizeLine := by show 5 < sizeLine; decide
/-- the bag as it stands, in a def that draws -/
structure BG (K : PySem.W.Frag) (H0 H : Hp) (b c : Addr) (ns : List Int) (at_ dg ct fo : Int) : Prop where
  h : H b = some (.dK (bagK c at_ dg ct fo))
  q : SqL K H c (ns.map V.int)
  s : SameBut b H0 H
section
variable {K : PySem.W.Frag} {H0 H : Hp} {b c : Addr} {ns : List Int} {a_ d_ n_ f_ : Int}
theorem BG.at_ (B : BG K H0 H b c ns a_ d_ n_ f_) (z : Int) : BG K H0 (upd H b (.dK (putK (bagK c a_ d_ n_ f_) (.inr "at") (.int z)))) b c ns z d_ n_ f_ := ⟨by rw [upd_same, put_at], sq_upd B.q B.h, B.s.upd _⟩
theorem BG.dg (B : BG K H0 H b c ns a_ d_ n_ f_) (z : Int) : BG K H0 (upd H b (.dK (putK (bagK c a_ d_ n_ f_) (.inr "digits") (.int z)))) b c ns a_ z n_ f_ := ⟨by rw [upd_same, put_dg], sq_upd B.q B.h, B.s.upd _⟩
theorem BG.ct (B : BG K H0 H b c ns a_ d_ n_ f_) (z : Int) : BG K H0 (upd H b (.dK (putK (bagK c a_ d_ n_ f_) (.inr "count") (.int z)))) b c ns a_ d_ z f_ := ⟨by rw [upd_same, put_ct], sq_upd B.q B.h, B.s.upd _⟩
theorem BG.fo (B : BG K H0 H b c ns a_ d_ n_ f_) (z : Int) : BG K H0 (upd H b (.dK (putK (bagK c a_ d_ n_ f_) (.inr "fold") (.int z)))) b c ns a_ d_ n_ z := ⟨by rw [upd_same, put_fo], sq_upd B.q B.h, B.s.upd _⟩
theorem BG.gc (B : BG K H0 H b c ns a_ d_ n_ f_) : DGet H b (.str "cells") (some (.ref c)) := by have z := DGet.k (k := Sum.inr "cells") B.h; rw [bag_cells] at z; exact z
theorem BG.ga (B : BG K H0 H b c ns a_ d_ n_ f_) : DGet H b (.str "at") (some (.int a_)) := by have z := DGet.k (k := Sum.inr "at") B.h; rw [bag_at] at z; exact z
theorem BG.gd (B : BG K H0 H b c ns a_ d_ n_ f_) : DGet H b (.str "digits") (some (.int d_)) := by have z := DGet.k (k := Sum.inr "digits") B.h; rw [bag_dg] at z; exact z
theorem BG.gn (B : BG K H0 H b c ns a_ d_ n_ f_) : DGet H b (.str "count") (some (.int n_)) := by have z := DGet.k (k := Sum.inr "count") B.h; rw [bag_ct] at z; exact z
theorem BG.gf (B : BG K H0 H b c ns a_ d_ n_ f_) : DGet H b (.str "fold") (some (.int f_)) := by have z := DGet.k (k := Sum.inr "fold") B.h; rw [bag_fo] at z; exact z
theorem BG.out (B : BG K H0 H b c ns a_ d_ n_ f_) (h1 : 0 ≤ a_) (h2 : 0 ≤ d_) (h3 : 0 ≤ f_) (h4 : f_ < 2147483587) : BagAt K H b ns n_ := ⟨c, a_, d_, f_, B.h, B.q, h1, h2, h3, h4⟩
end
structure BTxt (mg : Str → Option Value) : Prop where
  len : mg "len" = none
  int : mg "int" = none
  list : mg "list" = none
section
variable {P : Program} {w : World} {K : PySem.W.Frag} {mg : Str → Option Value} {base : Heap}
theorem scD : FnScope ["bag", "limit", "cell", "digit", "base"] ["bag", "limit"] (defScope sDraw) := ⟨rfl, rfl, rfl, by decide +kernel, rfl, by decide +kernel, by decide +kernel⟩
theorem ok_draw {f : Addr} {fd : FuncData} (F : Fun K "_law_draw" "_law_draw" sDraw f fd) (T : BTxt mg) : FnOk P w K mg base CX0 1 f fd ["bag", "limit"] (spDraw K) := by
  refine F.ok scD (fun vs H Q E h => ?_) (fun cdv A outer s H vs Q E hr h => ?_)
  · obtain ⟨b, lim, ns, ct, rfl, _⟩ := h
    rfl
  · obtain ⟨b, lim, ns, ct, rfl, ⟨c, at_, dg, fo, hb, hc, h1, h2, h3, h4⟩, hct, hct2, hl, hl2, hns, k⟩ := h
    have hu := hu_of hr
    -- behind the first if
    obtain ⟨t2, p2, q2⟩ : ∃ t2, PSs (cxOf CX0 P w K mg base ["bag", "limit", "cell", "digit", "base"] "_law_draw" (defScope sDraw) f cdv A outer s H E).nox ((defBody sDraw).drop 2) t2 ∧
        ∀ (v2 : Option V) (H1 : Hp) (a1 d1 f1 : Int), BG K H H1 b c ns a1 d1 (ct + 1) f1 → 0 ≤ a1 → 0 ≤ d1 → 0 ≤ f1 → f1 < 2147483587 → t2 { nx := fun _ H' => Q .non H', rt := Q } [some (.ref b), some (.int lim), v2, none, none] H1 := by
      refine ⟨_, pss_cons (ps_if (pt_cmpR op_gt (pe_dget hu (pv 0) pe_str (fun _ _ => rfl)) pe_int (nomark _))
        (pss_cons (ps_set (i := 3) scD.nd rfl (Or.inl rfl) (pe_op op_mod (pe_callTy call_int1 (by rfl) T.int (by decide +kernel) (pa_cons (pe_dget hu (pv 0) pe_str (fun _ _ => rfl)) pa_nil)) (pv 1)))
        (pss_cons (ps_dput hu (pv 0) pe_str (pe_op op_fdivW (pe_dget hu (pv 0) pe_str (fun _ _ => rfl)) (pv 1)) rfl)
        (pss_one (ps_ret (pv 3))))) pss_nil)
      (pss_cons (ps_set (i := 4) scD.nd rfl (Or.inl rfl) (pe_op op_add (pe_op op_add (pe_dget hu (pv 0) pe_str (fun _ _ => rfl)) (pe_op op_mul (pe_dget hu (pv 0) pe_str (fun _ _ => rfl)) pe_int)) pe_int))
      (pss_one (ps_ret (pe_op op_mod (pe_op op_fdiv (pe_callTy call_int1 (by rfl) T.int (by decide +kernel) (pa_cons (pe_op op_mod (pe_op op_pow (pv 4) pe_int) pe_int) pa_nil)) pe_int) (pv 1))))), ?_⟩
      intro v2 H1 a1 d1 f1 B x1 x2 x3 x4
      have hlw : CDivW d1 lim := wide_div (b := 200) hl (by omega) (by decide) (by decide)
      refine ⟨_, rfl, b, _, rfl, B.gd, _, _, rfl, rfl, _, rfl, ite2 (fun c1 => ?_) (fun c1 => ?_)⟩
      · -- a digit
        refine ⟨_, rfl, b, _, rfl, B.gd, .inl ⟨_, rfl, _, rfl, _, _, rfl, rfl, hl, ?_⟩⟩
        refine ⟨_, rfl, b, _, rfl, B.gd, _, rfl, _, _, rfl, rfl, hlw, _, rfl, b, _, rfl, DPut.k (k := Sum.inr "digits") B.h small5, ?_⟩
        have B2 := B.dg (d1 / lim)
        refine ⟨_, rfl, ?_⟩
        exact k _ _ (Int.emod_nonneg _ (by omega)) (Int.emod_lt_of_pos _ hl) (B2.out x1 (Int.ediv_nonneg x2 (by omega)) x3 x4) B2.s
      · -- from the fold
        refine ⟨_, rfl, b, _, rfl, B.gf, _, rfl, b, _, rfl, B.gn, _, _, rfl, rfl, .inl ⟨by omega, by omega⟩, _, _, rfl, rfl, _, _, rfl, rfl, ?_⟩
        refine ⟨_, rfl, _, _, rfl, rfl, ⟨by decide, by decide, by omega⟩, _, _, rfl, rfl, (by show (0 : Int) < 2305843009213693951; decide), .inl ⟨_, rfl, _, _, rfl, rfl, ⟨by decide, by decide⟩, _, rfl, _, _, rfl, rfl, hl, ?_⟩⟩
        exact k _ _ (Int.emod_nonneg _ (by omega)) (Int.emod_lt_of_pos _ hl) (B.out x1 x2 x3 x4) B.s
    refine ⟨_, pss_cons (ps_dput hu (pv 0) pe_str (pe_op op_add (pe_dget hu (pv 0) pe_str (fun _ _ => rfl)) pe_int) rfl)
      (pss_cons (ps_if (PW.pt (pw_and (pt_cmpR op_eq (pe_dget hu (pv 0) pe_str (fun _ _ => rfl)) pe_int (nomark _))
          (pw_and1 (pt_cmpR op_lt (pe_dget hu (pv 0) pe_str (fun _ _ => rfl)) (pe_callB call_len_seq (by rfl) T.len PySem.boot_len (pa_cons (pe_dget hu (pv 0) pe_str (fun _ _ => rfl)) pa_nil)) (nomark _)))))
        (pss_cons (ps_set (i := 2) scD.nd rfl (Or.inl rfl) (pe_ix ix_list (pe_dget hu (pv 0) pe_str (fun _ _ => rfl)) (pe_dget hu (pv 0) pe_str (fun _ _ => rfl)) (fun _ _ => rfl)))
        (pss_cons (ps_dput hu (pv 0) pe_str (pe_op op_add (pe_dget hu (pv 0) pe_str (fun _ _ => rfl)) pe_int) rfl)
        (pss_one (ps_if (pt_cmpR op_ge (pv 2) (pe_op op_pow pe_int pe_int) (nomark _))
          (pss_one (ps_dput hu (pv 0) pe_str (pe_op op_sub (pv 2) (pe_op op_pow pe_int pe_int)) rfl))
          (pss_one (ps_dput hu (pv 0) pe_str (pe_op op_mod (pe_callTy call_int1 (by rfl) T.int (by decide +kernel) (pa_cons (pe_op op_add (pe_op op_mul (pe_dget hu (pv 0) pe_str (fun _ _ => rfl)) pe_int) (pv 2)) pa_nil)) pe_int) rfl))))))
        pss_nil) p2), ?_⟩
    have B0 : BG K H H b c ns at_ dg ct fo := ⟨hb, hc, SameBut.refl _ _⟩
    -- bag['count'] = bag['count'] + 1
    refine ⟨_, rfl, b, _, rfl, B0.gn, _, _, rfl, rfl, _, rfl, b, _, rfl, DPut.k (k := Sum.inr "count") B0.h small5, ?_⟩
    have B1 := B0.ct (ct + 1)
    refine ⟨_, rfl, b, _, rfl, B1.gd, rfl, _, rfl, ?_⟩
    refine ite2 (fun c1 => ?_) (fun c1 => ?_)
    · refine ⟨_, rfl, b, _, rfl, B1.ga, _, rfl, b, _, rfl, B1.gc, c, _, rfl, .inl B1.q, _, _, rfl, rfl, _, rfl, ?_⟩
      refine ite2 (fun c2 => ?_) (fun c2 => ?_)
      · have hlt : at_ < (ns.map V.int).length := of_decide_eq_true c2
        rw [List.length_map] at hlt
        obtain ⟨j, ej⟩ : ∃ j : Nat, at_ = (j : Int) := ⟨at_.toNat, by omega⟩
        have hj : j < ns.length := by omega
        have hget : (ns.map V.int)[j]? = some (V.int ns[j]) := by rw [List.getElem?_map, List.getElem?_eq_getElem hj]; rfl
        refine ⟨_, rfl, b, _, rfl, B1.gc, _, rfl, b, _, rfl, B1.ga, c, _, _, _, rfl, rfl, B1.q, by rw [ej]; exact atI_nat hget, ?_⟩
        refine ⟨_, rfl, b, _, rfl, B1.ga, _, _, rfl, rfl, _, rfl, b, _, rfl, DPut.k (k := Sum.inr "at") B1.h small5, ?_⟩
        have B2 := B1.at_ (at_ + 1)
        refine ⟨_, rfl, _, _, rfl, rfl, ⟨by decide, by decide, by decide⟩, _, _, rfl, rfl, _, rfl, ite2 (fun c3 => ?_) (fun c3 => ?_)⟩
        · have hge : (10 : Int) ^ (18 : Int).toNat ≤ ns[j] := of_decide_eq_true c3
          refine ⟨_, rfl, _, _, rfl, rfl, ⟨by decide, by decide, by decide⟩, _, _, rfl, rfl, _, rfl, b, _, rfl, DPut.k (k := Sum.inr "digits") B2.h small5, ?_⟩
          exact q2 _ _ _ _ _ (B2.dg (ns[j] - 10 ^ (18 : Int).toNat)) (by omega) (by omega) h3 h4
        · refine ⟨_, rfl, b, _, rfl, B2.gf, _, _, rfl, rfl, .inl ⟨by omega, by omega⟩, _, rfl, _, _, rfl, rfl, .inl ⟨_, rfl, _, _, rfl, rfl, (by show (0 : Int) < 2147483587; decide), ?_⟩⟩
          refine ⟨_, rfl, b, _, rfl, DPut.k (k := Sum.inr "fold") B2.h small5, ?_⟩
          exact q2 _ _ _ _ _ (B2.fo _) (by omega) h2 (Int.emod_nonneg _ (by decide)) (Int.emod_lt_of_pos _ (by decide))
      · exact q2 _ _ _ _ _ B1 h1 h2 h3 h4
    · refine iteF ?_
      exact q2 _ _ _ _ _ B1 h1 h2 h3 h4
end
end K00

namespace K00
open PySem PySem.Spec PyProof.Rows L2
abbrev sThing : Stmt := top 18
theorem same_upd {H : Hp} {p : Addr} {o : HO} (hp : H p = none) : Same H (upd H p o) := fun q u hq => by rw [upd_ne (ne_of_none hq hp)]; exact hq
theorem sq_new {K : PySem.W.Frag} {H : Hp} {a p : Addr} {xs : List V} {o : HO} (h : SqL K H a xs) (hp : H p = none) : SqL K (upd H p o) a xs := (same_upd hp).seq h
section
variable {P : Program} {w : World} {K : PySem.W.Frag} {mg : Str → Option Value} {base : Heap}
theorem scB : FnScope ["script", "fold", "cell"] ["script"] (defScope sBag) := ⟨rfl, rfl, rfl, by decide +kernel, rfl, by decide +kernel, by decide +kernel⟩
theorem ok_bag {f : Addr} {fd : FuncData} (F : Fun K "_law_bag" "_law_bag" sBag f fd) (T : BTxt mg) : FnOk P w K mg base CX0 1 f fd ["script"] (spBag K) := by
  refine F.ok scB (fun vs H Q E h => ?_) (fun cdv A outer s H vs Q E hr h => ?_)
  · obtain ⟨a, ns, rfl, _⟩ := h
    rfl
  · obtain ⟨a, ns, rfl, hS, hns, k⟩ := h
    have hu := hu_of hr
    refine ⟨_, pss_cons (ps_set (i := 1) scB.nd rfl (Or.inl rfl) pe_int)
      (pss_cons (ps_for PassesOwn.never rfl (pi_list (pv 0)) (pg_name (i := 2) scB.nd rfl (Or.inl rfl))
        (pss_one (ps_set (i := 1) scB.nd rfl (Or.inl rfl) (pe_op op_mod (pe_callTy call_int1 (by rfl) T.int (by decide +kernel) (pa_cons (pe_op op_add (pe_op op_mul (pv 1) pe_int) (pv 2)) pa_nil)) pe_int))))
      (pss_one (ps_ret (pe_disp (pps_cons pe_str (pe_callTy call_list_of (by rfl) T.list (by decide +kernel) (pa_cons (pv 0) pa_nil)) (pps_cons pe_str pe_int (pps_cons pe_str pe_int (pps_cons pe_str pe_int (pps_cons pe_str (pv 1) pps_nil))))) (by rfl) (by rfl) (fun z => by cases z) (by decide))))), ?_⟩
    refine ⟨_, rfl, a, rfl, ⟨_, hS⟩, for_list (K := K) (a := a) (xs := ns.map V.int) (fun i σ H' => ∃ (fo : Int) (v : Option V), σ = [some (.ref a), some (.int fo), v] ∧ H' = H ∧ 0 ≤ fo ∧ fo < 1000000009)
      ⟨0, none, rfl, rfl, by decide, by decide⟩ (fun i σ H' _ ⟨_, _, _, e, _⟩ => by rw [e]; exact hS) ?_ ?_⟩
    · rintro i y σ H' hi ⟨fo, v, rfl, rfl, h1, h2⟩
      obtain ⟨z, rfl⟩ : ∃ z, y = V.int z := by
        rw [List.getElem?_map] at hi
        cases e : ns[i]? with
        | none => rw [e] at hi; cases hi
        | some z => rw [e] at hi; exact ⟨z, (Option.some.inj hi).symm⟩
      refine ⟨_, rfl, _, _, rfl, rfl, .inl ⟨by omega, by omega⟩, _, rfl, _, _, rfl, rfl, .inl ⟨_, rfl, _, _, rfl, rfl, (by show (0 : Int) < 1000000009; decide), ?_⟩⟩
      exact ⟨_, _, rfl, rfl, Int.emod_nonneg _ (by decide), Int.emod_lt_of_pos _ (by decide)⟩
    · rintro σ H' ⟨fo, v, rfl, rfl, h1, h2⟩
      intro p hp
      refine ⟨_, rfl, a, _, rfl, .inl (sq_new hS hp), fun l hl => ⟨_, rfl, ?_⟩⟩
      have lp : l ≠ p := fun z => by rw [z, upd_same] at hl; cases hl
      refine ⟨by rw [upd_ne lp.symm, upd_same], bagK l 0 0 0 fo, rfl, (by show 5 ≤ 15; decide), ?_⟩
      rw [bag_mk]
      refine k p _ hp ⟨l, 0, 0, fo, upd_same, ?_, by decide, by decide, h1, by omega⟩ ?_
      · exact SqL.of (by rw [upd_ne lp, upd_same])
      · intro q o hq
        rw [upd_ne (ne_of_none hq hp), upd_ne (ne_of_none (by rw [upd_ne (ne_of_none hq hp)]; exact hq) hl), upd_ne (ne_of_none hq hp)]
        exact hq

/-- data that may be compared, with nothing in it that is unlike itself -/
structure Tame (d : PyData) : Prop where
  lay : d.canLay0 = true
  dep : d.depth ≤ 3
  rfl_ : PyData.eqv d d = true
theorem Tame.shaped {d : PyData} (t : Tame d) : SeqAt.shaped d = true := by
  unfold SeqAt.shaped
  rw [t.lay, Bool.true_and]
  exact decide_eq_true (Nat.le_trans t.dep (by decide))
/-- a value that is such data, whatever becomes of the bag at b -/
def Thing (K : PySem.W.Frag) (b : Addr) (H : Hp) (v : V) : Prop := ∃ d, Tame d ∧ ∀ H', SameBut b H H' → Dp K H' v d
theorem Thing.keep {K : PySem.W.Frag} {b : Addr} {H H' : Hp} {v : V} (t : Thing K b H v) (s : SameBut b H H') : Thing K b H' v :=
  let ⟨d, h1, h2⟩ := t; ⟨d, h1, fun H2 s2 => h2 H2 (s.trans s2)⟩
def spThing (K : PySem.W.Frag) : Sp := fun vs H Q _ => ∃ (b : Addr) (ns : List Int) (ct : Int), vs = [.ref b] ∧ BagAt K H b ns ct ∧ 0 ≤ ct ∧ ct < 100000 ∧ ns.length < 1000 ∧
  ∀ (v : V) (H' : Hp), Thing K b H' v → BagAt K H' b ns (ct + 2) → SameBut b H H' → Q v H'
theorem scTh : FnScope ["bag"] ["bag"] (defScope sThing) := ⟨rfl, rfl, rfl, by decide +kernel, rfl, by decide +kernel, by decide +kernel⟩
theorem ok_thing {f fDr : Addr} {fd fdD : FuncData} (F : Fun K "_law_thing" "_law_thing" sThing f fd) (T : BTxt mg) (FD : Fun K "_law_draw" "_law_draw" sDraw fDr fdD) (bD : Binds K fdD ["bag", "limit"] []) (gD : mg "_law_draw" = some (.ref fDr)) :
    FnOk P w K mg base CX0 2 f fd ["bag"] (spThing K) := by
  have GD : FnOk P w K mg base CX0 1 fDr fdD ["bag", "limit"] (spDraw K) := ok_draw FD T
  refine F.ok scTh (fun vs H Q E h => ?_) (fun cdv A outer s H vs Q E hr h => ?_)
  · obtain ⟨b, ns, ct, rfl, _⟩ := h
    rfl
  · obtain ⟨b, ns, ct, rfl, B, hct, hct2, hns, k⟩ := h
    refine ⟨_, pss_one (ps_ret (pe_ix ix_list (pe_lst
        (pa_cons (pe_op op_sub (pe_call GD hr (by rfl) gD FD.kp bD .nil pass0 (pa_cons (pv 0) (pa_cons (pe_op op_pow pe_int pe_int) pa_nil))) (pe_op op_pow pe_int pe_int))
        (pa_cons pe_str (pa_cons pe_str (pa_cons pe_non (pa_cons pe_bl (pa_cons (pe_tup (pa_cons pe_int (pa_cons pe_str pa_nil))) (pa_cons (pe_lst pa_nil) (pa_cons (pe_lst (pa_cons pe_int pa_nil)) (pa_cons pe_int pa_nil))))))))))
      (pe_call GD hr (by rfl) gD FD.kp bD .nil pass0 (pa_cons (pv 0) (pa_cons pe_int pa_nil))) (fun _ _ => rfl))), ?_⟩
    -- the first draw
    refine ⟨_, rfl, _, _, rfl, rfl, ⟨by decide, by decide, by decide⟩, b, 10 ^ (20 : Int).toNat, ns, ct, rfl, B, hct, by omega, by decide, by decide, hns, fun r H1 h1 h2 B1 s1 => ?_⟩
    refine ⟨_, _, rfl, rfl, ⟨by decide, by decide, by decide⟩, _, _, rfl, rfl, ?_⟩
    refine ⟨(by show 2 ≤ sizeLine; decide), fun t ht => ⟨(by show 0 ≤ sizeLine; decide), fun l0 hl0 => ⟨(by show 1 ≤ sizeLine; decide), fun l1 hl1 => ⟨(by show 9 ≤ sizeLine; decide), fun p hp => ?_⟩⟩⟩⟩
    have e1 : Same H1 (upd H1 t (.tup [.int 1, .str "a"])) := same_upd ht
    have e2 := same_upd (o := .lst []) hl0
    have e3 := same_upd (o := .lst [.int 3]) hl1
    have e4 := same_upd (o := .lst [.int (r - 10 ^ (19 : Int).toNat), .str "", .str "p1", .non, .bl true, .ref t, .ref l0, .ref l1, .int 0]) hp
    have all : Same H1 _ := ((e1.trans e2).trans e3).trans e4
    have B2 := B1.keep all
    refine ⟨_, rfl, b, 9, ns, ct + 1, rfl, B2, by omega, by omega, by decide, by decide, hns, fun i H2 i1 i2 B3 s2 => ?_⟩
    obtain ⟨cc, _, _, _, hbb, _⟩ := B2.ex
    have nb : ∀ {q : Addr} {H' : Hp} {o : HO}, H' q = none → Same (upd H' q o) (upd (upd (upd (upd H1 t (.tup [.int 1, .str "a"])) l0 (.lst [])) l1 (.lst [.int 3])) p (.lst [.int (r - 10 ^ (19 : Int).toNat), .str "", .str "p1", .non, .bl true, .ref t, .ref l0, .ref l1, .int 0])) → (∀ kvs, o ≠ .dK kvs) → q ≠ b := fun {q H' o} hq sm no z => by
      have := sm q o upd_same
      rw [z, hbb] at this
      exact no _ (Option.some.inj this).symm
    have Hp2 : H2 p = some (.lst [.int (r - 10 ^ (19 : Int).toNat), .str "", .str "p1", .non, .bl true, .ref t, .ref l0, .ref l1, .int 0]) := s2 p _ (nb hp (Same.refl _) (fun _ z => nomatch z)) upd_same
    have Ht2 : H2 t = some (.tup [.int 1, .str "a"]) := s2 t _ (nb ht ((e2.trans e3).trans e4) (fun _ z => nomatch z)) (((e2.trans e3).trans e4) _ _ upd_same)
    have H02 : H2 l0 = some (.lst []) := s2 l0 _ (nb hl0 (e3.trans e4) (fun _ z => nomatch z)) ((e3.trans e4) _ _ upd_same)
    have H12 : H2 l1 = some (.lst [.int 3]) := s2 l1 _ (nb hl1 e4 (fun _ z => nomatch z)) (e4 _ _ upd_same)
    have ntb := nb ht ((e2.trans e3).trans e4) (fun _ z => nomatch z)
    have n0b := nb hl0 (e3.trans e4) (fun _ z => nomatch z)
    have n1b := nb hl1 e4 (fun _ z => nomatch z)
    have sb : SameBut b H H2 := s1.trans ((SameBut.of all).trans s2)
    have fin : ∀ (v : V), Thing K b H2 v → Q v H2 := fun v hv => k v H2 hv (by have z := B3; rw [show ct + 1 + 1 = ct + 2 by omega] at z; exact z) sb
    have get : ∀ (j : Nat) (v : V), i = (j : Int) → ([.int (r - 10 ^ (19 : Int).toNat), .str "", .str "p1", .non, .bl true, .ref t, .ref l0, .ref l1, .int 0] : List V)[j]? = some v → Thing K b H2 v →
        ∃ p' xs i' v', V.ref p = .ref p' ∧ V.int i = .int i' ∧ SqL K H2 p' xs ∧ atI xs i' = some v' ∧ Q v' H2 := fun j v e h1 h2 => ⟨p, _, i, v, rfl, rfl, SqL.of Hp2, at_of e h1, fin v h2⟩
    have cases9 : i = 0 ∨ i = 1 ∨ i = 2 ∨ i = 3 ∨ i = 4 ∨ i = 5 ∨ i = 6 ∨ i = 7 ∨ i = 8 := by omega
    rcases cases9 with e | e | e | e | e | e | e | e | e
    · exact get 0 _ e rfl ⟨.int _, ⟨rfl, Nat.zero_le _, by simp [PyData.eqv]⟩, fun _ _ => .int _⟩
    · exact get 1 _ e rfl ⟨.str "", ⟨by decide +kernel, by decide, by decide +kernel⟩, fun _ _ => .str _⟩
    · exact get 2 _ e rfl ⟨.str "p1", ⟨by decide +kernel, by decide, by decide +kernel⟩, fun _ _ => .str _⟩
    · exact get 3 _ e rfl ⟨.none, ⟨by decide +kernel, by decide, by decide +kernel⟩, fun _ _ => .non⟩
    · exact get 4 _ e rfl ⟨.bool true, ⟨by decide +kernel, by decide, by decide +kernel⟩, fun _ _ => .bl _⟩
    · exact get 5 _ e rfl ⟨.tuple [.int 1, .str "a"], ⟨by decide +kernel, by decide, by decide +kernel⟩, fun H' s' => .tup (SqT.of (s' t _ ntb Ht2)) (.cons (.int _) (.cons (.str _) .nil))⟩
    · exact get 6 _ e rfl ⟨.list [], ⟨by decide +kernel, by decide, by decide +kernel⟩, fun H' s' => .lst (SqL.of (s' l0 _ n0b H02)) .nil⟩
    · exact get 7 _ e rfl ⟨.list [.int 3], ⟨by decide +kernel, by decide, by decide +kernel⟩, fun H' s' => .lst (SqL.of (s' l1 _ n1b H12)) (.cons (.int _) .nil)⟩
    · exact get 8 _ e rfl ⟨.int 0, ⟨by decide +kernel, by decide, by decide +kernel⟩, fun _ _ => .int _⟩
end
end K00

namespace K00
open PySem PySem.Spec PyProof.Rows L2 PySem.RingX
abbrev sR0 : Stmt := top 19
abbrev sR1 : Stmt := top 20
abbrev sR : Stmt := top 21
abbrev sKinds : Stmt := top 22
abbrev sCaught : Stmt := top 23
abbrev sF0 : Stmt := top 24
abbrev sF1 : Stmt := top 25
abbrev sF : Stmt := top 26
abbrev sLaw : Stmt := top 27

theorem ifF {c : Bool} {A B : Prop} (hc : c = false) (h : B) : if c = true then A else B := by
  rw [hc, if_neg Bool.false_ne_true]
  exact h
theorem ifT {c : Bool} {A B : Prop} (hc : c = true) (h : A) : if c = true then A else B := by
  rw [if_pos hc]
  exact h

def fsOf (n : Nat) : List Str := ([["kind"], ["way"], ["line"], ["line"], ["ring"], ["handed"], ["promise"], ["line"], ["n"], ["name"], ["name"], [], ["what", "many", "most"]] : List (List Str)).getD n []
def argsOf (n : Nat) (a b c : V) : List V := if n = 11 then [] else if n = 12 then [a, b, c] else [a]
/-- the n-th error is raised, made of a, b, c -/
def RzE (C : Nat → Addr) (n : Nat) (a b c : V) (H : Hp) (E : XK) : Prop :=
  (fsOf n = [] → E (.ref (C n)) none H) ∧ (fsOf n ≠ [] → ∀ d, H d = none → E (.ref (C n)) (some d) (upd H d (.xd (xdl (fsOf n) (argsOf n a b c)))))
structure Exs (prog : Program) (K : PySem.W.Frag) (mg : Str → Option Value) (C fI : Nat → Addr) : Prop where
  e0 : ExTxt prog K mg (C 0) (fI 0) "BadKind" ["kind"]
  e1 : ExTxt prog K mg (C 1) (fI 1) "BadWay" ["way"]
  e2 : ExTxt prog K mg (C 2) (fI 2) "BadLine" ["line"]
  e3 : ExTxt prog K mg (C 3) (fI 3) "Refused" ["line"]
  e4 : ExTxt prog K mg (C 4) (fI 4) "BadRing" ["ring"]
  e5 : ExTxt prog K mg (C 5) (fI 5) "BadHanded" ["handed"]
  e6 : ExTxt prog K mg (C 6) (fI 6) "BadPromise" ["promise"]
  e7 : ExTxt prog K mg (C 7) (fI 7) "NoLine" ["line"]
  e8 : ExTxt prog K mg (C 8) (fI 8) "BadSize" ["n"]
  e9 : ExTxt prog K mg (C 9) (fI 9) "BadName" ["name"]
  e10 : ExTxt prog K mg (C 10) (fI 10) "NoDeed" ["name"]
  e11 : ExTxt prog K mg (C 11) (fI 11) "NothingToUndo" []
  e12 : ExTxt prog K mg (C 12) (fI 12) "TooMany" ["what", "many", "most"]
def spRz (C : Nat → Addr) (lo hi : Nat) : Sp := fun vs H Q E => ∃ (n : Nat) (a b c : V), vs = [.int n, a, b, c] ∧ lo ≤ n ∧ n < hi ∧ RzE C n a b c H E
section
variable {P : Program} {w : World} {K : PySem.W.Frag} {mg : Str → Option Value} {base : Heap} {C fI : Nat → Addr}
theorem scR0 : FnScope ["k", "a", "b", "c"] ["k", "a", "b", "c"] (defScope sR0) := ⟨rfl, rfl, rfl, by decide +kernel, rfl, by decide +kernel, by decide +kernel⟩
theorem ok_r0 {f : Addr} {fd : FuncData} (F : Fun K "_law_raised_0" "_law_raised_0" sR0 f fd) (T : Exs P K mg C fI) : FnOk P w K mg base (L2.CX P w) 2 f fd ["k", "a", "b", "c"] (spRz C 0 8) := by
  refine F.okX scR0 (fun vs H Q E h => ?_) (fun cdv A outer s H vs Q E hr h => ?_)
  · obtain ⟨n, a, b, c, rfl, _⟩ := h
    rfl
  · obtain ⟨n, a, b, c, rfl, _, hn, h⟩ := h
    refine ⟨_, pss_cons (ps_if (pt_cmpR op_eq (pv 0) pe_int (nomark _)) (pss_one (ps_raiseX rfl T.e0 hr (takes_of rfl rfl rfl rfl) (pa_cons (pv 1) pa_nil))) pss_nil)
      (pss_cons (ps_if (pt_cmpR op_eq (pv 0) pe_int (nomark _)) (pss_one (ps_raiseX rfl T.e1 hr (takes_of rfl rfl rfl rfl) (pa_cons (pv 1) pa_nil))) pss_nil)
      (pss_cons (ps_if (pt_cmpR op_eq (pv 0) pe_int (nomark _)) (pss_one (ps_raiseX rfl T.e2 hr (takes_of rfl rfl rfl rfl) (pa_cons (pv 1) pa_nil))) pss_nil)
      (pss_cons (ps_if (pt_cmpR op_eq (pv 0) pe_int (nomark _)) (pss_one (ps_raiseX rfl T.e3 hr (takes_of rfl rfl rfl rfl) (pa_cons (pv 1) pa_nil))) pss_nil)
      (pss_cons (ps_if (pt_cmpR op_eq (pv 0) pe_int (nomark _)) (pss_one (ps_raiseX rfl T.e4 hr (takes_of rfl rfl rfl rfl) (pa_cons (pv 1) pa_nil))) pss_nil)
      (pss_cons (ps_if (pt_cmpR op_eq (pv 0) pe_int (nomark _)) (pss_one (ps_raiseX rfl T.e5 hr (takes_of rfl rfl rfl rfl) (pa_cons (pv 1) pa_nil))) pss_nil)
      (pss_cons (ps_if (pt_cmpR op_eq (pv 0) pe_int (nomark _)) (pss_one (ps_raiseX rfl T.e6 hr (takes_of rfl rfl rfl rfl) (pa_cons (pv 1) pa_nil))) pss_nil)
      (pss_cons (ps_if (pt_cmpR op_eq (pv 0) pe_int (nomark _)) (pss_one (ps_raiseX rfl T.e7 hr (takes_of rfl rfl rfl rfl) (pa_cons (pv 1) pa_nil))) pss_nil)
      (pss_one (ps_ret pe_non))))))))), ?_⟩
    have cs : n = 0 ∨ n = 1 ∨ n = 2 ∨ n = 3 ∨ n = 4 ∨ n = 5 ∨ n = 6 ∨ n = 7 := by omega
    rcases cs with e | e | e | e | e | e | e | e <;> subst e
    all_goals repeat (first | exact ⟨_, rfl, rfl, _, rfl, ifT (by decide) ⟨_, rfl, rfl, h.1, h.2⟩⟩ | refine ⟨_, rfl, rfl, _, rfl, ifF (by decide) ?_⟩)
theorem scR1 : FnScope ["k", "a", "b", "c"] ["k", "a", "b", "c"] (defScope sR1) := ⟨rfl, rfl, rfl, by decide +kernel, rfl, by decide +kernel, by decide +kernel⟩
theorem ok_r1 {f : Addr} {fd : FuncData} (F : Fun K "_law_raised_1" "_law_raised_1" sR1 f fd) (T : Exs P K mg C fI) : FnOk P w K mg base (L2.CX P w) 2 f fd ["k", "a", "b", "c"] (spRz C 8 13) := by
  refine F.okX scR1 (fun vs H Q E h => ?_) (fun cdv A outer s H vs Q E hr h => ?_)
  · obtain ⟨n, a, b, c, rfl, _⟩ := h
    rfl
  · obtain ⟨n, a, b, c, rfl, hl, hn, h⟩ := h
    refine ⟨_, pss_cons (ps_if (pt_cmpR op_eq (pv 0) pe_int (nomark _)) (pss_one (ps_raiseX rfl T.e8 hr (takes_of rfl rfl rfl rfl) (pa_cons (pv 1) pa_nil))) pss_nil)
      (pss_cons (ps_if (pt_cmpR op_eq (pv 0) pe_int (nomark _)) (pss_one (ps_raiseX rfl T.e9 hr (takes_of rfl rfl rfl rfl) (pa_cons (pv 1) pa_nil))) pss_nil)
      (pss_cons (ps_if (pt_cmpR op_eq (pv 0) pe_int (nomark _)) (pss_one (ps_raiseX rfl T.e10 hr (takes_of rfl rfl rfl rfl) (pa_cons (pv 1) pa_nil))) pss_nil)
      (pss_cons (ps_if (pt_cmpR op_eq (pv 0) pe_int (nomark _)) (pss_one (ps_raiseX0 rfl T.e11 hr (takes_of rfl rfl rfl rfl))) pss_nil)
      (pss_cons (ps_if (pt_cmpR op_eq (pv 0) pe_int (nomark _)) (pss_one (ps_raiseX rfl T.e12 hr (takes_of rfl rfl rfl rfl) (pa_cons (pv 1) (pa_cons (pv 2) (pa_cons (pv 3) pa_nil))))) pss_nil)
      (pss_one (ps_ret pe_non)))))), ?_⟩
    have cs : n = 8 ∨ n = 9 ∨ n = 10 ∨ n = 11 ∨ n = 12 := by omega
    rcases cs with e | e | e | e | e <;> subst e
    all_goals repeat (first | exact ⟨_, rfl, rfl, _, rfl, ifT (by decide) ⟨_, rfl, rfl, h.1, h.2⟩⟩ | exact ⟨_, rfl, rfl, _, rfl, ifT (by decide) ⟨rfl, h.1, h.2⟩⟩ | exact ⟨_, rfl, rfl, _, rfl, ifT (by decide) ⟨_, rfl, _, rfl, _, rfl, rfl, h.1, h.2⟩⟩ | refine ⟨_, rfl, rfl, _, rfl, ifF (by decide) ?_⟩)
theorem scR : FnScope ["k", "a", "b", "c"] ["k", "a", "b", "c"] (defScope sR) := ⟨rfl, rfl, rfl, by decide +kernel, rfl, by decide +kernel, by decide +kernel⟩
/-- where the two that raise stand -/
structure RTxt (K : PySem.W.Frag) (mg : Str → Option Value) (f0 f1 : Addr) (fd0 fd1 : FuncData) : Prop where
  F0 : Fun K "_law_raised_0" "_law_raised_0" sR0 f0 fd0
  F1 : Fun K "_law_raised_1" "_law_raised_1" sR1 f1 fd1
  b0 : Binds K fd0 ["k", "a", "b", "c"] []
  b1 : Binds K fd1 ["k", "a", "b", "c"] []
  g0 : mg "_law_raised_0" = some (.ref f0)
  g1 : mg "_law_raised_1" = some (.ref f1)
theorem ok_r {f f0 f1 : Addr} {fd fd0 fd1 : FuncData} (F : Fun K "_law_raised" "_law_raised" sR f fd) (T : Exs P K mg C fI) (R : RTxt K mg f0 f1 fd0 fd1) : FnOk P w K mg base (L2.CX P w) 3 f fd ["k", "a", "b", "c"] (spRz C 0 13) := by
  have G0 : FnOk P w K mg base (L2.CX P w) 2 f0 fd0 ["k", "a", "b", "c"] (spRz C 0 8) := ok_r0 R.F0 T
  have G1 : FnOk P w K mg base (L2.CX P w) 2 f1 fd1 ["k", "a", "b", "c"] (spRz C 8 13) := ok_r1 R.F1 T
  refine F.okX scR (fun vs H Q E h => ?_) (fun cdv A outer s H vs Q E hr h => ?_)
  · obtain ⟨n, a, b, c, rfl, _⟩ := h
    rfl
  · obtain ⟨n, a, b, c, rfl, hl, hn, h⟩ := h
    refine ⟨_, pss_cons (ps_if (pt_cmpR op_lt (pv 0) pe_int (nomark _)) (pss_one (ps_ret (pe_call (E := E) G0 hr (by rfl) R.g0 R.F0.kp R.b0 .nil (passes_call (takes_of rfl rfl rfl rfl) (fun _ _ _ _ z => z)) (pa_cons (pv 0) (pa_cons (pv 1) (pa_cons (pv 2) (pa_cons (pv 3) pa_nil))))))) pss_nil)
      (pss_one (ps_ret (pe_call (E := E) G1 hr (by rfl) R.g1 R.F1.kp R.b1 .nil (passes_call (takes_of rfl rfl rfl rfl) (fun _ _ _ _ z => z)) (pa_cons (pv 0) (pa_cons (pv 1) (pa_cons (pv 2) (pa_cons (pv 3) pa_nil))))))), ?_⟩
    refine ⟨_, rfl, _, _, rfl, rfl, _, rfl, ite2 (fun c1 => ?_) (fun c1 => ?_)⟩
    · have hlt : (n : Int) < 8 := of_decide_eq_true c1
      exact ⟨_, rfl, _, rfl, _, rfl, _, rfl, n, a, b, c, rfl, hl, by omega, h⟩
    · have hge : ¬ (n : Int) < 8 := fun z => c1 (decide_eq_true z)
      exact ⟨_, rfl, _, rfl, _, rfl, _, rfl, n, a, b, c, rfl, by omega, hn, h⟩
end
end K00

namespace K00
open PySem PySem.Spec PyProof.Rows L2 PySem.RingX
/-- what except clauses and isinstance ask of the classes -/
structure Rel (K : PySem.W.Frag) (mg : Str → Option Value) (C : Nat → Addr) (R : Addr) : Prop where
  ex : ∀ i j, i < 13 → j < 13 → PySem.W.exmOne K (.ref (C i)) (.ref (C j)) = some (decide (i = j))
  exR : ∀ i, i < 13 → PySem.W.exmOne K (.ref (C i)) (.ref R) = some true
  ki : ∀ i j, i < 13 → j < 13 → PySem.W.kitOne K (.ref (C i)) (.ref (C j)) = some (decide (i = j))
  kV : ∀ i, i < 13 → PySem.W.kitOne K (.ref (C i)) (.type "ValueError") = some true
  xc : ∀ i, i < 13 → ExcC K (C i)
  gR : mg "RingError" = some (.ref R)
  gV : mg "ValueError" = none
  gI : mg "isinstance" = none
theorem xf_of {prog : Program} {K : PySem.W.Frag} {mg : Str → Option Value} {C fI : Addr} {nm : Str} {fs : List Str} (T : ExTxt prog K mg C fI nm fs) : XfC K C := ⟨T.ga, T.gg, T.exC, T.hdC⟩
def spF (lo hi : Nat) : Sp := fun vs H Q _ => ∃ (n : Nat) (a b c : V), vs = [.int n, a, b, c] ∧ lo ≤ n ∧ n < hi ∧ ∀ (p : Addr) (H' : Hp), H p = none → H' p = some (.lst (argsOf n a b c)) → Same H H' → Q (.ref p) H'
section
variable {P : Program} {w : World} {K : PySem.W.Frag} {mg : Str → Option Value} {base : Heap} {C fI : Nat → Addr} {RE : Addr}
theorem scF0 : FnScope ["k", "a", "b", "c", "told", "e"] ["k", "a", "b", "c"] (defScope sF0) := ⟨rfl, rfl, rfl, by decide +kernel, rfl, by decide +kernel, by decide +kernel⟩
theorem ok_f0 {f f0 f1 : Addr} {fd fd0 fd1 : FuncData} (F : Fun K "_law_fields_0" "_law_fields_0" sF0 f fd) (T : Exs P K mg C fI) (S : Rel K mg C RE) (R : RTxt K mg f0 f1 fd0 fd1) : FnOk P w K mg base CX0 3 f fd ["k", "a", "b", "c"] (spF 0 8) := by
  have G0 : FnOk P w K mg base (L2.CX P w) 2 f0 fd0 ["k", "a", "b", "c"] (spRz C 0 8) := ok_r0 R.F0 T
  refine F.ok scF0 (fun vs H Q E h => ?_) (fun cdv A outer s H vs Q E hr h => ?_)
  · obtain ⟨n, a, b, c, rfl, _⟩ := h
    rfl
  · obtain ⟨n, a, b, c, rfl, hl, hn, k⟩ := h
    refine ⟨_, pss_cons (ps_set (i := 4) scF0.nd rfl (Or.inl rfl) (pe_lst pa_nil))
      (pss_cons (ps_try_cl (Wout := fun _ _ _ _ => False) rfl rfl scF0.nd takes0
          (fun W pn xe tk _ => pss_one (ps_expr (pe_callS G0 hr rfl R.g0 R.F0.kp R.b0 (fun σ => passAt tk σ) (by exact (pa_cons (pv 0) (pa_cons (pv 1) (pa_cons (pv 2) (pa_cons (pv 3) pa_nil))))))))
          (.named (i := 5) rfl rfl ⟨rfl, by decide, Or.inl T.e0.gC⟩ (fun a oe cls d pn hz hf _ => pss_one (ps_set (i := 4) scF0.nd rfl (Or.inl rfl) (pe_lst (pa_cons (pe_xf (xf_of T.e0) (T.e0.noN _ List.mem_cons_self) hz hf (pv 5)) pa_nil))))
          (.named (i := 5) rfl rfl ⟨rfl, by decide, Or.inl T.e1.gC⟩ (fun a oe cls d pn hz hf _ => pss_one (ps_set (i := 4) scF0.nd rfl (Or.inl rfl) (pe_lst (pa_cons (pe_xf (xf_of T.e1) (T.e1.noN _ List.mem_cons_self) hz hf (pv 5)) pa_nil))))
          (.named (i := 5) rfl rfl ⟨rfl, by decide, Or.inl T.e2.gC⟩ (fun a oe cls d pn hz hf _ => pss_one (ps_set (i := 4) scF0.nd rfl (Or.inl rfl) (pe_lst (pa_cons (pe_xf (xf_of T.e2) (T.e2.noN _ List.mem_cons_self) hz hf (pv 5)) pa_nil))))
          (.named (i := 5) rfl rfl ⟨rfl, by decide, Or.inl T.e3.gC⟩ (fun a oe cls d pn hz hf _ => pss_one (ps_set (i := 4) scF0.nd rfl (Or.inl rfl) (pe_lst (pa_cons (pe_xf (xf_of T.e3) (T.e3.noN _ List.mem_cons_self) hz hf (pv 5)) pa_nil))))
          (.named (i := 5) rfl rfl ⟨rfl, by decide, Or.inl T.e4.gC⟩ (fun a oe cls d pn hz hf _ => pss_one (ps_set (i := 4) scF0.nd rfl (Or.inl rfl) (pe_lst (pa_cons (pe_xf (xf_of T.e4) (T.e4.noN _ List.mem_cons_self) hz hf (pv 5)) pa_nil))))
          (.named (i := 5) rfl rfl ⟨rfl, by decide, Or.inl T.e5.gC⟩ (fun a oe cls d pn hz hf _ => pss_one (ps_set (i := 4) scF0.nd rfl (Or.inl rfl) (pe_lst (pa_cons (pe_xf (xf_of T.e5) (T.e5.noN _ List.mem_cons_self) hz hf (pv 5)) pa_nil))))
          (.named (i := 5) rfl rfl ⟨rfl, by decide, Or.inl T.e6.gC⟩ (fun a oe cls d pn hz hf _ => pss_one (ps_set (i := 4) scF0.nd rfl (Or.inl rfl) (pe_lst (pa_cons (pe_xf (xf_of T.e6) (T.e6.noN _ List.mem_cons_self) hz hf (pv 5)) pa_nil))))
          (.named (i := 5) rfl rfl ⟨rfl, by decide, Or.inl T.e7.gC⟩ (fun a oe cls d pn hz hf _ => pss_one (ps_set (i := 4) scF0.nd rfl (Or.inl rfl) (pe_lst (pa_cons (pe_xf (xf_of T.e7) (T.e7.noN _ List.mem_cons_self) hz hf (pv 5)) pa_nil))))
          .nil)))))))))
      (pss_one (ps_ret (pv 4)))), ?_⟩
    refine ⟨(by show 0 ≤ sizeLine; decide), fun l0 hl0 => ⟨_, rfl, _, rfl, _, rfl, _, rfl, n, a, b, c, rfl, hl, hn, ?_⟩⟩
    have hs0 : Same H (upd H l0 (.lst [])) := same_upd hl0
    have cs : n = 0 ∨ n = 1 ∨ n = 2 ∨ n = 3 ∨ n = 4 ∨ n = 5 ∨ n = 6 ∨ n = 7 := by omega
    rcases cs with e | e | e | e | e | e | e | e <;> subst e
    all_goals
      refine ⟨(fun z => nomatch z), fun _ d hd => ?_⟩
      have hs1 : ∀ o, Same H (upd (upd H l0 (.lst [])) d o) := fun o => hs0.trans (same_upd hd)
      repeat (first
        | exact ⟨true, S.ex _ _ (by decide) (by decide), fun _ a0 _ => ⟨_, rfl, rfl, rfl, d, _, _, rfl, upd_same, rfl, (by show 1 ≤ sizeLine; decide), fun p hp => ⟨_, rfl, k p _ ((hs1 _).free hp) upd_same ((hs1 _).trans (same_upd hp))⟩⟩, fun q => nomatch q⟩
        | refine ⟨false, S.ex _ _ (by decide) (by decide), (fun q => nomatch q), fun _ => ?_⟩)
theorem scF1 : FnScope ["k", "a", "b", "c", "told", "e"] ["k", "a", "b", "c"] (defScope sF1) := ⟨rfl, rfl, rfl, by decide +kernel, rfl, by decide +kernel, by decide +kernel⟩
theorem ok_f1 {f f0 f1 : Addr} {fd fd0 fd1 : FuncData} (F : Fun K "_law_fields_1" "_law_fields_1" sF1 f fd) (T : Exs P K mg C fI) (S : Rel K mg C RE) (R : RTxt K mg f0 f1 fd0 fd1) : FnOk P w K mg base CX0 3 f fd ["k", "a", "b", "c"] (spF 8 13) := by
  have G1 : FnOk P w K mg base (L2.CX P w) 2 f1 fd1 ["k", "a", "b", "c"] (spRz C 8 13) := ok_r1 R.F1 T
  refine F.ok scF1 (fun vs H Q E h => ?_) (fun cdv A outer s H vs Q E hr h => ?_)
  · obtain ⟨n, a, b, c, rfl, _⟩ := h
    rfl
  · obtain ⟨n, a, b, c, rfl, hl, hn, k⟩ := h
    refine ⟨_, pss_cons (ps_set (i := 4) scF1.nd rfl (Or.inl rfl) (pe_lst pa_nil))
      (pss_cons (ps_try_cl (Wout := fun _ _ _ _ => False) rfl rfl scF1.nd takes0
          (fun W pn xe tk _ => pss_one (ps_expr (pe_callS G1 hr rfl R.g1 R.F1.kp R.b1 (fun σ => passAt tk σ) (by exact (pa_cons (pv 0) (pa_cons (pv 1) (pa_cons (pv 2) (pa_cons (pv 3) pa_nil))))))))
          (.named (i := 5) rfl rfl ⟨rfl, by decide, Or.inl T.e8.gC⟩ (fun a oe cls d pn hz hf _ => pss_one (ps_set (i := 4) scF1.nd rfl (Or.inl rfl) (pe_lst (pa_cons (pe_xf (xf_of T.e8) (T.e8.noN _ List.mem_cons_self) hz hf (pv 5)) pa_nil))))
          (.named (i := 5) rfl rfl ⟨rfl, by decide, Or.inl T.e9.gC⟩ (fun a oe cls d pn hz hf _ => pss_one (ps_set (i := 4) scF1.nd rfl (Or.inl rfl) (pe_lst (pa_cons (pe_xf (xf_of T.e9) (T.e9.noN _ List.mem_cons_self) hz hf (pv 5)) pa_nil))))
          (.named (i := 5) rfl rfl ⟨rfl, by decide, Or.inl T.e10.gC⟩ (fun a oe cls d pn hz hf _ => pss_one (ps_set (i := 4) scF1.nd rfl (Or.inl rfl) (pe_lst (pa_cons (pe_xf (xf_of T.e10) (T.e10.noN _ List.mem_cons_self) hz hf (pv 5)) pa_nil))))
          (.plain ⟨rfl, by decide, Or.inl T.e11.gC⟩ (fun a oe cls d pn hz hf _ => pss_one (ps_set (i := 4) scF1.nd rfl (Or.inl rfl) (pe_lst pa_nil)))
          (.named (i := 5) rfl rfl ⟨rfl, by decide, Or.inl T.e12.gC⟩ (fun a oe cls d pn hz hf _ => pss_one (ps_set (i := 4) scF1.nd rfl (Or.inl rfl) (pe_lst (pa_cons (pe_xf (xf_of T.e12) (T.e12.noN "what" (by decide +kernel)) hz hf (pv 5)) (pa_cons (pe_xf (xf_of T.e12) (T.e12.noN "many" (by decide +kernel)) hz hf (pv 5)) (pa_cons (pe_xf (xf_of T.e12) (T.e12.noN "most" (by decide +kernel)) hz hf (pv 5)) pa_nil))))))
          .nil))))))
      (pss_one (ps_ret (pv 4)))), ?_⟩
    refine ⟨(by show 0 ≤ sizeLine; decide), fun l0 hl0 => ⟨_, rfl, _, rfl, _, rfl, _, rfl, n, a, b, c, rfl, hl, hn, ?_⟩⟩
    have hs0 : Same H (upd H l0 (.lst [])) := same_upd hl0
    have cs : n = 8 ∨ n = 9 ∨ n = 10 ∨ n = 11 ∨ n = 12 := by omega
    rcases cs with e | e | e | e | e <;> subst e
    case inr.inr.inr.inl =>
      refine ⟨fun _ => ?_, fun z => absurd rfl z⟩
      refine ⟨false, S.ex _ _ (by decide) (by decide), (fun q => nomatch q), fun _ => ⟨false, S.ex _ _ (by decide) (by decide), (fun q => nomatch q), fun _ => ⟨false, S.ex _ _ (by decide) (by decide), (fun q => nomatch q), fun _ => ?_⟩⟩⟩
      exact ⟨true, S.ex _ _ (by decide) (by decide), fun _ a0 _ => ⟨(by show 0 ≤ sizeLine; decide), fun p hp => ⟨_, rfl, k p _ (hs0.free hp) upd_same (hs0.trans (same_upd hp))⟩⟩, fun q => nomatch q⟩
    case inr.inr.inr.inr =>
      refine ⟨(fun z => nomatch z), fun _ d hd => ?_⟩
      have hs1 : ∀ o, Same H (upd (upd H l0 (.lst [])) d o) := fun o => hs0.trans (same_upd hd)
      refine ⟨false, S.ex _ _ (by decide) (by decide), (fun q => nomatch q), fun _ => ⟨false, S.ex _ _ (by decide) (by decide), (fun q => nomatch q), fun _ => ⟨false, S.ex _ _ (by decide) (by decide), (fun q => nomatch q), fun _ => ⟨false, S.ex _ _ (by decide) (by decide), (fun q => nomatch q), fun _ => ?_⟩⟩⟩⟩
      exact ⟨true, S.ex _ _ (by decide) (by decide), fun _ a0 _ => ⟨_, rfl, rfl, rfl, d, _, _, rfl, upd_same, (by kernel_rfl), _, rfl, rfl, rfl, d, _, _, rfl, upd_same, (by kernel_rfl), _, rfl, rfl, rfl, d, _, _, rfl, upd_same, (by kernel_rfl), (by show 3 ≤ sizeLine; decide), fun p hp => ⟨_, rfl, k p _ ((hs1 _).free hp) upd_same ((hs1 _).trans (same_upd hp))⟩⟩, fun q => nomatch q⟩
    all_goals
      refine ⟨(fun z => nomatch z), fun _ d hd => ?_⟩
      have hs1 : ∀ o, Same H (upd (upd H l0 (.lst [])) d o) := fun o => hs0.trans (same_upd hd)
      repeat (first
        | exact ⟨true, S.ex _ _ (by decide) (by decide), fun _ a0 _ => ⟨_, rfl, rfl, rfl, d, _, _, rfl, upd_same, rfl, (by show 1 ≤ sizeLine; decide), fun p hp => ⟨_, rfl, k p _ ((hs1 _).free hp) upd_same ((hs1 _).trans (same_upd hp))⟩⟩, fun q => nomatch q⟩
        | refine ⟨false, S.ex _ _ (by decide) (by decide), (fun q => nomatch q), fun _ => ?_⟩)
theorem scF : FnScope ["k", "a", "b", "c"] ["k", "a", "b", "c"] (defScope sF) := ⟨rfl, rfl, rfl, by decide +kernel, rfl, by decide +kernel, by decide +kernel⟩
structure FTxt (K : PySem.W.Frag) (mg : Str → Option Value) (f0 f1 : Addr) (fd0 fd1 : FuncData) : Prop where
  F0 : Fun K "_law_fields_0" "_law_fields_0" sF0 f0 fd0
  F1 : Fun K "_law_fields_1" "_law_fields_1" sF1 f1 fd1
  b0 : Binds K fd0 ["k", "a", "b", "c"] []
  b1 : Binds K fd1 ["k", "a", "b", "c"] []
  g0 : mg "_law_fields_0" = some (.ref f0)
  g1 : mg "_law_fields_1" = some (.ref f1)
theorem ok_f {f f0 f1 g0 g1 : Addr} {fd fd0 fd1 gd0 gd1 : FuncData} (F : Fun K "_law_fields" "_law_fields" sF f fd) (T : Exs P K mg C fI) (S : Rel K mg C RE) (R : RTxt K mg f0 f1 fd0 fd1) (V : FTxt K mg g0 g1 gd0 gd1) : FnOk P w K mg base CX0 4 f fd ["k", "a", "b", "c"] (spF 0 13) := by
  have G0 : FnOk P w K mg base CX0 3 g0 gd0 ["k", "a", "b", "c"] (spF 0 8) := ok_f0 V.F0 T S R
  have G1 : FnOk P w K mg base CX0 3 g1 gd1 ["k", "a", "b", "c"] (spF 8 13) := ok_f1 V.F1 T S R
  refine F.ok scF (fun vs H Q E h => ?_) (fun cdv A outer s H vs Q E hr h => ?_)
  · obtain ⟨n, a, b, c, rfl, _⟩ := h
    rfl
  · obtain ⟨n, a, b, c, rfl, hl, hn, h⟩ := h
    refine ⟨_, pss_cons (ps_if (pt_cmpR op_lt (pv 0) pe_int (nomark _)) (pss_one (ps_ret (pe_call G0 hr (by rfl) V.g0 V.F0.kp V.b0 .nil pass0 (pa_cons (pv 0) (pa_cons (pv 1) (pa_cons (pv 2) (pa_cons (pv 3) pa_nil))))))) pss_nil)
      (pss_one (ps_ret (pe_call G1 hr (by rfl) V.g1 V.F1.kp V.b1 .nil pass0 (pa_cons (pv 0) (pa_cons (pv 1) (pa_cons (pv 2) (pa_cons (pv 3) pa_nil))))))), ?_⟩
    refine ⟨_, rfl, _, _, rfl, rfl, _, rfl, ite2 (fun c1 => ?_) (fun c1 => ?_)⟩
    · have hlt : (n : Int) < 8 := of_decide_eq_true c1
      exact ⟨_, rfl, _, rfl, _, rfl, _, rfl, n, a, b, c, rfl, hl, by omega, h⟩
    · have hge : ¬ (n : Int) < 8 := fun z => c1 (decide_eq_true z)
      exact ⟨_, rfl, _, rfl, _, rfl, _, rfl, n, a, b, c, rfl, by omega, hn, h⟩
end
end K00

namespace K00
open PySem PySem.Spec PyProof.Rows L2 PySem.RingX
/-- which of the first m errors it is -/
def kindsOf (n lo m : Nat) : List V := (List.range' lo m).map fun j => .bl (decide (n = j))
/-- an exception of the n-th class, handed to a def -/
def ErrAt (C : Nat → Addr) (H : Hp) (a : Addr) (n : Nat) : Prop := ∃ (oe : Obj) (d : Option Addr), H a = some (errO a oe) ∧ Zc (.ref (C n)) d oe ∧ (∃ vs, oe.data = .fields vs) ∧ DictAt H d
theorem ErrAt.keep {C : Nat → Addr} {H H' : Hp} {a : Addr} {n : Nat} (x : ErrAt C H a n) (s : Same H H') : ErrAt C H' a n := by
  obtain ⟨oe, d, h1, h2, h3, h4⟩ := x
  refine ⟨oe, d, s _ _ h1, h2, h3, ?_⟩
  rcases h4 with e | ⟨dd, l, e, q⟩
  · exact .inl e
  · exact .inr ⟨dd, l, e, s _ _ q⟩
theorem DictAt.keep {H H' : Hp} {d : Option Addr} (x : DictAt H d) (s : Same H H') : DictAt H' d := by
  rcases x with e | ⟨dd, l, e, q⟩
  · exact .inl e
  · exact .inr ⟨dd, l, e, s _ _ q⟩
def spKinds (C : Nat → Addr) : Sp := fun vs H Q _ => ∃ (a : Addr) (n : Nat), vs = [.ref a] ∧ n < 13 ∧ ErrAt C H a n ∧ ∀ (p : Addr) (H' : Hp), H p = none → H' p = some (.lst (kindsOf n 0 13)) → Same H H' → Q (.ref p) H'
section
variable {P : Program} {w : World} {K : PySem.W.Frag} {mg : Str → Option Value} {base : Heap} {C fI : Nat → Addr} {RE : Addr}
theorem scK : FnScope ["e", "found"] ["e"] (defScope sKinds) := ⟨rfl, rfl, rfl, by decide +kernel, rfl, by decide +kernel, by decide +kernel⟩
theorem ok_kinds {f : Addr} {fd : FuncData} (F : Fun K "_law_kinds_of" "_law_kinds_of" sKinds f fd) (T : Exs P K mg C fI) (S : Rel K mg C RE) : FnS P w K mg base 1 f fd ["e"] (spKinds C) := by
  refine F.okS scK (fun vs H Q E h => ?_) (fun cdv A outer s H vs Q hr h => ?_)
  · obtain ⟨a, n, rfl, _⟩ := h
    rfl
  · obtain ⟨a, n, rfl, hn, E, k⟩ := h
    refine ⟨_, pss_cons (ps_set (i := 1) scK.nd rfl (Or.inl rfl) (pe_lst
        (pa_cons (pe_callB call_isA (by rfl) S.gI (by decide +kernel) (pa_cons (pv 0) (pa_cons (pe_glob (v := .ref (C 0)) (by rfl) T.e0.gC rfl) pa_nil)))
        (pa_cons (pe_callB call_isA (by rfl) S.gI (by decide +kernel) (pa_cons (pv 0) (pa_cons (pe_glob (v := .ref (C 1)) (by rfl) T.e1.gC rfl) pa_nil)))
        (pa_cons (pe_callB call_isA (by rfl) S.gI (by decide +kernel) (pa_cons (pv 0) (pa_cons (pe_glob (v := .ref (C 2)) (by rfl) T.e2.gC rfl) pa_nil))) pa_nil)))))
      (pss_cons (ps_set (i := 1) scK.nd rfl (Or.inl rfl) (pe_op op_cat (pv 1) (pe_lst
        (pa_cons (pe_callB call_isA (by rfl) S.gI (by decide +kernel) (pa_cons (pv 0) (pa_cons (pe_glob (v := .ref (C 3)) (by rfl) T.e3.gC rfl) pa_nil)))
        (pa_cons (pe_callB call_isA (by rfl) S.gI (by decide +kernel) (pa_cons (pv 0) (pa_cons (pe_glob (v := .ref (C 4)) (by rfl) T.e4.gC rfl) pa_nil)))
        (pa_cons (pe_callB call_isA (by rfl) S.gI (by decide +kernel) (pa_cons (pv 0) (pa_cons (pe_glob (v := .ref (C 5)) (by rfl) T.e5.gC rfl) pa_nil))) pa_nil))))))
      (pss_cons (ps_set (i := 1) scK.nd rfl (Or.inl rfl) (pe_op op_cat (pv 1) (pe_lst
        (pa_cons (pe_callB call_isA (by rfl) S.gI (by decide +kernel) (pa_cons (pv 0) (pa_cons (pe_glob (v := .ref (C 6)) (by rfl) T.e6.gC rfl) pa_nil)))
        (pa_cons (pe_callB call_isA (by rfl) S.gI (by decide +kernel) (pa_cons (pv 0) (pa_cons (pe_glob (v := .ref (C 7)) (by rfl) T.e7.gC rfl) pa_nil)))
        (pa_cons (pe_callB call_isA (by rfl) S.gI (by decide +kernel) (pa_cons (pv 0) (pa_cons (pe_glob (v := .ref (C 8)) (by rfl) T.e8.gC rfl) pa_nil))) pa_nil))))))
      (pss_cons (ps_set (i := 1) scK.nd rfl (Or.inl rfl) (pe_op op_cat (pv 1) (pe_lst
        (pa_cons (pe_callB call_isA (by rfl) S.gI (by decide +kernel) (pa_cons (pv 0) (pa_cons (pe_glob (v := .ref (C 9)) (by rfl) T.e9.gC rfl) pa_nil)))
        (pa_cons (pe_callB call_isA (by rfl) S.gI (by decide +kernel) (pa_cons (pv 0) (pa_cons (pe_glob (v := .ref (C 10)) (by rfl) T.e10.gC rfl) pa_nil)))
        (pa_cons (pe_callB call_isA (by rfl) S.gI (by decide +kernel) (pa_cons (pv 0) (pa_cons (pe_glob (v := .ref (C 11)) (by rfl) T.e11.gC rfl) pa_nil))) pa_nil))))))
      (pss_cons (ps_set (i := 1) scK.nd rfl (Or.inl rfl) (pe_op op_cat (pv 1) (pe_lst
        (pa_cons (pe_callB call_isA (by rfl) S.gI (by decide +kernel) (pa_cons (pv 0) (pa_cons (pe_glob (v := .ref (C 12)) (by rfl) T.e12.gC rfl) pa_nil))) pa_nil))))
      (pss_one (ps_ret (pv 1))))))), ?_⟩
    obtain ⟨oe, d, ha, hz, hf, hd⟩ := E
    refine ⟨_, rfl, a, C n, oe, d, _, _, _, rfl, ha, hz, hf, S.xc n hn, hd, .own _, S.ki n 0 hn (by decide), _, rfl, a, C n, oe, d, _, _, _, rfl, ha, hz, hf, S.xc n hn, hd, .own _, S.ki n 1 hn (by decide), _, rfl, a, C n, oe, d, _, _, _, rfl, ha, hz, hf, S.xc n hn, hd, .own _, S.ki n 2 hn (by decide), (by show 3 ≤ sizeLine; decide), fun p1 h1 => ?_⟩
    have s1 := same_upd (o := .lst [.bl (decide (n = 0)), .bl (decide (n = 1)), .bl (decide (n = 2))]) h1
    have ha1 := s1 _ _ ha
    have hd1 := DictAt.keep hd s1
    refine ⟨_, rfl, _, rfl, a, C n, oe, d, _, _, _, rfl, ha1, hz, hf, S.xc n hn, hd1, .own _, S.ki n 3 hn (by decide), _, rfl, a, C n, oe, d, _, _, _, rfl, ha1, hz, hf, S.xc n hn, hd1, .own _, S.ki n 4 hn (by decide), _, rfl, a, C n, oe, d, _, _, _, rfl, ha1, hz, hf, S.xc n hn, hd1, .own _, S.ki n 5 hn (by decide), (by show 3 ≤ sizeLine; decide), fun q2 g2 => ⟨p1, q2, _, _, rfl, rfl, same_upd g2 _ _ upd_same, upd_same, (by show 6 ≤ sizeLine; decide), fun p2 h2 => ?_⟩⟩
    have s2 := (s1.trans (same_upd g2)).trans (same_upd (o := .lst ([.bl (decide (n = 0)), .bl (decide (n = 1)), .bl (decide (n = 2))] ++ [.bl (decide (n = 3)), .bl (decide (n = 4)), .bl (decide (n = 5))])) h2)
    have ha2 := s2 _ _ ha
    have hd2 := DictAt.keep hd s2
    refine ⟨_, rfl, _, rfl, a, C n, oe, d, _, _, _, rfl, ha2, hz, hf, S.xc n hn, hd2, .own _, S.ki n 6 hn (by decide), _, rfl, a, C n, oe, d, _, _, _, rfl, ha2, hz, hf, S.xc n hn, hd2, .own _, S.ki n 7 hn (by decide), _, rfl, a, C n, oe, d, _, _, _, rfl, ha2, hz, hf, S.xc n hn, hd2, .own _, S.ki n 8 hn (by decide), (by show 3 ≤ sizeLine; decide), fun q3 g3 => ⟨p2, q3, _, _, rfl, rfl, same_upd g3 _ _ upd_same, upd_same, (by show 9 ≤ sizeLine; decide), fun p3 h3 => ?_⟩⟩
    have s3 := (s2.trans (same_upd g3)).trans (same_upd (o := .lst (([.bl (decide (n = 0)), .bl (decide (n = 1)), .bl (decide (n = 2))] ++ [.bl (decide (n = 3)), .bl (decide (n = 4)), .bl (decide (n = 5))]) ++ [.bl (decide (n = 6)), .bl (decide (n = 7)), .bl (decide (n = 8))])) h3)
    have ha3 := s3 _ _ ha
    have hd3 := DictAt.keep hd s3
    refine ⟨_, rfl, _, rfl, a, C n, oe, d, _, _, _, rfl, ha3, hz, hf, S.xc n hn, hd3, .own _, S.ki n 9 hn (by decide), _, rfl, a, C n, oe, d, _, _, _, rfl, ha3, hz, hf, S.xc n hn, hd3, .own _, S.ki n 10 hn (by decide), _, rfl, a, C n, oe, d, _, _, _, rfl, ha3, hz, hf, S.xc n hn, hd3, .own _, S.ki n 11 hn (by decide), (by show 3 ≤ sizeLine; decide), fun q4 g4 => ⟨p3, q4, _, _, rfl, rfl, same_upd g4 _ _ upd_same, upd_same, (by show 12 ≤ sizeLine; decide), fun p4 h4 => ?_⟩⟩
    have s4 := (s3.trans (same_upd g4)).trans (same_upd (o := .lst ((([.bl (decide (n = 0)), .bl (decide (n = 1)), .bl (decide (n = 2))] ++ [.bl (decide (n = 3)), .bl (decide (n = 4)), .bl (decide (n = 5))]) ++ [.bl (decide (n = 6)), .bl (decide (n = 7)), .bl (decide (n = 8))]) ++ [.bl (decide (n = 9)), .bl (decide (n = 10)), .bl (decide (n = 11))])) h4)
    have ha4 := s4 _ _ ha
    have hd4 := DictAt.keep hd s4
    refine ⟨_, rfl, _, rfl, a, C n, oe, d, _, _, _, rfl, ha4, hz, hf, S.xc n hn, hd4, .own _, S.ki n 12 hn (by decide), (by show 1 ≤ sizeLine; decide), fun q5 g5 => ⟨p4, q5, _, _, rfl, rfl, same_upd g5 _ _ upd_same, upd_same, (by show 13 ≤ sizeLine; decide), fun p5 h5 => ⟨_, rfl, ?_⟩⟩⟩
    have s5 := s4.trans (same_upd (o := .lst [.bl (decide (n = 12))]) g5)
    exact k p5 _ (s5.free h5) (by rw [upd_same]; rfl) (s5.trans (same_upd h5))
def spCaught : Sp := fun vs H Q _ => ∃ (n : Nat) (a b c : V), vs = [.int n, a, b, c] ∧ n < 13 ∧ ∀ (p : Addr) (H' : Hp), H p = none → H' p = some (.lst (.bl true :: kindsOf n 0 13)) → Same H H' → Q (.ref p) H'
theorem scC : FnScope ["k", "a", "b", "c", "e"] ["k", "a", "b", "c"] (defScope sCaught) := ⟨rfl, rfl, rfl, by decide +kernel, rfl, by decide +kernel, by decide +kernel⟩
theorem ok_caught {f fR f0 f1 fK : Addr} {fd fdR fd0 fd1 fdK : FuncData} (F : Fun K "_law_caught" "_law_caught" sCaught f fd) (T : Exs P K mg C fI) (S : Rel K mg C RE) (R : RTxt K mg f0 f1 fd0 fd1)
    (FR : Fun K "_law_raised" "_law_raised" sR fR fdR) (bR : Binds K fdR ["k", "a", "b", "c"] []) (gR : mg "_law_raised" = some (.ref fR)) (FK : Fun K "_law_kinds_of" "_law_kinds_of" sKinds fK fdK) (bK : Binds K fdK ["e"] []) (gK : mg "_law_kinds_of" = some (.ref fK)) :
    FnOk P w K mg base CX0 4 f fd ["k", "a", "b", "c"] spCaught := by
  have GR : FnOk P w K mg base (L2.CX P w) 3 fR fdR ["k", "a", "b", "c"] (spRz C 0 13) := ok_r FR T R
  have GK : FnS P w K mg base 1 fK fdK ["e"] (spKinds C) := ok_kinds FK T S
  refine F.ok scC (fun vs H Q E h => ?_) (fun cdv A outer s H vs Q E hr h => ?_)
  · obtain ⟨n, a, b, c, rfl, _⟩ := h
    rfl
  · obtain ⟨n, a, b, c, rfl, hn, k⟩ := h
    have hr1 : Room 1 _ := hr.mono (by decide)
    refine ⟨_, pss_cons (ps_try_cl (Wout := fun _ _ _ _ => False) rfl rfl scC.nd takes0
          (fun W pn xe tk _ => pss_one (ps_expr (pe_callS GR hr rfl gR FR.kp bR (fun σ => passAt tk σ) (by exact (pa_cons (pv 0) (pa_cons (pv 1) (pa_cons (pv 2) (pa_cons (pv 3) pa_nil))))))))
          (.named (i := 4) rfl rfl ⟨rfl, by decide, Or.inl S.gR⟩ (fun a oe cls d pn hz hf hb => pss_one (ps_ret (pe_op op_cat
            (pe_lst (pa_cons (pe_callB (call_isX hz hf) (by rfl) S.gI (by decide +kernel) (pa_cons (pv 4) (pa_cons (pe_bltn (v := .ty "ValueError") (by rfl) S.gV (by decide +kernel) rfl) pa_nil))) pa_nil))
            (pe_callE hb hz hf GK hr1 (by rfl) gK FK.kp bK (pa_cons (pv 4) pa_nil)))))
          .nil))
      (pss_one (ps_ret (pe_lst pa_nil))), ?_⟩
    refine ⟨_, rfl, _, rfl, _, rfl, _, rfl, n, a, b, c, rfl, Nat.zero_le _, hn, ?_⟩
    refine ⟨fun _ => ?_, fun _ d hd => ?_⟩
    · refine ⟨true, S.exR n hn, fun _ a0 na => ?_, fun q => nomatch q⟩
      refine ⟨_, rfl, _, _, C n, true, rfl, rfl, S.xc n hn, .inl rfl, .ty _, S.kV n hn, (by show 1 ≤ sizeLine; decide), fun p1 h1 => ?_⟩
      refine ⟨_, rfl, fun oe hz hf na1 => ⟨a0, n, rfl, hn, ⟨oe, none, upd_same, hz, hf, .inl rfl⟩, fun q H' nq hq sm => ?_⟩⟩
      have e1 : p1 ≠ a0 := fun z => by rw [← z, upd_same] at na1; cases na1
      have e2 : q ≠ a0 := fun z => by rw [z, upd_same] at nq; cases nq
      have hs : Same H _ := Same.refl H
      have hp1 : H' p1 = some (.lst [.bl true]) := sm p1 _ (by rw [upd_ne e1]; exact upd_same)
      have sd : Same H (del H' a0) := fun b' o e => by
        have nb : b' ≠ a0 := ne_of_none (hs b' o e) na
        rw [del_ne nb]
        exact sm b' o (by rw [upd_ne nb]; exact same_upd h1 b' o (hs b' o e))
      exact ⟨p1, q, _, _, rfl, rfl, (del_ne e1).trans hp1, (del_ne e2).trans hq, (by show 14 ≤ sizeLine; decide), fun p2 h2 => k p2 _ (sd.free h2) upd_same (sd.trans (same_upd h2))⟩
    · refine ⟨true, S.exR n hn, fun _ a0 na => ?_, fun q => nomatch q⟩
      refine ⟨_, rfl, _, _, C n, true, rfl, rfl, S.xc n hn, .inr ⟨d, _, rfl, upd_same⟩, .ty _, S.kV n hn, (by show 1 ≤ sizeLine; decide), fun p1 h1 => ?_⟩
      refine ⟨_, rfl, fun oe hz hf na1 => ⟨a0, n, rfl, hn, ⟨oe, some d, upd_same, hz, hf, .inr ⟨d, _, rfl, by
        have e0 : d ≠ a0 := fun z => by rw [← z, upd_same] at na; cases na
        have e3 : d ≠ p1 := fun z => by rw [← z, upd_same] at h1; cases h1
        rw [upd_ne e0, upd_ne e3]; exact upd_same⟩⟩, fun q H' nq hq sm => ?_⟩⟩
      have e1 : p1 ≠ a0 := fun z => by rw [← z, upd_same] at na1; cases na1
      have e2 : q ≠ a0 := fun z => by rw [z, upd_same] at nq; cases nq
      have hs : Same H (upd H d (.xd (xdl (fsOf n) (argsOf n a b c)))) := same_upd hd
      have hp1 : H' p1 = some (.lst [.bl true]) := sm p1 _ (by rw [upd_ne e1]; exact upd_same)
      have sd : Same H (del H' a0) := fun b' o e => by
        have nb : b' ≠ a0 := ne_of_none (hs b' o e) na
        rw [del_ne nb]
        exact sm b' o (by rw [upd_ne nb]; exact same_upd h1 b' o (hs b' o e))
      exact ⟨p1, q, _, _, rfl, rfl, (del_ne e1).trans hp1, (del_ne e2).trans hq, (by show 14 ≤ sizeLine; decide), fun p2 h2 => k p2 _ (sd.free h2) upd_same (sd.trans (same_upd h2))⟩
end
end K00

namespace K00
open PySem PySem.Spec PyProof.Rows L2 PySem.RingX
def sizes : List Int := [1, 1, 1, 1, 1, 1, 1, 1, 1, 1, 1, 0, 3]
def argD (n : Nat) (a b c : PyData) : List PyData := if n = 11 then [] else if n = 12 then [a, b, c] else [a]
theorem cut_args (a b c : V) : ∀ i, i < 13 → ∃ z, (sizes.map V.int)[i]? = some (.int z) ∧ cutV [a, b, c] none (some z) = argsOf i a b c
  | 0, _ => ⟨1, rfl, rfl⟩ | 1, _ => ⟨1, rfl, rfl⟩ | 2, _ => ⟨1, rfl, rfl⟩ | 3, _ => ⟨1, rfl, rfl⟩ | 4, _ => ⟨1, rfl, rfl⟩ | 5, _ => ⟨1, rfl, rfl⟩ | 6, _ => ⟨1, rfl, rfl⟩
  | 7, _ => ⟨1, rfl, rfl⟩ | 8, _ => ⟨1, rfl, rfl⟩ | 9, _ => ⟨1, rfl, rfl⟩ | 10, _ => ⟨1, rfl, rfl⟩ | 11, _ => ⟨0, rfl, rfl⟩ | 12, _ => ⟨3, rfl, rfl⟩
  | _ + 13, h => absurd h (by omega)
theorem args_dp {K : PySem.W.Frag} {H : Hp} {a b c : V} {da db dc : PyData} (ha : Dp K H a da) (hb : Dp K H b db) (hc : Dp K H c dc) (n : Nat) : DpAll K H (argsOf n a b c) (argD n da db dc) := by
  unfold argsOf argD
  by_cases h1 : n = 11
  · rw [if_pos h1, if_pos h1]; exact .nil
  · rw [if_neg h1, if_neg h1]
    by_cases h2 : n = 12
    · rw [if_pos h2, if_pos h2]; exact .cons ha (.cons hb (.cons hc .nil))
    · rw [if_neg h2, if_neg h2]; exact .cons ha .nil
theorem list_tame {ds : List PyData} (h : ∀ d ∈ ds, Tame d) : SeqAt.shaped (.list ds) = true ∧ PyData.eqv (.list ds) (.list ds) = true := by
  have key : ∀ ds : List PyData, (∀ d ∈ ds, Tame d) → PyData.canLayAll0 ds = true ∧ PyData.depthAll ds ≤ 3 ∧ PyData.eqvAll ds ds = true := by
    intro ds
    induction ds with
    | nil => intro _; exact ⟨rfl, by decide, rfl⟩
    | cons d ds ih =>
      intro h
      obtain ⟨h1, h2, h3⟩ := ih fun d hd => h d (List.mem_cons_of_mem _ hd)
      have t := h d List.mem_cons_self
      refine ⟨?_, ?_, ?_⟩
      · show (PyData.canLay0 d && PyData.canLayAll0 ds) = true
        rw [t.lay, h1]; rfl
      · show max (PyData.depth d) (PyData.depthAll ds) ≤ 3
        have := t.dep
        omega
      · rw [PyData.eqvAll, t.rfl_, h3]; rfl
  obtain ⟨h1, h2, h3⟩ := key ds h
  refine ⟨?_, ?_⟩
  · unfold SeqAt.shaped
    rw [show PyData.canLay0 (.list ds) = true from h1, Bool.true_and]
    refine decide_eq_true ?_
    show PyData.depthAll ds + 1 ≤ 64
    omega
  · rw [PyData.eqv]; exact h3
theorem argD_tame {a b c : PyData} (ha : Tame a) (hb : Tame b) (hc : Tame c) (n : Nat) : ∀ d ∈ argD n a b c, Tame d := by
  unfold argD
  intro d hd
  by_cases h1 : n = 11
  · rw [if_pos h1] at hd; cases hd
  · rw [if_neg h1] at hd
    by_cases h2 : n = 12
    · rw [if_pos h2] at hd
      simp only [List.mem_cons, List.not_mem_nil, or_false] at hd
      rcases hd with e | e | e <;> (rw [e]; assumption)
    · rw [if_neg h2] at hd
      simp only [List.mem_cons, List.not_mem_nil, or_false] at hd
      rw [hd]; exact ha
/-- lists of truths as data -/
theorem bls_dp {K : PySem.W.Frag} {H : Hp} : ∀ l : List Bool, DpAll K H (l.map V.bl) (l.map PyData.bool)
  | [] => .nil
  | b :: l => .cons (.bl b) (bls_dp l)
theorem bls_tame : ∀ (l : List Bool), ∀ d ∈ l.map PyData.bool, Tame d := fun l d hd => by
  obtain ⟨b, _, rfl⟩ := List.mem_map.mp hd
  exact ⟨rfl, Nat.zero_le _, by cases b <;> rfl⟩
theorem kinds_eq (n m : Nat) : kindsOf n 0 m = ((List.range' 0 m).map fun j => decide (n = j)).map V.bl := by
  unfold kindsOf
  rw [List.map_map]; rfl
theorem kinds_more (n m : Nat) : kindsOf n 0 (m + 1) = kindsOf n 0 m ++ [.bl (decide (n = m))] := by
  unfold kindsOf
  rw [List.range'_concat, List.map_append]
  simp
theorem eq_k (j n : Nat) : decide (V.int (0 + (j : Int)) = V.int (0 + (n : Int))) = decide (n = j) := by
  refine decide_eq_decide.mpr ⟨fun h => ?_, fun h => by rw [h]⟩
  have := V.int.inj h
  omega
def spLaw (K : PySem.W.Frag) : Sp := fun vs H Q _ => ∃ (a : Addr) (ns : List Int), vs = [.ref a] ∧ SqL K H a (ns.map V.int) ∧ ns.length ≤ 63 ∧ ∀ H', Q (.bl true) H'
structure LTxt (K : PySem.W.Frag) (mg : Str → Option Value) (fB fD fTh fF fC : Addr) (dB dD dTh dF dC : FuncData) : Prop where
  B : Fun K "_law_bag" "_law_bag" sBag fB dB
  D : Fun K "_law_draw" "_law_draw" sDraw fD dD
  Th : Fun K "_law_thing" "_law_thing" sThing fTh dTh
  F : Fun K "_law_fields" "_law_fields" sF fF dF
  C : Fun K "_law_caught" "_law_caught" sCaught fC dC
  bB : Binds K dB ["script"] []
  bD : Binds K dD ["bag", "limit"] []
  bTh : Binds K dTh ["bag"] []
  bF : Binds K dF ["k", "a", "b", "c"] []
  bC : Binds K dC ["k", "a", "b", "c"] []
  gB : mg "_law_bag" = some (.ref fB)
  gD : mg "_law_draw" = some (.ref fD)
  gTh : mg "_law_thing" = some (.ref fTh)
  gF : mg "_law_fields" = some (.ref fF)
  gC : mg "_law_caught" = some (.ref fC)
  range : mg "range" = none
section
variable {P : Program} {w : World} {K : PySem.W.Frag} {mg : Str → Option Value} {base : Heap}
theorem scL : FnScope ["script", "bag", "sizes", "k", "a", "b", "c", "j"] ["script"] (defScope sLaw) := ⟨rfl, rfl, rfl, by decide +kernel, rfl, by decide +kernel, by decide +kernel⟩
theorem ok_law {f fB fD fTh fF fC : Addr} {fd dB dD dTh dF dC : FuncData} (F : Fun K "law" "law" sLaw f fd) (T : BTxt mg) (L : LTxt K mg fB fD fTh fF fC dB dD dTh dF dC)
    (GF : FnOk P w K mg base CX0 4 fF dF ["k", "a", "b", "c"] (spF 0 13)) (GC : FnOk P w K mg base CX0 4 fC dC ["k", "a", "b", "c"] spCaught) : FnOk P w K mg base CX0 5 f fd ["script"] (spLaw K) := by
  have GB : FnOk P w K mg base CX0 1 fB dB ["script"] (spBag K) := ok_bag L.B T
  have GT : FnOk P w K mg base CX0 2 fTh dTh ["bag"] (spThing K) := ok_thing L.Th T L.D L.bD L.gD
  refine F.ok scL (fun vs H Q E h => ?_) (fun cdv A outer s H vs Q E hr h => ?_)
  · obtain ⟨a, ns, rfl, _⟩ := h
    rfl
  · obtain ⟨a, ns, rfl, hS, hlen, k⟩ := h
    have hu := hr.units
    have hr1 : Room 1 _ := hr.mono (by decide)
    have hr2 : Room 2 _ := hr.mono (by decide)
    have hr4 : Room 4 _ := hr.mono (by decide)
    refine ⟨_, pss_cons (ps_set (i := 1) scL.nd rfl (Or.inl rfl) (pe_call GB hr1 (by rfl) L.gB L.B.kp L.bB .nil pass0 (pa_cons (pv 0) pa_nil)))
      (pss_cons (ps_set (i := 2) scL.nd rfl (Or.inl rfl) (pe_lst (pa_cons pe_int (pa_cons pe_int (pa_cons pe_int (pa_cons pe_int (pa_cons pe_int (pa_cons pe_int (pa_cons pe_int (pa_cons pe_int (pa_cons pe_int (pa_cons pe_int (pa_cons pe_int (pa_cons pe_int (pa_cons pe_int pa_nil)))))))))))))))
      (pss_cons (ps_for PassesOwn.never rfl (pi_range1 rfl L.range (pa_cons pe_int pa_nil)) (pg_name (i := 3) scL.nd rfl (Or.inr rfl))
        (pss_cons (ps_par3 (i := 4) (j := 5) (l := 6) rfl scL.nd rfl rfl rfl (by decide) (by decide) (by decide) rfl rfl rfl
            (pa_cons (pe_call GT hr2 (by rfl) L.gTh L.Th.kp L.bTh .nil pass0 (pa_cons (pv 1) pa_nil)) (pa_cons (pe_call GT hr2 (by rfl) L.gTh L.Th.kp L.bTh .nil pass0 (pa_cons (pv 1) pa_nil)) (pa_cons (pe_call GT hr2 (by rfl) L.gTh L.Th.kp L.bTh .nil pass0 (pa_cons (pv 1) pa_nil)) pa_nil))) (by rfl))
        (pss_cons (ps_if (pt_cmpR (op_neD hu) (pe_call GF hr4 (by rfl) L.gF L.F.kp L.bF .nil pass0 (pa_cons (pv 3) (pa_cons (pv 4) (pa_cons (pv 5) (pa_cons (pv 6) pa_nil)))))
            (pe_slice sl_list (pe_lst (pa_cons (pv 4) (pa_cons (pv 5) (pa_cons (pv 6) pa_nil)))) po_none (po_some (pe_ix ix_list (pv 2) (pv 3) (fun _ _ => rfl)))) (nomark _)) (pss_one (ps_ret pe_bl)) pss_nil)
        (pss_one (ps_if (pt_cmpR (op_neD hu) (pe_call GC hr4 (by rfl) L.gC L.C.kp L.bC .nil pass0 (pa_cons (pv 3) (pa_cons (pv 4) (pa_cons (pv 5) (pa_cons (pv 6) pa_nil)))))
            (pe_op op_cat (pe_lst (pa_cons pe_bl pa_nil)) (pe_lc (own := [("j", 7)]) (g := gName 7) (tt := tYes) rfl scL.nd (pi_range1 rfl L.range (pa_cons pe_int pa_nil)) (blkOk_by (own := [("j", 7)]) (N := ["script", "bag", "sizes", "k", "a", "b", "c", "j"]) (sc := defScope sLaw) (by decide +kernel))
              (fun _ _ _ _ _ => pg_name (i := 7) scL.nd rfl (Or.inl rfl)) (fun _ _ _ _ _ => pts_nil) (fun _ _ _ _ _ => pe_cmpR op_eq (pv 7) (pv 3) (nomark _)))) (nomark _)) (pss_one (ps_ret pe_bl)) pss_nil)))))
      (pss_one (ps_ret pe_bl)))), ?_⟩
    refine ⟨_, rfl, a, ns, rfl, hS, by omega, fun b H1 nb B1 s1 => ⟨(by show 13 ≤ sizeLine; decide), fun sz hsz => ?_⟩⟩
    have B1' := B1.keep (same_upd (o := .lst (sizes.map V.int)) hsz)
    refine ⟨13, rfl, by decide, by decide, for_range (lo := 0) (n := 13) (fun i σ H' => ∃ v3 v4 v5 v6 : Option V, σ = [some (.ref a), some (.ref b), some (.ref sz), v3, v4, v5, v6, none] ∧ BagAt K H' b ns (6 * (i : Int)) ∧ H' sz = some (.lst (sizes.map V.int)))
      ⟨none, none, none, none, rfl, (show BagAt K (upd H1 sz (.lst (sizes.map V.int))) b ns (6 * ((0 : Nat) : Int)) from by rw [show (6 * ((0 : Nat) : Int)) = 0 from rfl]; exact B1'), upd_same⟩ ?_ (fun σ H' _ => k H')⟩
    rintro i σ H2 hi ⟨v3, v4, v5, v6, rfl, B2, hz2⟩
    refine ⟨_, rfl, b, ns, 6 * (i : Int), rfl, B2, by omega, by omega, by omega, fun va Ha ta Ba sa => ⟨_, rfl, b, ns, _, rfl, Ba, by omega, by omega, by omega, fun vb Hb tb Bb sb => ⟨_, rfl, b, ns, _, rfl, Bb, by omega, by omega, by omega, fun vc Hc tc Bc sc => ⟨va, vb, vc, rfl, ?_⟩⟩⟩⟩
    have zb : sz ≠ b := by
      obtain ⟨_, _, _, _, hb, _⟩ := B2.ex
      exact ne_of hz2 hb (fun z => nomatch z)
    have hzc : Hc sz = some (.lst (sizes.map V.int)) := sc _ _ zb (sb _ _ zb (sa _ _ zb hz2))
    obtain ⟨da, tda, dpa⟩ := (ta.keep sb).keep sc
    obtain ⟨db, tdb, dpb⟩ := tb.keep sc
    obtain ⟨dc, tdc, dpc⟩ := tc
    obtain ⟨z, hz, hcut⟩ := cut_args va vb vc i hi
    obtain ⟨sh1, eq1⟩ := list_tame (argD_tame tda tdb tdc i)
    -- the fields
    refine ⟨_, rfl, _, rfl, _, rfl, _, rfl, i, va, vb, vc, by rw [Int.zero_add]; rfl, Nat.zero_le _, hi, fun p H4 np hp sm => ?_⟩
    refine ⟨_, rfl, _, rfl, _, rfl, (by show 3 ≤ sizeLine; decide), fun l hl => ?_⟩
    have sm1 := sm.trans (same_upd (o := .lst [va, vb, vc]) hl)
    refine ⟨_, rfl, _, rfl, sz, sizes.map V.int, 0 + (i : Int), .int z, rfl, rfl, SqL.of (sm1 _ _ hzc), by rw [Int.zero_add]; exact atI_nat hz, ?_⟩
    refine ⟨z, rfl, l, _, rfl, SqL.of upd_same, fun p2 hp2 => ?_⟩
    have sm2 := sm1.trans (same_upd (o := .lst (cutV [va, vb, vc] none (some z))) hp2)
    have dps : ∀ {H' : Hp}, Same Hc H' → DpAll K H' (argsOf i va vb vc) (argD i da db dc) := fun s' => args_dp (dpa _ (.of s')) (dpb _ (.of s')) (dpc _ (.of s')) i
    refine ⟨_, _, .lst (SqL.of ((same_upd hp2) _ _ ((same_upd hl) _ _ hp))) (dps sm2), .lst (SqL.of upd_same) (by rw [hcut]; exact dps (sm1.trans (same_upd (o := .lst (argsOf i va vb vc)) hp2))), sh1, sh1, _, rfl, ?_⟩
    rw [eq1]
    refine iteF ?_
    -- what was caught
    refine ⟨_, rfl, _, rfl, _, rfl, _, rfl, i, va, vb, vc, by rw [Int.zero_add]; rfl, hi, fun q H6 nq hq sq => ?_⟩
    have sm3 := sm2.trans sq
    refine ⟨(by show 1 ≤ sizeLine; decide), fun l1 hl1 => ⟨13, rfl, by decide, by decide, fun D hD => ?_⟩⟩
    have sm4 := sm3.trans (same_upd (o := .lst [.bl true]) hl1)
    refine lc_range (lo := 0) (n := 13) (fun j H' => Same (upd H6 l1 (.lst [.bl true])) H' ∧ H' D = some (.lst (kindsOf i 0 j))) ⟨same_upd hD, upd_same⟩ ?_ ?_
    · rintro j H' hj ⟨sj, hj2⟩
      refine ⟨rfl, _, rfl, _, rfl, rfl, kindsOf i 0 j, hj2, ?_, fun y o hy => ?_, ?_⟩
      · unfold kindsOf
        rw [List.length_map, List.length_range', sizeLine_eq]
        omega
      · rw [upd_ne (ne_of_none hy hD)]
        exact sj y o hy
      · rw [upd_same, kinds_more, eq_k]
    · rintro H' ⟨sj, hj2⟩
      refine ⟨l1, D, _, _, rfl, rfl, sj _ _ upd_same, hj2, (by show 14 ≤ sizeLine; decide), fun p3 hp3 => ?_⟩
      have e3 : ([.bl true] ++ kindsOf i 0 13 : List V) = .bl true :: kindsOf i 0 13 := rfl
      obtain ⟨sh2, eq2⟩ := list_tame (bls_tame (true :: (List.range' 0 13).map fun j => decide (i = j)))
      have kd : ∀ H', DpAll K H' (.bl true :: kindsOf i 0 13) ((true :: (List.range' 0 13).map fun j => decide (i = j)).map PyData.bool) := fun H' => by
        rw [kinds_eq]
        exact bls_dp (true :: (List.range' 0 13).map fun j => decide (i = j))
      have q6 : (upd H' p3 (.lst ([.bl true] ++ kindsOf i 0 13))) q = some (.lst (.bl true :: kindsOf i 0 13)) := same_upd hp3 _ _ (sj _ _ (same_upd hl1 _ _ hq))
      refine ⟨_, _, .lst (SqL.of q6) (kd _), .lst (SqL.of upd_same) (kd _), sh2, sh2, _, rfl, ?_⟩
      rw [eq2]
      refine iteF ?_
      have sm5 := (sm4.trans sj).trans (same_upd (o := .lst ([.bl true] ++ kindsOf i 0 13)) hp3)
      refine ⟨_, _, _, _, rfl, ?_, sm5 _ _ hzc⟩
      have Bf := Bc.keep sm5
      have e6 : 6 * (i : Int) + 2 + 2 + 2 = 6 * ((i + 1 : Nat) : Int) := by omega
      rw [e6] at Bf
      exact Bf
end
end K00

namespace K00
open PySem PySem.Spec PyProof.Rows L2 PySem.RingX

abbrev sI0 : Stmt := inClass (top 2) 0
theorem text0 : ExText sI0 ["kind"] := ⟨by rfl, by rfl, by rfl, by rfl, by rfl, by decide +kernel, by decide, fun _ _ _ _ _ _ _ _ _ _ us h => match us, h with | [_], _ => .of_eq rfl⟩
abbrev sI1 : Stmt := inClass (top 3) 0
theorem text1 : ExText sI1 ["way"] := ⟨by rfl, by rfl, by rfl, by rfl, by rfl, by decide +kernel, by decide, fun _ _ _ _ _ _ _ _ _ _ us h => match us, h with | [_], _ => .of_eq rfl⟩
abbrev sI2 : Stmt := inClass (top 4) 0
theorem text2 : ExText sI2 ["line"] := ⟨by rfl, by rfl, by rfl, by rfl, by rfl, by decide +kernel, by decide, fun _ _ _ _ _ _ _ _ _ _ us h => match us, h with | [_], _ => .of_eq rfl⟩
abbrev sI3 : Stmt := inClass (top 5) 0
theorem text3 : ExText sI3 ["line"] := ⟨by rfl, by rfl, by rfl, by rfl, by rfl, by decide +kernel, by decide, fun _ _ _ _ _ _ _ _ _ _ us h => match us, h with | [_], _ => .of_eq rfl⟩
abbrev sI4 : Stmt := inClass (top 6) 0
theorem text4 : ExText sI4 ["ring"] := ⟨by rfl, by rfl, by rfl, by rfl, by rfl, by decide +kernel, by decide, fun _ _ _ _ _ _ _ _ _ _ us h => match us, h with | [_], _ => .of_eq rfl⟩
abbrev sI5 : Stmt := inClass (top 7) 0
theorem text5 : ExText sI5 ["handed"] := ⟨by rfl, by rfl, by rfl, by rfl, by rfl, by decide +kernel, by decide, fun _ _ _ _ _ _ _ _ _ _ us h => match us, h with | [_], _ => .of_eq rfl⟩
abbrev sI6 : Stmt := inClass (top 8) 0
theorem text6 : ExText sI6 ["promise"] := ⟨by rfl, by rfl, by rfl, by rfl, by rfl, by decide +kernel, by decide, fun _ _ _ _ _ _ _ _ _ _ us h => match us, h with | [_], _ => .of_eq rfl⟩
abbrev sI7 : Stmt := inClass (top 9) 0
theorem text7 : ExText sI7 ["line"] := ⟨by rfl, by rfl, by rfl, by rfl, by rfl, by decide +kernel, by decide, fun _ _ _ _ _ _ _ _ _ _ us h => match us, h with | [_], _ => .of_eq rfl⟩
abbrev sI8 : Stmt := inClass (top 10) 0
theorem text8 : ExText sI8 ["n"] := ⟨by rfl, by rfl, by rfl, by rfl, by rfl, by decide +kernel, by decide, fun _ _ _ _ _ _ _ _ _ _ us h => match us, h with | [_], _ => .of_eq rfl⟩
abbrev sI9 : Stmt := inClass (top 11) 0
theorem text9 : ExText sI9 ["name"] := ⟨by rfl, by rfl, by rfl, by rfl, by rfl, by decide +kernel, by decide, fun _ _ _ _ _ _ _ _ _ _ us h => match us, h with | [_], _ => .of_eq rfl⟩
abbrev sI10 : Stmt := inClass (top 12) 0
theorem text10 : ExText sI10 ["name"] := ⟨by rfl, by rfl, by rfl, by rfl, by rfl, by decide +kernel, by decide, fun _ _ _ _ _ _ _ _ _ _ us h => match us, h with | [_], _ => .of_eq rfl⟩
abbrev sI11 : Stmt := inClass (top 13) 0
theorem text11 : ExText sI11 [] := ⟨by rfl, by rfl, by rfl, by rfl, by rfl, by decide +kernel, by decide, fun _ _ _ _ _ _ _ _ _ _ us h => match us, h with | [], _ => .of_eq rfl⟩
abbrev sI12 : Stmt := inClass (top 14) 0
theorem text12 : ExText sI12 ["what", "many", "most"] := ⟨by rfl, by rfl, by rfl, by rfl, by rfl, by decide +kernel, by decide, fun _ _ _ _ _ _ _ _ _ _ us h => match us, h with | [_, _, _], _ => .of_eq rfl⟩
theorem all_mk {l : PySem.W.OpenLaw} {w : World} {K : PySem.W.Frag} {h : Heap} {mg : Str → Option Value} {fa : Addr} (X : K.In h) (G : h.Ns mainGlobals mg) (hfa : mg "law" = some (.ref fa)) {R : Addr}
    {C0 fI0 cc0 cda0 N0 : Addr} {cn0 q0 qual0 file0 : Str} {bs0 : List Value} {sn0 : List Str} {sub0 : List Value} {ab0 : Bool} {col0 : Option Bool} {dd0 : Option Addr} {ka0 kb0 kc0 kd0 ke0 : Option Value} {oc0 kV0 doc0 pm0 ct0 cl0 ccl0 : Value} {od0 an0 cld0 cdd0 : Option Addr} {osl0 csl0 ccs0 : Array (Option Value)} {vs0 : Array Value} {tf0 : Tok}
    {C1 fI1 cc1 cda1 N1 : Addr} {cn1 q1 qual1 file1 : Str} {bs1 : List Value} {sn1 : List Str} {sub1 : List Value} {ab1 : Bool} {col1 : Option Bool} {dd1 : Option Addr} {ka1 kb1 kc1 kd1 ke1 : Option Value} {oc1 kV1 doc1 pm1 ct1 cl1 ccl1 : Value} {od1 an1 cld1 cdd1 : Option Addr} {osl1 csl1 ccs1 : Array (Option Value)} {vs1 : Array Value} {tf1 : Tok}
    {C2 fI2 cc2 cda2 N2 : Addr} {cn2 q2 qual2 file2 : Str} {bs2 : List Value} {sn2 : List Str} {sub2 : List Value} {ab2 : Bool} {col2 : Option Bool} {dd2 : Option Addr} {ka2 kb2 kc2 kd2 ke2 : Option Value} {oc2 kV2 doc2 pm2 ct2 cl2 ccl2 : Value} {od2 an2 cld2 cdd2 : Option Addr} {osl2 csl2 ccs2 : Array (Option Value)} {vs2 : Array Value} {tf2 : Tok}
    {C3 fI3 cc3 cda3 N3 : Addr} {cn3 q3 qual3 file3 : Str} {bs3 : List Value} {sn3 : List Str} {sub3 : List Value} {ab3 : Bool} {col3 : Option Bool} {dd3 : Option Addr} {ka3 kb3 kc3 kd3 ke3 : Option Value} {oc3 kV3 doc3 pm3 ct3 cl3 ccl3 : Value} {od3 an3 cld3 cdd3 : Option Addr} {osl3 csl3 ccs3 : Array (Option Value)} {vs3 : Array Value} {tf3 : Tok}
    {C4 fI4 cc4 cda4 N4 : Addr} {cn4 q4 qual4 file4 : Str} {bs4 : List Value} {sn4 : List Str} {sub4 : List Value} {ab4 : Bool} {col4 : Option Bool} {dd4 : Option Addr} {ka4 kb4 kc4 kd4 ke4 : Option Value} {oc4 kV4 doc4 pm4 ct4 cl4 ccl4 : Value} {od4 an4 cld4 cdd4 : Option Addr} {osl4 csl4 ccs4 : Array (Option Value)} {vs4 : Array Value} {tf4 : Tok}
    {C5 fI5 cc5 cda5 N5 : Addr} {cn5 q5 qual5 file5 : Str} {bs5 : List Value} {sn5 : List Str} {sub5 : List Value} {ab5 : Bool} {col5 : Option Bool} {dd5 : Option Addr} {ka5 kb5 kc5 kd5 ke5 : Option Value} {oc5 kV5 doc5 pm5 ct5 cl5 ccl5 : Value} {od5 an5 cld5 cdd5 : Option Addr} {osl5 csl5 ccs5 : Array (Option Value)} {vs5 : Array Value} {tf5 : Tok}
    {C6 fI6 cc6 cda6 N6 : Addr} {cn6 q6 qual6 file6 : Str} {bs6 : List Value} {sn6 : List Str} {sub6 : List Value} {ab6 : Bool} {col6 : Option Bool} {dd6 : Option Addr} {ka6 kb6 kc6 kd6 ke6 : Option Value} {oc6 kV6 doc6 pm6 ct6 cl6 ccl6 : Value} {od6 an6 cld6 cdd6 : Option Addr} {osl6 csl6 ccs6 : Array (Option Value)} {vs6 : Array Value} {tf6 : Tok}
    {C7 fI7 cc7 cda7 N7 : Addr} {cn7 q7 qual7 file7 : Str} {bs7 : List Value} {sn7 : List Str} {sub7 : List Value} {ab7 : Bool} {col7 : Option Bool} {dd7 : Option Addr} {ka7 kb7 kc7 kd7 ke7 : Option Value} {oc7 kV7 doc7 pm7 ct7 cl7 ccl7 : Value} {od7 an7 cld7 cdd7 : Option Addr} {osl7 csl7 ccs7 : Array (Option Value)} {vs7 : Array Value} {tf7 : Tok}
    {C8 fI8 cc8 cda8 N8 : Addr} {cn8 q8 qual8 file8 : Str} {bs8 : List Value} {sn8 : List Str} {sub8 : List Value} {ab8 : Bool} {col8 : Option Bool} {dd8 : Option Addr} {ka8 kb8 kc8 kd8 ke8 : Option Value} {oc8 kV8 doc8 pm8 ct8 cl8 ccl8 : Value} {od8 an8 cld8 cdd8 : Option Addr} {osl8 csl8 ccs8 : Array (Option Value)} {vs8 : Array Value} {tf8 : Tok}
    {C9 fI9 cc9 cda9 N9 : Addr} {cn9 q9 qual9 file9 : Str} {bs9 : List Value} {sn9 : List Str} {sub9 : List Value} {ab9 : Bool} {col9 : Option Bool} {dd9 : Option Addr} {ka9 kb9 kc9 kd9 ke9 : Option Value} {oc9 kV9 doc9 pm9 ct9 cl9 ccl9 : Value} {od9 an9 cld9 cdd9 : Option Addr} {osl9 csl9 ccs9 : Array (Option Value)} {vs9 : Array Value} {tf9 : Tok}
    {C10 fI10 cc10 cda10 N10 : Addr} {cn10 q10 qual10 file10 : Str} {bs10 : List Value} {sn10 : List Str} {sub10 : List Value} {ab10 : Bool} {col10 : Option Bool} {dd10 : Option Addr} {ka10 kb10 kc10 kd10 ke10 : Option Value} {oc10 kV10 doc10 pm10 ct10 cl10 ccl10 : Value} {od10 an10 cld10 cdd10 : Option Addr} {osl10 csl10 ccs10 : Array (Option Value)} {vs10 : Array Value} {tf10 : Tok}
    {C11 fI11 cc11 cda11 N11 : Addr} {cn11 q11 qual11 file11 : Str} {bs11 : List Value} {sn11 : List Str} {sub11 : List Value} {ab11 : Bool} {col11 : Option Bool} {dd11 : Option Addr} {ka11 kb11 kc11 kd11 ke11 : Option Value} {oc11 kV11 doc11 pm11 ct11 cl11 ccl11 : Value} {od11 an11 cld11 cdd11 : Option Addr} {osl11 csl11 ccs11 : Array (Option Value)} {vs11 : Array Value} {tf11 : Tok}
    {C12 fI12 cc12 cda12 N12 : Addr} {cn12 q12 qual12 file12 : Str} {bs12 : List Value} {sn12 : List Str} {sub12 : List Value} {ab12 : Bool} {col12 : Option Bool} {dd12 : Option Addr} {ka12 kb12 kc12 kd12 ke12 : Option Value} {oc12 kV12 doc12 pm12 ct12 cl12 ccl12 : Value} {od12 an12 cld12 cdd12 : Option Addr} {osl12 csl12 ccs12 : Array (Option Value)} {vs12 : Array Value} {tf12 : Tok}
    {f0 : Addr} {foc0 fkV0 fdoc0 fpm0 fcd0 fct0 : Value} {fod0 fan0 : Option Addr} {fsl0 : Array (Option Value)}
    {f1 : Addr} {foc1 fkV1 fdoc1 fpm1 fcd1 fct1 : Value} {fod1 fan1 : Option Addr} {fsl1 : Array (Option Value)}
    {f2 : Addr} {foc2 fkV2 fdoc2 fpm2 fcd2 fct2 : Value} {fod2 fan2 : Option Addr} {fsl2 : Array (Option Value)}
    {f3 : Addr} {foc3 fkV3 fdoc3 fpm3 fcd3 fct3 : Value} {fod3 fan3 : Option Addr} {fsl3 : Array (Option Value)}
    {f4 : Addr} {foc4 fkV4 fdoc4 fpm4 fcd4 fct4 : Value} {fod4 fan4 : Option Addr} {fsl4 : Array (Option Value)}
    {f5 : Addr} {foc5 fkV5 fdoc5 fpm5 fcd5 fct5 : Value} {fod5 fan5 : Option Addr} {fsl5 : Array (Option Value)}
    {f6 : Addr} {foc6 fkV6 fdoc6 fpm6 fcd6 fct6 : Value} {fod6 fan6 : Option Addr} {fsl6 : Array (Option Value)}
    {f7 : Addr} {foc7 fkV7 fdoc7 fpm7 fcd7 fct7 : Value} {fod7 fan7 : Option Addr} {fsl7 : Array (Option Value)}
    {f8 : Addr} {foc8 fkV8 fdoc8 fpm8 fcd8 fct8 : Value} {fod8 fan8 : Option Addr} {fsl8 : Array (Option Value)}
    {f9 : Addr} {foc9 fkV9 fdoc9 fpm9 fcd9 fct9 : Value} {fod9 fan9 : Option Addr} {fsl9 : Array (Option Value)}
    {f10 : Addr} {foc10 fkV10 fdoc10 fpm10 fcd10 fct10 : Value} {fod10 fan10 : Option Addr} {fsl10 : Array (Option Value)}
    {f11 : Addr} {foc11 fkV11 fdoc11 fpm11 fcd11 fct11 : Value} {fod11 fan11 : Option Addr} {fsl11 : Array (Option Value)}
    (aC0 : PySem.W.nsIn K mainGlobals "BadKind" = some (some (.ref C0)))
    (xC0 : K.lookup C0 = some (excClassObj cn0 q0 C0 N0 bs0 [.ref R, .type "ValueError", .type "Exception", .type "BaseException", .type "object"] true sn0 sub0 ab0 col0 dd0 ka0 kb0 kc0 kd0 ke0 "ValueError.__new__"))
    (iC0 : PySem.W.findIn K (.ref C0) "__init__" = some (some (.ref fI0)))
    (lI0 : K.lookup fI0 = some ⟨oc0, od0, .func (PySem.W.ksFn "__init__" qual0 (defArgs sI0) (defBody sI0) (defScope sI0) .none kV0 doc0 pm0 an0 (.ref cda0) ct0 cc0), osl0⟩) (cd0 : PySem.W.codeIn K (.ref cda0) qual0 = true)
    (ce0 : K.lookup cc0 = some ⟨cl0, cld0, .cell (some (.ref C0)), csl0⟩) (ca0 : K.lookup cda0 = some ⟨ccl0, cdd0, .fields vs0, ccs0⟩) (hv0 : vs0[2]? = some (.str file0 tf0)) (hf0 : ((l.prog.main.file : Str) == file0) = true) (ch0 : exB K C0 fI0 ["kind"] = true)
    (aC1 : PySem.W.nsIn K mainGlobals "BadWay" = some (some (.ref C1)))
    (xC1 : K.lookup C1 = some (excClassObj cn1 q1 C1 N1 bs1 [.ref R, .type "ValueError", .type "Exception", .type "BaseException", .type "object"] true sn1 sub1 ab1 col1 dd1 ka1 kb1 kc1 kd1 ke1 "ValueError.__new__"))
    (iC1 : PySem.W.findIn K (.ref C1) "__init__" = some (some (.ref fI1)))
    (lI1 : K.lookup fI1 = some ⟨oc1, od1, .func (PySem.W.ksFn "__init__" qual1 (defArgs sI1) (defBody sI1) (defScope sI1) .none kV1 doc1 pm1 an1 (.ref cda1) ct1 cc1), osl1⟩) (cd1 : PySem.W.codeIn K (.ref cda1) qual1 = true)
    (ce1 : K.lookup cc1 = some ⟨cl1, cld1, .cell (some (.ref C1)), csl1⟩) (ca1 : K.lookup cda1 = some ⟨ccl1, cdd1, .fields vs1, ccs1⟩) (hv1 : vs1[2]? = some (.str file1 tf1)) (hf1 : ((l.prog.main.file : Str) == file1) = true) (ch1 : exB K C1 fI1 ["way"] = true)
    (aC2 : PySem.W.nsIn K mainGlobals "BadLine" = some (some (.ref C2)))
    (xC2 : K.lookup C2 = some (excClassObj cn2 q2 C2 N2 bs2 [.ref R, .type "ValueError", .type "Exception", .type "BaseException", .type "object"] true sn2 sub2 ab2 col2 dd2 ka2 kb2 kc2 kd2 ke2 "ValueError.__new__"))
    (iC2 : PySem.W.findIn K (.ref C2) "__init__" = some (some (.ref fI2)))
    (lI2 : K.lookup fI2 = some ⟨oc2, od2, .func (PySem.W.ksFn "__init__" qual2 (defArgs sI2) (defBody sI2) (defScope sI2) .none kV2 doc2 pm2 an2 (.ref cda2) ct2 cc2), osl2⟩) (cd2 : PySem.W.codeIn K (.ref cda2) qual2 = true)
    (ce2 : K.lookup cc2 = some ⟨cl2, cld2, .cell (some (.ref C2)), csl2⟩) (ca2 : K.lookup cda2 = some ⟨ccl2, cdd2, .fields vs2, ccs2⟩) (hv2 : vs2[2]? = some (.str file2 tf2)) (hf2 : ((l.prog.main.file : Str) == file2) = true) (ch2 : exB K C2 fI2 ["line"] = true)
    (aC3 : PySem.W.nsIn K mainGlobals "Refused" = some (some (.ref C3)))
    (xC3 : K.lookup C3 = some (excClassObj cn3 q3 C3 N3 bs3 [.ref R, .type "ValueError", .type "Exception", .type "BaseException", .type "object"] true sn3 sub3 ab3 col3 dd3 ka3 kb3 kc3 kd3 ke3 "ValueError.__new__"))
    (iC3 : PySem.W.findIn K (.ref C3) "__init__" = some (some (.ref fI3)))
    (lI3 : K.lookup fI3 = some ⟨oc3, od3, .func (PySem.W.ksFn "__init__" qual3 (defArgs sI3) (defBody sI3) (defScope sI3) .none kV3 doc3 pm3 an3 (.ref cda3) ct3 cc3), osl3⟩) (cd3 : PySem.W.codeIn K (.ref cda3) qual3 = true)
    (ce3 : K.lookup cc3 = some ⟨cl3, cld3, .cell (some (.ref C3)), csl3⟩) (ca3 : K.lookup cda3 = some ⟨ccl3, cdd3, .fields vs3, ccs3⟩) (hv3 : vs3[2]? = some (.str file3 tf3)) (hf3 : ((l.prog.main.file : Str) == file3) = true) (ch3 : exB K C3 fI3 ["line"] = true)
    (aC4 : PySem.W.nsIn K mainGlobals "BadRing" = some (some (.ref C4)))
    (xC4 : K.lookup C4 = some (excClassObj cn4 q4 C4 N4 bs4 [.ref R, .type "ValueError", .type "Exception", .type "BaseException", .type "object"] true sn4 sub4 ab4 col4 dd4 ka4 kb4 kc4 kd4 ke4 "ValueError.__new__"))
    (iC4 : PySem.W.findIn K (.ref C4) "__init__" = some (some (.ref fI4)))
    (lI4 : K.lookup fI4 = some ⟨oc4, od4, .func (PySem.W.ksFn "__init__" qual4 (defArgs sI4) (defBody sI4) (defScope sI4) .none kV4 doc4 pm4 an4 (.ref cda4) ct4 cc4), osl4⟩) (cd4 : PySem.W.codeIn K (.ref cda4) qual4 = true)
    (ce4 : K.lookup cc4 = some ⟨cl4, cld4, .cell (some (.ref C4)), csl4⟩) (ca4 : K.lookup cda4 = some ⟨ccl4, cdd4, .fields vs4, ccs4⟩) (hv4 : vs4[2]? = some (.str file4 tf4)) (hf4 : ((l.prog.main.file : Str) == file4) = true) (ch4 : exB K C4 fI4 ["ring"] = true)
    (aC5 : PySem.W.nsIn K mainGlobals "BadHanded" = some (some (.ref C5)))
    (xC5 : K.lookup C5 = some (excClassObj cn5 q5 C5 N5 bs5 [.ref R, .type "ValueError", .type "Exception", .type "BaseException", .type "object"] true sn5 sub5 ab5 col5 dd5 ka5 kb5 kc5 kd5 ke5 "ValueError.__new__"))
    (iC5 : PySem.W.findIn K (.ref C5) "__init__" = some (some (.ref fI5)))
    (lI5 : K.lookup fI5 = some ⟨oc5, od5, .func (PySem.W.ksFn "__init__" qual5 (defArgs sI5) (defBody sI5) (defScope sI5) .none kV5 doc5 pm5 an5 (.ref cda5) ct5 cc5), osl5⟩) (cd5 : PySem.W.codeIn K (.ref cda5) qual5 = true)
    (ce5 : K.lookup cc5 = some ⟨cl5, cld5, .cell (some (.ref C5)), csl5⟩) (ca5 : K.lookup cda5 = some ⟨ccl5, cdd5, .fields vs5, ccs5⟩) (hv5 : vs5[2]? = some (.str file5 tf5)) (hf5 : ((l.prog.main.file : Str) == file5) = true) (ch5 : exB K C5 fI5 ["handed"] = true)
    (aC6 : PySem.W.nsIn K mainGlobals "BadPromise" = some (some (.ref C6)))
    (xC6 : K.lookup C6 = some (excClassObj cn6 q6 C6 N6 bs6 [.ref R, .type "ValueError", .type "Exception", .type "BaseException", .type "object"] true sn6 sub6 ab6 col6 dd6 ka6 kb6 kc6 kd6 ke6 "ValueError.__new__"))
    (iC6 : PySem.W.findIn K (.ref C6) "__init__" = some (some (.ref fI6)))
    (lI6 : K.lookup fI6 = some ⟨oc6, od6, .func (PySem.W.ksFn "__init__" qual6 (defArgs sI6) (defBody sI6) (defScope sI6) .none kV6 doc6 pm6 an6 (.ref cda6) ct6 cc6), osl6⟩) (cd6 : PySem.W.codeIn K (.ref cda6) qual6 = true)
    (ce6 : K.lookup cc6 = some ⟨cl6, cld6, .cell (some (.ref C6)), csl6⟩) (ca6 : K.lookup cda6 = some ⟨ccl6, cdd6, .fields vs6, ccs6⟩) (hv6 : vs6[2]? = some (.str file6 tf6)) (hf6 : ((l.prog.main.file : Str) == file6) = true) (ch6 : exB K C6 fI6 ["promise"] = true)
    (aC7 : PySem.W.nsIn K mainGlobals "NoLine" = some (some (.ref C7)))
    (xC7 : K.lookup C7 = some (excClassObj cn7 q7 C7 N7 bs7 [.ref R, .type "ValueError", .type "Exception", .type "BaseException", .type "object"] true sn7 sub7 ab7 col7 dd7 ka7 kb7 kc7 kd7 ke7 "ValueError.__new__"))
    (iC7 : PySem.W.findIn K (.ref C7) "__init__" = some (some (.ref fI7)))
    (lI7 : K.lookup fI7 = some ⟨oc7, od7, .func (PySem.W.ksFn "__init__" qual7 (defArgs sI7) (defBody sI7) (defScope sI7) .none kV7 doc7 pm7 an7 (.ref cda7) ct7 cc7), osl7⟩) (cd7 : PySem.W.codeIn K (.ref cda7) qual7 = true)
    (ce7 : K.lookup cc7 = some ⟨cl7, cld7, .cell (some (.ref C7)), csl7⟩) (ca7 : K.lookup cda7 = some ⟨ccl7, cdd7, .fields vs7, ccs7⟩) (hv7 : vs7[2]? = some (.str file7 tf7)) (hf7 : ((l.prog.main.file : Str) == file7) = true) (ch7 : exB K C7 fI7 ["line"] = true)
    (aC8 : PySem.W.nsIn K mainGlobals "BadSize" = some (some (.ref C8)))
    (xC8 : K.lookup C8 = some (excClassObj cn8 q8 C8 N8 bs8 [.ref R, .type "ValueError", .type "Exception", .type "BaseException", .type "object"] true sn8 sub8 ab8 col8 dd8 ka8 kb8 kc8 kd8 ke8 "ValueError.__new__"))
    (iC8 : PySem.W.findIn K (.ref C8) "__init__" = some (some (.ref fI8)))
    (lI8 : K.lookup fI8 = some ⟨oc8, od8, .func (PySem.W.ksFn "__init__" qual8 (defArgs sI8) (defBody sI8) (defScope sI8) .none kV8 doc8 pm8 an8 (.ref cda8) ct8 cc8), osl8⟩) (cd8 : PySem.W.codeIn K (.ref cda8) qual8 = true)
    (ce8 : K.lookup cc8 = some ⟨cl8, cld8, .cell (some (.ref C8)), csl8⟩) (ca8 : K.lookup cda8 = some ⟨ccl8, cdd8, .fields vs8, ccs8⟩) (hv8 : vs8[2]? = some (.str file8 tf8)) (hf8 : ((l.prog.main.file : Str) == file8) = true) (ch8 : exB K C8 fI8 ["n"] = true)
    (aC9 : PySem.W.nsIn K mainGlobals "BadName" = some (some (.ref C9)))
    (xC9 : K.lookup C9 = some (excClassObj cn9 q9 C9 N9 bs9 [.ref R, .type "ValueError", .type "Exception", .type "BaseException", .type "object"] true sn9 sub9 ab9 col9 dd9 ka9 kb9 kc9 kd9 ke9 "ValueError.__new__"))
    (iC9 : PySem.W.findIn K (.ref C9) "__init__" = some (some (.ref fI9)))
    (lI9 : K.lookup fI9 = some ⟨oc9, od9, .func (PySem.W.ksFn "__init__" qual9 (defArgs sI9) (defBody sI9) (defScope sI9) .none kV9 doc9 pm9 an9 (.ref cda9) ct9 cc9), osl9⟩) (cd9 : PySem.W.codeIn K (.ref cda9) qual9 = true)
    (ce9 : K.lookup cc9 = some ⟨cl9, cld9, .cell (some (.ref C9)), csl9⟩) (ca9 : K.lookup cda9 = some ⟨ccl9, cdd9, .fields vs9, ccs9⟩) (hv9 : vs9[2]? = some (.str file9 tf9)) (hf9 : ((l.prog.main.file : Str) == file9) = true) (ch9 : exB K C9 fI9 ["name"] = true)
    (aC10 : PySem.W.nsIn K mainGlobals "NoDeed" = some (some (.ref C10)))
    (xC10 : K.lookup C10 = some (excClassObj cn10 q10 C10 N10 bs10 [.ref R, .type "ValueError", .type "Exception", .type "BaseException", .type "object"] true sn10 sub10 ab10 col10 dd10 ka10 kb10 kc10 kd10 ke10 "ValueError.__new__"))
    (iC10 : PySem.W.findIn K (.ref C10) "__init__" = some (some (.ref fI10)))
    (lI10 : K.lookup fI10 = some ⟨oc10, od10, .func (PySem.W.ksFn "__init__" qual10 (defArgs sI10) (defBody sI10) (defScope sI10) .none kV10 doc10 pm10 an10 (.ref cda10) ct10 cc10), osl10⟩) (cd10 : PySem.W.codeIn K (.ref cda10) qual10 = true)
    (ce10 : K.lookup cc10 = some ⟨cl10, cld10, .cell (some (.ref C10)), csl10⟩) (ca10 : K.lookup cda10 = some ⟨ccl10, cdd10, .fields vs10, ccs10⟩) (hv10 : vs10[2]? = some (.str file10 tf10)) (hf10 : ((l.prog.main.file : Str) == file10) = true) (ch10 : exB K C10 fI10 ["name"] = true)
    (aC11 : PySem.W.nsIn K mainGlobals "NothingToUndo" = some (some (.ref C11)))
    (xC11 : K.lookup C11 = some (excClassObj cn11 q11 C11 N11 bs11 [.ref R, .type "ValueError", .type "Exception", .type "BaseException", .type "object"] true sn11 sub11 ab11 col11 dd11 ka11 kb11 kc11 kd11 ke11 "ValueError.__new__"))
    (iC11 : PySem.W.findIn K (.ref C11) "__init__" = some (some (.ref fI11)))
    (lI11 : K.lookup fI11 = some ⟨oc11, od11, .func (PySem.W.ksFn "__init__" qual11 (defArgs sI11) (defBody sI11) (defScope sI11) .none kV11 doc11 pm11 an11 (.ref cda11) ct11 cc11), osl11⟩) (cd11 : PySem.W.codeIn K (.ref cda11) qual11 = true)
    (ce11 : K.lookup cc11 = some ⟨cl11, cld11, .cell (some (.ref C11)), csl11⟩) (ca11 : K.lookup cda11 = some ⟨ccl11, cdd11, .fields vs11, ccs11⟩) (hv11 : vs11[2]? = some (.str file11 tf11)) (hf11 : ((l.prog.main.file : Str) == file11) = true) (ch11 : exB K C11 fI11 [] = true)
    (aC12 : PySem.W.nsIn K mainGlobals "TooMany" = some (some (.ref C12)))
    (xC12 : K.lookup C12 = some (excClassObj cn12 q12 C12 N12 bs12 [.ref R, .type "ValueError", .type "Exception", .type "BaseException", .type "object"] true sn12 sub12 ab12 col12 dd12 ka12 kb12 kc12 kd12 ke12 "ValueError.__new__"))
    (iC12 : PySem.W.findIn K (.ref C12) "__init__" = some (some (.ref fI12)))
    (lI12 : K.lookup fI12 = some ⟨oc12, od12, .func (PySem.W.ksFn "__init__" qual12 (defArgs sI12) (defBody sI12) (defScope sI12) .none kV12 doc12 pm12 an12 (.ref cda12) ct12 cc12), osl12⟩) (cd12 : PySem.W.codeIn K (.ref cda12) qual12 = true)
    (ce12 : K.lookup cc12 = some ⟨cl12, cld12, .cell (some (.ref C12)), csl12⟩) (ca12 : K.lookup cda12 = some ⟨ccl12, cdd12, .fields vs12, ccs12⟩) (hv12 : vs12[2]? = some (.str file12 tf12)) (hf12 : ((l.prog.main.file : Str) == file12) = true) (ch12 : exB K C12 fI12 ["what", "many", "most"] = true)
    (a0 : PySem.W.nsIn K mainGlobals "_law_bag" = some (some (.ref f0))) (l0 : K.lookup f0 = some ⟨foc0, fod0, .func (PySem.W.fnOf "_law_bag" "_law_bag" (defArgs sBag) (defBody sBag) (defScope sBag) .none fkV0 fdoc0 fpm0 fan0 fcd0 fct0), fsl0⟩) (c0 : PySem.W.codeIn K fcd0 "_law_bag" = true) (k0 : PySem.W.keepIn K (.ref f0) = true)
    (a1 : PySem.W.nsIn K mainGlobals "_law_draw" = some (some (.ref f1))) (l1 : K.lookup f1 = some ⟨foc1, fod1, .func (PySem.W.fnOf "_law_draw" "_law_draw" (defArgs sDraw) (defBody sDraw) (defScope sDraw) .none fkV1 fdoc1 fpm1 fan1 fcd1 fct1), fsl1⟩) (c1 : PySem.W.codeIn K fcd1 "_law_draw" = true) (k1 : PySem.W.keepIn K (.ref f1) = true)
    (a2 : PySem.W.nsIn K mainGlobals "_law_thing" = some (some (.ref f2))) (l2 : K.lookup f2 = some ⟨foc2, fod2, .func (PySem.W.fnOf "_law_thing" "_law_thing" (defArgs sThing) (defBody sThing) (defScope sThing) .none fkV2 fdoc2 fpm2 fan2 fcd2 fct2), fsl2⟩) (c2 : PySem.W.codeIn K fcd2 "_law_thing" = true) (k2 : PySem.W.keepIn K (.ref f2) = true)
    (a3 : PySem.W.nsIn K mainGlobals "_law_raised_0" = some (some (.ref f3))) (l3 : K.lookup f3 = some ⟨foc3, fod3, .func (PySem.W.fnOf "_law_raised_0" "_law_raised_0" (defArgs sR0) (defBody sR0) (defScope sR0) .none fkV3 fdoc3 fpm3 fan3 fcd3 fct3), fsl3⟩) (c3 : PySem.W.codeIn K fcd3 "_law_raised_0" = true) (k3 : PySem.W.keepIn K (.ref f3) = true)
    (a4 : PySem.W.nsIn K mainGlobals "_law_raised_1" = some (some (.ref f4))) (l4 : K.lookup f4 = some ⟨foc4, fod4, .func (PySem.W.fnOf "_law_raised_1" "_law_raised_1" (defArgs sR1) (defBody sR1) (defScope sR1) .none fkV4 fdoc4 fpm4 fan4 fcd4 fct4), fsl4⟩) (c4 : PySem.W.codeIn K fcd4 "_law_raised_1" = true) (k4 : PySem.W.keepIn K (.ref f4) = true)
    (a5 : PySem.W.nsIn K mainGlobals "_law_raised" = some (some (.ref f5))) (l5 : K.lookup f5 = some ⟨foc5, fod5, .func (PySem.W.fnOf "_law_raised" "_law_raised" (defArgs sR) (defBody sR) (defScope sR) .none fkV5 fdoc5 fpm5 fan5 fcd5 fct5), fsl5⟩) (c5 : PySem.W.codeIn K fcd5 "_law_raised" = true) (k5 : PySem.W.keepIn K (.ref f5) = true)
    (a6 : PySem.W.nsIn K mainGlobals "_law_kinds_of" = some (some (.ref f6))) (l6 : K.lookup f6 = some ⟨foc6, fod6, .func (PySem.W.fnOf "_law_kinds_of" "_law_kinds_of" (defArgs sKinds) (defBody sKinds) (defScope sKinds) .none fkV6 fdoc6 fpm6 fan6 fcd6 fct6), fsl6⟩) (c6 : PySem.W.codeIn K fcd6 "_law_kinds_of" = true) (k6 : PySem.W.keepIn K (.ref f6) = true)
    (a7 : PySem.W.nsIn K mainGlobals "_law_caught" = some (some (.ref f7))) (l7 : K.lookup f7 = some ⟨foc7, fod7, .func (PySem.W.fnOf "_law_caught" "_law_caught" (defArgs sCaught) (defBody sCaught) (defScope sCaught) .none fkV7 fdoc7 fpm7 fan7 fcd7 fct7), fsl7⟩) (c7 : PySem.W.codeIn K fcd7 "_law_caught" = true) (k7 : PySem.W.keepIn K (.ref f7) = true)
    (a8 : PySem.W.nsIn K mainGlobals "_law_fields_0" = some (some (.ref f8))) (l8 : K.lookup f8 = some ⟨foc8, fod8, .func (PySem.W.fnOf "_law_fields_0" "_law_fields_0" (defArgs sF0) (defBody sF0) (defScope sF0) .none fkV8 fdoc8 fpm8 fan8 fcd8 fct8), fsl8⟩) (c8 : PySem.W.codeIn K fcd8 "_law_fields_0" = true) (k8 : PySem.W.keepIn K (.ref f8) = true)
    (a9 : PySem.W.nsIn K mainGlobals "_law_fields_1" = some (some (.ref f9))) (l9 : K.lookup f9 = some ⟨foc9, fod9, .func (PySem.W.fnOf "_law_fields_1" "_law_fields_1" (defArgs sF1) (defBody sF1) (defScope sF1) .none fkV9 fdoc9 fpm9 fan9 fcd9 fct9), fsl9⟩) (c9 : PySem.W.codeIn K fcd9 "_law_fields_1" = true) (k9 : PySem.W.keepIn K (.ref f9) = true)
    (a10 : PySem.W.nsIn K mainGlobals "_law_fields" = some (some (.ref f10))) (l10 : K.lookup f10 = some ⟨foc10, fod10, .func (PySem.W.fnOf "_law_fields" "_law_fields" (defArgs sF) (defBody sF) (defScope sF) .none fkV10 fdoc10 fpm10 fan10 fcd10 fct10), fsl10⟩) (c10 : PySem.W.codeIn K fcd10 "_law_fields" = true) (k10 : PySem.W.keepIn K (.ref f10) = true)
    (a11 : PySem.W.nsIn K mainGlobals "law" = some (some (.ref f11))) (l11 : K.lookup f11 = some ⟨foc11, fod11, .func (PySem.W.fnOf "law" "law" (defArgs sLaw) (defBody sLaw) (defScope sLaw) .none fkV11 fdoc11 fpm11 fan11 fcd11 fct11), fsl11⟩) (c11 : PySem.W.codeIn K fcd11 "law" = true) (k11 : PySem.W.keepIn K (.ref f11) = true)
    (aR : PySem.W.nsIn K mainGlobals "RingError" = some (some (.ref R))) (sR_ : PySem.W.subIn K (.ref R) (.type "BaseException") = some true) (dR : PySem.W.hasDictIn K R = true) (tR : PySem.W.typeIn K (.ref R) = some (.type "type"))
    (rel : relB K [C0, C1, C2, C3, C4, C5, C6, C7, C8, C9, C10, C11, C12] = true) (relR : ([C0, C1, C2, C3, C4, C5, C6, C7, C8, C9, C10, C11, C12].all fun C => decide (PySem.W.subIn K (.ref C) (.ref R) = some true)) = true)
    (op : PySem.W.nsIn K PySem.cStatics "thirdparty.any" = some none) (su : PySem.W.nsIn K mainGlobals "super" = some none) (htop : (l.prog.main.scope.names.lookup ("super" : Str)).isSome = false)
    (hn : PySem.W.specialIn K (.builtin "object.__class__") "__get__" = some (some (.builtin "getset_descriptor.__get__"))) (ht : PySem.W.takesIn K (.builtin "object.__class__") = some true)
    (z1 : PySem.W.nsIn K mainGlobals "len" = some none) (z2 : PySem.W.nsIn K mainGlobals "int" = some none) (z3 : PySem.W.nsIn K mainGlobals "list" = some none) (z4 : PySem.W.nsIn K mainGlobals "range" = some none) (z5 : PySem.W.nsIn K mainGlobals "ValueError" = some none) (z6 : PySem.W.nsIn K mainGlobals "isinstance" = some none) :
    ∃ fd : FuncData, (∀ (s : Shared) (v : Value), BindsTo s fd ⟨[v], []⟩ [("script", v)]) ∧ ∀ base : Heap, K.In base → base.Ns mainGlobals mg → FnOk l.prog w K mg base CX0 5 fa fd ["script"] (spLaw K) := by
  have e := hfa.symm.trans (PySem.W.mg_of X G a11)
  cases e
  have E0 := ex_mk X G text0 aC0 xC0 rfl lI0 cd0 ce0 ca0 hv0 hf0 ch0 op su htop
  have E1 := ex_mk X G text1 aC1 xC1 rfl lI1 cd1 ce1 ca1 hv1 hf1 ch1 op su htop
  have E2 := ex_mk X G text2 aC2 xC2 rfl lI2 cd2 ce2 ca2 hv2 hf2 ch2 op su htop
  have E3 := ex_mk X G text3 aC3 xC3 rfl lI3 cd3 ce3 ca3 hv3 hf3 ch3 op su htop
  have E4 := ex_mk X G text4 aC4 xC4 rfl lI4 cd4 ce4 ca4 hv4 hf4 ch4 op su htop
  have E5 := ex_mk X G text5 aC5 xC5 rfl lI5 cd5 ce5 ca5 hv5 hf5 ch5 op su htop
  have E6 := ex_mk X G text6 aC6 xC6 rfl lI6 cd6 ce6 ca6 hv6 hf6 ch6 op su htop
  have E7 := ex_mk X G text7 aC7 xC7 rfl lI7 cd7 ce7 ca7 hv7 hf7 ch7 op su htop
  have E8 := ex_mk X G text8 aC8 xC8 rfl lI8 cd8 ce8 ca8 hv8 hf8 ch8 op su htop
  have E9 := ex_mk X G text9 aC9 xC9 rfl lI9 cd9 ce9 ca9 hv9 hf9 ch9 op su htop
  have E10 := ex_mk X G text10 aC10 xC10 rfl lI10 cd10 ce10 ca10 hv10 hf10 ch10 op su htop
  have E11 := ex_mk X G text11 aC11 xC11 rfl lI11 cd11 ce11 ca11 hv11 hf11 ch11 op su htop
  have E12 := ex_mk X G text12 aC12 xC12 rfl lI12 cd12 ce12 ca12 hv12 hf12 ch12 op su htop
  have T : Exs l.prog K mg (fun i => [C0, C1, C2, C3, C4, C5, C6, C7, C8, C9, C10, C11, C12].getD i 0) (fun i => [fI0, fI1, fI2, fI3, fI4, fI5, fI6, fI7, fI8, fI9, fI10, fI11, fI12].getD i 0) := ⟨E0, E1, E2, E3, E4, E5, E6, E7, E8, E9, E10, E11, E12⟩
  have hd : ∀ i, i < 13 → PySem.W.hasDictIn K ([C0, C1, C2, C3, C4, C5, C6, C7, C8, C9, C10, C11, C12].getD i 0) = true ∧ PySem.W.typeIn K (.ref ([C0, C1, C2, C3, C4, C5, C6, C7, C8, C9, C10, C11, C12].getD i 0)) = some (.type "type") ∧
      PySem.W.subIn K (.ref ([C0, C1, C2, C3, C4, C5, C6, C7, C8, C9, C10, C11, C12].getD i 0)) (.type "BaseException") = some true ∧ PySem.W.subIn K (.ref ([C0, C1, C2, C3, C4, C5, C6, C7, C8, C9, C10, C11, C12].getD i 0)) (.type "ValueError") = some true ∧
      ExcC K ([C0, C1, C2, C3, C4, C5, C6, C7, C8, C9, C10, C11, C12].getD i 0) := fun i hi => match i, hi with
    | 0, _ => ⟨E0.hdC, E0.tyC, E0.exC, E0.sV, exc_mk ch0 hn ht⟩
    | 1, _ => ⟨E1.hdC, E1.tyC, E1.exC, E1.sV, exc_mk ch1 hn ht⟩
    | 2, _ => ⟨E2.hdC, E2.tyC, E2.exC, E2.sV, exc_mk ch2 hn ht⟩
    | 3, _ => ⟨E3.hdC, E3.tyC, E3.exC, E3.sV, exc_mk ch3 hn ht⟩
    | 4, _ => ⟨E4.hdC, E4.tyC, E4.exC, E4.sV, exc_mk ch4 hn ht⟩
    | 5, _ => ⟨E5.hdC, E5.tyC, E5.exC, E5.sV, exc_mk ch5 hn ht⟩
    | 6, _ => ⟨E6.hdC, E6.tyC, E6.exC, E6.sV, exc_mk ch6 hn ht⟩
    | 7, _ => ⟨E7.hdC, E7.tyC, E7.exC, E7.sV, exc_mk ch7 hn ht⟩
    | 8, _ => ⟨E8.hdC, E8.tyC, E8.exC, E8.sV, exc_mk ch8 hn ht⟩
    | 9, _ => ⟨E9.hdC, E9.tyC, E9.exC, E9.sV, exc_mk ch9 hn ht⟩
    | 10, _ => ⟨E10.hdC, E10.tyC, E10.exC, E10.sV, exc_mk ch10 hn ht⟩
    | 11, _ => ⟨E11.hdC, E11.tyC, E11.exC, E11.sV, exc_mk ch11 hn ht⟩
    | 12, _ => ⟨E12.hdC, E12.tyC, E12.exC, E12.sV, exc_mk ch12 hn ht⟩
    | _ + 13, z => absurd z (by omega)
  have hsub : ∀ i j, i < 13 → j < 13 → _ := fun i j hi hj => relB_ok (i := i) (j := j) rel hi hj
  have hself : ∀ i j, i < 13 → j < 13 → (Value.ref ([C0, C1, C2, C3, C4, C5, C6, C7, C8, C9, C10, C11, C12].getD i 0)) = .ref ([C0, C1, C2, C3, C4, C5, C6, C7, C8, C9, C10, C11, C12].getD j 0) → decide (i = j) = true := fun i j hi hj e => by
    have h1 := hsub i j hi hj
    have h2 := hsub j j hj hj
    rw [e, h2] at h1
    have h3 := Option.some.inj h1
    rw [← h3]
    exact decide_eq_true rfl
  have hR : ∀ i, i < 13 → PySem.W.subIn K (.ref ([C0, C1, C2, C3, C4, C5, C6, C7, C8, C9, C10, C11, C12].getD i 0)) (.ref R) = some true := fun i hi => by
    rw [List.all_eq_true] at relR
    refine of_decide_eq_true (relR _ ?_)
    have hl : i < [C0, C1, C2, C3, C4, C5, C6, C7, C8, C9, C10, C11, C12].length := hi
    rw [List.getD_eq_getElem?_getD, List.getElem?_eq_getElem hl]
    exact List.getElem_mem hl
  have S : Rel K mg (fun i => [C0, C1, C2, C3, C4, C5, C6, C7, C8, C9, C10, C11, C12].getD i 0) R :=
    ⟨fun i j hi hj => PySem.W.exm_ref (hd j hj).2.2.1 (hd j hj).1 (hd j hj).2.1 (hsub i j hi hj), fun i hi => PySem.W.exm_ref sR_ dR tR (hR i hi), fun i j hi hj => kit_ref (hd j hj).1 (hd j hj).2.1 (hsub i j hi hj) (hself i j hi hj),
      fun i hi => kit_type (by decide +kernel) (hd i hi).2.2.2.1 (fun z => nomatch z), fun i hi => (hd i hi).2.2.2.2, PySem.W.mg_of X G aR, PySem.W.mg_none_of X G z5, PySem.W.mg_none_of X G z6⟩
  have F0 := fun_mk (st := sBag) l0 c0 k0
  have F1 := fun_mk (st := sDraw) l1 c1 k1
  have F2 := fun_mk (st := sThing) l2 c2 k2
  have F3 := fun_mk (st := sR0) l3 c3 k3
  have F4 := fun_mk (st := sR1) l4 c4 k4
  have F5 := fun_mk (st := sR) l5 c5 k5
  have F6 := fun_mk (st := sKinds) l6 c6 k6
  have F7 := fun_mk (st := sCaught) l7 c7 k7
  have F8 := fun_mk (st := sF0) l8 c8 k8
  have F9 := fun_mk (st := sF1) l9 c9 k9
  have F10 := fun_mk (st := sF) l10 c10 k10
  have F11 := fun_mk (st := sLaw) l11 c11 k11
  have b0 := F0.binds (ps := ["script"]) fun _ _ _ _ _ _ us hl => match us, hl with | [_], _ => rfl
  have b1 := F1.binds (ps := ["bag", "limit"]) fun _ _ _ _ _ _ us hl => match us, hl with | [_, _], _ => rfl
  have b2 := F2.binds (ps := ["bag"]) fun _ _ _ _ _ _ us hl => match us, hl with | [_], _ => rfl
  have b3 := F3.binds (ps := ["k", "a", "b", "c"]) fun _ _ _ _ _ _ us hl => match us, hl with | [_, _, _, _], _ => rfl
  have b4 := F4.binds (ps := ["k", "a", "b", "c"]) fun _ _ _ _ _ _ us hl => match us, hl with | [_, _, _, _], _ => rfl
  have b5 := F5.binds (ps := ["k", "a", "b", "c"]) fun _ _ _ _ _ _ us hl => match us, hl with | [_, _, _, _], _ => rfl
  have b6 := F6.binds (ps := ["e"]) fun _ _ _ _ _ _ us hl => match us, hl with | [_], _ => rfl
  have b7 := F7.binds (ps := ["k", "a", "b", "c"]) fun _ _ _ _ _ _ us hl => match us, hl with | [_, _, _, _], _ => rfl
  have b8 := F8.binds (ps := ["k", "a", "b", "c"]) fun _ _ _ _ _ _ us hl => match us, hl with | [_, _, _, _], _ => rfl
  have b9 := F9.binds (ps := ["k", "a", "b", "c"]) fun _ _ _ _ _ _ us hl => match us, hl with | [_, _, _, _], _ => rfl
  have b10 := F10.binds (ps := ["k", "a", "b", "c"]) fun _ _ _ _ _ _ us hl => match us, hl with | [_, _, _, _], _ => rfl
  have BT : BTxt mg := ⟨PySem.W.mg_none_of X G z1, PySem.W.mg_none_of X G z2, PySem.W.mg_none_of X G z3⟩
  have RT : RTxt K mg f3 f4 _ _ := ⟨F3, F4, b3, b4, PySem.W.mg_of X G a3, PySem.W.mg_of X G a4⟩
  have FT : FTxt K mg f8 f9 _ _ := ⟨F8, F9, b8, b9, PySem.W.mg_of X G a8, PySem.W.mg_of X G a9⟩
  have LT : LTxt K mg f0 f1 f2 f10 f7 _ _ _ _ _ := ⟨F0, F1, F2, F10, F7, b0, b1, b2, b10, b7, PySem.W.mg_of X G a0, PySem.W.mg_of X G a1, PySem.W.mg_of X G a2, PySem.W.mg_of X G a10, PySem.W.mg_of X G a7, PySem.W.mg_none_of X G z4⟩
  exact ⟨PySem.W.fnOf "law" "law" (defArgs sLaw) (defBody sLaw) (defScope sLaw) .none fkV11 fdoc11 fpm11 fan11 fcd11 fct11, fun s v => .of_eq rfl, fun base _ _ =>
    ok_law F11 BT LT (ok_f F10 T S RT FT) (ok_caught F7 T S RT F5 b5 (PySem.W.mg_of X G a5) F6 b6 (PySem.W.mg_of X G a6))⟩
theorem walk {l : PySem.W.OpenLaw} {q : Program} {loose : List Str} {XP : (Str → Option Value) → Heap → Prop} {YP : World → Heap → Prop} {d : DefRec} {K : Params → PySem.W.Frag} (hn : l.most = some 63) (hdf : d.params.defaults = [])
    (hY : ∀ (w : World) (h : Heap), YP w h → (K w.params).In h)
    (F : ∀ (w : World) (mg : Str → Option Value) (fa : Addr) (h : Heap), (K w.params).In h → h.Ns mainGlobals mg → mg d.name = some (.ref fa) →
      ∃ fd : FuncData, (∀ (s : Shared) (u : Value), BindsTo s fd ⟨[u], []⟩ [("script", u)]) ∧ ∀ base : Heap, (K w.params).In base → base.Ns mainGlobals mg → FnOk l.prog w (K w.params) mg base CX0 5 fa fd ["script"] (spLaw (K w.params))) :
    PySem.W.WalkO q loose XP YP l.row.toRowW d [] (fun f vs => PySem.call f vs) :=
  L2.walk_of (n := 63) (k := 5) (x := "script") (CX := fun _ => CX0) (sp := fun w => spLaw (K w.params)) hn (by decide) hdf ⟨rfl, by decide, by decide⟩ hY F (fun _ _ a ns hl _ hS => ⟨a, ns, rfl, hS, hl, fun _ => rfl⟩) fun _ _ _ _ _ z => z
end K00
open PySem PySem.W PyProof.Rows
set_option maxRecDepth 100000 in
set_option maxHeartbeats 0 in
theorem PySem.Challenge.cw_openrings_k00_errors_made_from_their_fie_holds : PySem.Challenge.rw_openrings_k00_errors_made_from_their_fie.Holds := by
  w_on; o_law; k_head; (case hw => w_witness2)
  k_fill
  refine K00.walk (l := PySem.Challenge.rw_openrings_k00_errors_made_from_their_fie) rfl rfl (fun w h Y => PySem.W.kIn_of Y) ?F
  case F =>
    intro w mg fa h KX G hmg
    refine' K00.all_mk KX G hmg ?aC0 ?xC0 ?iC0 ?lI0 ?cd0 ?ce0 ?ca0 ?hv0 ?hf0 ?ch0 ?aC1 ?xC1 ?iC1 ?lI1 ?cd1 ?ce1 ?ca1 ?hv1 ?hf1 ?ch1 ?aC2 ?xC2 ?iC2 ?lI2 ?cd2 ?ce2 ?ca2 ?hv2 ?hf2 ?ch2 ?aC3 ?xC3 ?iC3 ?lI3 ?cd3 ?ce3 ?ca3 ?hv3 ?hf3 ?ch3 ?aC4 ?xC4 ?iC4 ?lI4 ?cd4 ?ce4 ?ca4 ?hv4 ?hf4 ?ch4 ?aC5 ?xC5 ?iC5 ?lI5 ?cd5 ?ce5 ?ca5 ?hv5 ?hf5 ?ch5 ?aC6 ?xC6 ?iC6 ?lI6 ?cd6 ?ce6 ?ca6 ?hv6 ?hf6 ?ch6 ?aC7 ?xC7 ?iC7 ?lI7 ?cd7 ?ce7 ?ca7 ?hv7 ?hf7 ?ch7 ?aC8 ?xC8 ?iC8 ?lI8 ?cd8 ?ce8 ?ca8 ?hv8 ?hf8 ?ch8 ?aC9 ?xC9 ?iC9 ?lI9 ?cd9 ?ce9 ?ca9 ?hv9 ?hf9 ?ch9 ?aC10 ?xC10 ?iC10 ?lI10 ?cd10 ?ce10 ?ca10 ?hv10 ?hf10 ?ch10 ?aC11 ?xC11 ?iC11 ?lI11 ?cd11 ?ce11 ?ca11 ?hv11 ?hf11 ?ch11 ?aC12 ?xC12 ?iC12 ?lI12 ?cd12 ?ce12 ?ca12 ?hv12 ?hf12 ?ch12 ?a0 ?l0 ?c0 ?k0 ?a1 ?l1 ?c1 ?k1 ?a2 ?l2 ?c2 ?k2 ?a3 ?l3 ?c3 ?k3 ?a4 ?l4 ?c4 ?k4 ?a5 ?l5 ?c5 ?k5 ?a6 ?l6 ?c6 ?k6 ?a7 ?l7 ?c7 ?k7 ?a8 ?l8 ?c8 ?k8 ?a9 ?l9 ?c9 ?k9 ?a10 ?l10 ?c10 ?k10 ?a11 ?l11 ?c11 ?k11 ?aR ?sR_ ?dR ?tR ?rel ?relR ?op ?su ?htop ?hn ?ht ?z1 ?z2 ?z3 ?z4 ?z5 ?z6
    (case aC0 => k_is)
    (case xC0 => k_is)
    (case iC0 => k_is)
    (case lI0 => k_is)
    (case cd0 => k_is)
    (case ce0 => k_is)
    (case ca0 => k_is)
    (case hv0 => rfl)
    (case hf0 => rfl)
    (case ch0 => kernel_rfl)
    (case aC1 => k_is)
    (case xC1 => k_is)
    (case iC1 => k_is)
    (case lI1 => k_is)
    (case cd1 => k_is)
    (case ce1 => k_is)
    (case ca1 => k_is)
    (case hv1 => rfl)
    (case hf1 => rfl)
    (case ch1 => kernel_rfl)
    (case aC2 => k_is)
    (case xC2 => k_is)
    (case iC2 => k_is)
    (case lI2 => k_is)
    (case cd2 => k_is)
    (case ce2 => k_is)
    (case ca2 => k_is)
    (case hv2 => rfl)
    (case hf2 => rfl)
    (case ch2 => kernel_rfl)
    (case aC3 => k_is)
    (case xC3 => k_is)
    (case iC3 => k_is)
    (case lI3 => k_is)
    (case cd3 => k_is)
    (case ce3 => k_is)
    (case ca3 => k_is)
    (case hv3 => rfl)
    (case hf3 => rfl)
    (case ch3 => kernel_rfl)
    (case aC4 => k_is)
    (case xC4 => k_is)
    (case iC4 => k_is)
    (case lI4 => k_is)
    (case cd4 => k_is)
    (case ce4 => k_is)
    (case ca4 => k_is)
    (case hv4 => rfl)
    (case hf4 => rfl)
    (case ch4 => kernel_rfl)
    (case aC5 => k_is)
    (case xC5 => k_is)
    (case iC5 => k_is)
    (case lI5 => k_is)
    (case cd5 => k_is)
    (case ce5 => k_is)
    (case ca5 => k_is)
    (case hv5 => rfl)
    (case hf5 => rfl)
    (case ch5 => kernel_rfl)
    (case aC6 => k_is)
    (case xC6 => k_is)
    (case iC6 => k_is)
    (case lI6 => k_is)
    (case cd6 => k_is)
    (case ce6 => k_is)
    (case ca6 => k_is)
    (case hv6 => rfl)
    (case hf6 => rfl)
    (case ch6 => kernel_rfl)
    (case aC7 => k_is)
    (case xC7 => k_is)
    (case iC7 => k_is)
    (case lI7 => k_is)
    (case cd7 => k_is)
    (case ce7 => k_is)
    (case ca7 => k_is)
    (case hv7 => rfl)
    (case hf7 => rfl)
    (case ch7 => kernel_rfl)
    (case aC8 => k_is)
    (case xC8 => k_is)
    (case iC8 => k_is)
    (case lI8 => k_is)
    (case cd8 => k_is)
    (case ce8 => k_is)
    (case ca8 => k_is)
    (case hv8 => rfl)
    (case hf8 => rfl)
    (case ch8 => kernel_rfl)
    (case aC9 => k_is)
    (case xC9 => k_is)
    (case iC9 => k_is)
    (case lI9 => k_is)
    (case cd9 => k_is)
    (case ce9 => k_is)
    (case ca9 => k_is)
    (case hv9 => rfl)
    (case hf9 => rfl)
    (case ch9 => kernel_rfl)
    (case aC10 => k_is)
    (case xC10 => k_is)
    (case iC10 => k_is)
    (case lI10 => k_is)
    (case cd10 => k_is)
    (case ce10 => k_is)
    (case ca10 => k_is)
    (case hv10 => rfl)
    (case hf10 => rfl)
    (case ch10 => kernel_rfl)
    (case aC11 => k_is)
    (case xC11 => k_is)
    (case iC11 => k_is)
    (case lI11 => k_is)
    (case cd11 => k_is)
    (case ce11 => k_is)
    (case ca11 => k_is)
    (case hv11 => rfl)
    (case hf11 => rfl)
    (case ch11 => kernel_rfl)
    (case aC12 => k_is)
    (case xC12 => k_is)
    (case iC12 => k_is)
    (case lI12 => k_is)
    (case cd12 => k_is)
    (case ce12 => k_is)
    (case ca12 => k_is)
    (case hv12 => rfl)
    (case hf12 => rfl)
    (case ch12 => kernel_rfl)
    (case a0 => k_is)
    (case l0 => k_is)
    (case c0 => k_is)
    (case k0 => k_is)
    (case a1 => k_is)
    (case l1 => k_is)
    (case c1 => k_is)
    (case k1 => k_is)
    (case a2 => k_is)
    (case l2 => k_is)
    (case c2 => k_is)
    (case k2 => k_is)
    (case a3 => k_is)
    (case l3 => k_is)
    (case c3 => k_is)
    (case k3 => k_is)
    (case a4 => k_is)
    (case l4 => k_is)
    (case c4 => k_is)
    (case k4 => k_is)
    (case a5 => k_is)
    (case l5 => k_is)
    (case c5 => k_is)
    (case k5 => k_is)
    (case a6 => k_is)
    (case l6 => k_is)
    (case c6 => k_is)
    (case k6 => k_is)
    (case a7 => k_is)
    (case l7 => k_is)
    (case c7 => k_is)
    (case k7 => k_is)
    (case a8 => k_is)
    (case l8 => k_is)
    (case c8 => k_is)
    (case k8 => k_is)
    (case a9 => k_is)
    (case l9 => k_is)
    (case c9 => k_is)
    (case k9 => k_is)
    (case a10 => k_is)
    (case l10 => k_is)
    (case c10 => k_is)
    (case k10 => k_is)
    (case a11 => k_is)
    (case l11 => k_is)
    (case c11 => k_is)
    (case k11 => k_is)
    (case aR => k_is)
    (case sR_ => k_is)
    (case dR => k_is)
    (case tR => k_is)
    (case rel => kernel_rfl)
    (case relR => kernel_rfl)
    (case op => k_is)
    (case su => k_is)
    (case htop => rfl)
    (case hn => k_is)
    (case ht => k_is)
    (case z1 => k_is)
    (case z2 => k_is)
    (case z3 => k_is)
    (case z4 => k_is)
    (case z5 => k_is)
    (case z6 => k_is)

